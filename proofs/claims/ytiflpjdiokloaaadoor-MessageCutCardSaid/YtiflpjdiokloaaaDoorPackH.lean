/-
  Texts of the proofs, put together: RefAhead, RefName, LabelName, PutKit, RefSame.
-/
import Derived.Test.YtiflpjdiokloaaaDoorPackG
import Derived.Deep.RegionHeld3
import Derived.Deep.QuietTactic
import Derived.BigQuiet
/-
  Contracts of layer 5's reference: Ahead, Meets.
-/
namespace Go.Proofs.YtiflpjdiokloaaaDoor
open Go.RowKit
set_option linter.unusedVariables false

set_option maxRecDepth 100000 in
theorem rahead_any (a b : Pr) (w : World) :
    Calls Tryd.prog 51 #[.agg #[.string (mkB a.name), .int .i64 a.val], .agg #[.string (mkB b.name), .int .i64 b.val]] w fun e w' => e = .returned (.bool (aheadL a b)) ∧ Below w.heap.size w w' := by
  obtain ⟨n, v⟩ := a
  obtain ⟨m, u⟩ := b
  dsimp only
  have h1 : Op.bytesLess (mkB n).toList (mkB m).toList = Op.bytesLess n m := by rw [mkB_toList, mkB_toList]
  have h2 : ((mkB n).toList == (mkB m).toList) = (n == m) := by rw [mkB_toList, mkB_toList]
  have HE : Hid (aheadL ⟨n, v⟩ ⟨m, u⟩ = (Op.bytesLess n m || (n == m && decide (v < u)))) := Lib.hid rfl
  generalize Op.bytesLess n m = x at h1 HE
  generalize (n == m) = y at h2 HE
  cases x <;> cases y
  all_goals go_enter Tryd.func51, Tryd.ntmps51
  all_goals go_wp2
  all_goals go_ret
  all_goals exact ⟨by rw [HE.out]; rfl, bmore (bmore (bself w) _) _⟩
theorem below_dN (w : World) (n : Nat) : Below w.heap.size w (w.drewN n) := ⟨rfl, rfl, rfl, Nat.le_refl _, fun _ _ => rfl⟩
theorem rahead_at (a b : Pr) (x : Bool) (w : World) (h : aheadL a b = x) :
    Calls Tryd.prog 51 #[.agg #[.string (mkB a.name), .int .i64 a.val], .agg #[.string (mkB b.name), .int .i64 b.val]] w fun e w' => e = .returned (.bool x) ∧ Below w.heap.size w w' := by
  subst h; exact rahead_any a b w
end Go.Proofs.YtiflpjdiokloaaaDoor
/-
  Contracts of layer 5's reference: Name, Right.
-/
namespace Go.Proofs.YtiflpjdiokloaaaDoor
open Go.RowKit
set_option linter.unusedVariables false

theorem nb_get (l : List UInt8) (k : Nat) (h : k < (mkB l).size) (h2 : k < l.length) : (mkB l)[k] = l[k] := rfl
/-- So far all are letters, or, but the first one, others. -/
def nameTo (l : List UInt8) (k : Nat) : Bool := (l.take 1).all letterL && ((l.take k).all fun x => letterL x || otherL x)
theorem name_cons (c : UInt8) (r : List UInt8) : nameL (c :: r) = (decide (r.length ≤ 11) && (c :: r != [116, 114, 117, 101]) && (c :: r != [102, 97, 108, 115, 101]) && letterL c && r.all fun x => letterL x || otherL x) := rfl
theorem name_long {l : List UInt8} (h : 12 < l.length) : nameL l = false := by
  cases l with
  | nil => rfl
  | cons c r =>
    have : decide (r.length ≤ 11) = false := by rw [decide_eq_false_iff_not]; simp at h; omega
    rw [name_cons, this]
    rfl
theorem name_word {l : List UInt8} (h : (l == [116, 114, 117, 101]) = true ∨ (l == [102, 97, 108, 115, 101]) = true) : nameL l = false := by
  rcases h with h | h
  · rw [beq_iff_eq] at h; subst h; rfl
  · rw [beq_iff_eq] at h; subst h; rfl
theorem name_bad {l : List UInt8} (k : Nat) (hk : k < l.length) (h : letterL l[k] = false ∧ (k = 0 ∨ otherL l[k] = false)) : nameL l = false := by
  cases l with
  | nil => rfl
  | cons c r =>
    rw [name_cons]
    cases k with
    | zero =>
      have : letterL c = false := h.1
      rw [this]
      simp
    | succ k =>
      have hk2 : k < r.length := by simpa using hk
      have h1 : letterL r[k] = false := h.1
      have h2 : otherL r[k] = false := h.2.elim (fun e => (by omega)) id
      have : (r.all fun x => letterL x || otherL x) = false := by
        rw [List.all_eq_false]
        exact ⟨r[k], List.getElem_mem hk2, by rw [h1, h2]; decide⟩
      rw [this]
      simp
theorem name_good {l : List UInt8} (h0 : l ≠ []) (h1 : l.length ≤ 12) (h2 : (l == [116, 114, 117, 101]) = false) (h3 : (l == [102, 97, 108, 115, 101]) = false) (h : nameTo l l.length = true) : nameL l = true := by
  cases l with
  | nil => exact absurd rfl h0
  | cons c r =>
    unfold nameTo at h
    rw [List.take_length, Bool.and_eq_true] at h
    obtain ⟨a1, a2⟩ := h
    have a3 : letterL c = true := by simpa using a1
    have a4 : (r.all fun x => letterL x || otherL x) = true := by
      rw [List.all_cons, Bool.and_eq_true] at a2
      exact a2.2
    rw [name_cons, a3, a4, bne, bne, h2, h3, decide_eq_true (show r.length ≤ 11 by simp at h1; omega)]
    rfl
theorem name_next {l : List UInt8} {k : Nat} (hk : k < l.length) (h : k = 0 ∨ nameTo l k = true) (hc : letterL l[k] = true ∨ k ≠ 0 ∧ otherL l[k] = true) : nameTo l (k + 1) = true := by
  have h1 : (letterL l[k] || otherL l[k]) = true := by
    rcases hc with e | ⟨_, e⟩ <;> rw [e] <;> simp
  unfold nameTo
  rw [List.take_succ_eq_append_getElem hk, List.all_append, Bool.and_eq_true, Bool.and_eq_true]
  rcases h with rfl | h
  · have h2 : letterL l[0] = true := hc.elim id fun e => absurd rfl e.1
    refine ⟨?_, by simp, by simpa using h1⟩
    rw [show (1 : Nat) = 0 + 1 from rfl, List.take_succ_eq_append_getElem hk]
    simpa using h2
  · unfold nameTo at h
    rw [Bool.and_eq_true] at h
    exact ⟨h.1, h.2, by simpa using h1⟩

set_option maxRecDepth 100000 in
theorem rname_any (l : List UInt8) (w : World) :
    Calls Tryd.prog 50 #[.string (mkB l)] w fun e w' => e = .returned (.bool (nameL l)) ∧ w' = w := by
  obtain ⟨n, hn⟩ : ∃ n, l.length = n := ⟨_, rfl⟩
  have hsz : (mkB l).size = n := by rw [mkB_size, hn]
  by_cases h0 : l = []
  · subst h0
    have e0 : ((mkB []).toList == []) = true := by rw [mkB_toList]; rfl
    go_enter Tryd.func50, Tryd.ntmps50
    go_wp2
    go_ret
    exact ⟨rfl, rfl⟩
  · have e0 : ((mkB l).toList == []) = false := by rw [mkB_toList]; simpa using h0
    by_cases h1 : 12 < n
    · have h2 : (12 : Int) < (n : Int) := by omega
      go_enter Tryd.func50, Tryd.ntmps50
      go_wp2
      go_ret
      exact ⟨by rw [name_long (by omega)]; rfl, rfl⟩
    · have h2 : ¬ (12 : Int) < (n : Int) := by omega
      have e1 : ((mkB l).toList == [116, 114, 117, 101]) = (l == [116, 114, 117, 101]) := by rw [mkB_toList]
      have e2 : ((mkB l).toList == [102, 97, 108, 115, 101]) = (l == [102, 97, 108, 115, 101]) := by rw [mkB_toList]
      cases t1 : l == [116, 114, 117, 101] with
      | true =>
        rw [t1] at e1
        have HE := Lib.hid (name_word (.inl t1))
        clear t1
        go_enter Tryd.func50, Tryd.ntmps50
        go_wp2
        go_ret
        exact ⟨by rw [HE.out]; rfl, rfl⟩
      | false =>
        cases t2 : l == [102, 97, 108, 115, 101] with
        | true =>
          rw [t1] at e1
          rw [t2] at e2
          have HE := Lib.hid (name_word (.inr t2))
          clear t1 t2
          go_enter Tryd.func50, Tryd.ntmps50
          go_wp2
          go_ret
          exact ⟨by rw [HE.out]; rfl, rfl⟩
        | false =>
          rw [t1] at e1
          rw [t2] at e2
          have HG := Lib.hid (name_good h0 (by omega) t1 t2)
          have HN := Lib.hid hn
          have HZ := Lib.hid (show n ≠ 0 by intro e; rw [e] at hn; exact h0 (List.eq_nil_of_length_eq_zero hn))
          clear t1 t2 h0 hn
          go_enter Tryd.func50, Tryd.ntmps50
          go_wp2
          clear e0 e1 e2
          go_loop [3] (fun i => ∃ k : Nat, k ≤ n ∧ i = .int .i64 k ∧ Hid (k = 0 ∨ nameTo l k = true)) (fun i => n - (intOf i).toNat)
          case atStart => exact ⟨0, Nat.zero_le _, rfl, Lib.hid (.inl rfl)⟩
          case round =>
            obtain ⟨k, hk, rfl, HP⟩ := hrel
            by_cases hlt : k < n
            · have hlt2 : ((k : Nat) : Int) < (n : Int) := by omega
              have hkl : k < l.length := by have := HN.out; omega
              have hks : k < (mkB l).size := by rw [hsz]; exact hlt
              obtain ⟨c, hc⟩ : ∃ c : Int, ((mkB l)[k].toNat : Int) = c := ⟨_, rfl⟩
              have HX := Lib.hid (show (l[k].toNat : Int) = c from hc)
              have hL : letterL l[k] = (decide (97 ≤ c) && decide (c ≤ 122)) := by
                have := HX.out
                unfold letterL
                congr 1 <;> exact decide_eq_decide.2 (by omega)
              have hO : otherL l[k] = (decide (48 ≤ c) && decide (c ≤ 57) || c == 95) := by
                have := HX.out
                unfold otherL
                congr 1
                · congr 1 <;> exact decide_eq_decide.2 (by omega)
                · rw [Bool.eq_iff_iff, beq_iff_eq, beq_iff_eq]; omega
              have HB := Lib.hid (fun h => name_bad (l := l) k hkl h)
              have HX2 := Lib.hid (fun h => name_next (l := l) (k := k) hkl HP.out h)
              have HK0 : Hid ((((k : Int) == 0) = true → k = 0) ∧ (((k : Int) == 0) = false → k ≠ 0)) := Lib.hid ⟨fun h => by rw [beq_iff_eq] at h; omega, fun h => by rw [beq_eq_false_iff_ne] at h; omega⟩
              generalize letterL l[k] = b1 at hL HB HX2
              generalize otherL l[k] = b2 at hO HB HX2
              clear HX
              have HLO := Lib.hid (And.intro (show b1 = true ↔ 97 ≤ c ∧ c ≤ 122 by rw [hL]; simp) (show b2 = true ↔ (48 ≤ c ∧ c ≤ 57) ∨ c = 95 by rw [hO]; simp))
              have hk9 : (k : Int) ≤ 12 := by omega
              clear hL hO
              cases hk0 : ((k : Int) == 0) <;> by_cases f1 : (97 : Int) ≤ c <;> by_cases f2 : c ≤ 122 <;> by_cases f3 : (48 : Int) ≤ c <;> by_cases f4 : c ≤ 57 <;> cases f5 : c == 95
              all_goals first
                | (exfalso; (try rw [beq_iff_eq] at f5); omega)
                | (have hk1 := HK0.out
                   rw [hk0] at hk1
                   have HK1 := Lib.hid hk1
                   have HF := Lib.hid (show (c == 95) = true ↔ c = 95 from beq_iff_eq)
                   rw [f5] at HF
                   clear hk1 HK0
                   go_wp2
                   first
                     | (go_ret
                        refine ⟨?_, rfl⟩
                        rw [HB.out ⟨Bool.eq_false_iff.2 fun h => by have := HLO.out.1.1 h; omega, (by first | exact .inl (HK1.out.1 rfl) | exact .inl (HK1.out.1 trivial) | exact .inr (Bool.eq_false_iff.2 fun h => by have := HLO.out.2.1 h; have := HF.out; simp at this; omega))⟩]
                        rfl)
                     | (go_round
                        case rel => exact ⟨k + 1, by omega, by go_num, Lib.hid (.inr (HX2.out (by first | exact .inl (HLO.out.1.2 (by omega)) | exact .inr ⟨HK1.out.2 rfl, HLO.out.2.2 (by have := HF.out; simp at this; omega)⟩)))⟩
                        case measure => simp [intOf]; omega))
            · have hlt2 : ¬ ((k : Nat) : Int) < (n : Int) := by omega
              have HK := Lib.hid (show k = l.length by have := HN.out; omega)
              go_wp2
              go_ret
              refine ⟨?_, rfl⟩
              rw [HG.out (by rw [← HK.out]; exact HP.out.elim (fun e => absurd e (by have := HZ.out; omega)) id)]
              rfl

theorem rname_at (l : List UInt8) (x : Bool) (w : World) (h : nameL l = x) : Calls Tryd.prog 50 #[.string (mkB l)] w fun e w' => e = .returned (.bool x) ∧ w' = w := by
  subst h; exact rname_any l w
/-- What the test of two neighbours reads. -/
def RightS (w : World) (bb i j : Nat) (x y : Pr) (w' : World) : Prop :=
  w'.cell? ⟨bb, i, none⟩ = some (.string (mkB x.name)) ∧ w'.cell? ⟨bb, i + 1, none⟩ = some (.int .i64 x.val) ∧ w'.cell? ⟨bb, j, none⟩ = some (.string (mkB y.name)) ∧ w'.cell? ⟨bb, j + 1, none⟩ = some (.int .i64 y.val) ∧ Hid (bb < w.heap.size ∧ Below w.heap.size w w')
theorem rightS_over {w w1 w2 : World} {bb i j : Nat} {x y : Pr} (h : RightS w bb i j x y w1) (hb : Below w1.heap.size w1 w2) : RightS w bb i j x y w2 := by
  obtain ⟨h1, h2, h3, h4, h5⟩ := h
  have hlt : bb < w1.heap.size := by have := h5.out.2.size; have := h5.out.1; omega
  exact ⟨(hb.cell (p := ⟨bb, i, none⟩) hlt).trans h1, (hb.cell (p := ⟨bb, i + 1, none⟩) hlt).trans h2, (hb.cell (p := ⟨bb, j, none⟩) hlt).trans h3, (hb.cell (p := ⟨bb, j + 1, none⟩) hlt).trans h4, Lib.hid ⟨h5.out.1, bstep h5.out.2 hb⟩⟩
theorem rightS_drew {w w1 : World} {bb i j : Nat} {x y : Pr} (h : RightS w bb i j x y w1) : RightS w bb i j x y w1.drew := rightS_over h (bself w1).drew
set_option maxRecDepth 100000 in
set_option maxHeartbeats 1000000 in
theorem rright_any (A : Option Addr) (n c : Nat) (l : List Pr) (w : World) (hl : Props w w.heap.size (.slice A n c) l) (hm : l.length ≤ 100000) {q : Bool} (hq : rightL l = q) :
    Calls Tryd.prog 24 #[.slice A n c] w fun e w' => e = .returned (.bool q) ∧ Below w.heap.size w w' := by
  obtain ⟨hn, _⟩ := hl.len
  have HL := Lib.hid hl
  have HN := Lib.hid hn
  have HQ := Lib.hid hq
  have hk9 : (n : Int) ≤ 100000 := by omega
  clear hl hm hn hq
  go_enter Tryd.func24, Tryd.ntmps24
  go_wp2
  go_loopw [3] (fun i wr => ∃ (k : Nat), k ≤ n ∧ i = .int .i64 k ∧ Hid (Below w.heap.size w wr ∧ rightTo l k = true)) (fun i _ => n - (intOf i).toNat)
  case atStart => exact ⟨0, Nat.zero_le _, rfl, Lib.hid ⟨bself w, rfl⟩⟩
  case round =>
    obtain ⟨k, hk, rfl, HP⟩ := hrel
    by_cases hlt : k < n
    · have hkl : k < l.length := by have := HN.out; omega
      obtain ⟨bb, off, rfl⟩ := HL.out.some_ (by omega)
      obtain ⟨hbb, c0, c1⟩ := HL.out.cells k hkl
      have e0 := (HP.out.1.cell (p := ⟨bb, off + k * 2, none⟩) hbb).trans c0
      have e1 := (HP.out.1.cell (p := ⟨bb, off + k * 2 + 1, none⟩) hbb).trans c1
      obtain ⟨x, hx⟩ : ∃ x, l[k] = x := ⟨_, rfl⟩
      rw [hx] at e0 e1
      have hxd : l.getD k ⟨[], 0⟩ = x := by rw [List.getD, List.getElem?_eq_getElem hkl, hx]; rfl
      have HT := Lib.hid (And.intro hkl (And.intro hbb hxd))
      have hlt2 : ((k : Nat) : Int) < (n : Int) := by omega
      cases hnx : nameL x.name with
      | false =>
        have HM := Lib.hid (fun w' => rname_at x.name false w' hnx)
        have HR : Hid (rightAt l k = false) := Lib.hid (by unfold rightAt; rw [hxd, hnx]; rfl)
        clear c0 c1 hx hxd hnx hbb
        go_wp2
        go_quiet (first | (go_at_call 50; refine Calls.quiet_of_same (HM.out _)))
        have HB := Lib.hid (bstep HP.out.1 (below_dN wr nq))
        go_wp2
        go_ret
        exact ⟨by rw [← HQ.out, right_bad l k HT.out.1 HR.out]; rfl, HB.out⟩
      | true =>
        have HM := Lib.hid (fun w' => rname_at x.name true w' hnx)
        by_cases hk0 : k = 0
        · have HR : Hid (rightAt l k = true) := Lib.hid (by unfold rightAt; rw [hxd, hnx, hk0]; rfl)
          subst hk0
          rw [Nat.zero_mul, Nat.add_zero] at e0
          have hlt3 : (0 : Int) < (n : Int) := hlt2
          clear c0 c1 hx hxd hnx hbb e1 hlt2
          go_wp2
          go_quiet (first | (go_at_call 50; refine Calls.quiet_of_same (HM.out _)))
          have HP2 := Lib.hid (And.intro (bstep HP.out.1 (below_dN wr nq)) (show rightTo l (0 + 1) = true by rw [right_next, HP.out.2, HR.out]; rfl))
          generalize wr.drewN nq = wq at HP2 ⊢
          go_wp2
          go_roundw
          case rel => exact ⟨0 + 1, by omega, rfl, HP2⟩
          case measure => simp [intOf]; omega
        · obtain ⟨m, rfl⟩ : ∃ m, k = m + 1 := ⟨k - 1, by omega⟩
          obtain ⟨_, d0, d1⟩ := HL.out.cells m (by omega)
          have g0 := (HP.out.1.cell (p := ⟨bb, off + m * 2, none⟩) hbb).trans d0
          have g1 := (HP.out.1.cell (p := ⟨bb, off + m * 2 + 1, none⟩) hbb).trans d1
          obtain ⟨y, hy⟩ : ∃ y, l[m] = y := ⟨_, rfl⟩
          rw [hy] at g0 g1
          have hyd : l.getD m ⟨[], 0⟩ = y := by rw [List.getD, List.getElem?_eq_getElem (by omega), hy]; rfl
          have HRA : Hid (rightAt l (m + 1) = aheadL y x) := Lib.hid (by unfold rightAt; rw [hxd, Nat.add_sub_cancel, hyd, hnx]; rfl)
          have hlt3 : (m : Int) < (n : Int) := by omega
          have hlt4 : (m : Int) + 1 < (n : Int) := by omega
          have hlt5 : (0 : Int) ≤ (m : Int) + 1 := by omega
          clear c0 c1 d0 d1 hx hxd hy hyd hnx hlt2
          have hS : RightS w bb (off + (m + 1) * 2) (off + m * 2) x y wr := ⟨e0, e1, g0, g1, Lib.hid ⟨hbb, HP.out.1⟩⟩
          unfold RightS at hS
          clear e0 e1 g0 g1 hbb
          have hwm : IntKind.i64.wrap (m : Int) = (m : Int) := IntWalk.i64_in _ (by omega)
          go_wp2
          go_region_held3 (fun w' => w'.cell? ⟨bb, off + (m + 1) * 2, none⟩ = some (.string (mkB x.name)) ∧ w'.cell? ⟨bb, off + (m + 1) * 2 + 1, none⟩ = some (.int .i64 x.val) ∧ w'.cell? ⟨bb, off + m * 2, none⟩ = some (.string (mkB y.name)) ∧ w'.cell? ⟨bb, off + m * 2 + 1, none⟩ = some (.int .i64 y.val) ∧ Hid (bb < w.heap.size ∧ Below w.heap.size w w'))
            (first | assumption | exact rightS_drew (by assumption))
            (first
              | (go_at_call 50; ((with_reducible refine (HM.out _).mono ?_); rintro e w5 ⟨rfl, rfl⟩))
              | (go_at_call 51; ((with_reducible refine (rahead_any _ _ _).mono ?_); rintro e w5 ⟨rfl, hb5⟩; have hs1 := rightS_over (by assumption) hb5)))
          obtain ⟨_, _, _, _, h5⟩ := hs1
          have HB5 := Lib.hid h5.out.2
          clear h5
          cases hax : aheadL y x with
          | false =>
            have HR := Lib.hid (HRA.out.trans hax)
            clear hax
            go_wp2
            go_ret
            exact ⟨by rw [← HQ.out, right_bad l (m + 1) HT.out.1 HR.out]; rfl, HB5.out⟩
          | true =>
            have HR := Lib.hid (HRA.out.trans hax)
            have HP2 := Lib.hid (And.intro HB5.out (show rightTo l (m + 1 + 1) = true by rw [right_next, HP.out.2, HR.out]; rfl))
            clear hax
            go_wp2
            go_roundw
            case rel => exact ⟨m + 1 + 1, by omega, by go_num, HP2⟩
            case measure => simp [intOf]; omega
    · have hlt2 : ¬ ((k : Nat) : Int) < (n : Int) := by omega
      have HK := Lib.hid (show k = l.length by have := HN.out; omega)
      go_wp2
      go_ret
      obtain ⟨h1, h2⟩ := HP.out
      rw [HK.out] at h2
      exact ⟨by rw [← HQ.out]; unfold rightL; rw [h2]; rfl, h1⟩
end Go.Proofs.YtiflpjdiokloaaaDoor
/-
  Package label's contracts of letter, inner and Name.
-/
namespace Go.Proofs.YtiflpjdiokloaaaDoor
open Go.RowKit
set_option linter.unusedVariables false

set_option maxRecDepth 100000 in
theorem letter_any (c : Int) (w : World) {x : Bool} (hx : (decide (97 ≤ c) && decide (c ≤ 122)) = x) :
    Calls Tryd.prog 71 #[.int .u8 c] w fun e w' => e = .returned (.bool x) ∧ w' = w := by
  subst hx
  by_cases f1 : (97 : Int) ≤ c <;> by_cases f2 : c ≤ 122
  all_goals
    go_enter Tryd.func71, Tryd.ntmps71
    go_wp2
    go_ret
    exact ⟨by simp [f1, f2], rfl⟩
set_option maxRecDepth 100000 in
theorem inner_any (c : Int) (w : World) {x : Bool} (hx : (decide (48 ≤ c) && decide (c ≤ 57) || c == 95) = x) :
    Calls Tryd.prog 72 #[.int .u8 c] w fun e w' => e = .returned (.bool x) ∧ w' = w := by
  subst hx
  by_cases f1 : (48 : Int) ≤ c <;> by_cases f2 : c ≤ 57 <;> cases f3 : c == 95
  all_goals
    go_enter Tryd.func72, Tryd.ntmps72
    go_wp2
    go_ret
    exact ⟨by simp [f1, f2], rfl⟩
set_option maxRecDepth 100000 in
theorem lname_is (l : List UInt8) (w : World) :
    Calls Tryd.prog 55 #[.string (mkB l)] w fun e w' => e = .returned (.bool (nameL l)) ∧ w' = w := by
  obtain ⟨n, hn⟩ : ∃ n, l.length = n := ⟨_, rfl⟩
  have hsz : (mkB l).size = n := by rw [mkB_size, hn]
  by_cases h0 : l = []
  · subst h0
    have e0 : ((mkB []).toList == []) = true := by rw [mkB_toList]; rfl
    go_enter Tryd.func55, Tryd.ntmps55
    go_wp2
    go_ret
    exact ⟨rfl, rfl⟩
  · have e0 : ((mkB l).toList == []) = false := by rw [mkB_toList]; simpa using h0
    by_cases h1 : 12 < n
    · have h2 : (12 : Int) < (n : Int) := by omega
      go_enter Tryd.func55, Tryd.ntmps55
      go_wp2
      go_ret
      exact ⟨by rw [name_long (by omega)]; rfl, rfl⟩
    · have h2 : ¬ (12 : Int) < (n : Int) := by omega
      have e1 : ((mkB l).toList == [116, 114, 117, 101]) = (l == [116, 114, 117, 101]) := by rw [mkB_toList]
      have e2 : ((mkB l).toList == [102, 97, 108, 115, 101]) = (l == [102, 97, 108, 115, 101]) := by rw [mkB_toList]
      cases t1 : l == [116, 114, 117, 101] with
      | true =>
        rw [t1] at e1
        have HE := Lib.hid (name_word (.inl t1))
        clear t1
        go_enter Tryd.func55, Tryd.ntmps55
        go_wp2
        go_ret
        exact ⟨by rw [HE.out]; rfl, rfl⟩
      | false =>
        cases t2 : l == [102, 97, 108, 115, 101] with
        | true =>
          rw [t1] at e1
          rw [t2] at e2
          have HE := Lib.hid (name_word (.inr t2))
          clear t1 t2
          go_enter Tryd.func55, Tryd.ntmps55
          go_wp2
          go_ret
          exact ⟨by rw [HE.out]; rfl, rfl⟩
        | false =>
          rw [t1] at e1
          rw [t2] at e2
          have HG := Lib.hid (name_good h0 (by omega) t1 t2)
          have HN := Lib.hid hn
          have HZ := Lib.hid (show n ≠ 0 by intro e; rw [e] at hn; exact h0 (List.eq_nil_of_length_eq_zero hn))
          clear t1 t2 h0 hn
          go_enter Tryd.func55, Tryd.ntmps55
          go_wp2
          clear e0 e1 e2
          go_loop [21] (fun i => ∃ k : Nat, k ≤ n ∧ i = .int .i64 k ∧ Hid (k = 0 ∨ nameTo l k = true)) (fun i => n - (intOf i).toNat)
          case atStart => exact ⟨0, Nat.zero_le _, rfl, Lib.hid (.inl rfl)⟩
          case round =>
            obtain ⟨k, hk, rfl, HP⟩ := hrel
            by_cases hlt : k < n
            · have hlt2 : ((k : Nat) : Int) < (n : Int) := by omega
              have hkl : k < l.length := by have := HN.out; omega
              have hks : k < (mkB l).size := by rw [hsz]; exact hlt
              obtain ⟨c, hc⟩ : ∃ c : Int, ((mkB l)[k].toNat : Int) = c := ⟨_, rfl⟩
              have HX := Lib.hid (show (l[k].toNat : Int) = c from hc)
              have hL : (decide (97 ≤ c) && decide (c ≤ 122)) = letterL l[k] := by
                have := HX.out
                unfold letterL
                congr 1 <;> exact decide_eq_decide.2 (by omega)
              have hO : (decide (48 ≤ c) && decide (c ≤ 57) || c == 95) = otherL l[k] := by
                have := HX.out
                unfold otherL
                congr 1
                · congr 1 <;> exact decide_eq_decide.2 (by omega)
                · rw [Bool.eq_iff_iff, beq_iff_eq, beq_iff_eq]; omega
              have HB := Lib.hid (fun h => name_bad (l := l) k hkl h)
              have HX2 := Lib.hid (fun h => name_next (l := l) (k := k) hkl HP.out h)
              have HK0 : Hid ((((k : Int) == 0) = true → k = 0) ∧ (((k : Int) == 0) = false → k ≠ 0)) := Lib.hid ⟨fun h => by rw [beq_iff_eq] at h; omega, fun h => by rw [beq_eq_false_iff_ne] at h; omega⟩
              generalize letterL l[k] = b1 at hL HB HX2
              generalize otherL l[k] = b2 at hO HB HX2
              have HCL := Lib.hid (fun w' => letter_any c w' hL)
              have HCO := Lib.hid (fun w' => inner_any c w' hO)
              clear HX hL hO
              have hk9 : (k : Int) ≤ 12 := by omega
              cases hk0 : ((k : Int) == 0) <;> cases b1 <;> cases b2
              all_goals
                have hk1 := HK0.out
                rw [hk0] at hk1
                first
                  | (have HB2 := Lib.hid (HB.out ⟨rfl, (by first | exact .inl (hk1.1 rfl) | exact .inr rfl)⟩)
                     clear hk1 HK0 HB HX2
                     go_wp2_with (first
                      | (go_at_call 71; (with_reducible refine (HCL.out _).mono ?_); rintro e w' ⟨rfl, rfl⟩)
                      | (go_at_call 72; (with_reducible refine (HCO.out _).mono ?_); rintro e w' ⟨rfl, rfl⟩))
                     go_ret
                     exact ⟨by rw [HB2.out]; rfl, rfl⟩)
                  | (have HG2 := Lib.hid (HX2.out (by first | exact .inl rfl | exact .inr ⟨hk1.2 rfl, rfl⟩))
                     clear hk1 HK0 HB HX2
                     go_wp2_with (first
                      | (go_at_call 71; (with_reducible refine (HCL.out _).mono ?_); rintro e w' ⟨rfl, rfl⟩)
                      | (go_at_call 72; (with_reducible refine (HCO.out _).mono ?_); rintro e w' ⟨rfl, rfl⟩))
                     go_round
                     case rel => exact ⟨k + 1, by omega, by go_num, Lib.hid (.inr HG2.out)⟩
                     case measure => simp [intOf]; omega)
            · have hlt2 : ¬ ((k : Nat) : Int) < (n : Int) := by omega
              have HK := Lib.hid (show k = l.length by have := HN.out; omega)
              go_wp2
              go_ret
              refine ⟨?_, rfl⟩
              rw [HG.out (by rw [← HK.out]; exact HP.out.elim (fun e => absurd e (by have := HZ.out; omega)) id)]
              rfl
theorem lname_at (l : List UInt8) (w : World) {q : Bool} (hq : nameL l = q) : Calls Tryd.prog 55 #[.string (mkB l)] w fun e w' => e = .returned (.bool q) ∧ w' = w := by
  subst hq; exact lname_is l w
theorem lname_any (l : List UInt8) (w : World) {q : Bool} (hq : nameL l = q) :
    Calls Tryd.prog 55 #[.string (mkB l)] w fun e w' => e = .returned (.bool q) ∧ Below w.heap.size w w' := by
  subst hq
  exact (lname_is l w).mono fun e w' h => ⟨h.1, by rw [h.2]; exact bself w⟩
end Go.Proofs.YtiflpjdiokloaaaDoor
/-
  Layer 5: a list of propositions while one is put into it.
-/
namespace Go.Proofs.YtiflpjdiokloaaaDoor
open Go.RowKit
set_option linter.unusedVariables false
theorem put_over : ∀ (l : List Pr) (p : Pr) (k : Nat) (hk : k < l.length), putL l p = l.take k ++ putL (l.drop k) p → putL l p = l.take k ++ putL (l[k] :: l.drop (k + 1)) p := fun l p k hk h => by
  rw [← List.drop_eq_getElem_cons hk]; exact h
/-- Where Put stands: k were gone through; the list o so far; dn: p has its place. -/
structure PutAt (w wr : World) (l : List Pr) (p : Pr) (k : Nat) (dn : Bool) (v : Value) (o : List Pr) : Prop where
  hp : wr.heap[w.heap.size]? = some (.cells #[.string (mkB p.name), .int .i64 p.val] 58 (0, 0))
  ho : OwnsP wr (w.heap.size + 1) v o
  hW : Below w.heap.size w wr
  hz : w.heap.size + 1 ≤ wr.heap.size
  hq : putL l p = o ++ (if dn = true then l.drop k else putL (l.drop k) p)
  hn : o.length ≤ k + (if dn = true then 1 else 0)
section
variable {w wr w' : World} {l : List Pr} {p : Pr} {k : Nat} {dn : Bool} {v : Value} {o : List Pr}
theorem PutAt.over (h : PutAt w wr l p k dn v o) (hb : Below wr.heap.size wr w') : PutAt w w' l p k dn v o :=
  ⟨(hb.block _ (by have := h.hz; omega)).trans h.hp, ownsRow_over h.ho hb, bstep h.hW hb, Nat.le_trans h.hz hb.size, h.hq, h.hn⟩
theorem PutAt.drew (h : PutAt w wr l p k dn v o) : PutAt w wr.drew l p k dn v o := h.over (bself wr).drew
/-- Behind an append. -/
theorem PutAt.push (h : PutAt w wr l p k dn v o) {w1 : World} {v' : Value} {k' : Nat} {dn' : Bool} {q : Pr} {xs : List Value} {cs : Array Value} {t : TypeId} (hg : Grew (wr.alloc (.cells cs t)) (w.heap.size + 1) 58 2 v v' (o.length + 1) (prC o ++ xs) w1) (hx : xs = prc q)
    (hq : putL l p = o ++ [q] ++ (if dn' = true then l.drop k' else putL (l.drop k') p)) (hn : o.length + 1 ≤ k' + (if dn' = true then 1 else 0)) : PutAt w w1 l p k' dn' v' (o ++ [q]) := by
  obtain ⟨g1, g2, g3, g4⟩ := hg
  have hb : Below (w.heap.size + 1) wr w1 := ((Below.refl _ _).alloc h.hz _).trans g4
  exact ⟨(hb.block _ (by omega)).trans h.hp, OwnsP.join g1 rfl hx, h.hW.trans (hb.mono (by omega)), Nat.le_trans h.hz hb.size, hq, by rw [List.length_append]; exact hn⟩
end
theorem PutAt.short {w wr : World} {l : List Pr} {p : Pr} {k : Nat} {dn : Bool} {v : Value} {o : List Pr} (h : PutAt w wr l p k dn v o) : o.length ≤ k + 1 := by
  have := h.hn
  split at this <;> omega
/-- The next one into the list. -/
theorem PutAt.pushed {w wr w1 : World} {l : List Pr} {p x : Pr} {k : Nat} {dn : Bool} {v v' : Value} {o : List Pr} (h : PutAt w wr l p k dn v o) {cs : Array Value} {t : TypeId} (hg : Grew (wr.alloc (.cells cs t)) (w.heap.size + 1) 58 2 v v' (o.length + 1) (prC o ++ [.string (mkB x.name), .int .i64 x.val]) w1)
    (hx : l.drop k = x :: l.drop (k + 1)) (hd : dn = true ∨ aheadL x p = true) : PutAt w w1 l p (k + 1) dn v' (o ++ [x]) := by
  refine h.push hg rfl ?_ (by have := h.hn; omega)
  have hq := h.hq
  rw [hx] at hq
  rw [hq, List.append_assoc]
  congr 1
  cases dn with
  | true => rfl
  | false =>
    have ha : aheadL x p = true := hd.elim (fun e => (by cases e)) id
    show putL (x :: l.drop (k + 1)) p = x :: putL (l.drop (k + 1)) p
    rw [putL, if_pos ha]
/-- p into the list. -/
theorem PutAt.place {w wr w1 : World} {l : List Pr} {p x : Pr} {k : Nat} {v v' : Value} {o : List Pr} (h : PutAt w wr l p k false v o) {cs : Array Value} {t : TypeId} (hg : Grew (wr.alloc (.cells cs t)) (w.heap.size + 1) 58 2 v v' (o.length + 1) (prC o ++ [.string (mkB p.name), .int .i64 p.val]) w1)
    (hx : l.drop k = x :: l.drop (k + 1)) (hd : aheadL x p = false) (hne : x ≠ p) : PutAt w w1 l p k true v' (o ++ [p]) := by
  refine h.push hg rfl ?_ (by have := h.hn; simpa using this)
  have hq := h.hq
  rw [hx] at hq
  rw [hq, List.append_assoc, hx]
  congr 1
  show putL (x :: l.drop (k + 1)) p = p :: x :: l.drop (k + 1)
  rw [putL, if_neg (by rw [hd]; exact Bool.false_ne_true), if_neg hne]
/-- p is there. -/
theorem PutAt.there {w wr : World} {l : List Pr} {p x : Pr} {k : Nat} {v : Value} {o : List Pr} (h : PutAt w wr l p k false v o) (hx : l.drop k = x :: l.drop (k + 1)) (hd : aheadL x p = false) (he : x = p) : PutAt w wr l p k true v o := by
  refine ⟨h.hp, h.ho, h.hW, h.hz, ?_, by have := h.hn; simp at this ⊢; omega⟩
  have hq := h.hq
  rw [hx] at hq
  rw [hq, hx]
  congr 1
  show putL (x :: l.drop (k + 1)) p = x :: l.drop (k + 1)
  rw [putL, if_neg (by rw [hd]; exact Bool.false_ne_true), if_pos he]
theorem put_cell {w : World} {p : Pr} {g : Nat} (h : w.heap[g]? = some (.cells #[.string (mkB p.name), .int .i64 p.val] 58 (0, 0))) : w.cell? ⟨g, 0, none⟩ = some (.string (mkB p.name)) ∧ w.cell? ⟨g, 1, none⟩ = some (.int .i64 p.val) := ⟨heap_cell h 0, heap_cell h 1⟩

/-- What the test of the next one reads. -/
def PutS (w : World) (l : List Pr) (p x : Pr) (k : Nat) (v : Value) (o : List Pr) (bb i : Nat) (w' : World) : Prop :=
  w'.cell? ⟨bb, i, none⟩ = some (.string (mkB x.name)) ∧ w'.cell? ⟨bb, i + 1, none⟩ = some (.int .i64 x.val) ∧ w'.cell? ⟨w.heap.size, 0, none⟩ = some (.string (mkB p.name)) ∧ w'.cell? ⟨w.heap.size, 1, none⟩ = some (.int .i64 p.val) ∧ Hid (bb < w.heap.size ∧ PutAt w w' l p k false v o)
theorem putS_over {w w1 w2 : World} {l : List Pr} {p x : Pr} {k : Nat} {v : Value} {o : List Pr} {bb i : Nat} (h : PutS w l p x k v o bb i w1) (hb : Below w1.heap.size w1 w2) : PutS w l p x k v o bb i w2 := by
  obtain ⟨h1, h2, h3, h4, h5⟩ := h
  have hlt : bb < w1.heap.size := by have := h5.out.2.hz; have := h5.out.1; omega
  have hlt2 : w.heap.size < w1.heap.size := by have := h5.out.2.hz; omega
  exact ⟨(hb.cell (p := ⟨bb, i, none⟩) hlt).trans h1, (hb.cell (p := ⟨bb, i + 1, none⟩) hlt).trans h2, (hb.cell (p := ⟨w.heap.size, 0, none⟩) hlt2).trans h3, (hb.cell (p := ⟨w.heap.size, 1, none⟩) hlt2).trans h4, Lib.hid ⟨h5.out.1, h5.out.2.over hb⟩⟩
theorem putS_drew {w w1 : World} {l : List Pr} {p x : Pr} {k : Nat} {v : Value} {o : List Pr} {bb i : Nat} (h : PutS w l p x k v o bb i w1) : PutS w l p x k v o bb i w1.drew := putS_over h (bself w1).drew
end Go.Proofs.YtiflpjdiokloaaaDoor
/-
  Contracts of layer 5's reference: Same, Holds.
-/
namespace Go.Proofs.YtiflpjdiokloaaaDoor
open Go.RowKit
set_option linter.unusedVariables false

theorem take_same {a b : List Pr} {k : Nat} (ha : k < a.length) (hb : k < b.length) (h : a.take k = b.take k) (e : a[k] = b[k]) : a.take (k + 1) = b.take (k + 1) := by
  rw [List.take_succ_eq_append_getElem ha, List.take_succ_eq_append_getElem hb, h, e]
set_option maxRecDepth 100000 in
theorem rsame_any (A0 : Option Addr) (n0 c0 : Nat) (a : List Pr) (A : Option Addr) (n c : Nat) (b : List Pr) (w : World) (ha : Props w w.heap.size (.slice A0 n0 c0) a) (hb : Props w w.heap.size (.slice A n c) b) (hm : a.length ≤ 100000 ∧ b.length ≤ 100000) {q : Bool} (hq : decide (a = b) = q) :
    Calls Tryd.prog 46 #[.slice A0 n0 c0, .slice A n c] w fun e w' => e = .returned (.bool q) ∧ Below w.heap.size w w' := by
  obtain ⟨hn0, _⟩ := ha.len
  obtain ⟨hn, _⟩ := hb.len
  have HA := Lib.hid ha
  have HB := Lib.hid hb
  have HN := Lib.hid (And.intro hn0 hn)
  have HQ := Lib.hid hq
  have hk9 : (n0 : Int) ≤ 100000 := by omega
  by_cases hne : n0 = n
  · subst hne
    have h1 : ((n0 : Int) != (n0 : Int)) = false := by simp
    clear ha hb hm hn hn0 hq
    go_enter Tryd.func46, Tryd.ntmps46
    go_wp2
    go_loopw [5] (fun i wr => ∃ (k : Nat), k ≤ n0 ∧ i = .int .i64 k ∧ Hid (Below w.heap.size w wr ∧ a.take k = b.take k)) (fun i _ => n0 - (intOf i).toNat)
    case atStart => exact ⟨0, Nat.zero_le _, rfl, Lib.hid ⟨bself w, by simp⟩⟩
    case round =>
      obtain ⟨k, hk, rfl, HP⟩ := hrel
      by_cases hlt : k < n0
      · have hka : k < a.length := by have := HN.out; omega
        have hkb : k < b.length := by have := HN.out; omega
        obtain ⟨ba, oa, rfl⟩ := HA.out.some_ (by omega)
        obtain ⟨bb, ob, rfl⟩ := HB.out.some_ (by omega)
        obtain ⟨hba, ca0, ca1⟩ := HA.out.cells k hka
        obtain ⟨hbb, cb0, cb1⟩ := HB.out.cells k hkb
        have e0 := (HP.out.1.cell (p := ⟨ba, oa + k * 2, none⟩) hba).trans ca0
        have e1 := (HP.out.1.cell (p := ⟨ba, oa + k * 2 + 1, none⟩) hba).trans ca1
        have g0 := (HP.out.1.cell (p := ⟨bb, ob + k * 2, none⟩) hbb).trans cb0
        have g1 := (HP.out.1.cell (p := ⟨bb, ob + k * 2 + 1, none⟩) hbb).trans cb1
        have hneq := fun w' => run_neq_pr w' a[k] b[k]
        have hlt2 : ((k : Nat) : Int) < (n0 : Int) := by omega
        have HK := Lib.hid (And.intro hka hkb)
        by_cases hab : a[k] = b[k]
        · have HAB := Lib.hid (take_same hka hkb HP.out.2 hab)
          rw [decide_eq_true hab] at hneq
          generalize a[k] = x at e0 e1 hneq
          generalize b[k] = y at g0 g1 hneq
          clear ca0 ca1 cb0 cb1 hab
          go_wp2
          go_quiet (fail)
          have HP2 := Lib.hid (And.intro (bstep HP.out.1 (below_dN wr nq)) HAB.out)
          go_wp2
          go_roundw
          case rel => exact ⟨k + 1, by omega, by go_num, HP2⟩
          case measure => simp [intOf]; omega
        · have HAB : Hid (a ≠ b) := Lib.hid fun e => hab (by subst e; rfl)
          rw [decide_eq_false hab] at hneq
          generalize a[k] = x at e0 e1 hneq
          generalize b[k] = y at g0 g1 hneq
          clear ca0 ca1 cb0 cb1 hab
          go_wp2
          go_quiet (fail)
          have HP2 := Lib.hid (bstep HP.out.1 (below_dN wr nq))
          go_wp2
          go_ret
          refine ⟨?_, HP2.out⟩
          rw [← HQ.out, decide_eq_false HAB.out]
          rfl
      · have hlt2 : ¬ ((k : Nat) : Int) < (n0 : Int) := by omega
        have HK := Lib.hid (show k = a.length ∧ k = b.length by have := HN.out; omega)
        go_wp2
        go_ret
        obtain ⟨h1, h2⟩ := HP.out
        refine ⟨?_, h1⟩
        have e : a = b := by
          have ea := List.take_length (l := a)
          have eb := List.take_length (l := b)
          rw [← HK.out.1] at ea
          rw [← HK.out.2] at eb
          rw [← ea, ← eb]
          exact h2
        rw [← HQ.out, decide_eq_true e]
        rfl
  · have h1 : ((n0 : Int) != (n : Int)) = true := by rw [bne_iff_ne]; omega
    have HNE : Hid (a ≠ b) := Lib.hid fun e => hne (by rw [hn0, hn, e])
    clear ha hb hm hn hn0 hq hne
    go_enter Tryd.func46, Tryd.ntmps46
    go_wp2
    go_ret
    refine ⟨?_, bself w⟩
    rw [← HQ.out, decide_eq_false HNE.out]
    rfl
end Go.Proofs.YtiflpjdiokloaaaDoor
