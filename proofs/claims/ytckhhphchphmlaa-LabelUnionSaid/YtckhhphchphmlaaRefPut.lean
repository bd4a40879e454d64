/-
  Contract of layer 5's reference: Put.
-/
import Derived.Test.YtckhhphchphmlaaRefAhead
import Derived.Deep.RegionHeld3
import Derived.Deep.QuietTactic
import Derived.BigQuiet
namespace Go.Proofs.Ytckhhphchphmlaa
open Go.RowKit
set_option linter.unusedVariables false

theorem put_over : ∀ (l : List Pr) (p : Pr) (k : Nat) (hk : k < l.length), putL l p = l.take k ++ putL (l.drop k) p → putL l p = l.take k ++ putL (l[k] :: l.drop (k + 1)) p := fun l p k hk h => by
  rw [← List.drop_eq_getElem_cons hk]; exact h
/-- Where Put stands: k were gone through; the list o so far; dn: p has its place. -/
structure PutAt (w wr : World) (l : List Pr) (p : Pr) (k : Nat) (dn : Bool) (v : Value) (o : List Pr) : Prop where
  hp : wr.heap[w.heap.size]? = some (.cells #[.string (mkB p.name), .int .i64 p.val] 38 (0, 0))
  ho : OwnsP wr (w.heap.size + 1) v o
  hW : Below w.heap.size w wr
  hz : w.heap.size + 1 ≤ wr.heap.size
  hq : putL l p = o ++ (if dn = true then l.drop k else putL (l.drop k) p)
  hn : o.length ≤ k + (if dn = true then 1 else 0)
section
variable {w wr w' : World} {l : List Pr} {p : Pr} {k : Nat} {dn : Bool} {v : Value} {o : List Pr}
theorem PutAt.over (h : PutAt w wr l p k dn v o) (hb : Below wr.heap.size wr w') : PutAt w w' l p k dn v o :=
  ⟨(hb.block _ (by have := h.hz; omega)).trans h.hp, ownsRow_over h.ho hb, bstep h.hW hb, Nat.le_trans h.hz hb.size, h.hq, h.hn⟩
theorem PutAt.drew (h : PutAt w wr l p k dn v o) : PutAt w wr.drew l p k dn v o := h.over (bself wr).drew
/-- Behind an append. -/
theorem PutAt.push (h : PutAt w wr l p k dn v o) {w1 : World} {v' : Value} {k' : Nat} {dn' : Bool} {q : Pr} {xs : List Value} {cs : Array Value} {t : TypeId} (hg : Grew (wr.alloc (.cells cs t)) (w.heap.size + 1) 38 2 v v' (o.length + 1) (prC o ++ xs) w1) (hx : xs = prc q)
    (hq : putL l p = o ++ [q] ++ (if dn' = true then l.drop k' else putL (l.drop k') p)) (hn : o.length + 1 ≤ k' + (if dn' = true then 1 else 0)) : PutAt w w1 l p k' dn' v' (o ++ [q]) := by
  obtain ⟨g1, g2, g3, g4⟩ := hg
  have hb : Below (w.heap.size + 1) wr w1 := ((Below.refl _ _).alloc h.hz _).trans g4
  exact ⟨(hb.block _ (by omega)).trans h.hp, OwnsP.join g1 rfl hx, h.hW.trans (hb.mono (by omega)), Nat.le_trans h.hz hb.size, hq, by rw [List.length_append]; exact hn⟩
end
theorem PutAt.short {w wr : World} {l : List Pr} {p : Pr} {k : Nat} {dn : Bool} {v : Value} {o : List Pr} (h : PutAt w wr l p k dn v o) : o.length ≤ k + 1 := by
  have := h.hn
  split at this <;> omega
/-- The next one into the list. -/
theorem PutAt.pushed {w wr w1 : World} {l : List Pr} {p x : Pr} {k : Nat} {dn : Bool} {v v' : Value} {o : List Pr} (h : PutAt w wr l p k dn v o) {cs : Array Value} {t : TypeId} (hg : Grew (wr.alloc (.cells cs t)) (w.heap.size + 1) 38 2 v v' (o.length + 1) (prC o ++ [.string (mkB x.name), .int .i64 x.val]) w1)
    (hx : l.drop k = x :: l.drop (k + 1)) (hd : dn = true ∨ aheadL x p = true) : PutAt w w1 l p (k + 1) dn v' (o ++ [x]) := by
  refine h.push hg rfl ?_ (by have := h.hn; omega)
  have hq := h.hq
  rw [hx] at hq
  rw [hq, List.append_assoc]
  congr 1
  cases dn with
  | true => rfl
  | false =>
    have ha : aheadL x p = true := hd.elim (fun e => (by cases e)) id
    show putL (x :: l.drop (k + 1)) p = x :: putL (l.drop (k + 1)) p
    rw [putL, if_pos ha]
/-- p into the list. -/
theorem PutAt.place {w wr w1 : World} {l : List Pr} {p x : Pr} {k : Nat} {v v' : Value} {o : List Pr} (h : PutAt w wr l p k false v o) {cs : Array Value} {t : TypeId} (hg : Grew (wr.alloc (.cells cs t)) (w.heap.size + 1) 38 2 v v' (o.length + 1) (prC o ++ [.string (mkB p.name), .int .i64 p.val]) w1)
    (hx : l.drop k = x :: l.drop (k + 1)) (hd : aheadL x p = false) (hne : x ≠ p) : PutAt w w1 l p k true v' (o ++ [p]) := by
  refine h.push hg rfl ?_ (by have := h.hn; simpa using this)
  have hq := h.hq
  rw [hx] at hq
  rw [hq, List.append_assoc, hx]
  congr 1
  show putL (x :: l.drop (k + 1)) p = p :: x :: l.drop (k + 1)
  rw [putL, if_neg (by rw [hd]; exact Bool.false_ne_true), if_neg hne]
/-- p is there. -/
theorem PutAt.there {w wr : World} {l : List Pr} {p x : Pr} {k : Nat} {v : Value} {o : List Pr} (h : PutAt w wr l p k false v o) (hx : l.drop k = x :: l.drop (k + 1)) (hd : aheadL x p = false) (he : x = p) : PutAt w wr l p k true v o := by
  refine ⟨h.hp, h.ho, h.hW, h.hz, ?_, by have := h.hn; simp at this ⊢; omega⟩
  have hq := h.hq
  rw [hx] at hq
  rw [hq, hx]
  congr 1
  show putL (x :: l.drop (k + 1)) p = x :: l.drop (k + 1)
  rw [putL, if_neg (by rw [hd]; exact Bool.false_ne_true), if_pos he]
theorem put_cell {w : World} {p : Pr} {g : Nat} (h : w.heap[g]? = some (.cells #[.string (mkB p.name), .int .i64 p.val] 38 (0, 0))) : w.cell? ⟨g, 0, none⟩ = some (.string (mkB p.name)) ∧ w.cell? ⟨g, 1, none⟩ = some (.int .i64 p.val) := ⟨heap_cell h 0, heap_cell h 1⟩

/-- What the test of the next one reads. -/
def PutS (w : World) (l : List Pr) (p x : Pr) (k : Nat) (v : Value) (o : List Pr) (bb i : Nat) (w' : World) : Prop :=
  w'.cell? ⟨bb, i, none⟩ = some (.string (mkB x.name)) ∧ w'.cell? ⟨bb, i + 1, none⟩ = some (.int .i64 x.val) ∧ w'.cell? ⟨w.heap.size, 0, none⟩ = some (.string (mkB p.name)) ∧ w'.cell? ⟨w.heap.size, 1, none⟩ = some (.int .i64 p.val) ∧ Hid (bb < w.heap.size ∧ PutAt w w' l p k false v o)
theorem putS_over {w w1 w2 : World} {l : List Pr} {p x : Pr} {k : Nat} {v : Value} {o : List Pr} {bb i : Nat} (h : PutS w l p x k v o bb i w1) (hb : Below w1.heap.size w1 w2) : PutS w l p x k v o bb i w2 := by
  obtain ⟨h1, h2, h3, h4, h5⟩ := h
  have hlt : bb < w1.heap.size := by have := h5.out.2.hz; have := h5.out.1; omega
  have hlt2 : w.heap.size < w1.heap.size := by have := h5.out.2.hz; omega
  exact ⟨(hb.cell (p := ⟨bb, i, none⟩) hlt).trans h1, (hb.cell (p := ⟨bb, i + 1, none⟩) hlt).trans h2, (hb.cell (p := ⟨w.heap.size, 0, none⟩) hlt2).trans h3, (hb.cell (p := ⟨w.heap.size, 1, none⟩) hlt2).trans h4, Lib.hid ⟨h5.out.1, h5.out.2.over hb⟩⟩
theorem putS_drew {w w1 : World} {l : List Pr} {p x : Pr} {k : Nat} {v : Value} {o : List Pr} {bb i : Nat} (h : PutS w l p x k v o bb i w1) : PutS w l p x k v o bb i w1.drew := putS_over h (bself w1).drew

set_option maxRecDepth 100000 in
set_option maxHeartbeats 1000000 in
theorem rput_any (A : Option Addr) (n c : Nat) (l : List Pr) (p : Pr) (w : World) (hl : Props w w.heap.size (.slice A n c) l) (hm : l.length ≤ 100000) :
    Calls Try.prog 25 #[.slice A n c, .agg #[.string (mkB p.name), .int .i64 p.val]] w fun e w' => ∃ v', e = .returned v' ∧ OwnsP w' w.heap.size v' (putL l p) ∧ Below w.heap.size w w' := by
  obtain ⟨hn, hnc⟩ := hl.len
  have HL := Lib.hid hl
  have HM := Lib.hid hm
  have HN := Lib.hid hn
  clear hl hm hn
  go_enter Try.func25, Try.ntmps25
  go_wp2
  go_loopw [5, 6, 7] (fun v dn i wr => ∃ (k : Nat) (b : Bool) (o : List Pr), k ≤ n ∧ i = .int .i64 k ∧ dn = .bool b ∧ Hid (PutAt w wr l p k b v o)) (fun _ _ i _ => n - (intOf i).toNat)
  case atStart =>
    have hb := bmore (bself w) (.cells #[.string (mkB p.name), .int .i64 p.val] 38)
    exact ⟨0, false, [], Nat.zero_le _, rfl, rfl, Lib.hid ⟨heap_alloc_new w _, OwnsP.nil_ _ _, hb, by simp, rfl, Nat.zero_le _⟩⟩
  case round =>
    obtain ⟨k, b, o, hk, rfl, rfl, HP⟩ := hrel
    obtain ⟨A1, n1, c1, rfl⟩ := own_slice HP.out.ho
    by_cases hlt : k < n
    · have hkl : k < l.length := by have := HN.out; omega
      obtain ⟨bb, off, rfl⟩ := HL.out.some_ (by omega)
      obtain ⟨hbb, c0, c1⟩ := HL.out.cells k hkl
      obtain ⟨x, hx⟩ : ∃ x : Pr, x = l[k] := ⟨_, rfl⟩
      rw [← hx] at c0 c1
      have HX := Lib.hid (show l.drop k = x :: l.drop (k + 1) by rw [hx]; exact List.drop_eq_getElem_cons hkl)
      have HC := Lib.hid (And.intro hbb (And.intro c0 c1))
      have hlt2 : ((k : Nat) : Int) < (n : Int) := by omega
      have hk9 : k + 1 ≤ 100001 := by have := HM.out; have := HN.out; omega
      have hk8 : (k : Int) ≤ 100000 := by omega
      clear c0 c1 hx hkl hbb
      have e0 := (HP.out.hW.cell (p := ⟨bb, off + k * 2, none⟩) HC.out.1).trans HC.out.2.1
      have e1 := (HP.out.hW.cell (p := ⟨bb, off + k * 2 + 1, none⟩) HC.out.1).trans HC.out.2.2
      obtain ⟨q0, q1⟩ := put_cell HP.out.hp
      cases b with
      | true =>
        go_wp2
        go_quiet (fail)
        have HQ := Lib.hid (HP.out.over (below_dN wr nq))
        generalize wr.drewN nq = wq at HQ ⊢
        clear e0 e1 q0 q1
        have e0 := (HQ.out.hW.cell (p := ⟨bb, off + k * 2, none⟩) HC.out.1).trans HC.out.2.1
        have e1 := (HQ.out.hW.cell (p := ⟨bb, off + k * 2 + 1, none⟩) HC.out.1).trans HC.out.2.2
        obtain ⟨q0, q1⟩ := put_cell HQ.out.hp
        go_wp2_with (at_builtin; refine wp_app_seq rfl (.tmp 35) (.tmp 40) 24 38 _ 2 24 Try.underlying24 info_P rfl (by omega) rfl (w.heap.size + 1) (.slice A1 n1 c1) _ o.length 1 (prC o) _ rfl rfl (ownsRow_over HQ.out.ho (bmore (bself wq) _)) (Seq.lit_ wq [.string (mkB x.name), .int .i64 x.val] _) (by simp [Value.oneCell']) (by have := HQ.out.short; have := HM.out; have := HN.out; omega) (by have := HQ.out.hz; simp; omega) ?_; intro v9 w9 hg; obtain ⟨A9, n9, c9, rfl⟩ := own_slice hg.1; have HP9 := Lib.hid (HQ.out.pushed hg HX.out (.inl rfl)); clear hg)
        go_roundw
        case rel => exact ⟨k + 1, _, _, by omega, by go_num, rfl, HP9⟩
        case measure => simp [intOf]; omega
      | false =>
        have HPut := Lib.hid HP.out
        cases hax : aheadL x p with
        | true =>
          have HA := Lib.hid hax
          have HCall := Lib.hid (fun w' => rahead_at x p true w' hax)
          clear hax
          go_wp2
          have hS : PutS w l p x k (.slice A1 n1 c1) o bb (off + k * 2) wr := ⟨e0, e1, q0, q1, Lib.hid ⟨HC.out.1, HP.out⟩⟩
          unfold PutS at hS
          clear e0 e1 q0 q1
          go_region_held3 (fun w' => w'.cell? ⟨bb, off + k * 2, none⟩ = some (.string (mkB x.name)) ∧ w'.cell? ⟨bb, off + k * 2 + 1, none⟩ = some (.int .i64 x.val) ∧ w'.cell? ⟨w.heap.size, 0, none⟩ = some (.string (mkB p.name)) ∧ w'.cell? ⟨w.heap.size, 1, none⟩ = some (.int .i64 p.val) ∧ Hid (bb < w.heap.size ∧ PutAt w w' l p k false (.slice A1 n1 c1) o))
            (first | assumption | exact putS_drew (by assumption))
            (first | (go_at_call 28; ((with_reducible refine (HCall.out _).mono ?_); rintro e w5 ⟨rfl, hb5⟩; have hs1 := putS_over (by assumption) hb5)))
          obtain ⟨e0, e1, q0, q1, h5⟩ := hs1
          have HP5 := Lib.hid h5.out.2
          clear h5
          go_wp2_with (at_builtin; refine wp_app_seq rfl (.tmp 35) (.tmp 40) 24 38 _ 2 24 Try.underlying24 info_P rfl (by omega) rfl (w.heap.size + 1) (.slice A1 n1 c1) _ o.length 1 (prC o) _ rfl rfl (ownsRow_over HP5.out.ho (bmore (bself w5) _)) (Seq.lit_ w5 [.string (mkB x.name), .int .i64 x.val] _) (by simp [Value.oneCell']) (by have := HP5.out.short; have := HM.out; have := HN.out; omega) (by have := HP5.out.hz; simp; omega) ?_; intro v9 w9 hg; obtain ⟨A9, n9, c9, rfl⟩ := own_slice hg.1; have HP9 := Lib.hid (HP5.out.pushed hg HX.out (.inr HA.out)); clear hg)
          go_roundw
          case rel => exact ⟨k + 1, _, _, by omega, by go_num, rfl, HP9⟩
          case measure => simp [intOf]; omega
        | false =>
          have HA := Lib.hid hax
          have HCall := Lib.hid (fun w' => rahead_at x p false w' hax)
          clear hax
          go_wp2
          have hS : PutS w l p x k (.slice A1 n1 c1) o bb (off + k * 2) wr := ⟨e0, e1, q0, q1, Lib.hid ⟨HC.out.1, HP.out⟩⟩
          unfold PutS at hS
          clear e0 e1 q0 q1
          go_region_held3 (fun w' => w'.cell? ⟨bb, off + k * 2, none⟩ = some (.string (mkB x.name)) ∧ w'.cell? ⟨bb, off + k * 2 + 1, none⟩ = some (.int .i64 x.val) ∧ w'.cell? ⟨w.heap.size, 0, none⟩ = some (.string (mkB p.name)) ∧ w'.cell? ⟨w.heap.size, 1, none⟩ = some (.int .i64 p.val) ∧ Hid (bb < w.heap.size ∧ PutAt w w' l p k false (.slice A1 n1 c1) o))
            (first | assumption | exact putS_drew (by assumption))
            (first | (go_at_call 28; ((with_reducible refine (HCall.out _).mono ?_); rintro e w5 ⟨rfl, hb5⟩; have hs1 := putS_over (by assumption) hb5)))
          obtain ⟨e0, e1, q0, q1, h5⟩ := hs1
          have HP5 := Lib.hid h5.out.2
          clear h5
          have hneq := fun w' => run_neq_pr w' x p
          by_cases hxp : x = p
          · have HXP := Lib.hid hxp
            rw [decide_eq_true hxp] at hneq
            clear hxp
            go_wp2
            go_quiet (fail)
            have HQ := Lib.hid ((HP5.out.there HX.out HA.out HXP.out).over (below_dN w5 nq))
            generalize w5.drewN nq = wq at HQ ⊢
            clear e0 e1 q0 q1
            have e0 := (HQ.out.hW.cell (p := ⟨bb, off + k * 2, none⟩) HC.out.1).trans HC.out.2.1
            have e1 := (HQ.out.hW.cell (p := ⟨bb, off + k * 2 + 1, none⟩) HC.out.1).trans HC.out.2.2
            obtain ⟨q0, q1⟩ := put_cell HQ.out.hp
            go_wp2_with (at_builtin; refine wp_app_seq rfl (.tmp 35) (.tmp 40) 24 38 _ 2 24 Try.underlying24 info_P rfl (by omega) rfl (w.heap.size + 1) (.slice A1 n1 c1) _ o.length 1 (prC o) _ rfl rfl (ownsRow_over HQ.out.ho (bmore (bself wq) _)) (Seq.lit_ wq [.string (mkB x.name), .int .i64 x.val] _) (by simp [Value.oneCell']) (by have := HQ.out.short; have := HM.out; have := HN.out; omega) (by have := HQ.out.hz; simp; omega) ?_; intro v9 w9 hg; obtain ⟨A9, n9, c9, rfl⟩ := own_slice hg.1; have HP9 := Lib.hid (HQ.out.pushed hg HX.out (.inl rfl)); clear hg)
            go_roundw
            case rel => exact ⟨k + 1, _, _, by omega, by go_num, rfl, HP9⟩
            case measure => simp [intOf]; omega
          · have HXP := Lib.hid hxp
            rw [decide_eq_false hxp] at hneq
            clear hxp
            go_wp2
            go_quiet (fail)
            have HQ := Lib.hid (HP5.out.over (below_dN w5 nq))
            generalize w5.drewN nq = wq at HQ ⊢
            clear e0 e1 q0 q1
            have e0 := (HQ.out.hW.cell (p := ⟨bb, off + k * 2, none⟩) HC.out.1).trans HC.out.2.1
            have e1 := (HQ.out.hW.cell (p := ⟨bb, off + k * 2 + 1, none⟩) HC.out.1).trans HC.out.2.2
            obtain ⟨q0, q1⟩ := put_cell HQ.out.hp
            go_wp2_with (first
              | (at_builtin; refine wp_app_seq rfl (.tmp 31) (.tmp 33) 24 38 _ 2 24 Try.underlying24 info_P rfl (by omega) rfl (w.heap.size + 1) (.slice A1 n1 c1) _ o.length 1 (prC o) _ rfl rfl (ownsRow_over HQ.out.ho (bmore (bself wq) _)) (Seq.lit_ wq [.string (mkB p.name), .int .i64 p.val] _) (by simp [Value.oneCell']) (by have := HQ.out.short; have := HM.out; have := HN.out; omega) (by have := HQ.out.hz; simp; omega) ?_; intro v8 w8 hg; obtain ⟨A8, n8, c8, rfl⟩ := own_slice hg.1; have HP8 := Lib.hid (HQ.out.place hg HX.out HA.out HXP.out); clear hg; clear e0 e1 q0 q1; have e0 := (HP8.out.hW.cell (p := ⟨bb, off + k * 2, none⟩) HC.out.1).trans HC.out.2.1; have e1 := (HP8.out.hW.cell (p := ⟨bb, off + k * 2 + 1, none⟩) HC.out.1).trans HC.out.2.2)
              | (at_builtin; refine wp_app_seq rfl (.tmp 35) (.tmp 40) 24 38 _ 2 24 Try.underlying24 info_P rfl (by omega) rfl (w.heap.size + 1) (.slice A8 n8 c8) _ (o ++ [p]).length 1 (prC (o ++ [p])) _ rfl rfl (ownsRow_over HP8.out.ho (bmore (bself w8) _)) (Seq.lit_ w8 [.string (mkB x.name), .int .i64 x.val] _) (by simp [Value.oneCell']) (by have := HP8.out.short; have := HM.out; have := HN.out; omega) (by have := HP8.out.hz; simp; omega) ?_; intro v9 w9 hg; obtain ⟨A9, n9, c9, rfl⟩ := own_slice hg.1; have HP9 := Lib.hid (HP8.out.pushed hg HX.out (.inl rfl)); clear hg))
            go_roundw
            case rel => exact ⟨k + 1, _, _, by omega, by go_num, rfl, HP9⟩
            case measure => simp [intOf]; omega
    · have hlt2 : ¬ ((k : Nat) : Int) < (n : Int) := by omega
      have hkn : k = l.length := by have := HN.out; omega
      cases b with
      | true =>
        go_wp2
        go_ret
        refine ⟨_, rfl, ?_, HP.out.hW⟩
        have hq := HP.out.hq
        rw [if_pos rfl, hkn, List.drop_length, List.append_nil] at hq
        rw [hq]
        exact ownsRow_mono HP.out.ho (Nat.le_succ _)
      | false =>
        obtain ⟨q0, q1⟩ := put_cell HP.out.hp
        have HKN := Lib.hid hkn
        clear hkn
        go_wp2_with (at_builtin; (refine wp_app_seq rfl (.tmp 44) (.tmp 46) 24 38 _ 2 24 Try.underlying24 info_P rfl (by omega) rfl (w.heap.size + 1) (.slice A1 n1 c1) _ o.length 1 (prC o) _ rfl rfl (ownsRow_over HP.out.ho (bmore (bself wr) _)) (Seq.lit_ wr [.string (mkB p.name), .int .i64 p.val] _) (by simp [Value.oneCell']) (by have := HP.out.short; have := HM.out; have := HN.out; omega) (by have := HP.out.hz; simp; omega) ?_; intro v1 w1 hg; obtain ⟨A2, n2, c2, rfl⟩ := own_slice hg.1; have HG := Lib.hid hg; clear hg))
        go_ret
        have hq := HP.out.hq
        rw [if_neg Bool.false_ne_true, HKN.out, List.drop_length] at hq
        refine ⟨_, rfl, ?_, ((HP.out.hW.alloc (Nat.le_trans (Nat.le_succ _) HP.out.hz) _).trans (HG.out.2.2.2.mono (Nat.le_succ _)))⟩
        rw [hq]
        exact ownsRow_mono (OwnsP.join HG.out.1 rfl rfl) (Nat.le_succ _)
end Go.Proofs.Ytckhhphchphmlaa
