/-
  Package label's contract of Right.
-/
import Derived.Test.YtiflpjdiokloaaaDoorLabelOrd
import Derived.Test.YtiflpjdiokloaaaDoorPackH
import Derived.Deep.Cut
namespace Go.Proofs.YtiflpjdiokloaaaDoor
open Go.RowKit
set_option linter.unusedVariables false

theorem ord_ahead {x y : Pr} (h : aheadL x y = true) : ordL x y = -1 := by
  rcases ord_cases x y with ⟨_, q⟩ | ⟨p, _⟩ | ⟨p, _⟩
  · exact q
  · subst p; rw [ahead_irr] at h; cases h
  · have := ahead_trans h p; rw [ahead_irr] at this; cases this
theorem ord_not {x y : Pr} (h : aheadL x y = false) : 0 ≤ ordL x y := by
  rcases ord_cases x y with ⟨p, _⟩ | ⟨_, q⟩ | ⟨_, q⟩
  · rw [p] at h; cases h
  · omega
  · omega
/-- What the test of two neighbours reads: the second one in its box. -/
def RightC (w : World) (bb j g : Nat) (x y : Pr) (w' : World) : Prop :=
  w'.cell? ⟨g, 0, none⟩ = some (.string (mkB x.name)) ∧ w'.cell? ⟨g, 1, none⟩ = some (.int .i64 x.val) ∧ w'.cell? ⟨bb, j, none⟩ = some (.string (mkB y.name)) ∧ w'.cell? ⟨bb, j + 1, none⟩ = some (.int .i64 y.val) ∧ Hid (g < w'.heap.size ∧ bb < w.heap.size ∧ Below w.heap.size w w')
theorem rightC_over {w w1 w2 : World} {bb j g : Nat} {x y : Pr} (h : RightC w bb j g x y w1) (hb : Below w1.heap.size w1 w2) : RightC w bb j g x y w2 := by
  obtain ⟨h1, h2, h3, h4, h5⟩ := h
  have hg : g < w1.heap.size := h5.out.1
  have hlt : bb < w1.heap.size := by have := h5.out.2.2.size; have := h5.out.2.1; omega
  exact ⟨(hb.cell (p := ⟨g, 0, none⟩) hg).trans h1, (hb.cell (p := ⟨g, 1, none⟩) hg).trans h2, (hb.cell (p := ⟨bb, j, none⟩) hlt).trans h3, (hb.cell (p := ⟨bb, j + 1, none⟩) hlt).trans h4, Lib.hid ⟨Nat.lt_of_lt_of_le hg hb.size, h5.out.2.1, bstep h5.out.2.2 hb⟩⟩
theorem rightC_drew {w w1 : World} {bb j g : Nat} {x y : Pr} (h : RightC w bb j g x y w1) : RightC w bb j g x y w1.drew := rightC_over h (bself w1).drew
set_option maxRecDepth 100000 in
set_option maxHeartbeats 1000000 in
theorem lright_any (A : Option Addr) (n c : Nat) (l : List Pr) (w : World) (hl : Props w w.heap.size (.slice A n c) l) (hm : l.length ≤ 1000) {q : Bool} (hq : rightL l = q) :
    Calls Tryd.prog 28 #[.slice A n c] w fun e w' => e = .returned (.bool q) ∧ Below w.heap.size w w' := by
  obtain ⟨hn, _⟩ := hl.len
  have HL := Lib.hid hl
  have HN := Lib.hid hn
  have HQ := Lib.hid hq
  have hk9 : (n : Int) ≤ 100000 := by omega
  clear hl hm hn hq
  go_enter Tryd.func28, Tryd.ntmps28
  go_wp2
  go_loopw [7] (fun i wr => ∃ (k : Nat), k ≤ n ∧ i = .int .i64 k ∧ Hid (Below w.heap.size w wr ∧ rightTo l k = true)) (fun i _ => n - (intOf i).toNat)
  case atStart => exact ⟨0, Nat.zero_le _, rfl, Lib.hid ⟨bself w, rfl⟩⟩
  case round =>
    obtain ⟨k, hk, rfl, HP⟩ := hrel
    by_cases hlt : k < n
    · have hkl : k < l.length := by have := HN.out; omega
      obtain ⟨bb, off, rfl⟩ := HL.out.some_ (by omega)
      obtain ⟨hbb, c0, c1⟩ := HL.out.cells k hkl
      have e0 := (HP.out.1.cell (p := ⟨bb, off + k * 2, none⟩) hbb).trans c0
      have e1 := (HP.out.1.cell (p := ⟨bb, off + k * 2 + 1, none⟩) hbb).trans c1
      obtain ⟨x, hx⟩ : ∃ x, l[k] = x := ⟨_, rfl⟩
      rw [hx] at e0 e1
      have hxd : l.getD k ⟨[], 0⟩ = x := by rw [List.getD, List.getElem?_eq_getElem hkl, hx]; rfl
      have HT := Lib.hid (And.intro hkl (And.intro hbb hxd))
      have hlt2 : ((k : Nat) : Int) < (n : Int) := by omega
      have hp0 := heap_alloc_new wr (.cells #[.string (mkB x.name), .int .i64 x.val] 58)
      have HB0 := bmore (bself wr) (.cells #[.string (mkB x.name), .int .i64 x.val] 58)
      have HB1 := Lib.hid (bmore HP.out.1 (.cells #[.string (mkB x.name), .int .i64 x.val] 58))
      go_upto_region 4 with (fail)
      generalize wr.alloc (.cells #[.string (mkB x.name), .int .i64 x.val] 58) = w1 at hp0 HB0 HB1 ⊢
      obtain ⟨p0, p1⟩ := put_cell hp0
      have hgl := heap_lt hp0
      have HR2 := Lib.hid HP.out.2
      generalize wr.heap.size = g at p0 p1 hgl ⊢
      clear e0 e1 hp0 HB0 HP
      cases hnx : nameL x.name with
      | false =>
        have HM := Lib.hid (fun w' => lname_at x.name w' hnx)
        have HR : Hid (rightAt l k = false) := Lib.hid (by unfold rightAt; rw [hxd, hnx]; rfl)
        clear c0 c1 hx hxd hnx hbb hgl
        go_wp2
        go_quiet (first | (go_at_call 55; refine Calls.quiet_of_same (HM.out _)))
        have HB := Lib.hid (bstep HB1.out (below_dN w1 nq))
        go_wp2
        go_ret
        exact ⟨by rw [← HQ.out, right_bad l k HT.out.1 HR.out]; rfl, HB.out⟩
      | true =>
        have HM := Lib.hid (fun w' => lname_at x.name w' hnx)
        by_cases hk0 : k = 0
        · have HR : Hid (rightAt l k = true) := Lib.hid (by unfold rightAt; rw [hxd, hnx, hk0]; rfl)
          subst hk0
          clear c0 c1 hx hxd hnx hbb hlt2 hgl
          go_wp2
          go_quiet (first | (go_at_call 55; refine Calls.quiet_of_same (HM.out _)))
          have HP2 := Lib.hid (And.intro (bstep HB1.out (below_dN w1 nq)) (show rightTo l (0 + 1) = true by rw [right_next, HR2.out, HR.out]; rfl))
          generalize w1.drewN nq = wq at HP2 ⊢
          go_wp2
          go_roundw
          case rel => exact ⟨0 + 1, by omega, rfl, HP2⟩
          case measure => simp [intOf]; omega
        · obtain ⟨m, rfl⟩ : ∃ m, k = m + 1 := ⟨k - 1, by omega⟩
          obtain ⟨_, d0, d1⟩ := HL.out.cells m (by omega)
          have g0 := (HB1.out.cell (p := ⟨bb, off + m * 2, none⟩) hbb).trans d0
          have g1 := (HB1.out.cell (p := ⟨bb, off + m * 2 + 1, none⟩) hbb).trans d1
          obtain ⟨y, hy⟩ : ∃ y, l[m] = y := ⟨_, rfl⟩
          rw [hy] at g0 g1
          have hyd : l.getD m ⟨[], 0⟩ = y := by rw [List.getD, List.getElem?_eq_getElem (by omega), hy]; rfl
          have HRA : Hid (rightAt l (m + 1) = aheadL y x) := Lib.hid (by unfold rightAt; rw [hxd, Nat.add_sub_cancel, hyd, hnx]; rfl)
          have hlt3 : (m : Int) < (n : Int) := by omega
          have hlt4 : (m : Int) + 1 < (n : Int) := by omega
          have hlt5 : (0 : Int) ≤ (m : Int) + 1 := by omega
          have hlt6 : (0 : Int) < (m : Int) + 1 := by omega
          clear c0 c1 d0 d1 hx hxd hy hyd hnx hlt2
          have hS : RightC w bb (off + m * 2) g x y w1 := ⟨p0, p1, g0, g1, Lib.hid ⟨hgl, hbb, HB1.out⟩⟩
          unfold RightC at hS
          clear p0 p1 g0 g1 hbb hgl
          have hwm : IntKind.i64.wrap (m : Int) = (m : Int) := IntWalk.i64_in _ (by omega)
          cases hax : aheadL y x with
          | false =>
            have HR := Lib.hid (HRA.out.trans hax)
            obtain ⟨r, hr⟩ : ∃ r, ordL y x = r := ⟨_, rfl⟩
            have hr0 : (0 : Int) ≤ r := by rw [← hr]; exact ord_not hax
            have HO := Lib.hid (fun w' => order_at y x w' hr)
            clear hax hr
            go_wp2
            go_region_held3 (fun w' => w'.cell? ⟨g, 0, none⟩ = some (.string (mkB x.name)) ∧ w'.cell? ⟨g, 1, none⟩ = some (.int .i64 x.val) ∧ w'.cell? ⟨bb, off + m * 2, none⟩ = some (.string (mkB y.name)) ∧ w'.cell? ⟨bb, off + m * 2 + 1, none⟩ = some (.int .i64 y.val) ∧ Hid (g < w'.heap.size ∧ bb < w.heap.size ∧ Below w.heap.size w w'))
              (first | assumption | exact rightC_drew (by assumption))
              (first
                | (go_at_call 55; ((with_reducible refine (HM.out _).mono ?_); rintro e w5 ⟨rfl, rfl⟩))
                | (go_at_call 56; ((with_reducible refine (HO.out _).mono ?_); rintro e w5 ⟨rfl, hb5⟩; have hs1 := rightC_over (by assumption) hb5)))
            obtain ⟨_, _, _, _, h5⟩ := hs1
            have HB5 := Lib.hid h5.out.2.2
            clear h5
            go_wp2
            go_ret
            exact ⟨by rw [← HQ.out, right_bad l (m + 1) HT.out.1 HR.out]; rfl, HB5.out⟩
          | true =>
            have HR := Lib.hid (HRA.out.trans hax)
            have HO := Lib.hid (fun w' => order_at y x w' (ord_ahead hax))
            clear hax
            go_wp2
            go_region_held3 (fun w' => w'.cell? ⟨g, 0, none⟩ = some (.string (mkB x.name)) ∧ w'.cell? ⟨g, 1, none⟩ = some (.int .i64 x.val) ∧ w'.cell? ⟨bb, off + m * 2, none⟩ = some (.string (mkB y.name)) ∧ w'.cell? ⟨bb, off + m * 2 + 1, none⟩ = some (.int .i64 y.val) ∧ Hid (g < w'.heap.size ∧ bb < w.heap.size ∧ Below w.heap.size w w'))
              (first | assumption | exact rightC_drew (by assumption))
              (first
                | (go_at_call 55; ((with_reducible refine (HM.out _).mono ?_); rintro e w5 ⟨rfl, rfl⟩))
                | (go_at_call 56; ((with_reducible refine (HO.out _).mono ?_); rintro e w5 ⟨rfl, hb5⟩; have hs1 := rightC_over (by assumption) hb5)))
            obtain ⟨_, _, _, _, h5⟩ := hs1
            have HP2 := Lib.hid (And.intro h5.out.2.2 (show rightTo l (m + 1 + 1) = true by rw [right_next, HR2.out, HR.out]; rfl))
            clear h5
            go_wp2
            go_roundw
            case rel => exact ⟨m + 1 + 1, by omega, by go_num, HP2⟩
            case measure => simp [intOf]; omega
    · have hlt2 : ¬ ((k : Nat) : Int) < (n : Int) := by omega
      have HK := Lib.hid (show k = l.length by have := HN.out; omega)
      go_wp2
      go_ret
      obtain ⟨h1, h2⟩ := HP.out
      rw [HK.out] at h2
      exact ⟨by rw [← HQ.out]; unfold rightL; rw [h2]; rfl, h1⟩
end Go.Proofs.YtiflpjdiokloaaaDoor
