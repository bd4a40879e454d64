/-
  The walk of the law LabelOpposite.
-/
import Derived.Test.YtckhhphchphmlaaWalkLabelOf
namespace Go.Proofs.Ytckhhphchphmlaa
open Go.RowKit
set_option linter.unusedVariables false

set_option maxRecDepth 100000 in
set_option maxHeartbeats 2000000 in
theorem opposite_at (nm : List UInt8) (pv v : Int) (o : List UInt8) (W : World) (s so : ByteArray) (hs : s = mkB nm) (hso : so = mkB o) (b1 b2 b3 b4 b5 b6 b0 : Bool)
    (h1 : holdsL [⟨nm, pv⟩] nm 1 v = b1) (h2 : holdsL [⟨nm, pv⟩] nm 2 v = b2) (h3 : holdsL [⟨nm, pv⟩] nm 3 v = b3) (h4 : holdsL [⟨nm, pv⟩] nm 4 v = b4) (h5 : holdsL [⟨nm, pv⟩] nm 5 v = b5) (h6 : holdsL [⟨nm, pv⟩] nm 6 v = b6) (h0 : holdsL [⟨nm, pv⟩] o 0 0 = b0) (hq : (o == nm) = b0)
    (ht : (b3 = true ∧ b1 = false ∧ b5 = false ∨ b3 = false ∧ b1 = true ∧ b5 = false ∨ b3 = false ∧ b1 = false ∧ b5 = true)) (ht4 : b4 = !b5) (ht6 : b6 = !b3) (ht2 : b2 = (b3 || b5)) :
    Calls Try.prog 8 #[.agg #[.string s, .int .i64 pv], .int .i64 v, .string so] W fun e w' => e = .returned (.bool true) ∧ Below W.heap.size W w' := by
  have heq : (so.toList == s.toList) = b0 := by rw [hs, hso, mkB_toList, mkB_toList]; exact hq
  have H1 := Lib.hid (fun A w (h : Props w w.heap.size (.slice A 1 1) [⟨nm, pv⟩]) => lholds_s A 1 1 [⟨nm, pv⟩] s nm 1 v w hs h (by simp) h1)
  have H2 := Lib.hid (fun A w (h : Props w w.heap.size (.slice A 1 1) [⟨nm, pv⟩]) => lholds_s A 1 1 [⟨nm, pv⟩] s nm 2 v w hs h (by simp) h2)
  have H3 := Lib.hid (fun A w (h : Props w w.heap.size (.slice A 1 1) [⟨nm, pv⟩]) => lholds_s A 1 1 [⟨nm, pv⟩] s nm 3 v w hs h (by simp) h3)
  have H4 := Lib.hid (fun A w (h : Props w w.heap.size (.slice A 1 1) [⟨nm, pv⟩]) => lholds_s A 1 1 [⟨nm, pv⟩] s nm 4 v w hs h (by simp) h4)
  have H5 := Lib.hid (fun A w (h : Props w w.heap.size (.slice A 1 1) [⟨nm, pv⟩]) => lholds_s A 1 1 [⟨nm, pv⟩] s nm 5 v w hs h (by simp) h5)
  have H6 := Lib.hid (fun A w (h : Props w w.heap.size (.slice A 1 1) [⟨nm, pv⟩]) => lholds_s A 1 1 [⟨nm, pv⟩] s nm 6 v w hs h (by simp) h6)
  have H0 := Lib.hid (fun A w (h : Props w w.heap.size (.slice A 1 1) [⟨nm, pv⟩]) => lholds_s A 1 1 [⟨nm, pv⟩] so o 0 0 w hso h (by simp) h0)
  have HA := Lib.hid (awake5_any (W.alloc (.cells #[.string s, .int .i64 pv] 38)))
  have HX : Hid (∀ w : World, Props (w.alloc (.cells #[.string s, .int .i64 pv] 38)) (w.alloc (.cells #[.string s, .int .i64 pv] 38)).heap.size (.slice (some ⟨w.heap.size, 0, none⟩) 1 1) [⟨nm, pv⟩]) := Lib.hid fun w => props_lit w [⟨nm, pv⟩] _ _ (by rw [hs]; rfl)
  have HQ := Lib.hid heq
  clear h0 h1 h2 h3 h4 h5 h6 hq hs hso heq
  rcases ht with ⟨rfl, rfl, rfl⟩ | ⟨rfl, rfl, rfl⟩ | ⟨rfl, rfl, rfl⟩
  all_goals subst ht4
  all_goals subst ht6
  all_goals subst ht2
  · cases b0 with
    | false =>
      have heq := HQ.out
      go_enter Try.func8, Try.ntmps8
      go_wp2_with (first
        | (go_at_call 9; (with_reducible refine HA.out.mono ?_); rintro e w1 ⟨rfl, hb⟩; obtain ⟨hx, hB, hz⟩ := one_block hb; have b0 := (heap_cell hx 0).trans rfl; have b1 := (heap_cell hx 1).trans rfl; have HB := Lib.hid hB; have hb2 := bmore (bself w1) (.cells #[.string s, .int .i64 pv] 38); have HP := Lib.hid (HX.out w1); have b0 := (hb2.cell (p := ⟨W.heap.size, 0, none⟩) hz).trans b0; have b1 := (hb2.cell (p := ⟨W.heap.size, 1, none⟩) hz).trans b1; have HG := Lib.hid (Nat.lt_of_lt_of_le (show W.heap.size < _ from hz) hb2.size); have HB := Lib.hid (bstep hB hb2); clear hb hx hB hz hb2)
        | (go_at_call 20; (with_reducible refine (H1.out _ _ HP.out).mono ?_); rintro e w2 ⟨rfl, hb⟩; have b0 := (hb.cell HG.out).trans b0; have b1 := (hb.cell HG.out).trans b1; have HP := Lib.hid (HP.out.over (Nat.le_refl _) hb); have HB := Lib.hid (bstep HB.out hb); have HG := Lib.hid (Nat.lt_of_lt_of_le HG.out hb.size); clear hb)
        | (go_at_call 20; (with_reducible refine (H2.out _ _ HP.out).mono ?_); rintro e w2 ⟨rfl, hb⟩; have b0 := (hb.cell HG.out).trans b0; have b1 := (hb.cell HG.out).trans b1; have HP := Lib.hid (HP.out.over (Nat.le_refl _) hb); have HB := Lib.hid (bstep HB.out hb); have HG := Lib.hid (Nat.lt_of_lt_of_le HG.out hb.size); clear hb)
        | (go_at_call 20; (with_reducible refine (H3.out _ _ HP.out).mono ?_); rintro e w2 ⟨rfl, hb⟩; have b0 := (hb.cell HG.out).trans b0; have b1 := (hb.cell HG.out).trans b1; have HP := Lib.hid (HP.out.over (Nat.le_refl _) hb); have HB := Lib.hid (bstep HB.out hb); have HG := Lib.hid (Nat.lt_of_lt_of_le HG.out hb.size); clear hb)
        | (go_at_call 20; (with_reducible refine (H4.out _ _ HP.out).mono ?_); rintro e w2 ⟨rfl, hb⟩; have b0 := (hb.cell HG.out).trans b0; have b1 := (hb.cell HG.out).trans b1; have HP := Lib.hid (HP.out.over (Nat.le_refl _) hb); have HB := Lib.hid (bstep HB.out hb); have HG := Lib.hid (Nat.lt_of_lt_of_le HG.out hb.size); clear hb)
        | (go_at_call 20; (with_reducible refine (H5.out _ _ HP.out).mono ?_); rintro e w2 ⟨rfl, hb⟩; have b0 := (hb.cell HG.out).trans b0; have b1 := (hb.cell HG.out).trans b1; have HP := Lib.hid (HP.out.over (Nat.le_refl _) hb); have HB := Lib.hid (bstep HB.out hb); have HG := Lib.hid (Nat.lt_of_lt_of_le HG.out hb.size); clear hb)
        | (go_at_call 20; (with_reducible refine (H6.out _ _ HP.out).mono ?_); rintro e w2 ⟨rfl, hb⟩; have b0 := (hb.cell HG.out).trans b0; have b1 := (hb.cell HG.out).trans b1; have HP := Lib.hid (HP.out.over (Nat.le_refl _) hb); have HB := Lib.hid (bstep HB.out hb); have HG := Lib.hid (Nat.lt_of_lt_of_le HG.out hb.size); clear hb)
        | (go_at_call 20; (with_reducible refine (H0.out _ _ HP.out).mono ?_); rintro e w2 ⟨rfl, hb⟩; have b0 := (hb.cell HG.out).trans b0; have b1 := (hb.cell HG.out).trans b1; have HP := Lib.hid (HP.out.over (Nat.le_refl _) hb); have HB := Lib.hid (bstep HB.out hb); have HG := Lib.hid (Nat.lt_of_lt_of_le HG.out hb.size); clear hb))
      go_ret
      exact ⟨rfl, HB.out⟩
    | true =>
      have heq := HQ.out
      go_enter Try.func8, Try.ntmps8
      go_wp2_with (first
        | (go_at_call 9; (with_reducible refine HA.out.mono ?_); rintro e w1 ⟨rfl, hb⟩; obtain ⟨hx, hB, hz⟩ := one_block hb; have b0 := (heap_cell hx 0).trans rfl; have b1 := (heap_cell hx 1).trans rfl; have HB := Lib.hid hB; have hb2 := bmore (bself w1) (.cells #[.string s, .int .i64 pv] 38); have HP := Lib.hid (HX.out w1); have b0 := (hb2.cell (p := ⟨W.heap.size, 0, none⟩) hz).trans b0; have b1 := (hb2.cell (p := ⟨W.heap.size, 1, none⟩) hz).trans b1; have HG := Lib.hid (Nat.lt_of_lt_of_le (show W.heap.size < _ from hz) hb2.size); have HB := Lib.hid (bstep hB hb2); clear hb hx hB hz hb2)
        | (go_at_call 20; (with_reducible refine (H1.out _ _ HP.out).mono ?_); rintro e w2 ⟨rfl, hb⟩; have b0 := (hb.cell HG.out).trans b0; have b1 := (hb.cell HG.out).trans b1; have HP := Lib.hid (HP.out.over (Nat.le_refl _) hb); have HB := Lib.hid (bstep HB.out hb); have HG := Lib.hid (Nat.lt_of_lt_of_le HG.out hb.size); clear hb)
        | (go_at_call 20; (with_reducible refine (H2.out _ _ HP.out).mono ?_); rintro e w2 ⟨rfl, hb⟩; have b0 := (hb.cell HG.out).trans b0; have b1 := (hb.cell HG.out).trans b1; have HP := Lib.hid (HP.out.over (Nat.le_refl _) hb); have HB := Lib.hid (bstep HB.out hb); have HG := Lib.hid (Nat.lt_of_lt_of_le HG.out hb.size); clear hb)
        | (go_at_call 20; (with_reducible refine (H3.out _ _ HP.out).mono ?_); rintro e w2 ⟨rfl, hb⟩; have b0 := (hb.cell HG.out).trans b0; have b1 := (hb.cell HG.out).trans b1; have HP := Lib.hid (HP.out.over (Nat.le_refl _) hb); have HB := Lib.hid (bstep HB.out hb); have HG := Lib.hid (Nat.lt_of_lt_of_le HG.out hb.size); clear hb)
        | (go_at_call 20; (with_reducible refine (H4.out _ _ HP.out).mono ?_); rintro e w2 ⟨rfl, hb⟩; have b0 := (hb.cell HG.out).trans b0; have b1 := (hb.cell HG.out).trans b1; have HP := Lib.hid (HP.out.over (Nat.le_refl _) hb); have HB := Lib.hid (bstep HB.out hb); have HG := Lib.hid (Nat.lt_of_lt_of_le HG.out hb.size); clear hb)
        | (go_at_call 20; (with_reducible refine (H5.out _ _ HP.out).mono ?_); rintro e w2 ⟨rfl, hb⟩; have b0 := (hb.cell HG.out).trans b0; have b1 := (hb.cell HG.out).trans b1; have HP := Lib.hid (HP.out.over (Nat.le_refl _) hb); have HB := Lib.hid (bstep HB.out hb); have HG := Lib.hid (Nat.lt_of_lt_of_le HG.out hb.size); clear hb)
        | (go_at_call 20; (with_reducible refine (H6.out _ _ HP.out).mono ?_); rintro e w2 ⟨rfl, hb⟩; have b0 := (hb.cell HG.out).trans b0; have b1 := (hb.cell HG.out).trans b1; have HP := Lib.hid (HP.out.over (Nat.le_refl _) hb); have HB := Lib.hid (bstep HB.out hb); have HG := Lib.hid (Nat.lt_of_lt_of_le HG.out hb.size); clear hb)
        | (go_at_call 20; (with_reducible refine (H0.out _ _ HP.out).mono ?_); rintro e w2 ⟨rfl, hb⟩; have b0 := (hb.cell HG.out).trans b0; have b1 := (hb.cell HG.out).trans b1; have HP := Lib.hid (HP.out.over (Nat.le_refl _) hb); have HB := Lib.hid (bstep HB.out hb); have HG := Lib.hid (Nat.lt_of_lt_of_le HG.out hb.size); clear hb))
      go_ret
      exact ⟨rfl, HB.out⟩
  · cases b0 with
    | false =>
      have heq := HQ.out
      go_enter Try.func8, Try.ntmps8
      go_wp2_with (first
        | (go_at_call 9; (with_reducible refine HA.out.mono ?_); rintro e w1 ⟨rfl, hb⟩; obtain ⟨hx, hB, hz⟩ := one_block hb; have b0 := (heap_cell hx 0).trans rfl; have b1 := (heap_cell hx 1).trans rfl; have HB := Lib.hid hB; have hb2 := bmore (bself w1) (.cells #[.string s, .int .i64 pv] 38); have HP := Lib.hid (HX.out w1); have b0 := (hb2.cell (p := ⟨W.heap.size, 0, none⟩) hz).trans b0; have b1 := (hb2.cell (p := ⟨W.heap.size, 1, none⟩) hz).trans b1; have HG := Lib.hid (Nat.lt_of_lt_of_le (show W.heap.size < _ from hz) hb2.size); have HB := Lib.hid (bstep hB hb2); clear hb hx hB hz hb2)
        | (go_at_call 20; (with_reducible refine (H1.out _ _ HP.out).mono ?_); rintro e w2 ⟨rfl, hb⟩; have b0 := (hb.cell HG.out).trans b0; have b1 := (hb.cell HG.out).trans b1; have HP := Lib.hid (HP.out.over (Nat.le_refl _) hb); have HB := Lib.hid (bstep HB.out hb); have HG := Lib.hid (Nat.lt_of_lt_of_le HG.out hb.size); clear hb)
        | (go_at_call 20; (with_reducible refine (H2.out _ _ HP.out).mono ?_); rintro e w2 ⟨rfl, hb⟩; have b0 := (hb.cell HG.out).trans b0; have b1 := (hb.cell HG.out).trans b1; have HP := Lib.hid (HP.out.over (Nat.le_refl _) hb); have HB := Lib.hid (bstep HB.out hb); have HG := Lib.hid (Nat.lt_of_lt_of_le HG.out hb.size); clear hb)
        | (go_at_call 20; (with_reducible refine (H3.out _ _ HP.out).mono ?_); rintro e w2 ⟨rfl, hb⟩; have b0 := (hb.cell HG.out).trans b0; have b1 := (hb.cell HG.out).trans b1; have HP := Lib.hid (HP.out.over (Nat.le_refl _) hb); have HB := Lib.hid (bstep HB.out hb); have HG := Lib.hid (Nat.lt_of_lt_of_le HG.out hb.size); clear hb)
        | (go_at_call 20; (with_reducible refine (H4.out _ _ HP.out).mono ?_); rintro e w2 ⟨rfl, hb⟩; have b0 := (hb.cell HG.out).trans b0; have b1 := (hb.cell HG.out).trans b1; have HP := Lib.hid (HP.out.over (Nat.le_refl _) hb); have HB := Lib.hid (bstep HB.out hb); have HG := Lib.hid (Nat.lt_of_lt_of_le HG.out hb.size); clear hb)
        | (go_at_call 20; (with_reducible refine (H5.out _ _ HP.out).mono ?_); rintro e w2 ⟨rfl, hb⟩; have b0 := (hb.cell HG.out).trans b0; have b1 := (hb.cell HG.out).trans b1; have HP := Lib.hid (HP.out.over (Nat.le_refl _) hb); have HB := Lib.hid (bstep HB.out hb); have HG := Lib.hid (Nat.lt_of_lt_of_le HG.out hb.size); clear hb)
        | (go_at_call 20; (with_reducible refine (H6.out _ _ HP.out).mono ?_); rintro e w2 ⟨rfl, hb⟩; have b0 := (hb.cell HG.out).trans b0; have b1 := (hb.cell HG.out).trans b1; have HP := Lib.hid (HP.out.over (Nat.le_refl _) hb); have HB := Lib.hid (bstep HB.out hb); have HG := Lib.hid (Nat.lt_of_lt_of_le HG.out hb.size); clear hb)
        | (go_at_call 20; (with_reducible refine (H0.out _ _ HP.out).mono ?_); rintro e w2 ⟨rfl, hb⟩; have b0 := (hb.cell HG.out).trans b0; have b1 := (hb.cell HG.out).trans b1; have HP := Lib.hid (HP.out.over (Nat.le_refl _) hb); have HB := Lib.hid (bstep HB.out hb); have HG := Lib.hid (Nat.lt_of_lt_of_le HG.out hb.size); clear hb))
      go_ret
      exact ⟨rfl, HB.out⟩
    | true =>
      have heq := HQ.out
      go_enter Try.func8, Try.ntmps8
      go_wp2_with (first
        | (go_at_call 9; (with_reducible refine HA.out.mono ?_); rintro e w1 ⟨rfl, hb⟩; obtain ⟨hx, hB, hz⟩ := one_block hb; have b0 := (heap_cell hx 0).trans rfl; have b1 := (heap_cell hx 1).trans rfl; have HB := Lib.hid hB; have hb2 := bmore (bself w1) (.cells #[.string s, .int .i64 pv] 38); have HP := Lib.hid (HX.out w1); have b0 := (hb2.cell (p := ⟨W.heap.size, 0, none⟩) hz).trans b0; have b1 := (hb2.cell (p := ⟨W.heap.size, 1, none⟩) hz).trans b1; have HG := Lib.hid (Nat.lt_of_lt_of_le (show W.heap.size < _ from hz) hb2.size); have HB := Lib.hid (bstep hB hb2); clear hb hx hB hz hb2)
        | (go_at_call 20; (with_reducible refine (H1.out _ _ HP.out).mono ?_); rintro e w2 ⟨rfl, hb⟩; have b0 := (hb.cell HG.out).trans b0; have b1 := (hb.cell HG.out).trans b1; have HP := Lib.hid (HP.out.over (Nat.le_refl _) hb); have HB := Lib.hid (bstep HB.out hb); have HG := Lib.hid (Nat.lt_of_lt_of_le HG.out hb.size); clear hb)
        | (go_at_call 20; (with_reducible refine (H2.out _ _ HP.out).mono ?_); rintro e w2 ⟨rfl, hb⟩; have b0 := (hb.cell HG.out).trans b0; have b1 := (hb.cell HG.out).trans b1; have HP := Lib.hid (HP.out.over (Nat.le_refl _) hb); have HB := Lib.hid (bstep HB.out hb); have HG := Lib.hid (Nat.lt_of_lt_of_le HG.out hb.size); clear hb)
        | (go_at_call 20; (with_reducible refine (H3.out _ _ HP.out).mono ?_); rintro e w2 ⟨rfl, hb⟩; have b0 := (hb.cell HG.out).trans b0; have b1 := (hb.cell HG.out).trans b1; have HP := Lib.hid (HP.out.over (Nat.le_refl _) hb); have HB := Lib.hid (bstep HB.out hb); have HG := Lib.hid (Nat.lt_of_lt_of_le HG.out hb.size); clear hb)
        | (go_at_call 20; (with_reducible refine (H4.out _ _ HP.out).mono ?_); rintro e w2 ⟨rfl, hb⟩; have b0 := (hb.cell HG.out).trans b0; have b1 := (hb.cell HG.out).trans b1; have HP := Lib.hid (HP.out.over (Nat.le_refl _) hb); have HB := Lib.hid (bstep HB.out hb); have HG := Lib.hid (Nat.lt_of_lt_of_le HG.out hb.size); clear hb)
        | (go_at_call 20; (with_reducible refine (H5.out _ _ HP.out).mono ?_); rintro e w2 ⟨rfl, hb⟩; have b0 := (hb.cell HG.out).trans b0; have b1 := (hb.cell HG.out).trans b1; have HP := Lib.hid (HP.out.over (Nat.le_refl _) hb); have HB := Lib.hid (bstep HB.out hb); have HG := Lib.hid (Nat.lt_of_lt_of_le HG.out hb.size); clear hb)
        | (go_at_call 20; (with_reducible refine (H6.out _ _ HP.out).mono ?_); rintro e w2 ⟨rfl, hb⟩; have b0 := (hb.cell HG.out).trans b0; have b1 := (hb.cell HG.out).trans b1; have HP := Lib.hid (HP.out.over (Nat.le_refl _) hb); have HB := Lib.hid (bstep HB.out hb); have HG := Lib.hid (Nat.lt_of_lt_of_le HG.out hb.size); clear hb)
        | (go_at_call 20; (with_reducible refine (H0.out _ _ HP.out).mono ?_); rintro e w2 ⟨rfl, hb⟩; have b0 := (hb.cell HG.out).trans b0; have b1 := (hb.cell HG.out).trans b1; have HP := Lib.hid (HP.out.over (Nat.le_refl _) hb); have HB := Lib.hid (bstep HB.out hb); have HG := Lib.hid (Nat.lt_of_lt_of_le HG.out hb.size); clear hb))
      go_ret
      exact ⟨rfl, HB.out⟩
  · cases b0 with
    | false =>
      have heq := HQ.out
      go_enter Try.func8, Try.ntmps8
      go_wp2_with (first
        | (go_at_call 9; (with_reducible refine HA.out.mono ?_); rintro e w1 ⟨rfl, hb⟩; obtain ⟨hx, hB, hz⟩ := one_block hb; have b0 := (heap_cell hx 0).trans rfl; have b1 := (heap_cell hx 1).trans rfl; have HB := Lib.hid hB; have hb2 := bmore (bself w1) (.cells #[.string s, .int .i64 pv] 38); have HP := Lib.hid (HX.out w1); have b0 := (hb2.cell (p := ⟨W.heap.size, 0, none⟩) hz).trans b0; have b1 := (hb2.cell (p := ⟨W.heap.size, 1, none⟩) hz).trans b1; have HG := Lib.hid (Nat.lt_of_lt_of_le (show W.heap.size < _ from hz) hb2.size); have HB := Lib.hid (bstep hB hb2); clear hb hx hB hz hb2)
        | (go_at_call 20; (with_reducible refine (H1.out _ _ HP.out).mono ?_); rintro e w2 ⟨rfl, hb⟩; have b0 := (hb.cell HG.out).trans b0; have b1 := (hb.cell HG.out).trans b1; have HP := Lib.hid (HP.out.over (Nat.le_refl _) hb); have HB := Lib.hid (bstep HB.out hb); have HG := Lib.hid (Nat.lt_of_lt_of_le HG.out hb.size); clear hb)
        | (go_at_call 20; (with_reducible refine (H2.out _ _ HP.out).mono ?_); rintro e w2 ⟨rfl, hb⟩; have b0 := (hb.cell HG.out).trans b0; have b1 := (hb.cell HG.out).trans b1; have HP := Lib.hid (HP.out.over (Nat.le_refl _) hb); have HB := Lib.hid (bstep HB.out hb); have HG := Lib.hid (Nat.lt_of_lt_of_le HG.out hb.size); clear hb)
        | (go_at_call 20; (with_reducible refine (H3.out _ _ HP.out).mono ?_); rintro e w2 ⟨rfl, hb⟩; have b0 := (hb.cell HG.out).trans b0; have b1 := (hb.cell HG.out).trans b1; have HP := Lib.hid (HP.out.over (Nat.le_refl _) hb); have HB := Lib.hid (bstep HB.out hb); have HG := Lib.hid (Nat.lt_of_lt_of_le HG.out hb.size); clear hb)
        | (go_at_call 20; (with_reducible refine (H4.out _ _ HP.out).mono ?_); rintro e w2 ⟨rfl, hb⟩; have b0 := (hb.cell HG.out).trans b0; have b1 := (hb.cell HG.out).trans b1; have HP := Lib.hid (HP.out.over (Nat.le_refl _) hb); have HB := Lib.hid (bstep HB.out hb); have HG := Lib.hid (Nat.lt_of_lt_of_le HG.out hb.size); clear hb)
        | (go_at_call 20; (with_reducible refine (H5.out _ _ HP.out).mono ?_); rintro e w2 ⟨rfl, hb⟩; have b0 := (hb.cell HG.out).trans b0; have b1 := (hb.cell HG.out).trans b1; have HP := Lib.hid (HP.out.over (Nat.le_refl _) hb); have HB := Lib.hid (bstep HB.out hb); have HG := Lib.hid (Nat.lt_of_lt_of_le HG.out hb.size); clear hb)
        | (go_at_call 20; (with_reducible refine (H6.out _ _ HP.out).mono ?_); rintro e w2 ⟨rfl, hb⟩; have b0 := (hb.cell HG.out).trans b0; have b1 := (hb.cell HG.out).trans b1; have HP := Lib.hid (HP.out.over (Nat.le_refl _) hb); have HB := Lib.hid (bstep HB.out hb); have HG := Lib.hid (Nat.lt_of_lt_of_le HG.out hb.size); clear hb)
        | (go_at_call 20; (with_reducible refine (H0.out _ _ HP.out).mono ?_); rintro e w2 ⟨rfl, hb⟩; have b0 := (hb.cell HG.out).trans b0; have b1 := (hb.cell HG.out).trans b1; have HP := Lib.hid (HP.out.over (Nat.le_refl _) hb); have HB := Lib.hid (bstep HB.out hb); have HG := Lib.hid (Nat.lt_of_lt_of_le HG.out hb.size); clear hb))
      go_ret
      exact ⟨rfl, HB.out⟩
    | true =>
      have heq := HQ.out
      go_enter Try.func8, Try.ntmps8
      go_wp2_with (first
        | (go_at_call 9; (with_reducible refine HA.out.mono ?_); rintro e w1 ⟨rfl, hb⟩; obtain ⟨hx, hB, hz⟩ := one_block hb; have b0 := (heap_cell hx 0).trans rfl; have b1 := (heap_cell hx 1).trans rfl; have HB := Lib.hid hB; have hb2 := bmore (bself w1) (.cells #[.string s, .int .i64 pv] 38); have HP := Lib.hid (HX.out w1); have b0 := (hb2.cell (p := ⟨W.heap.size, 0, none⟩) hz).trans b0; have b1 := (hb2.cell (p := ⟨W.heap.size, 1, none⟩) hz).trans b1; have HG := Lib.hid (Nat.lt_of_lt_of_le (show W.heap.size < _ from hz) hb2.size); have HB := Lib.hid (bstep hB hb2); clear hb hx hB hz hb2)
        | (go_at_call 20; (with_reducible refine (H1.out _ _ HP.out).mono ?_); rintro e w2 ⟨rfl, hb⟩; have b0 := (hb.cell HG.out).trans b0; have b1 := (hb.cell HG.out).trans b1; have HP := Lib.hid (HP.out.over (Nat.le_refl _) hb); have HB := Lib.hid (bstep HB.out hb); have HG := Lib.hid (Nat.lt_of_lt_of_le HG.out hb.size); clear hb)
        | (go_at_call 20; (with_reducible refine (H2.out _ _ HP.out).mono ?_); rintro e w2 ⟨rfl, hb⟩; have b0 := (hb.cell HG.out).trans b0; have b1 := (hb.cell HG.out).trans b1; have HP := Lib.hid (HP.out.over (Nat.le_refl _) hb); have HB := Lib.hid (bstep HB.out hb); have HG := Lib.hid (Nat.lt_of_lt_of_le HG.out hb.size); clear hb)
        | (go_at_call 20; (with_reducible refine (H3.out _ _ HP.out).mono ?_); rintro e w2 ⟨rfl, hb⟩; have b0 := (hb.cell HG.out).trans b0; have b1 := (hb.cell HG.out).trans b1; have HP := Lib.hid (HP.out.over (Nat.le_refl _) hb); have HB := Lib.hid (bstep HB.out hb); have HG := Lib.hid (Nat.lt_of_lt_of_le HG.out hb.size); clear hb)
        | (go_at_call 20; (with_reducible refine (H4.out _ _ HP.out).mono ?_); rintro e w2 ⟨rfl, hb⟩; have b0 := (hb.cell HG.out).trans b0; have b1 := (hb.cell HG.out).trans b1; have HP := Lib.hid (HP.out.over (Nat.le_refl _) hb); have HB := Lib.hid (bstep HB.out hb); have HG := Lib.hid (Nat.lt_of_lt_of_le HG.out hb.size); clear hb)
        | (go_at_call 20; (with_reducible refine (H5.out _ _ HP.out).mono ?_); rintro e w2 ⟨rfl, hb⟩; have b0 := (hb.cell HG.out).trans b0; have b1 := (hb.cell HG.out).trans b1; have HP := Lib.hid (HP.out.over (Nat.le_refl _) hb); have HB := Lib.hid (bstep HB.out hb); have HG := Lib.hid (Nat.lt_of_lt_of_le HG.out hb.size); clear hb)
        | (go_at_call 20; (with_reducible refine (H6.out _ _ HP.out).mono ?_); rintro e w2 ⟨rfl, hb⟩; have b0 := (hb.cell HG.out).trans b0; have b1 := (hb.cell HG.out).trans b1; have HP := Lib.hid (HP.out.over (Nat.le_refl _) hb); have HB := Lib.hid (bstep HB.out hb); have HG := Lib.hid (Nat.lt_of_lt_of_le HG.out hb.size); clear hb)
        | (go_at_call 20; (with_reducible refine (H0.out _ _ HP.out).mono ?_); rintro e w2 ⟨rfl, hb⟩; have b0 := (hb.cell HG.out).trans b0; have b1 := (hb.cell HG.out).trans b1; have HP := Lib.hid (HP.out.over (Nat.le_refl _) hb); have HB := Lib.hid (bstep HB.out hb); have HG := Lib.hid (Nat.lt_of_lt_of_le HG.out hb.size); clear hb))
      go_ret
      exact ⟨rfl, HB.out⟩

theorem labelOpposite_any (nm : List UInt8) (pv v : Int) (o : List UInt8) (W : World) :
    Calls Try.prog 8 #[.agg #[.string (mkB nm), .int .i64 pv], .int .i64 v, .string (mkB o)] W fun e w' => e = .returned (.bool true) ∧ Below W.heap.size W w' := by
  obtain ⟨t1, t4, t6, t2, t0⟩ := opposite ⟨nm, pv⟩ v o
  refine opposite_at nm pv v o W _ _ rfl rfl _ _ _ _ _ _ _ rfl rfl rfl rfl rfl rfl rfl t0.symm ?_ t4 t6 t2
  revert t1
  cases holdsL [⟨nm, pv⟩] nm 3 v <;> cases holdsL [⟨nm, pv⟩] nm 1 v <;> cases holdsL [⟨nm, pv⟩] nm 5 v <;> simp
end Go.Proofs.Ytckhhphchphmlaa
