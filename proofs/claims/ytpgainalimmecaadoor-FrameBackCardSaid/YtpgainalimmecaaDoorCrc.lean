/-
  Contract of package crc: Fits.
-/
import Derived.Test.YtpgainalimmecaaDoorCrcSum
namespace Go.Proofs.YtpgainalimmecaaDoor
open Go.RowKit
set_option linter.unusedVariables false

theorem fits_S {b off m c : Nat} {z : List UInt8} {W : World} (hR : Row W W.heap.size (some ⟨b, off + m, none⟩) (bc z) ∧ z.length = 3) {w' : World} (hb : Below W.heap.size W w') : (convert 22 9 (.slice (some ⟨b, off + m, none⟩) 3 (c - m))).run Tryd.prog w' = .ok (.string (mkB z)) w' ∧ Hid (Below W.heap.size W w') := by
  have h := run_str_any (c - m) (hR.1.below_ hb)
  rw [hR.2] at h
  exact ⟨h, Lib.hid hb⟩
theorem fits_drew {b off m c : Nat} {z : List UInt8} {W : World} (hR : Row W W.heap.size (some ⟨b, off + m, none⟩) (bc z) ∧ z.length = 3) {w' : World} (hb : Hid (Below W.heap.size W w')) : (convert 22 9 (.slice (some ⟨b, off + m, none⟩) 3 (c - m))).run Tryd.prog w'.drew = .ok (.string (mkB z)) w'.drew ∧ Hid (Below W.heap.size W w'.drew) :=
  fits_S hR hb.out.drew
theorem fsum (W : World) (hT : Tabs W) (m c : Nat) {b off : Nat} (y : List UInt8) (u : Nat) (w : World) (hy : y.length = m) (hm : m ≤ 1000000) (hr : Row W W.heap.size (some ⟨b, off, none⟩) (bc y)) (hW : Below W.heap.size W w) (hu : sumC y = u) :
    Calls Tryd.prog 28 #[.slice (some ⟨b, off, none⟩) m c] w fun e w' => e = .returned (.int .u32 (u : Nat)) ∧ Below w.heap.size w w' := by
  subst hy; subst hu
  exact csum_any W hT _ c y w hW ((hr.below_ hW).more hW.size) hm
theorem fput (u : Nat) (w : World) (hu : u < 4294967296) {p : List UInt8} (h : putC u = p) : Calls Tryd.prog 27 #[.int .u32 (u : Int)] w fun e w' => ∃ A c, e = .returned (.slice A p.length c) ∧ Row w' w'.heap.size A (bc p) ∧ Below w.heap.size w w' := by
  subst h
  refine (cput_any u w hu).mono fun e w' h => ?_
  obtain ⟨v, rfl, hl, hb⟩ := h
  obtain ⟨A, c, rfl, hr, _, _⟩ := lies_row hl
  exact ⟨A, c, rfl, hr, hb⟩

set_option maxRecDepth 100000 in
set_option maxHeartbeats 1000000 in
theorem cfits_some (W : World) (hT : Tabs W) (b off m n c : Nat) (y z p : List UInt8) (u : Nat) (q : Bool) (hn : n = m + 3) (hnc : n ≤ c) (hm : m ≤ 1000000) (hy : y.length = m) (hry : Row W W.heap.size (some ⟨b, off, none⟩) (bc y)) (hrz : Row W W.heap.size (some ⟨b, off + m, none⟩) (bc z) ∧ z.length = 3) (hu : sumC y = u) (hp : putC u = p) (hul : u < 4294967296) (hq : ((mkB z).toList == (mkB p).toList) = q) :
    Calls Tryd.prog 44 #[.slice (some ⟨b, off, none⟩) n c] W fun e w' => e = .returned (.bool q) ∧ Below W.heap.size W w' := by
  have HT := Lib.hid hT
  have HY := Lib.hid hry
  have HY2 := Lib.hid hy
  have HZ := Lib.hid hrz
  have HU := Lib.hid hu
  have HP := Lib.hid hp
  have HUL := Lib.hid hul
  have HQ := Lib.hid hq
  have HM := Lib.hid hm
  have k1 : (n : Int) - 3 = (m : Int) := by omega
  have k5 : IntKind.i64.wrap (m : Int) = (m : Int) := IntWalk.i64_in _ (by omega)
  have k2 : (m : Int) ≤ (n : Int) := by omega
  have k3 : (n : Int) ≤ (c : Int) := by omega
  have k4 : m ≤ n := by omega
  have k6 : n ≤ c := hnc
  have k7 : m ≤ c := by omega
  have k8 : n - m = 3 := by omega
  have k9 : ¬ c = m := by omega
  clear hT hry hy hrz hu hp hul hq hn hnc hm
  go_enter Tryd.func44, Tryd.ntmps44
  go_wp2
  have HB0 : Hid (Below W.heap.size W W) := Lib.hid (bself W)
  refine wp_region_held_drew (S := fun w' => (convert 22 9 (.slice (some ⟨b, off + m, none⟩) 3 (c - m))).run Tryd.prog w' = .ok (.string (mkB z)) w' ∧ Hid (Below W.heap.size W w')) (by kernel_rfl) ?_ (fun hHeld => ?_)
  · (try dsimp only)
    exact fits_drew HZ.out HB0
  refine wpAnyH_take (i := 0) (v := ?_) rfl (by kernel_rfl) (by kernel_rfl) (by kernel_rfl) (fun _ _ _ h => h) (Or.inl ⟨by rfl, ?_⟩) (by assumption) ?_
  rotate_left
  · intro w hSw
    (try dsimp only at hSw)
    go_simp
    try with_reducible rfl
  (try simp only [Act.put, List.getElem_toArray, List.getElem_cons_zero, List.setIfInBounds_toArray, List.set_cons_zero, List.set_cons_succ])
  refine wpAnyH_take (i := 1) (v := ?_) rfl (by kernel_rfl) (by kernel_rfl) (by kernel_rfl) (fun _ _ _ h => h) (Or.inl ⟨by rfl, ?_⟩) (by assumption) ?_
  rotate_left
  · intro w hSw
    (try dsimp only at hSw)
    go_simp
    try with_reducible rfl
  (try simp only [Act.put, List.getElem_toArray, List.getElem_cons_succ, List.getElem_cons_zero, List.setIfInBounds_toArray, List.set_cons_zero, List.set_cons_succ])
  refine wpAnyH_take (i := 2) (v := ?_) rfl (by kernel_rfl) (by kernel_rfl) (by kernel_rfl) (fun _ _ _ h => h) (Or.inl ⟨by rfl, ?_⟩) (by assumption) ?_
  rotate_left
  · intro w hSw
    (try dsimp only at hSw)
    go_simp
    try with_reducible rfl
  (try simp only [Act.put, List.getElem_toArray, List.getElem_cons_succ, List.getElem_cons_zero, List.setIfInBounds_toArray, List.set_cons_zero, List.set_cons_succ])
  refine wpAnyH_take (i := 3) (v := ?_) rfl (by kernel_rfl) (by kernel_rfl) (by kernel_rfl) (fun _ _ _ h => h) (Or.inl ⟨by rfl, ?_⟩) (by assumption) ?_
  rotate_left
  · intro w hSw
    (try dsimp only at hSw)
    go_simp
    try with_reducible rfl
  (try simp only [Act.put, List.getElem_toArray, List.getElem_cons_succ, List.getElem_cons_zero, List.setIfInBounds_toArray, List.set_cons_zero, List.set_cons_succ])
  refine wpAnyH_take (i := 4) (v := ?_) rfl (by kernel_rfl) (by kernel_rfl) (by kernel_rfl) (fun _ _ _ h => h) (Or.inl ⟨by rfl, ?_⟩) (by assumption) ?_
  rotate_left
  · intro w hSw
    (try dsimp only at hSw)
    go_simp
    try with_reducible rfl
  (try simp only [Act.put, List.getElem_toArray, List.getElem_cons_succ, List.getElem_cons_zero, List.setIfInBounds_toArray, List.set_cons_zero, List.set_cons_succ])
  refine wpAnyH_take (i := 5) (v := ?_) rfl (by kernel_rfl) (by kernel_rfl) (by kernel_rfl) (fun _ _ _ h => h) (Or.inl ⟨by rfl, ?_⟩) (by assumption) ?_
  rotate_left
  · intro w hSw
    (try dsimp only at hSw)
    go_simp
    try with_reducible rfl
  (try simp only [Act.put, List.getElem_toArray, List.getElem_cons_succ, List.getElem_cons_zero, List.setIfInBounds_toArray, List.set_cons_zero, List.set_cons_succ])
  refine wpAnyH_take (i := 6) (v := ?_) rfl (by kernel_rfl) (by kernel_rfl) (by kernel_rfl) (fun _ _ _ h => h) (Or.inl ⟨by rfl, ?_⟩) (by assumption) ?_
  rotate_left
  · intro w hSw
    (try dsimp only at hSw)
    go_simp
    try with_reducible rfl
  (try simp only [Act.put, List.getElem_toArray, List.getElem_cons_succ, List.getElem_cons_zero, List.setIfInBounds_toArray, List.set_cons_zero, List.set_cons_succ])
  refine wpAnyH_take (i := 7) (v := ?_) rfl (by kernel_rfl) (by kernel_rfl) (by kernel_rfl) (fun _ _ _ h => h) (Or.inl ⟨by rfl, ?_⟩) (by assumption) ?_
  rotate_left
  · intro w hSw
    (try dsimp only at hSw)
    go_simp
    try with_reducible rfl
  (try simp only [Act.put, List.getElem_toArray, List.getElem_cons_succ, List.getElem_cons_zero, List.setIfInBounds_toArray, List.set_cons_zero, List.set_cons_succ])
  refine wpAnyH_take (i := 8) (v := ?_) rfl (by kernel_rfl) (by kernel_rfl) (by kernel_rfl) (fun _ _ _ h => h) (Or.inl ⟨by rfl, ?_⟩) (by assumption) ?_
  rotate_left
  · intro w hSw
    (try dsimp only at hSw)
    go_simp
    try with_reducible rfl
  (try simp only [Act.put, List.getElem_toArray, List.getElem_cons_succ, List.getElem_cons_zero, List.setIfInBounds_toArray, List.set_cons_zero, List.set_cons_succ])
  refine wpAnyH_take (i := 9) (v := ?_) rfl (by kernel_rfl) (by kernel_rfl) (by kernel_rfl) (fun _ _ _ h => h) (Or.inl ⟨by rfl, ?_⟩) (by assumption) ?_
  rotate_left
  · intro w hSw
    (try dsimp only at hSw)
    go_simp
    try with_reducible rfl
  (try simp only [Act.put, List.getElem_toArray, List.getElem_cons_succ, List.getElem_cons_zero, List.setIfInBounds_toArray, List.set_cons_zero, List.set_cons_succ])
  refine wpAnyH_ready (rs := [10]) (by kernel_rfl) (by simp) ?_
  refine AllReadyH.cons rfl (fun K hK => ?_) AllReadyH.nil
  go_simp
  (go_at_call 28; ((with_reducible refine (fsum W HT.out m c y u _ HY2.out HM.out HY.out hHeld.2.out HU.out).mono ?_); rintro e v1 ⟨rfl, hb⟩; have hS := fits_S (c := c) HZ.out (bstep hHeld.2.out hb); clear hb))
  go_wp2_with fail
  refine hK.out _ _ ?_ (fun hHeld => ?_)
  · (try dsimp only)
    (first | assumption | exact fits_S HZ.out (by assumption) | exact fits_drew HZ.out (by assumption))
  clear hK K
  (try simp only [Act.put, List.getElem_toArray, List.getElem_cons_succ, List.getElem_cons_zero, List.setIfInBounds_toArray, List.set_cons_zero, List.set_cons_succ])
  refine wpAnyH_ready (rs := [11]) (by kernel_rfl) (by simp) ?_
  refine AllReadyH.cons rfl (fun K hK => ?_) AllReadyH.nil
  go_simp
  (go_at_call 27; ((with_reducible refine (fput u _ HUL.out HP.out).mono ?_); rintro e v2 ⟨A5, c5, rfl, hr5, hb⟩; have HR5 := Lib.hid hr5; have hS := fits_S (c := c) HZ.out (bstep hHeld.2.out hb); clear hb hr5))
  go_wp2_with fail
  refine hK.out _ _ ?_ (fun hHeld => ?_)
  · (try dsimp only)
    (first | assumption | exact fits_S HZ.out (by assumption) | exact fits_drew HZ.out (by assumption))
  clear hK K
  (try simp only [Act.put, List.getElem_toArray, List.getElem_cons_succ, List.getElem_cons_zero, List.setIfInBounds_toArray, List.set_cons_zero, List.set_cons_succ])
  refine wpAnyH_ready (rs := [12]) (by kernel_rfl) (by simp) ?_
  refine AllReadyH.cons rfl (fun K hK => ?_) AllReadyH.nil
  have hcv := run_str_any (w := v2) c5 (by first | exact HR5.out | exact HR5.out.below_ (Below.refl _ _).drew)
  go_simp
  clear hcv
  refine hK.out _ _ ?_ (fun hHeld => ?_)
  · (try dsimp only)
    (first | assumption | exact fits_S HZ.out (by assumption) | exact fits_drew HZ.out (by assumption))
  clear hK K
  (try simp only [Act.put, List.getElem_toArray, List.getElem_cons_succ, List.getElem_cons_zero, List.setIfInBounds_toArray, List.set_cons_zero, List.set_cons_succ])
  refine wpAnyH_take (i := 13) (v := ?_) rfl (by kernel_rfl) (by kernel_rfl) (by kernel_rfl) (fun _ _ _ h => h) (Or.inl ⟨by rfl, ?_⟩) (by assumption) ?_
  rotate_left
  · intro w hSw
    (try dsimp only at hSw)
    go_simp
    try with_reducible rfl
  (try simp only [Act.put, List.getElem_toArray, List.getElem_cons_succ, List.getElem_cons_zero, List.setIfInBounds_toArray, List.set_cons_zero, List.set_cons_succ])
  refine wpAnyH_take (i := 14) (v := ?_) rfl (by kernel_rfl) (by kernel_rfl) (by kernel_rfl) (fun _ _ _ h => h) (Or.inl ⟨by rfl, ?_⟩) (by assumption) ?_
  rotate_left
  · intro w hSw
    (try dsimp only at hSw)
    go_simp
    try with_reducible rfl
  (try simp only [Act.put, List.getElem_toArray, List.getElem_cons_succ, List.getElem_cons_zero, List.setIfInBounds_toArray, List.set_cons_zero, List.set_cons_succ])
  refine wpAnyH_take (i := 15) (v := ?_) rfl (by kernel_rfl) (by kernel_rfl) (by kernel_rfl) (fun _ _ _ h => h) (Or.inl ⟨by rfl, ?_⟩) (by assumption) ?_
  rotate_left
  · intro w hSw
    (try dsimp only at hSw)
    go_simp
    try with_reducible rfl
  (try simp only [Act.put, List.getElem_toArray, List.getElem_cons_succ, List.getElem_cons_zero, List.setIfInBounds_toArray, List.set_cons_zero, List.set_cons_succ])
  refine wpAnyH_done (by kernel_rfl) ?_ _
  have H := hHeld.2.out
  go_wp2
  go_ret
  exact ⟨by rw [← HQ.out]; rfl, H⟩
theorem Tabs.over {W w : World} (hT : Tabs W) (hW : Below W.heap.size W w) : Tabs w := fun w' h => hT w' (bstep hW h)

theorem cfits_any (W : World) (hT : Tabs W) (A : Option Addr) (c : Nat) (l : List UInt8) (w : World) (hW : Below W.heap.size W w) (hr : Row w w.heap.size A (bc l)) (hlc : l.length ≤ c) (hl : l.length ≤ 1000000) :
    Calls Tryd.prog 44 #[.slice A l.length c] w fun e w' => e = .returned (.bool (fitsC l)) ∧ Below w.heap.size w w' := by
  by_cases h : 3 ≤ l.length
  · obtain ⟨b, off, rfl, hb, hc⟩ := hr (by intro e; have := congrArg List.length e; rw [bc_length, List.length_nil] at this; omega)
    have hc' : ∀ i (h : i < l.length), w.cell? ⟨b, off + i, none⟩ = some (.int .u8 (l[i].toNat : Int)) := fun i hi => hc i _ (bc_get l i hi)
    refine cfits_some w (hT.over hW) b off (l.length - 3) l.length c (l.take (l.length - 3)) (l.drop (l.length - 3)) _ _ _ (by omega) hlc (by omega) (by rw [List.length_take]; omega) ?_ ⟨?_, by rw [List.length_drop]; omega⟩ rfl rfl (Nat.lt_of_lt_of_le (sumC_lt _) (by omega)) ?_
    · refine Lies.row hb fun i hi => ?_
      rw [List.length_take] at hi
      rw [hc' i (by omega), List.getElem_take]
    · refine Lies.row hb fun i hi => ?_
      rw [List.length_drop] at hi
      rw [Nat.add_assoc, hc' (l.length - 3 + i) (by omega), List.getElem_drop]
    · unfold fitsC
      rw [mkB_toList, mkB_toList, decide_eq_true h, Bool.true_and, Bool.eq_iff_iff]
      rw [beq_iff_eq, decide_eq_true_iff, eq_comm]
  · have HC := Lib.hid (show fitsC l = false by unfold fitsC; rw [decide_eq_false h]; rfl)
    have k1 : decide ((3 : Int) ≤ (l.length : Int)) = false := decide_eq_false (by omega)
    have k2 : IntKind.i64.wrap ((l.length : Int) - 3) = (l.length : Int) - 3 := IntWalk.i64_in _ (by omega)
    clear hT hr h hW
    go_enter Tryd.func44, Tryd.ntmps44
    go_wp2
    have HB0 : Hid (Below w.heap.size w w) := Lib.hid (bself w)
    refine wp_region_held_drew (S := fun w' => Hid (Below w.heap.size w w')) (by kernel_rfl) ?_ (fun hHeld => ?_)
    · (try dsimp only)
      exact Lib.hid HB0.out.drew
    refine wpAnyH_take (i := 0) (v := ?_) rfl (by kernel_rfl) (by kernel_rfl) (by kernel_rfl) (fun _ _ _ h => h) (Or.inl ⟨by rfl, ?_⟩) (by assumption) ?_
    rotate_left
    · intro w hSw
      (try dsimp only at hSw)
      go_simp
      try with_reducible rfl
    (try simp only [Act.put, List.getElem_toArray, List.getElem_cons_zero, List.setIfInBounds_toArray, List.set_cons_zero, List.set_cons_succ])
    refine wpAnyH_take (i := 1) (v := ?_) rfl (by kernel_rfl) (by kernel_rfl) (by kernel_rfl) (fun _ _ _ h => h) (Or.inl ⟨by rfl, ?_⟩) (by assumption) ?_
    rotate_left
    · intro w hSw
      (try dsimp only at hSw)
      go_simp
      try with_reducible rfl
    (try simp only [Act.put, List.getElem_toArray, List.getElem_cons_succ, List.getElem_cons_zero, List.setIfInBounds_toArray, List.set_cons_zero, List.set_cons_succ])
    refine wpAnyH_take (i := 2) (v := ?_) rfl (by kernel_rfl) (by kernel_rfl) (by kernel_rfl) (fun _ _ _ h => h) (Or.inl ⟨by rfl, ?_⟩) (by assumption) ?_
    rotate_left
    · intro w hSw
      (try dsimp only at hSw)
      go_simp
      try with_reducible rfl
    (try simp only [Act.put, List.getElem_toArray, List.getElem_cons_succ, List.getElem_cons_zero, List.setIfInBounds_toArray, List.set_cons_zero, List.set_cons_succ])
    refine wpAnyH_take (i := 3) (v := undef) rfl (by kernel_rfl) (by kernel_rfl) (by kernel_rfl) (fun _ _ _ h => h) (Or.inr ⟨by rfl, rfl⟩) (by assumption) ?_
    (try simp only [Act.put, List.getElem_toArray, List.getElem_cons_succ, List.getElem_cons_zero, List.setIfInBounds_toArray, List.set_cons_zero, List.set_cons_succ])
    refine wpAnyH_take (i := 4) (v := undef) rfl (by kernel_rfl) (by kernel_rfl) (by kernel_rfl) (fun _ _ _ h => h) (Or.inr ⟨by rfl, rfl⟩) (by assumption) ?_
    (try simp only [Act.put, List.getElem_toArray, List.getElem_cons_succ, List.getElem_cons_zero, List.setIfInBounds_toArray, List.set_cons_zero, List.set_cons_succ])
    refine wpAnyH_take (i := 5) (v := undef) rfl (by kernel_rfl) (by kernel_rfl) (by kernel_rfl) (fun _ _ _ h => h) (Or.inr ⟨by rfl, rfl⟩) (by assumption) ?_
    (try simp only [Act.put, List.getElem_toArray, List.getElem_cons_succ, List.getElem_cons_zero, List.setIfInBounds_toArray, List.set_cons_zero, List.set_cons_succ])
    refine wpAnyH_take (i := 6) (v := undef) rfl (by kernel_rfl) (by kernel_rfl) (by kernel_rfl) (fun _ _ _ h => h) (Or.inr ⟨by rfl, rfl⟩) (by assumption) ?_
    (try simp only [Act.put, List.getElem_toArray, List.getElem_cons_succ, List.getElem_cons_zero, List.setIfInBounds_toArray, List.set_cons_zero, List.set_cons_succ])
    refine wpAnyH_take (i := 7) (v := undef) rfl (by kernel_rfl) (by kernel_rfl) (by kernel_rfl) (fun _ _ _ h => h) (Or.inr ⟨by rfl, rfl⟩) (by assumption) ?_
    (try simp only [Act.put, List.getElem_toArray, List.getElem_cons_succ, List.getElem_cons_zero, List.setIfInBounds_toArray, List.set_cons_zero, List.set_cons_succ])
    refine wpAnyH_take (i := 8) (v := undef) rfl (by kernel_rfl) (by kernel_rfl) (by kernel_rfl) (fun _ _ _ h => h) (Or.inr ⟨by rfl, rfl⟩) (by assumption) ?_
    (try simp only [Act.put, List.getElem_toArray, List.getElem_cons_succ, List.getElem_cons_zero, List.setIfInBounds_toArray, List.set_cons_zero, List.set_cons_succ])
    refine wpAnyH_take (i := 9) (v := undef) rfl (by kernel_rfl) (by kernel_rfl) (by kernel_rfl) (fun _ _ _ h => h) (Or.inr ⟨by rfl, rfl⟩) (by assumption) ?_
    (try simp only [Act.put, List.getElem_toArray, List.getElem_cons_succ, List.getElem_cons_zero, List.setIfInBounds_toArray, List.set_cons_zero, List.set_cons_succ])
    refine wpAnyH_take (i := 10) (v := undef) rfl (by kernel_rfl) (by kernel_rfl) (by kernel_rfl) (fun _ _ _ h => h) (Or.inr ⟨by rfl, rfl⟩) (by assumption) ?_
    (try simp only [Act.put, List.getElem_toArray, List.getElem_cons_succ, List.getElem_cons_zero, List.setIfInBounds_toArray, List.set_cons_zero, List.set_cons_succ])
    refine wpAnyH_take (i := 11) (v := undef) rfl (by kernel_rfl) (by kernel_rfl) (by kernel_rfl) (fun _ _ _ h => h) (Or.inr ⟨by rfl, rfl⟩) (by assumption) ?_
    (try simp only [Act.put, List.getElem_toArray, List.getElem_cons_succ, List.getElem_cons_zero, List.setIfInBounds_toArray, List.set_cons_zero, List.set_cons_succ])
    refine wpAnyH_take (i := 12) (v := undef) rfl (by kernel_rfl) (by kernel_rfl) (by kernel_rfl) (fun _ _ _ h => h) (Or.inr ⟨by rfl, rfl⟩) (by assumption) ?_
    (try simp only [Act.put, List.getElem_toArray, List.getElem_cons_succ, List.getElem_cons_zero, List.setIfInBounds_toArray, List.set_cons_zero, List.set_cons_succ])
    refine wpAnyH_take (i := 13) (v := undef) rfl (by kernel_rfl) (by kernel_rfl) (by kernel_rfl) (fun _ _ _ h => h) (Or.inr ⟨by rfl, rfl⟩) (by assumption) ?_
    (try simp only [Act.put, List.getElem_toArray, List.getElem_cons_succ, List.getElem_cons_zero, List.setIfInBounds_toArray, List.set_cons_zero, List.set_cons_succ])
    refine wpAnyH_take (i := 14) (v := ?_) rfl (by kernel_rfl) (by kernel_rfl) (by kernel_rfl) (fun _ _ _ h => h) (Or.inl ⟨by rfl, ?_⟩) (by assumption) ?_
    rotate_left
    · intro w hSw
      (try dsimp only at hSw)
      go_simp
      try with_reducible rfl
    (try simp only [Act.put, List.getElem_toArray, List.getElem_cons_succ, List.getElem_cons_zero, List.setIfInBounds_toArray, List.set_cons_zero, List.set_cons_succ])
    refine wpAnyH_take (i := 15) (v := ?_) rfl (by kernel_rfl) (by kernel_rfl) (by kernel_rfl) (fun _ _ _ h => h) (Or.inl ⟨by rfl, ?_⟩) (by assumption) ?_
    rotate_left
    · intro w hSw
      (try dsimp only at hSw)
      go_simp
      try with_reducible rfl
    (try simp only [Act.put, List.getElem_toArray, List.getElem_cons_succ, List.getElem_cons_zero, List.setIfInBounds_toArray, List.set_cons_zero, List.set_cons_succ])
    refine wpAnyH_done (by kernel_rfl) ?_ _
    have H := hHeld.out
    go_wp2
    go_ret
    exact ⟨by rw [HC.out]; rfl, H⟩
end Go.Proofs.YtpgainalimmecaaDoor
