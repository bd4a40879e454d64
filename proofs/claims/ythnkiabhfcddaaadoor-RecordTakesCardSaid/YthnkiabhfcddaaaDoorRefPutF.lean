/-
  Contract of layer 4's reference: Put.
-/
import Derived.Test.YthnkiabhfcddaaaDoorPackF
import Derived.Test.YthnkiabhfcddaaaDoorPackM
import Derived.Test.YthnkiabhfcddaaaDoorPackC
namespace Go.Proofs.YthnkiabhfcddaaaDoor
open Go.RowKit
set_option linter.unusedVariables false

set_option maxRecDepth 100000 in
set_option maxHeartbeats 1000000 in
theorem rput4_core (kind : UInt8) (body h p : List UInt8) (u : Nat) (w : World) (hl : body.length ≤ 100000) (hh : h = headF kind body) (hu : sumC h = u) (hp : putC u = p) :
    Calls Tryd.prog 26 #[.int .u8 (kind.toNat : Int), .string (mkB body)] w fun e w' => e = .returned (.string (mkB (165 :: (h ++ p)))) ∧ Below w.heap.size w w' := by
  have hlen : h.length = body.length + 3 := by rw [hh, headF_length]
  have hpl : p.length = 3 := by rw [← hp]; rfl
  have HH := Lib.hid (show (mkB h).size ≤ 1000000 by rw [mkB_size]; omega)
  have HU := Lib.hid (show sumC (mkB h).data.toList = u from hu)
  have HUL := Lib.hid (show u < 4294967296 by rw [← hu]; exact Nat.lt_of_lt_of_le (sumC_lt _) (by omega))
  have HP := Lib.hid (congrArg mkB hp)
  have a1 : ∀ w : World, (Op.stringOp .add (mkB [165]) (mkB h)).run Tryd.prog w = .ok (.string (mkB (165 :: h))) w := fun w => run_add w [165] h (by simp only [List.length_cons, List.length_nil]; omega)
  have a2 : ∀ w : World, (Op.stringOp .add (mkB (165 :: h)) (mkB p)).run Tryd.prog w = .ok (.string (mkB (165 :: (h ++ p)))) w := fun w => run_add w (165 :: h) p (by simp only [List.length_cons]; omega)
  have a0 : ∀ w : World, (Op.stringOp .add (mkB [kind, UInt8.ofNat (body.length / 256), UInt8.ofNat (body.length % 256)]) (mkB body)).run Tryd.prog w = .ok (.string (mkB h)) w := fun w => by
    rw [hh]; exact run_add w [kind, UInt8.ofNat (body.length / 256), UInt8.ofNat (body.length % 256)] body (by simp only [List.length_cons, List.length_nil]; omega)
  have hcv := run_str3 w (kind.toNat : Int) ((body.length : Int) / 256 % 256) ((body.length : Int) % 256) kind (UInt8.ofNat (body.length / 256)) (UInt8.ofNat (body.length % 256)) rfl (by simp) (by simp)
  have hsz : ((mkB body).size : Int) = (body.length : Int) := by rw [mkB_size]
  have hsz2 : (mkB body).size = body.length := mkB_size _
  clear hh hu hp hlen hpl
  go_enter Tryd.func26, Tryd.ntmps26
  go_wp2
  clear hcv a0 hsz hsz2
  have HB0 : Hid (Below w.heap.size w (w.alloc (.cells #[.int .u8 (kind.toNat : Int), .int .u8 ((body.length : Int) / 256 % 256), .int .u8 ((body.length : Int) % 256)] 5))) := Lib.hid (bmore (bself w) _)
  generalize w.alloc (.cells #[.int .u8 (kind.toNat : Int), .int .u8 ((body.length : Int) / 256 % 256), .int .u8 ((body.length : Int) % 256)] 5) = w1 at HB0 ⊢
  refine wp_region_held_drew (S := fun w' => Hid (Below w.heap.size w w')) (by kernel_rfl) ?_ (fun hHeld => ?_)
  · (try dsimp only)
    exact Lib.hid HB0.out.drew
  refine wpAnyH_take (i := 2) (v := ?_) rfl (by kernel_rfl) (by kernel_rfl) (by kernel_rfl) (fun _ _ _ h => h) (Or.inl ⟨by rfl, ?_⟩) (by assumption) ?_
  rotate_left
  · intro w hSw
    (try dsimp only at hSw)
    go_simp
    try with_reducible rfl
  (try simp only [Act.put, List.getElem_toArray, List.getElem_cons_succ, List.getElem_cons_zero, List.setIfInBounds_toArray, List.set_cons_zero, List.set_cons_succ])
  refine wpAnyH_take (i := 4) (v := ?_) rfl (by kernel_rfl) (by kernel_rfl) (by kernel_rfl) (fun _ _ _ h => h) (Or.inl ⟨by rfl, ?_⟩) (by assumption) ?_
  rotate_left
  · intro w hSw
    (try dsimp only at hSw)
    go_simp
    try with_reducible rfl
  (try simp only [Act.put, List.getElem_toArray, List.getElem_cons_succ, List.getElem_cons_zero, List.setIfInBounds_toArray, List.set_cons_zero, List.set_cons_succ])
  refine wpAnyH_ready (rs := [0, 5]) (by kernel_rfl) (by simp) ?_
  refine AllReadyH.cons rfl (fun K hK => ?_) (AllReadyH.cons rfl (fun K hK => ?_) AllReadyH.nil)
  · go_simp
    have HRB := Lib.hid ((lit_row w1 (bc [165]) 5 (#[.int .u8 165]) rfl).below_ (Below.refl _ _).drew)
    refine hK.out _ _ ?_ (fun hHeld => ?_)
    · (try dsimp only)
      (first | assumption | exact Lib.hid (hHeld.out.alloc hHeld.out.size _))
    clear hK K
    (try simp only [Act.put, List.getElem_toArray, List.getElem_cons_succ, List.getElem_cons_zero, List.setIfInBounds_toArray, List.set_cons_zero, List.set_cons_succ])
    refine wpAnyH_ready (rs := [1, 5]) (by kernel_rfl) (by simp) ?_
    refine AllReadyH.cons rfl (fun K hK => ?_) (AllReadyH.cons rfl (fun K hK => ?_) AllReadyH.nil)
    · have hcv := run_str_any (w := (w1.alloc (.cells #[.int .u8 165] 5)).drew) (l := [165]) 1 (by first | exact HRB.out | exact HRB.out.below_ HB6.out); simp only [List.length_cons, List.length_nil, Nat.zero_add] at hcv
      go_simp
      clear hcv
      refine hK.out _ _ ?_ (fun hHeld => ?_)
      · (try dsimp only)
        (first | assumption | exact Lib.hid (hHeld.out.alloc hHeld.out.size _))
      clear hK K
      (try simp only [Act.put, List.getElem_toArray, List.getElem_cons_succ, List.getElem_cons_zero, List.setIfInBounds_toArray, List.set_cons_zero, List.set_cons_succ])
      refine wpAnyH_take (i := 3) (v := ?_) rfl (by kernel_rfl) (by kernel_rfl) (by kernel_rfl) (fun _ _ _ h => h) (Or.inl ⟨by rfl, ?_⟩) (by assumption) ?_
      rotate_left
      · intro w hSw
        (try dsimp only at hSw)
        go_simp
        try with_reducible rfl
      (try simp only [Act.put, List.getElem_toArray, List.getElem_cons_succ, List.getElem_cons_zero, List.setIfInBounds_toArray, List.set_cons_zero, List.set_cons_succ])
      refine wpAnyH_ready (rs := [5]) (by kernel_rfl) (by simp) ?_
      refine AllReadyH.cons rfl (fun K hK => ?_) AllReadyH.nil
      go_simp
      (go_at_call 55; ((with_reducible refine (rsum3_at (mkB h) u _ HH.out HU.out).mono ?_); rintro e w5 ⟨rfl, rfl⟩))
      go_wp2_with fail
      refine hK.out _ _ ?_ (fun hHeld => ?_)
      · (try dsimp only)
        (first | assumption | exact Lib.hid (hHeld.out.alloc hHeld.out.size _))
      clear hK K
      (try simp only [Act.put, List.getElem_toArray, List.getElem_cons_succ, List.getElem_cons_zero, List.setIfInBounds_toArray, List.set_cons_zero, List.set_cons_succ])
      refine wpAnyH_ready (rs := [6]) (by kernel_rfl) (by simp) ?_
      refine AllReadyH.cons rfl (fun K hK => ?_) AllReadyH.nil
      go_simp
      (go_at_call 54; ((with_reducible refine (rput3_at u (mkB p) _ HUL.out HP.out).mono ?_); rintro e v6 ⟨rfl, hb⟩; have HB6 := Lib.hid hb; have hS := Lib.hid (bstep hHeld.out hb); clear hb))
      go_wp2_with fail
      refine hK.out _ _ ?_ (fun hHeld => ?_)
      · (try dsimp only)
        (first | assumption | exact Lib.hid (hHeld.out.alloc hHeld.out.size _))
      clear hK K
      (try simp only [Act.put, List.getElem_toArray, List.getElem_cons_succ, List.getElem_cons_zero, List.setIfInBounds_toArray, List.set_cons_zero, List.set_cons_succ])
      refine wpAnyH_take (i := 7) (v := ?_) rfl (by kernel_rfl) (by kernel_rfl) (by kernel_rfl) (fun _ _ _ h => h) (Or.inl ⟨by rfl, ?_⟩) (by assumption) ?_
      rotate_left
      · intro w hSw
        (try dsimp only at hSw)
        go_simp
        try with_reducible rfl
      (try simp only [Act.put, List.getElem_toArray, List.getElem_cons_succ, List.getElem_cons_zero, List.setIfInBounds_toArray, List.set_cons_zero, List.set_cons_succ])
      refine wpAnyH_take (i := 8) (v := ?_) rfl (by kernel_rfl) (by kernel_rfl) (by kernel_rfl) (fun _ _ _ h => h) (Or.inl ⟨by rfl, ?_⟩) (by assumption) ?_
      rotate_left
      · intro w hSw
        (try dsimp only at hSw)
        go_simp
        try with_reducible rfl
      (try simp only [Act.put, List.getElem_toArray, List.getElem_cons_succ, List.getElem_cons_zero, List.setIfInBounds_toArray, List.set_cons_zero, List.set_cons_succ])
      refine wpAnyH_done (by kernel_rfl) ?_ _
      have H := hHeld.out
      go_wp2
      go_ret
      exact ⟨rfl, H⟩
    · go_simp
      (go_at_call 55; ((with_reducible refine (rsum3_at (mkB h) u _ HH.out HU.out).mono ?_); rintro e w5 ⟨rfl, rfl⟩))
      go_wp2_with fail
      refine hK.out _ _ ?_ (fun hHeld => ?_)
      · (try dsimp only)
        (first | assumption | exact Lib.hid (hHeld.out.alloc hHeld.out.size _))
      clear hK K
      (try simp only [Act.put, List.getElem_toArray, List.getElem_cons_succ, List.getElem_cons_zero, List.setIfInBounds_toArray, List.set_cons_zero, List.set_cons_succ])
      refine wpAnyH_ready (rs := [1, 6]) (by kernel_rfl) (by simp) ?_
      refine AllReadyH.cons rfl (fun K hK => ?_) (AllReadyH.cons rfl (fun K hK => ?_) AllReadyH.nil)
      · have hcv := run_str_any (w := (w1.alloc (.cells #[.int .u8 165] 5)).drew) (l := [165]) 1 (by first | exact HRB.out | exact HRB.out.below_ HB6.out); simp only [List.length_cons, List.length_nil, Nat.zero_add] at hcv
        go_simp
        clear hcv
        refine hK.out _ _ ?_ (fun hHeld => ?_)
        · (try dsimp only)
          (first | assumption | exact Lib.hid (hHeld.out.alloc hHeld.out.size _))
        clear hK K
        (try simp only [Act.put, List.getElem_toArray, List.getElem_cons_succ, List.getElem_cons_zero, List.setIfInBounds_toArray, List.set_cons_zero, List.set_cons_succ])
        refine wpAnyH_take (i := 3) (v := ?_) rfl (by kernel_rfl) (by kernel_rfl) (by kernel_rfl) (fun _ _ _ h => h) (Or.inl ⟨by rfl, ?_⟩) (by assumption) ?_
        rotate_left
        · intro w hSw
          (try dsimp only at hSw)
          go_simp
          try with_reducible rfl
        (try simp only [Act.put, List.getElem_toArray, List.getElem_cons_succ, List.getElem_cons_zero, List.setIfInBounds_toArray, List.set_cons_zero, List.set_cons_succ])
        refine wpAnyH_ready (rs := [6]) (by kernel_rfl) (by simp) ?_
        refine AllReadyH.cons rfl (fun K hK => ?_) AllReadyH.nil
        go_simp
        (go_at_call 54; ((with_reducible refine (rput3_at u (mkB p) _ HUL.out HP.out).mono ?_); rintro e v6 ⟨rfl, hb⟩; have HB6 := Lib.hid hb; have hS := Lib.hid (bstep hHeld.out hb); clear hb))
        go_wp2_with fail
        refine hK.out _ _ ?_ (fun hHeld => ?_)
        · (try dsimp only)
          (first | assumption | exact Lib.hid (hHeld.out.alloc hHeld.out.size _))
        clear hK K
        (try simp only [Act.put, List.getElem_toArray, List.getElem_cons_succ, List.getElem_cons_zero, List.setIfInBounds_toArray, List.set_cons_zero, List.set_cons_succ])
        refine wpAnyH_take (i := 7) (v := ?_) rfl (by kernel_rfl) (by kernel_rfl) (by kernel_rfl) (fun _ _ _ h => h) (Or.inl ⟨by rfl, ?_⟩) (by assumption) ?_
        rotate_left
        · intro w hSw
          (try dsimp only at hSw)
          go_simp
          try with_reducible rfl
        (try simp only [Act.put, List.getElem_toArray, List.getElem_cons_succ, List.getElem_cons_zero, List.setIfInBounds_toArray, List.set_cons_zero, List.set_cons_succ])
        refine wpAnyH_take (i := 8) (v := ?_) rfl (by kernel_rfl) (by kernel_rfl) (by kernel_rfl) (fun _ _ _ h => h) (Or.inl ⟨by rfl, ?_⟩) (by assumption) ?_
        rotate_left
        · intro w hSw
          (try dsimp only at hSw)
          go_simp
          try with_reducible rfl
        (try simp only [Act.put, List.getElem_toArray, List.getElem_cons_succ, List.getElem_cons_zero, List.setIfInBounds_toArray, List.set_cons_zero, List.set_cons_succ])
        refine wpAnyH_done (by kernel_rfl) ?_ _
        have H := hHeld.out
        go_wp2
        go_ret
        exact ⟨rfl, H⟩
      · go_simp
        (go_at_call 54; ((with_reducible refine (rput3_at u (mkB p) _ HUL.out HP.out).mono ?_); rintro e v6 ⟨rfl, hb⟩; have HB6 := Lib.hid hb; have hS := Lib.hid (bstep hHeld.out hb); clear hb))
        go_wp2_with fail
        refine hK.out _ _ ?_ (fun hHeld => ?_)
        · (try dsimp only)
          (first | assumption | exact Lib.hid (hHeld.out.alloc hHeld.out.size _))
        clear hK K
        (try simp only [Act.put, List.getElem_toArray, List.getElem_cons_succ, List.getElem_cons_zero, List.setIfInBounds_toArray, List.set_cons_zero, List.set_cons_succ])
        refine wpAnyH_ready (rs := [1]) (by kernel_rfl) (by simp) ?_
        refine AllReadyH.cons rfl (fun K hK => ?_) AllReadyH.nil
        have hcv := run_str_any (w := v6) (l := [165]) 1 (by first | exact HRB.out | exact HRB.out.below_ HB6.out); simp only [List.length_cons, List.length_nil, Nat.zero_add] at hcv
        go_simp
        clear hcv
        refine hK.out _ _ ?_ (fun hHeld => ?_)
        · (try dsimp only)
          (first | assumption | exact Lib.hid (hHeld.out.alloc hHeld.out.size _))
        clear hK K
        (try simp only [Act.put, List.getElem_toArray, List.getElem_cons_succ, List.getElem_cons_zero, List.setIfInBounds_toArray, List.set_cons_zero, List.set_cons_succ])
        refine wpAnyH_take (i := 3) (v := ?_) rfl (by kernel_rfl) (by kernel_rfl) (by kernel_rfl) (fun _ _ _ h => h) (Or.inl ⟨by rfl, ?_⟩) (by assumption) ?_
        rotate_left
        · intro w hSw
          (try dsimp only at hSw)
          go_simp
          try with_reducible rfl
        (try simp only [Act.put, List.getElem_toArray, List.getElem_cons_succ, List.getElem_cons_zero, List.setIfInBounds_toArray, List.set_cons_zero, List.set_cons_succ])
        refine wpAnyH_take (i := 7) (v := ?_) rfl (by kernel_rfl) (by kernel_rfl) (by kernel_rfl) (fun _ _ _ h => h) (Or.inl ⟨by rfl, ?_⟩) (by assumption) ?_
        rotate_left
        · intro w hSw
          (try dsimp only at hSw)
          go_simp
          try with_reducible rfl
        (try simp only [Act.put, List.getElem_toArray, List.getElem_cons_succ, List.getElem_cons_zero, List.setIfInBounds_toArray, List.set_cons_zero, List.set_cons_succ])
        refine wpAnyH_take (i := 8) (v := ?_) rfl (by kernel_rfl) (by kernel_rfl) (by kernel_rfl) (fun _ _ _ h => h) (Or.inl ⟨by rfl, ?_⟩) (by assumption) ?_
        rotate_left
        · intro w hSw
          (try dsimp only at hSw)
          go_simp
          try with_reducible rfl
        (try simp only [Act.put, List.getElem_toArray, List.getElem_cons_succ, List.getElem_cons_zero, List.setIfInBounds_toArray, List.set_cons_zero, List.set_cons_succ])
        refine wpAnyH_done (by kernel_rfl) ?_ _
        have H := hHeld.out
        go_wp2
        go_ret
        exact ⟨rfl, H⟩
  · go_simp
    (go_at_call 55; ((with_reducible refine (rsum3_at (mkB h) u _ HH.out HU.out).mono ?_); rintro e w5 ⟨rfl, rfl⟩))
    go_wp2_with fail
    refine hK.out _ _ ?_ (fun hHeld => ?_)
    · (try dsimp only)
      (first | assumption | exact Lib.hid (hHeld.out.alloc hHeld.out.size _))
    clear hK K
    (try simp only [Act.put, List.getElem_toArray, List.getElem_cons_succ, List.getElem_cons_zero, List.setIfInBounds_toArray, List.set_cons_zero, List.set_cons_succ])
    refine wpAnyH_ready (rs := [0, 6]) (by kernel_rfl) (by simp) ?_
    refine AllReadyH.cons rfl (fun K hK => ?_) (AllReadyH.cons rfl (fun K hK => ?_) AllReadyH.nil)
    · go_simp
      have HRB := Lib.hid ((lit_row w1 (bc [165]) 5 (#[.int .u8 165]) rfl).below_ (Below.refl _ _).drew)
      refine hK.out _ _ ?_ (fun hHeld => ?_)
      · (try dsimp only)
        (first | assumption | exact Lib.hid (hHeld.out.alloc hHeld.out.size _))
      clear hK K
      (try simp only [Act.put, List.getElem_toArray, List.getElem_cons_succ, List.getElem_cons_zero, List.setIfInBounds_toArray, List.set_cons_zero, List.set_cons_succ])
      refine wpAnyH_ready (rs := [1, 6]) (by kernel_rfl) (by simp) ?_
      refine AllReadyH.cons rfl (fun K hK => ?_) (AllReadyH.cons rfl (fun K hK => ?_) AllReadyH.nil)
      · have hcv := run_str_any (w := (w1.alloc (.cells #[.int .u8 165] 5)).drew) (l := [165]) 1 (by first | exact HRB.out | exact HRB.out.below_ HB6.out); simp only [List.length_cons, List.length_nil, Nat.zero_add] at hcv
        go_simp
        clear hcv
        refine hK.out _ _ ?_ (fun hHeld => ?_)
        · (try dsimp only)
          (first | assumption | exact Lib.hid (hHeld.out.alloc hHeld.out.size _))
        clear hK K
        (try simp only [Act.put, List.getElem_toArray, List.getElem_cons_succ, List.getElem_cons_zero, List.setIfInBounds_toArray, List.set_cons_zero, List.set_cons_succ])
        refine wpAnyH_take (i := 3) (v := ?_) rfl (by kernel_rfl) (by kernel_rfl) (by kernel_rfl) (fun _ _ _ h => h) (Or.inl ⟨by rfl, ?_⟩) (by assumption) ?_
        rotate_left
        · intro w hSw
          (try dsimp only at hSw)
          go_simp
          try with_reducible rfl
        (try simp only [Act.put, List.getElem_toArray, List.getElem_cons_succ, List.getElem_cons_zero, List.setIfInBounds_toArray, List.set_cons_zero, List.set_cons_succ])
        refine wpAnyH_ready (rs := [6]) (by kernel_rfl) (by simp) ?_
        refine AllReadyH.cons rfl (fun K hK => ?_) AllReadyH.nil
        go_simp
        (go_at_call 54; ((with_reducible refine (rput3_at u (mkB p) _ HUL.out HP.out).mono ?_); rintro e v6 ⟨rfl, hb⟩; have HB6 := Lib.hid hb; have hS := Lib.hid (bstep hHeld.out hb); clear hb))
        go_wp2_with fail
        refine hK.out _ _ ?_ (fun hHeld => ?_)
        · (try dsimp only)
          (first | assumption | exact Lib.hid (hHeld.out.alloc hHeld.out.size _))
        clear hK K
        (try simp only [Act.put, List.getElem_toArray, List.getElem_cons_succ, List.getElem_cons_zero, List.setIfInBounds_toArray, List.set_cons_zero, List.set_cons_succ])
        refine wpAnyH_take (i := 7) (v := ?_) rfl (by kernel_rfl) (by kernel_rfl) (by kernel_rfl) (fun _ _ _ h => h) (Or.inl ⟨by rfl, ?_⟩) (by assumption) ?_
        rotate_left
        · intro w hSw
          (try dsimp only at hSw)
          go_simp
          try with_reducible rfl
        (try simp only [Act.put, List.getElem_toArray, List.getElem_cons_succ, List.getElem_cons_zero, List.setIfInBounds_toArray, List.set_cons_zero, List.set_cons_succ])
        refine wpAnyH_take (i := 8) (v := ?_) rfl (by kernel_rfl) (by kernel_rfl) (by kernel_rfl) (fun _ _ _ h => h) (Or.inl ⟨by rfl, ?_⟩) (by assumption) ?_
        rotate_left
        · intro w hSw
          (try dsimp only at hSw)
          go_simp
          try with_reducible rfl
        (try simp only [Act.put, List.getElem_toArray, List.getElem_cons_succ, List.getElem_cons_zero, List.setIfInBounds_toArray, List.set_cons_zero, List.set_cons_succ])
        refine wpAnyH_done (by kernel_rfl) ?_ _
        have H := hHeld.out
        go_wp2
        go_ret
        exact ⟨rfl, H⟩
      · go_simp
        (go_at_call 54; ((with_reducible refine (rput3_at u (mkB p) _ HUL.out HP.out).mono ?_); rintro e v6 ⟨rfl, hb⟩; have HB6 := Lib.hid hb; have hS := Lib.hid (bstep hHeld.out hb); clear hb))
        go_wp2_with fail
        refine hK.out _ _ ?_ (fun hHeld => ?_)
        · (try dsimp only)
          (first | assumption | exact Lib.hid (hHeld.out.alloc hHeld.out.size _))
        clear hK K
        (try simp only [Act.put, List.getElem_toArray, List.getElem_cons_succ, List.getElem_cons_zero, List.setIfInBounds_toArray, List.set_cons_zero, List.set_cons_succ])
        refine wpAnyH_ready (rs := [1]) (by kernel_rfl) (by simp) ?_
        refine AllReadyH.cons rfl (fun K hK => ?_) AllReadyH.nil
        have hcv := run_str_any (w := v6) (l := [165]) 1 (by first | exact HRB.out | exact HRB.out.below_ HB6.out); simp only [List.length_cons, List.length_nil, Nat.zero_add] at hcv
        go_simp
        clear hcv
        refine hK.out _ _ ?_ (fun hHeld => ?_)
        · (try dsimp only)
          (first | assumption | exact Lib.hid (hHeld.out.alloc hHeld.out.size _))
        clear hK K
        (try simp only [Act.put, List.getElem_toArray, List.getElem_cons_succ, List.getElem_cons_zero, List.setIfInBounds_toArray, List.set_cons_zero, List.set_cons_succ])
        refine wpAnyH_take (i := 3) (v := ?_) rfl (by kernel_rfl) (by kernel_rfl) (by kernel_rfl) (fun _ _ _ h => h) (Or.inl ⟨by rfl, ?_⟩) (by assumption) ?_
        rotate_left
        · intro w hSw
          (try dsimp only at hSw)
          go_simp
          try with_reducible rfl
        (try simp only [Act.put, List.getElem_toArray, List.getElem_cons_succ, List.getElem_cons_zero, List.setIfInBounds_toArray, List.set_cons_zero, List.set_cons_succ])
        refine wpAnyH_take (i := 7) (v := ?_) rfl (by kernel_rfl) (by kernel_rfl) (by kernel_rfl) (fun _ _ _ h => h) (Or.inl ⟨by rfl, ?_⟩) (by assumption) ?_
        rotate_left
        · intro w hSw
          (try dsimp only at hSw)
          go_simp
          try with_reducible rfl
        (try simp only [Act.put, List.getElem_toArray, List.getElem_cons_succ, List.getElem_cons_zero, List.setIfInBounds_toArray, List.set_cons_zero, List.set_cons_succ])
        refine wpAnyH_take (i := 8) (v := ?_) rfl (by kernel_rfl) (by kernel_rfl) (by kernel_rfl) (fun _ _ _ h => h) (Or.inl ⟨by rfl, ?_⟩) (by assumption) ?_
        rotate_left
        · intro w hSw
          (try dsimp only at hSw)
          go_simp
          try with_reducible rfl
        (try simp only [Act.put, List.getElem_toArray, List.getElem_cons_succ, List.getElem_cons_zero, List.setIfInBounds_toArray, List.set_cons_zero, List.set_cons_succ])
        refine wpAnyH_done (by kernel_rfl) ?_ _
        have H := hHeld.out
        go_wp2
        go_ret
        exact ⟨rfl, H⟩
    · go_simp
      (go_at_call 54; ((with_reducible refine (rput3_at u (mkB p) _ HUL.out HP.out).mono ?_); rintro e v6 ⟨rfl, hb⟩; have HB6 := Lib.hid hb; have hS := Lib.hid (bstep hHeld.out hb); clear hb))
      go_wp2_with fail
      refine hK.out _ _ ?_ (fun hHeld => ?_)
      · (try dsimp only)
        (first | assumption | exact Lib.hid (hHeld.out.alloc hHeld.out.size _))
      clear hK K
      (try simp only [Act.put, List.getElem_toArray, List.getElem_cons_succ, List.getElem_cons_zero, List.setIfInBounds_toArray, List.set_cons_zero, List.set_cons_succ])
      refine wpAnyH_ready (rs := [0]) (by kernel_rfl) (by simp) ?_
      refine AllReadyH.cons rfl (fun K hK => ?_) AllReadyH.nil
      go_simp
      have HRB := Lib.hid (lit_row v6 (bc [165]) 5 (#[.int .u8 165]) rfl)
      refine hK.out _ _ ?_ (fun hHeld => ?_)
      · (try dsimp only)
        (first | assumption | exact Lib.hid (hHeld.out.alloc hHeld.out.size _))
      clear hK K
      (try simp only [Act.put, List.getElem_toArray, List.getElem_cons_succ, List.getElem_cons_zero, List.setIfInBounds_toArray, List.set_cons_zero, List.set_cons_succ])
      refine wpAnyH_ready (rs := [1]) (by kernel_rfl) (by simp) ?_
      refine AllReadyH.cons rfl (fun K hK => ?_) AllReadyH.nil
      have hcv := run_str_any (w := (v6.alloc (.cells #[.int .u8 165] 5))) (l := [165]) 1 (by first | exact HRB.out | exact HRB.out.below_ HB6.out); simp only [List.length_cons, List.length_nil, Nat.zero_add] at hcv
      go_simp
      clear hcv
      refine hK.out _ _ ?_ (fun hHeld => ?_)
      · (try dsimp only)
        (first | assumption | exact Lib.hid (hHeld.out.alloc hHeld.out.size _))
      clear hK K
      (try simp only [Act.put, List.getElem_toArray, List.getElem_cons_succ, List.getElem_cons_zero, List.setIfInBounds_toArray, List.set_cons_zero, List.set_cons_succ])
      refine wpAnyH_take (i := 3) (v := ?_) rfl (by kernel_rfl) (by kernel_rfl) (by kernel_rfl) (fun _ _ _ h => h) (Or.inl ⟨by rfl, ?_⟩) (by assumption) ?_
      rotate_left
      · intro w hSw
        (try dsimp only at hSw)
        go_simp
        try with_reducible rfl
      (try simp only [Act.put, List.getElem_toArray, List.getElem_cons_succ, List.getElem_cons_zero, List.setIfInBounds_toArray, List.set_cons_zero, List.set_cons_succ])
      refine wpAnyH_take (i := 7) (v := ?_) rfl (by kernel_rfl) (by kernel_rfl) (by kernel_rfl) (fun _ _ _ h => h) (Or.inl ⟨by rfl, ?_⟩) (by assumption) ?_
      rotate_left
      · intro w hSw
        (try dsimp only at hSw)
        go_simp
        try with_reducible rfl
      (try simp only [Act.put, List.getElem_toArray, List.getElem_cons_succ, List.getElem_cons_zero, List.setIfInBounds_toArray, List.set_cons_zero, List.set_cons_succ])
      refine wpAnyH_take (i := 8) (v := ?_) rfl (by kernel_rfl) (by kernel_rfl) (by kernel_rfl) (fun _ _ _ h => h) (Or.inl ⟨by rfl, ?_⟩) (by assumption) ?_
      rotate_left
      · intro w hSw
        (try dsimp only at hSw)
        go_simp
        try with_reducible rfl
      (try simp only [Act.put, List.getElem_toArray, List.getElem_cons_succ, List.getElem_cons_zero, List.setIfInBounds_toArray, List.set_cons_zero, List.set_cons_succ])
      refine wpAnyH_done (by kernel_rfl) ?_ _
      have H := hHeld.out
      go_wp2
      go_ret
      exact ⟨rfl, H⟩

theorem rput4_any (kind : UInt8) (body : List UInt8) (w : World) (hl : body.length ≤ 100000) :
    Calls Tryd.prog 26 #[.int .u8 (kind.toNat : Int), .string (mkB body)] w fun e w' => e = .returned (.string (mkB (putF kind body))) ∧ Below w.heap.size w w' :=
  rput4_core kind body _ _ _ w hl rfl rfl rfl
end Go.Proofs.YthnkiabhfcddaaaDoor
