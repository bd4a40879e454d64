/-
  The walk of the law RecordPuts.
-/
import Derived.Test.YthnkiabhfcddaaaDoorPackT
import Derived.Deep.RegionHeld3
namespace Go.Proofs.YthnkiabhfcddaaaDoor
open Go.RowKit
set_option linter.unusedVariables false

set_option maxRecDepth 100000 in
set_option maxHeartbeats 4000000 in
theorem recordPuts_any (r : Rec) (W : World) (hT : TbR W) (hin : r.In) (hsz : r.text.length ≤ 9223372036854775807) :
    Calls Tryd.prog 3 #[.agg #[.int .u8 (r.kind : Int), .int .i64 r.src, .int .u64 (r.seq : Int), .int .i64 r.at_, .int .i64 r.num, .int .i64 r.code, .bool r.yes, .string (mkB r.text)]] W fun e w' => e = .returned (.bool true) ∧ Below W.heap.size W w' := by
  have HT0 : Hid (TbR (W.alloc (recB r 24))) := Lib.hid (hT.over (bmore (bself W) _))
  have HA := Lib.hid (awake7_any _ HT0.out)
  have HG0 : Hid (RecAt (W.alloc (recB r 24)) W.heap.size 0 r ∧ W.heap.size < (W.alloc (recB r 24)).heap.size ∧ Below W.heap.size W (W.alloc (recB r 24))) := Lib.hid ⟨recAt_blk (heap_alloc_new W _), by simp, bmore (bself W) _⟩
  unfold recB at HA HG0
  obtain ⟨x, hx⟩ : ∃ x, mayR r = x := ⟨_, rfl⟩
  obtain ⟨pb, hpb⟩ : ∃ pb, putR r = pb := ⟨_, rfl⟩
  obtain ⟨sb, hsb⟩ : ∃ sb, showR r = sb := ⟨_, rfl⟩
  have HM := Lib.hid (fun w hW => cmay7_any W hT r w hW hin hx)
  have HP := Lib.hid (fun w hW => cput7_any W hT r w hW hin hpb)
  have HS := Lib.hid (fun w hW => cshow7_any W hT r w hW hin hsb)
  have HRM := Lib.hid (fun w => rmay7_any r.kind r.src r.seq r.at_ r.num r.code r.yes r.text w hx)
  have HRP := Lib.hid (fun w => rput7_any r.kind r.src r.seq r.at_ r.num r.code r.yes r.text w hin hpb)
  have HRS := Lib.hid (fun w => rshow7_any r.kind r.src r.seq r.at_ r.num r.code r.yes r.text w hin hsb)
  have hxx : (x == x) = true := by simp
  have hpp : ((mkB pb).toList == (mkB pb).toList) = true := by simp
  have hss : ((mkB sb).toList == (mkB sb).toList) = true := by simp
  have hlen : (mkB r.text).size = r.text.length := mkB_size _
  obtain ⟨g, hg⟩ : ∃ g, g = W.heap.size := ⟨_, rfl⟩
  clear hx hpb hsb hT HT0 hin
  go_enter Tryd.func3, Tryd.ntmps3
  go_upto_region 4 with (go_at_call 9; (with_reducible refine HA.out.mono ?_); rintro e w1 ⟨rfl, hb⟩; have HG1 := Lib.hid (And.intro (HG0.out.1.over HG0.out.2.1 hb) (And.intro (Nat.lt_of_lt_of_le HG0.out.2.1 hb.size) (bstep HG0.out.2.2 hb))); clear hb)
  have HG1 : Hid (RecAt w1 g 0 r ∧ g < w1.heap.size ∧ Below W.heap.size W w1) := Lib.hid (by rw [hg]; exact HG1.out)
  rw [← hg]
  have HGE := Lib.hid hg
  clear HG0 HA hg
  obtain ⟨m0, m1, m2, m3, m4, m5, m6, m7⟩ := HG1.out.1
  by_cases h4 : r.text.length ≤ 400
  · have q4 : ¬ (400 : Int) < (r.text.length : Int) := by omega
    go_upto_region 7 with (go_at_call 10; ((with_reducible refine Calls.mono (plain7_any r _) ?_); rintro e w4 ⟨rfl, hb⟩; have HG4 := Lib.hid (And.intro (HG1.out.1.over HG1.out.2.1 hb) (And.intro (Nat.lt_of_lt_of_le HG1.out.2.1 hb.size) (bstep HG1.out.2.2 hb))); clear hb))
    clear m0 m1 m2 m3 m4 m5 m6 m7
    have hS : TwinR W g w4.heap.size r r (w4.alloc (recB r 26)) := twinR_of (HG4.out.1.over HG4.out.2.1 (bmore (bself w4) _)) (recAt_blk (heap_alloc_new w4 _)) ⟨Nat.lt_of_lt_of_le HG4.out.2.1 (bmore (bself w4) _).size, by simp, bstep HG4.out.2.2 (bmore (bself w4) _)⟩
    obtain ⟨h, hh⟩ : ∃ h, h = w4.heap.size := ⟨_, rfl⟩
    rw [← hh] at hS ⊢
    unfold TwinR recB at hS
    generalize w4.alloc (Obj.cells #[Value.int IntKind.u8 (r.kind : Int), Value.int IntKind.i64 r.src, Value.int IntKind.u64 (r.seq : Int), Value.int IntKind.i64 r.at_, Value.int IntKind.i64 r.num, Value.int IntKind.i64 r.code, Value.bool r.yes, Value.string (mkB r.text)] 26) = w5 at hS ⊢
    clear hh HG1 HG4 q4
    refine wp_region_held_drew (S := fun w' => w'.cell? ⟨g, 0, none⟩ = some (.int .u8 (r.kind : Int)) ∧ w'.cell? ⟨g, 1, none⟩ = some (.int .i64 r.src) ∧ w'.cell? ⟨g, 2, none⟩ = some (.int .u64 (r.seq : Int)) ∧ w'.cell? ⟨g, 3, none⟩ = some (.int .i64 r.at_) ∧ w'.cell? ⟨g, 4, none⟩ = some (.int .i64 r.num) ∧ w'.cell? ⟨g, 5, none⟩ = some (.int .i64 r.code) ∧ w'.cell? ⟨g, 6, none⟩ = some (.bool r.yes) ∧ w'.cell? ⟨g, 7, none⟩ = some (.string (mkB r.text)) ∧ w'.cell? ⟨h, 0, none⟩ = some (.int .u8 (r.kind : Int)) ∧ w'.cell? ⟨h, 1, none⟩ = some (.int .i64 r.src) ∧ w'.cell? ⟨h, 2, none⟩ = some (.int .u64 (r.seq : Int)) ∧ w'.cell? ⟨h, 3, none⟩ = some (.int .i64 r.at_) ∧ w'.cell? ⟨h, 4, none⟩ = some (.int .i64 r.num) ∧ w'.cell? ⟨h, 5, none⟩ = some (.int .i64 r.code) ∧ w'.cell? ⟨h, 6, none⟩ = some (.bool r.yes) ∧ w'.cell? ⟨h, 7, none⟩ = some (.string (mkB r.text)) ∧ Hid (g < w'.heap.size ∧ h < w'.heap.size ∧ Below W.heap.size W w')) (by kernel_rfl) ?_ (fun hHeld => ?_)
    · (try dsimp only)
      (first | (with_reducible assumption) | (with_reducible exact twinR_drew (by assumption)))
    refine wpAnyH_take (i := 0) (v := ?_) rfl (by kernel_rfl) (by kernel_rfl) (by kernel_rfl) (fun _ _ _ h => h) (Or.inl ⟨by rfl, ?_⟩) (by assumption) ?_
    rotate_left
    · intro w hSw
      (try dsimp only at hSw)
      go_simp
      try with_reducible rfl
    (try simp only [Act.put, List.getElem_toArray, List.getElem_cons_zero, List.setIfInBounds_toArray, List.set_cons_zero, List.set_cons_succ])
    refine wpAnyH_take (i := 2) (v := ?_) rfl (by kernel_rfl) (by kernel_rfl) (by kernel_rfl) (fun _ _ _ h => h) (Or.inl ⟨by rfl, ?_⟩) (by assumption) ?_
    rotate_left
    · intro w hSw
      (try dsimp only at hSw)
      go_simp
      try with_reducible rfl
    (try simp only [Act.put, List.getElem_toArray, List.getElem_cons_succ, List.getElem_cons_zero, List.setIfInBounds_toArray, List.set_cons_zero, List.set_cons_succ])
    refine wpAnyH_ready (rs := [1]) (by kernel_rfl) (by simp) ?_
    refine AllReadyH.cons rfl (fun K hK => ?_) AllReadyH.nil
    go_simp
    (go_at_call 11; ((with_reducible refine Calls.mono (HM.out _ ?_) ?_); (exact (twinR_hid (W := W) (g := g) (h := h) (a := r) (b := r) (by assumption)).2.2); rintro e w6 ⟨rfl, hb⟩; have hs_w6 := twinR_over (by assumption) hb; clear hb))
    go_wp2_with fail
    refine hK.out _ _ ?_ (fun hHeld => ?_)
    · (try dsimp only)
      (first | (with_reducible assumption) | (with_reducible exact twinR_drew (by assumption)))
    clear hK K
    (try simp only [Act.put, List.getElem_toArray, List.getElem_cons_succ, List.getElem_cons_zero, List.setIfInBounds_toArray, List.set_cons_zero, List.set_cons_succ])
    refine wpAnyH_ready (rs := [3]) (by kernel_rfl) (by simp) ?_
    refine AllReadyH.cons rfl (fun K hK => ?_) AllReadyH.nil
    go_simp
    (go_at_call 12; ((with_reducible refine Calls.mono (HRM.out _) ?_); rintro e w7 ⟨rfl, hb⟩; have hs_w7 := twinR_over (by assumption) hb; clear hb))
    go_wp2_with fail
    refine hK.out _ _ ?_ (fun hHeld => ?_)
    · (try dsimp only)
      (first | (with_reducible assumption) | (with_reducible exact twinR_drew (by assumption)))
    clear hK K
    (try simp only [Act.put, List.getElem_toArray, List.getElem_cons_succ, List.getElem_cons_zero, List.setIfInBounds_toArray, List.set_cons_zero, List.set_cons_succ])
    refine wpAnyH_take (i := 4) (v := ?_) rfl (by kernel_rfl) (by kernel_rfl) (by kernel_rfl) (fun _ _ _ h => h) (Or.inl ⟨by rfl, ?_⟩) (by assumption) ?_
    rotate_left
    · intro w hSw
      (try dsimp only at hSw)
      go_simp
      try with_reducible rfl
    (try simp only [Act.put, List.getElem_toArray, List.getElem_cons_succ, List.getElem_cons_zero, List.setIfInBounds_toArray, List.set_cons_zero, List.set_cons_succ])
    refine wpAnyH_take (i := 5) (v := ?_) rfl (by kernel_rfl) (by kernel_rfl) (by kernel_rfl) (fun _ _ _ h => h) (Or.inl ⟨by rfl, ?_⟩) (by assumption) ?_
    rotate_left
    · intro w hSw
      (try dsimp only at hSw)
      go_simp
      try with_reducible rfl
    (try simp only [Act.put, List.getElem_toArray, List.getElem_cons_succ, List.getElem_cons_zero, List.setIfInBounds_toArray, List.set_cons_zero, List.set_cons_succ])
    refine wpAnyH_take (i := 6) (v := ?_) rfl (by kernel_rfl) (by kernel_rfl) (by kernel_rfl) (fun _ _ _ h => h) (Or.inl ⟨by rfl, ?_⟩) (by assumption) ?_
    rotate_left
    · intro w hSw
      (try dsimp only at hSw)
      go_simp
      try with_reducible rfl
    (try simp only [Act.put, List.getElem_toArray, List.getElem_cons_succ, List.getElem_cons_zero, List.setIfInBounds_toArray, List.set_cons_zero, List.set_cons_succ])
    refine wpAnyH_take (i := 9) (v := ?_) rfl (by kernel_rfl) (by kernel_rfl) (by kernel_rfl) (fun _ _ _ h => h) (Or.inl ⟨by rfl, ?_⟩) (by assumption) ?_
    rotate_left
    · intro w hSw
      (try dsimp only at hSw)
      go_simp
      try with_reducible rfl
    (try simp only [Act.put, List.getElem_toArray, List.getElem_cons_succ, List.getElem_cons_zero, List.setIfInBounds_toArray, List.set_cons_zero, List.set_cons_succ])
    refine wpAnyH_ready (rs := [7]) (by kernel_rfl) (by simp) ?_
    refine AllReadyH.cons rfl (fun K hK => ?_) AllReadyH.nil
    go_simp
    (go_at_call 13; ((with_reducible refine Calls.mono (HP.out _ ?_) ?_); (exact (twinR_hid (W := W) (g := g) (h := h) (a := r) (b := r) (by assumption)).2.2); rintro e w8 ⟨G8, z8, rfl, hl, hb⟩; have hs_w8 := twinR_over (by assumption) hb; have HL := Lib.hid hl; have hc8 := conv_of7 rfl hl; clear hb hl))
    go_wp2_with fail
    refine hK.out _ _ ?_ (fun hHeld => ?_)
    · (try dsimp only)
      (first | (with_reducible assumption) | (with_reducible exact twinR_drew (by assumption)))
    clear hK K
    (try simp only [Act.put, List.getElem_toArray, List.getElem_cons_succ, List.getElem_cons_zero, List.setIfInBounds_toArray, List.set_cons_zero, List.set_cons_succ])
    refine wpAnyH_ready (rs := [8, 10]) (by kernel_rfl) (by simp) ?_
    refine AllReadyH.cons rfl (fun K hK => ?_) (AllReadyH.cons rfl (fun K hK => ?_) AllReadyH.nil)
    · go_simp
      refine hK.out _ _ ?_ (fun hHeld => ?_)
      · (try dsimp only)
        (first | (with_reducible assumption) | (with_reducible exact twinR_drew (by assumption)))
      clear hK K
      (try simp only [Act.put, List.getElem_toArray, List.getElem_cons_succ, List.getElem_cons_zero, List.setIfInBounds_toArray, List.set_cons_zero, List.set_cons_succ])
      refine wpAnyH_ready (rs := [10]) (by kernel_rfl) (by simp) ?_
      refine AllReadyH.cons rfl (fun K hK => ?_) AllReadyH.nil
      go_simp
      (go_at_call 14; ((with_reducible refine Calls.mono (HRP.out _) ?_); rintro e w9 ⟨rfl, hb⟩; have hs_w9 := twinR_over (by assumption) hb; have hc9 := conv_of7 rfl (HL.out.over (Nat.le_refl _) hb); clear hb))
      go_wp2_with fail
      refine hK.out _ _ ?_ (fun hHeld => ?_)
      · (try dsimp only)
        (first | (with_reducible assumption) | (with_reducible exact twinR_drew (by assumption)))
      clear hK K
      (try simp only [Act.put, List.getElem_toArray, List.getElem_cons_succ, List.getElem_cons_zero, List.setIfInBounds_toArray, List.set_cons_zero, List.set_cons_succ])
      refine wpAnyH_take (i := 11) (v := ?_) rfl (by kernel_rfl) (by kernel_rfl) (by kernel_rfl) (fun _ _ _ h => h) (Or.inl ⟨by rfl, ?_⟩) (by assumption) ?_
      rotate_left
      · intro w hSw
        (try dsimp only at hSw)
        go_simp
        try with_reducible rfl
      (try simp only [Act.put, List.getElem_toArray, List.getElem_cons_succ, List.getElem_cons_zero, List.setIfInBounds_toArray, List.set_cons_zero, List.set_cons_succ])
      refine wpAnyH_take (i := 12) (v := ?_) rfl (by kernel_rfl) (by kernel_rfl) (by kernel_rfl) (fun _ _ _ h => h) (Or.inl ⟨by rfl, ?_⟩) (by assumption) ?_
      rotate_left
      · intro w hSw
        (try dsimp only at hSw)
        go_simp
        try with_reducible rfl
      (try simp only [Act.put, List.getElem_toArray, List.getElem_cons_succ, List.getElem_cons_zero, List.setIfInBounds_toArray, List.set_cons_zero, List.set_cons_succ])
      refine wpAnyH_take (i := 13) (v := ?_) rfl (by kernel_rfl) (by kernel_rfl) (by kernel_rfl) (fun _ _ _ h => h) (Or.inl ⟨by rfl, ?_⟩) (by assumption) ?_
      rotate_left
      · intro w hSw
        (try dsimp only at hSw)
        go_simp
        try with_reducible rfl
      (try simp only [Act.put, List.getElem_toArray, List.getElem_cons_succ, List.getElem_cons_zero, List.setIfInBounds_toArray, List.set_cons_zero, List.set_cons_succ])
      refine wpAnyH_take (i := 14) (v := ?_) rfl (by kernel_rfl) (by kernel_rfl) (by kernel_rfl) (fun _ _ _ h => h) (Or.inl ⟨by rfl, ?_⟩) (by assumption) ?_
      rotate_left
      · intro w hSw
        (try dsimp only at hSw)
        go_simp
        try with_reducible rfl
      (try simp only [Act.put, List.getElem_toArray, List.getElem_cons_succ, List.getElem_cons_zero, List.setIfInBounds_toArray, List.set_cons_zero, List.set_cons_succ])
      refine wpAnyH_take (i := 16) (v := ?_) rfl (by kernel_rfl) (by kernel_rfl) (by kernel_rfl) (fun _ _ _ h => h) (Or.inl ⟨by rfl, ?_⟩) (by assumption) ?_
      rotate_left
      · intro w hSw
        (try dsimp only at hSw)
        go_simp
        try with_reducible rfl
      (try simp only [Act.put, List.getElem_toArray, List.getElem_cons_succ, List.getElem_cons_zero, List.setIfInBounds_toArray, List.set_cons_zero, List.set_cons_succ])
      refine wpAnyH_ready (rs := [15]) (by kernel_rfl) (by simp) ?_
      refine AllReadyH.cons rfl (fun K hK => ?_) AllReadyH.nil
      go_simp
      (go_at_call 15; ((with_reducible refine Calls.mono (HS.out _ ?_) ?_); (exact (twinR_hid (W := W) (g := g) (h := h) (a := r) (b := r) (by assumption)).2.2); rintro e w10 ⟨rfl, hb⟩; have hs_w10 := twinR_over (by assumption) hb; clear hb))
      go_wp2_with fail
      refine hK.out _ _ ?_ (fun hHeld => ?_)
      · (try dsimp only)
        (first | (with_reducible assumption) | (with_reducible exact twinR_drew (by assumption)))
      clear hK K
      (try simp only [Act.put, List.getElem_toArray, List.getElem_cons_succ, List.getElem_cons_zero, List.setIfInBounds_toArray, List.set_cons_zero, List.set_cons_succ])
      refine wpAnyH_ready (rs := [17]) (by kernel_rfl) (by simp) ?_
      refine AllReadyH.cons rfl (fun K hK => ?_) AllReadyH.nil
      go_simp
      (go_at_call 16; ((with_reducible refine Calls.mono (HRS.out _) ?_); rintro e w11 ⟨rfl, hb⟩; have hs_w11 := twinR_over (by assumption) hb; clear hb))
      go_wp2_with fail
      refine hK.out _ _ ?_ (fun hHeld => ?_)
      · (try dsimp only)
        (first | (with_reducible assumption) | (with_reducible exact twinR_drew (by assumption)))
      clear hK K
      (try simp only [Act.put, List.getElem_toArray, List.getElem_cons_succ, List.getElem_cons_zero, List.setIfInBounds_toArray, List.set_cons_zero, List.set_cons_succ])
      refine wpAnyH_take (i := 18) (v := ?_) rfl (by kernel_rfl) (by kernel_rfl) (by kernel_rfl) (fun _ _ _ h => h) (Or.inl ⟨by rfl, ?_⟩) (by assumption) ?_
      rotate_left
      · intro w hSw
        (try dsimp only at hSw)
        go_simp
        try with_reducible rfl
      (try simp only [Act.put, List.getElem_toArray, List.getElem_cons_succ, List.getElem_cons_zero, List.setIfInBounds_toArray, List.set_cons_zero, List.set_cons_succ])
      refine wpAnyH_take (i := 19) (v := ?_) rfl (by kernel_rfl) (by kernel_rfl) (by kernel_rfl) (fun _ _ _ h => h) (Or.inl ⟨by rfl, ?_⟩) (by assumption) ?_
      rotate_left
      · intro w hSw
        (try dsimp only at hSw)
        go_simp
        try with_reducible rfl
      (try simp only [Act.put, List.getElem_toArray, List.getElem_cons_succ, List.getElem_cons_zero, List.setIfInBounds_toArray, List.set_cons_zero, List.set_cons_succ])
      refine wpAnyH_take (i := 20) (v := ?_) rfl (by kernel_rfl) (by kernel_rfl) (by kernel_rfl) (fun _ _ _ h => h) (Or.inl ⟨by rfl, ?_⟩) (by assumption) ?_
      rotate_left
      · intro w hSw
        (try dsimp only at hSw)
        go_simp
        try with_reducible rfl
      (try simp only [Act.put, List.getElem_toArray, List.getElem_cons_succ, List.getElem_cons_zero, List.setIfInBounds_toArray, List.set_cons_zero, List.set_cons_succ])
      refine wpAnyH_done (by kernel_rfl) ?_ _
      have HZ := Lib.hid (twinR_hid hs_w11).2.2
      go_wp2
      go_ret
      exact ⟨rfl, HZ.out⟩
    · go_simp
      (go_at_call 14; ((with_reducible refine Calls.mono (HRP.out _) ?_); rintro e w9 ⟨rfl, hb⟩; have hs_w9 := twinR_over (by assumption) hb; have hc9 := conv_of7 rfl (HL.out.over (Nat.le_refl _) hb); clear hb))
      go_wp2_with fail
      refine hK.out _ _ ?_ (fun hHeld => ?_)
      · (try dsimp only)
        (first | (with_reducible assumption) | (with_reducible exact twinR_drew (by assumption)))
      clear hK K
      (try simp only [Act.put, List.getElem_toArray, List.getElem_cons_succ, List.getElem_cons_zero, List.setIfInBounds_toArray, List.set_cons_zero, List.set_cons_succ])
      refine wpAnyH_ready (rs := [8]) (by kernel_rfl) (by simp) ?_
      refine AllReadyH.cons rfl (fun K hK => ?_) AllReadyH.nil
      go_simp
      refine hK.out _ _ ?_ (fun hHeld => ?_)
      · (try dsimp only)
        (first | (with_reducible assumption) | (with_reducible exact twinR_drew (by assumption)))
      clear hK K
      (try simp only [Act.put, List.getElem_toArray, List.getElem_cons_succ, List.getElem_cons_zero, List.setIfInBounds_toArray, List.set_cons_zero, List.set_cons_succ])
      refine wpAnyH_take (i := 11) (v := ?_) rfl (by kernel_rfl) (by kernel_rfl) (by kernel_rfl) (fun _ _ _ h => h) (Or.inl ⟨by rfl, ?_⟩) (by assumption) ?_
      rotate_left
      · intro w hSw
        (try dsimp only at hSw)
        go_simp
        try with_reducible rfl
      (try simp only [Act.put, List.getElem_toArray, List.getElem_cons_succ, List.getElem_cons_zero, List.setIfInBounds_toArray, List.set_cons_zero, List.set_cons_succ])
      refine wpAnyH_take (i := 12) (v := ?_) rfl (by kernel_rfl) (by kernel_rfl) (by kernel_rfl) (fun _ _ _ h => h) (Or.inl ⟨by rfl, ?_⟩) (by assumption) ?_
      rotate_left
      · intro w hSw
        (try dsimp only at hSw)
        go_simp
        try with_reducible rfl
      (try simp only [Act.put, List.getElem_toArray, List.getElem_cons_succ, List.getElem_cons_zero, List.setIfInBounds_toArray, List.set_cons_zero, List.set_cons_succ])
      refine wpAnyH_take (i := 13) (v := ?_) rfl (by kernel_rfl) (by kernel_rfl) (by kernel_rfl) (fun _ _ _ h => h) (Or.inl ⟨by rfl, ?_⟩) (by assumption) ?_
      rotate_left
      · intro w hSw
        (try dsimp only at hSw)
        go_simp
        try with_reducible rfl
      (try simp only [Act.put, List.getElem_toArray, List.getElem_cons_succ, List.getElem_cons_zero, List.setIfInBounds_toArray, List.set_cons_zero, List.set_cons_succ])
      refine wpAnyH_take (i := 14) (v := ?_) rfl (by kernel_rfl) (by kernel_rfl) (by kernel_rfl) (fun _ _ _ h => h) (Or.inl ⟨by rfl, ?_⟩) (by assumption) ?_
      rotate_left
      · intro w hSw
        (try dsimp only at hSw)
        go_simp
        try with_reducible rfl
      (try simp only [Act.put, List.getElem_toArray, List.getElem_cons_succ, List.getElem_cons_zero, List.setIfInBounds_toArray, List.set_cons_zero, List.set_cons_succ])
      refine wpAnyH_take (i := 16) (v := ?_) rfl (by kernel_rfl) (by kernel_rfl) (by kernel_rfl) (fun _ _ _ h => h) (Or.inl ⟨by rfl, ?_⟩) (by assumption) ?_
      rotate_left
      · intro w hSw
        (try dsimp only at hSw)
        go_simp
        try with_reducible rfl
      (try simp only [Act.put, List.getElem_toArray, List.getElem_cons_succ, List.getElem_cons_zero, List.setIfInBounds_toArray, List.set_cons_zero, List.set_cons_succ])
      refine wpAnyH_ready (rs := [15]) (by kernel_rfl) (by simp) ?_
      refine AllReadyH.cons rfl (fun K hK => ?_) AllReadyH.nil
      go_simp
      (go_at_call 15; ((with_reducible refine Calls.mono (HS.out _ ?_) ?_); (exact (twinR_hid (W := W) (g := g) (h := h) (a := r) (b := r) (by assumption)).2.2); rintro e w10 ⟨rfl, hb⟩; have hs_w10 := twinR_over (by assumption) hb; clear hb))
      go_wp2_with fail
      refine hK.out _ _ ?_ (fun hHeld => ?_)
      · (try dsimp only)
        (first | (with_reducible assumption) | (with_reducible exact twinR_drew (by assumption)))
      clear hK K
      (try simp only [Act.put, List.getElem_toArray, List.getElem_cons_succ, List.getElem_cons_zero, List.setIfInBounds_toArray, List.set_cons_zero, List.set_cons_succ])
      refine wpAnyH_ready (rs := [17]) (by kernel_rfl) (by simp) ?_
      refine AllReadyH.cons rfl (fun K hK => ?_) AllReadyH.nil
      go_simp
      (go_at_call 16; ((with_reducible refine Calls.mono (HRS.out _) ?_); rintro e w11 ⟨rfl, hb⟩; have hs_w11 := twinR_over (by assumption) hb; clear hb))
      go_wp2_with fail
      refine hK.out _ _ ?_ (fun hHeld => ?_)
      · (try dsimp only)
        (first | (with_reducible assumption) | (with_reducible exact twinR_drew (by assumption)))
      clear hK K
      (try simp only [Act.put, List.getElem_toArray, List.getElem_cons_succ, List.getElem_cons_zero, List.setIfInBounds_toArray, List.set_cons_zero, List.set_cons_succ])
      refine wpAnyH_take (i := 18) (v := ?_) rfl (by kernel_rfl) (by kernel_rfl) (by kernel_rfl) (fun _ _ _ h => h) (Or.inl ⟨by rfl, ?_⟩) (by assumption) ?_
      rotate_left
      · intro w hSw
        (try dsimp only at hSw)
        go_simp
        try with_reducible rfl
      (try simp only [Act.put, List.getElem_toArray, List.getElem_cons_succ, List.getElem_cons_zero, List.setIfInBounds_toArray, List.set_cons_zero, List.set_cons_succ])
      refine wpAnyH_take (i := 19) (v := ?_) rfl (by kernel_rfl) (by kernel_rfl) (by kernel_rfl) (fun _ _ _ h => h) (Or.inl ⟨by rfl, ?_⟩) (by assumption) ?_
      rotate_left
      · intro w hSw
        (try dsimp only at hSw)
        go_simp
        try with_reducible rfl
      (try simp only [Act.put, List.getElem_toArray, List.getElem_cons_succ, List.getElem_cons_zero, List.setIfInBounds_toArray, List.set_cons_zero, List.set_cons_succ])
      refine wpAnyH_take (i := 20) (v := ?_) rfl (by kernel_rfl) (by kernel_rfl) (by kernel_rfl) (fun _ _ _ h => h) (Or.inl ⟨by rfl, ?_⟩) (by assumption) ?_
      rotate_left
      · intro w hSw
        (try dsimp only at hSw)
        go_simp
        try with_reducible rfl
      (try simp only [Act.put, List.getElem_toArray, List.getElem_cons_succ, List.getElem_cons_zero, List.setIfInBounds_toArray, List.set_cons_zero, List.set_cons_succ])
      refine wpAnyH_done (by kernel_rfl) ?_ _
      have HZ := Lib.hid (twinR_hid hs_w11).2.2
      go_wp2
      go_ret
      exact ⟨rfl, HZ.out⟩
  · have q4 : (400 : Int) < (r.text.length : Int) := by omega
    go_wp2
    go_ret
    exact ⟨rfl, HG1.out.2.2⟩
theorem recordPuts_row (r : Rec) (W : World) (hT : TbR W) (hin : r.In) (ht : r.text.length ≤ 9223372036854775807) :
    Calls Tryd.prog 3 #[.agg #[.int .u8 (r.kind : Int), .int .i64 r.src, .int .u64 (r.seq : Int), .int .i64 r.at_, .int .i64 r.num, .int .i64 r.code, .bool r.yes, .string (mkB r.text)]] W fun e w' => e = .returned (.bool true) ∧ Below W.heap.size W w' := recordPuts_any r W hT hin ht
end Go.Proofs.YthnkiabhfcddaaaDoor
