/-
  The walk of the law RecordApart.
-/
import Derived.Test.YthnkiabhfcddaaaDoorPackT
import Derived.Deep.RegionHeld3
namespace Go.Proofs.YthnkiabhfcddaaaDoor
open Go.RowKit
set_option linter.unusedVariables false

set_option maxRecDepth 100000 in
set_option maxHeartbeats 4000000 in
theorem recordApart_any (a b : Rec) (W : World) (hT : TbR W) (ha : a.In) (hb : b.In) (hza : a.text.length ≤ 9223372036854775807) (hzb : b.text.length ≤ 9223372036854775807) :
    Calls Tryd.prog 8 #[.agg #[.int .u8 (a.kind : Int), .int .i64 a.src, .int .u64 (a.seq : Int), .int .i64 a.at_, .int .i64 a.num, .int .i64 a.code, .bool a.yes, .string (mkB a.text)], .agg #[.int .u8 (b.kind : Int), .int .i64 b.src, .int .u64 (b.seq : Int), .int .i64 b.at_, .int .i64 b.num, .int .i64 b.code, .bool b.yes, .string (mkB b.text)]] W fun e w' => e = .returned (.bool true) ∧ Below W.heap.size W w' := by
  obtain ⟨g, hg⟩ : ∃ g, g = W.heap.size := ⟨_, rfl⟩
  obtain ⟨w0, hw0⟩ : ∃ w0, w0 = (W.alloc (recB a 24)).alloc (recB b 24) := ⟨_, rfl⟩
  have HW0 := Lib.hid (show Below W.heap.size W w0 by rw [hw0]; exact bmore (bmore (bself W) _) _)
  have HA := Lib.hid (awake7_any w0 (hT.over HW0.out))
  have hS0 : TwinR W g (g + 1) a b w0 := by
    obtain ⟨q1, q2, q3, q4⟩ := two_blocks (w := W) (o1 := recB a 24) (o2 := recB b 24) (Below.refl _ _)
    rw [hw0, hg]
    exact twinR_of (recAt_blk q1) (recAt_blk q2) ⟨by simp; omega, by simp, q3⟩
  obtain ⟨h, hh⟩ : ∃ h, h = g + 1 := ⟨_, rfl⟩
  rw [← hh] at hS0
  obtain ⟨xa, hxa⟩ : ∃ x, mayR a = x := ⟨_, rfl⟩
  obtain ⟨xb, hxb⟩ : ∃ x, mayR b = x := ⟨_, rfl⟩
  obtain ⟨sa, hsa⟩ : ∃ x, showR a = x := ⟨_, rfl⟩
  obtain ⟨sb, hsb⟩ : ∃ x, showR b = x := ⟨_, rfl⟩
  have HMA := Lib.hid (fun w hW => cmay7_any W hT a w hW ha hxa)
  have HMB := Lib.hid (fun w hW => cmay7_any W hT b w hW hb hxb)
  have HSA := Lib.hid (fun w hW => cshow7_any W hT a w hW ha hsa)
  have HSB := Lib.hid (fun w hW => cshow7_any W hT b w hW hb hsb)
  have HQ : Hid (xa = true → xb = true → ¬ 0 < a.text.length → ¬ 0 < b.text.length → ((mkB sa).toList == (mkB sb).toList) = decide (a = b)) := Lib.hid (by
    intro h1 h2 h3 h4
    rw [mkB_toList, mkB_toList, Bool.eq_iff_iff, beq_iff_eq, decide_eq_true_eq, ← hsa, ← hsb]
    exact ⟨fun h => show_inj (by rw [hxa, h1]) (by rw [hxb, h2]) (List.eq_nil_of_length_eq_zero (by omega)) (List.eq_nil_of_length_eq_zero (by omega)) h, fun h => by rw [h]⟩)
  have hla : (mkB a.text).size = a.text.length := mkB_size _
  have hlb : (mkB b.text).size = b.text.length := mkB_size _
  have hdd : (decide (a = b) == decide (a = b)) = true := by simp
  have heq : ∀ w, (binOp .eql 24 (.agg #[.int .u8 (a.kind : Int), .int .i64 a.src, .int .u64 (a.seq : Int), .int .i64 a.at_, .int .i64 a.num, .int .i64 a.code, .bool a.yes, .string (mkB a.text)]) (.agg #[.int .u8 (b.kind : Int), .int .i64 b.src, .int .u64 (b.seq : Int), .int .i64 b.at_, .int .i64 b.num, .int .i64 b.code, .bool b.yes, .string (mkB b.text)])).run Tryd.prog w = .ok (.bool (decide (a = b))) w := fun w => run_eq_r7 w a b
  have HG := Lib.hid hg
  unfold recB at hw0
  clear hxa hxb hsa hsb hT ha hb
  go_enter Tryd.func8, Tryd.ntmps8
  go_upto_region 1 with (fail)
  rw [← hw0]
  rw [← hg, ← hh]
  clear hw0 hg hh HW0
  go_upto_region 4 with (go_at_call 9; (with_reducible refine HA.out.mono ?_); rintro e w1 ⟨rfl, hb⟩; have hS := twinR_over hS0 hb; clear hb)
  unfold TwinR at hS
  clear hS0 HA
  by_cases h1 : 0 < a.text.length
  · have q1 : (0 : Int) < (a.text.length : Int) := by omega
    go_wp2_with (first
      | (go_at_call 11; ((with_reducible refine Calls.mono (HMA.out _ ?_) ?_); (exact (twinR_hid (W := W) (g := g) (h := h) (a := a) (b := b) (by assumption)).2.2); rintro e w6 ⟨rfl, hb⟩; have hs_w6 := twinR_over (by assumption) hb; clear hb))
      | (go_at_call 11; ((with_reducible refine Calls.mono (HMB.out _ ?_) ?_); (exact (twinR_hid (W := W) (g := g) (h := h) (a := a) (b := b) (by assumption)).2.2); rintro e w7 ⟨rfl, hb⟩; have hs_w7 := twinR_over (by assumption) hb; clear hb)))
    have HZ := Lib.hid (twinR_hid hS).2.2
    go_ret
    exact ⟨rfl, HZ.out⟩
  · have q1 : ¬ (0 : Int) < (a.text.length : Int) := by omega
    by_cases h2 : 0 < b.text.length
    · have q2 : (0 : Int) < (b.text.length : Int) := by omega
      go_wp2_with (first
        | (go_at_call 11; ((with_reducible refine Calls.mono (HMA.out _ ?_) ?_); (exact (twinR_hid (W := W) (g := g) (h := h) (a := a) (b := b) (by assumption)).2.2); rintro e w6 ⟨rfl, hb⟩; have hs_w6 := twinR_over (by assumption) hb; clear hb))
        | (go_at_call 11; ((with_reducible refine Calls.mono (HMB.out _ ?_) ?_); (exact (twinR_hid (W := W) (g := g) (h := h) (a := a) (b := b) (by assumption)).2.2); rintro e w7 ⟨rfl, hb⟩; have hs_w7 := twinR_over (by assumption) hb; clear hb)))
      have HZ := Lib.hid (twinR_hid hS).2.2
      go_ret
      exact ⟨rfl, HZ.out⟩
    · have q2 : ¬ (0 : Int) < (b.text.length : Int) := by omega
      cases xa with
      | false =>
        go_wp2_with (first
          | (go_at_call 11; ((with_reducible refine Calls.mono (HMA.out _ ?_) ?_); (exact (twinR_hid (W := W) (g := g) (h := h) (a := a) (b := b) (by assumption)).2.2); rintro e w6 ⟨rfl, hb⟩; have hs_w6 := twinR_over (by assumption) hb; clear hb))
          | (go_at_call 11; ((with_reducible refine Calls.mono (HMB.out _ ?_) ?_); (exact (twinR_hid (W := W) (g := g) (h := h) (a := a) (b := b) (by assumption)).2.2); rintro e w7 ⟨rfl, hb⟩; have hs_w7 := twinR_over (by assumption) hb; clear hb)))
        have HZ := Lib.hid (twinR_hid hs_w6).2.2
        go_ret
        exact ⟨rfl, HZ.out⟩
      | true =>
        cases xb with
        | false =>
          go_wp2_with (first
            | (go_at_call 11; ((with_reducible refine Calls.mono (HMA.out _ ?_) ?_); (exact (twinR_hid (W := W) (g := g) (h := h) (a := a) (b := b) (by assumption)).2.2); rintro e w6 ⟨rfl, hb⟩; have hs_w6 := twinR_over (by assumption) hb; clear hb))
            | (go_at_call 11; ((with_reducible refine Calls.mono (HMB.out _ ?_) ?_); (exact (twinR_hid (W := W) (g := g) (h := h) (a := a) (b := b) (by assumption)).2.2); rintro e w7 ⟨rfl, hb⟩; have hs_w7 := twinR_over (by assumption) hb; clear hb)))
          have HZ := Lib.hid (twinR_hid hs_w7).2.2
          go_ret
          exact ⟨rfl, HZ.out⟩
        | true =>
          have hqq := HQ.out rfl rfl h1 h2
          go_upto_region 6 with (first
            | (go_at_call 11; ((with_reducible refine Calls.mono (HMA.out _ ?_) ?_); (exact (twinR_hid (W := W) (g := g) (h := h) (a := a) (b := b) (by assumption)).2.2); rintro e w6 ⟨rfl, hb⟩; have hs_w6 := twinR_over (by assumption) hb; clear hb))
            | (go_at_call 11; ((with_reducible refine Calls.mono (HMB.out _ ?_) ?_); (exact (twinR_hid (W := W) (g := g) (h := h) (a := a) (b := b) (by assumption)).2.2); rintro e w7 ⟨rfl, hb⟩; have hs_w7 := twinR_over (by assumption) hb; clear hb)))
          have hS7 := hs_w7
          unfold TwinR at hS7
          clear hS hs_w6 hs_w7
          refine wp_region_held_drew (S := fun w' => w'.cell? ⟨g, 0, none⟩ = some (.int .u8 (a.kind : Int)) ∧ w'.cell? ⟨g, 1, none⟩ = some (.int .i64 a.src) ∧ w'.cell? ⟨g, 2, none⟩ = some (.int .u64 (a.seq : Int)) ∧ w'.cell? ⟨g, 3, none⟩ = some (.int .i64 a.at_) ∧ w'.cell? ⟨g, 4, none⟩ = some (.int .i64 a.num) ∧ w'.cell? ⟨g, 5, none⟩ = some (.int .i64 a.code) ∧ w'.cell? ⟨g, 6, none⟩ = some (.bool a.yes) ∧ w'.cell? ⟨g, 7, none⟩ = some (.string (mkB a.text)) ∧ w'.cell? ⟨h, 0, none⟩ = some (.int .u8 (b.kind : Int)) ∧ w'.cell? ⟨h, 1, none⟩ = some (.int .i64 b.src) ∧ w'.cell? ⟨h, 2, none⟩ = some (.int .u64 (b.seq : Int)) ∧ w'.cell? ⟨h, 3, none⟩ = some (.int .i64 b.at_) ∧ w'.cell? ⟨h, 4, none⟩ = some (.int .i64 b.num) ∧ w'.cell? ⟨h, 5, none⟩ = some (.int .i64 b.code) ∧ w'.cell? ⟨h, 6, none⟩ = some (.bool b.yes) ∧ w'.cell? ⟨h, 7, none⟩ = some (.string (mkB b.text)) ∧ Hid (g < w'.heap.size ∧ h < w'.heap.size ∧ Below W.heap.size W w')) (by kernel_rfl) ?_ (fun hHeld => ?_)
          · (try dsimp only)
            (first | (with_reducible assumption) | (with_reducible exact twinR_drew (by assumption)))
          refine wpAnyH_take (i := 0) (v := ?_) rfl (by kernel_rfl) (by kernel_rfl) (by kernel_rfl) (fun _ _ _ h => h) (Or.inl ⟨by rfl, ?_⟩) (by assumption) ?_
          rotate_left
          · intro w hSw
            (try dsimp only at hSw)
            go_simp
            try with_reducible rfl
          (try simp only [Act.put, List.getElem_toArray, List.getElem_cons_zero, List.setIfInBounds_toArray, List.set_cons_zero, List.set_cons_succ])
          refine wpAnyH_take (i := 2) (v := ?_) rfl (by kernel_rfl) (by kernel_rfl) (by kernel_rfl) (fun _ _ _ h => h) (Or.inl ⟨by rfl, ?_⟩) (by assumption) ?_
          rotate_left
          · intro w hSw
            (try dsimp only at hSw)
            go_simp
            try with_reducible rfl
          (try simp only [Act.put, List.getElem_toArray, List.getElem_cons_succ, List.getElem_cons_zero, List.setIfInBounds_toArray, List.set_cons_zero, List.set_cons_succ])
          refine wpAnyH_take (i := 5) (v := ?_) rfl (by kernel_rfl) (by kernel_rfl) (by kernel_rfl) (fun _ _ _ h => h) (Or.inl ⟨by rfl, ?_⟩) (by assumption) ?_
          rotate_left
          · intro w hSw
            (try dsimp only at hSw)
            go_simp
            try with_reducible rfl
          (try simp only [Act.put, List.getElem_toArray, List.getElem_cons_succ, List.getElem_cons_zero, List.setIfInBounds_toArray, List.set_cons_zero, List.set_cons_succ])
          refine wpAnyH_take (i := 6) (v := ?_) rfl (by kernel_rfl) (by kernel_rfl) (by kernel_rfl) (fun _ _ _ h => h) (Or.inl ⟨by rfl, ?_⟩) (by assumption) ?_
          rotate_left
          · intro w hSw
            (try dsimp only at hSw)
            go_simp
            try with_reducible rfl
          (try simp only [Act.put, List.getElem_toArray, List.getElem_cons_succ, List.getElem_cons_zero, List.setIfInBounds_toArray, List.set_cons_zero, List.set_cons_succ])
          refine wpAnyH_take (i := 7) (v := ?_) rfl (by kernel_rfl) (by kernel_rfl) (by kernel_rfl) (fun _ _ _ h => h) (Or.inl ⟨by rfl, ?_⟩) (by assumption) ?_
          rotate_left
          · intro w hSw
            (try dsimp only at hSw)
            go_simp
            try with_reducible rfl
          (try simp only [Act.put, List.getElem_toArray, List.getElem_cons_succ, List.getElem_cons_zero, List.setIfInBounds_toArray, List.set_cons_zero, List.set_cons_succ])
          refine wpAnyH_ready (rs := [1]) (by kernel_rfl) (by simp) ?_
          refine AllReadyH.cons rfl (fun K hK => ?_) AllReadyH.nil
          go_simp
          (go_at_call 15; ((with_reducible refine Calls.mono (HSA.out _ ?_) ?_); (exact (twinR_hid (W := W) (g := g) (h := h) (a := a) (b := b) (by assumption)).2.2); rintro e w8 ⟨rfl, hb⟩; have hs_w8 := twinR_over (by assumption) hb; clear hb))
          go_wp2_with fail
          refine hK.out _ _ ?_ (fun hHeld => ?_)
          · (try dsimp only)
            (first | (with_reducible assumption) | (with_reducible exact twinR_drew (by assumption)))
          clear hK K
          (try simp only [Act.put, List.getElem_toArray, List.getElem_cons_succ, List.getElem_cons_zero, List.setIfInBounds_toArray, List.set_cons_zero, List.set_cons_succ])
          refine wpAnyH_ready (rs := [3]) (by kernel_rfl) (by simp) ?_
          refine AllReadyH.cons rfl (fun K hK => ?_) AllReadyH.nil
          go_simp
          (go_at_call 15; ((with_reducible refine Calls.mono (HSB.out _ ?_) ?_); (exact (twinR_hid (W := W) (g := g) (h := h) (a := a) (b := b) (by assumption)).2.2); rintro e w9 ⟨rfl, hb⟩; have hs_w9 := twinR_over (by assumption) hb; clear hb))
          go_wp2_with fail
          refine hK.out _ _ ?_ (fun hHeld => ?_)
          · (try dsimp only)
            (first | (with_reducible assumption) | (with_reducible exact twinR_drew (by assumption)))
          clear hK K
          (try simp only [Act.put, List.getElem_toArray, List.getElem_cons_succ, List.getElem_cons_zero, List.setIfInBounds_toArray, List.set_cons_zero, List.set_cons_succ])
          refine wpAnyH_take (i := 4) (v := ?_) rfl (by kernel_rfl) (by kernel_rfl) (by kernel_rfl) (fun _ _ _ h => h) (Or.inl ⟨by rfl, ?_⟩) (by assumption) ?_
          rotate_left
          · intro w hSw
            (try dsimp only at hSw)
            go_simp
            try with_reducible rfl
          (try simp only [Act.put, List.getElem_toArray, List.getElem_cons_succ, List.getElem_cons_zero, List.setIfInBounds_toArray, List.set_cons_zero, List.set_cons_succ])
          refine wpAnyH_take (i := 8) (v := ?_) rfl (by kernel_rfl) (by kernel_rfl) (by kernel_rfl) (fun _ _ _ h => h) (Or.inl ⟨by rfl, ?_⟩) (by assumption) ?_
          rotate_left
          · intro w hSw
            (try dsimp only at hSw)
            go_simp
            try with_reducible rfl
          (try simp only [Act.put, List.getElem_toArray, List.getElem_cons_succ, List.getElem_cons_zero, List.setIfInBounds_toArray, List.set_cons_zero, List.set_cons_succ])
          refine wpAnyH_take (i := 9) (v := ?_) rfl (by kernel_rfl) (by kernel_rfl) (by kernel_rfl) (fun _ _ _ h => h) (Or.inl ⟨by rfl, ?_⟩) (by assumption) ?_
          rotate_left
          · intro w hSw
            (try dsimp only at hSw)
            go_simp
            try with_reducible rfl
          (try simp only [Act.put, List.getElem_toArray, List.getElem_cons_succ, List.getElem_cons_zero, List.setIfInBounds_toArray, List.set_cons_zero, List.set_cons_succ])
          refine wpAnyH_done (by kernel_rfl) ?_ _
          have HZ := Lib.hid (twinR_hid hs_w9).2.2
          go_wp2
          go_ret
          exact ⟨rfl, HZ.out⟩
theorem recordApart_row (a b : Rec) (W : World) (hT : TbR W) (ha : a.In) (hta : a.text.length ≤ 9223372036854775807) (hb : b.In) (htb : b.text.length ≤ 9223372036854775807) :
    Calls Tryd.prog 8 #[.agg #[.int .u8 (a.kind : Int), .int .i64 a.src, .int .u64 (a.seq : Int), .int .i64 a.at_, .int .i64 a.num, .int .i64 a.code, .bool a.yes, .string (mkB a.text)], .agg #[.int .u8 (b.kind : Int), .int .i64 b.src, .int .u64 (b.seq : Int), .int .i64 b.at_, .int .i64 b.num, .int .i64 b.code, .bool b.yes, .string (mkB b.text)]] W fun e w' => e = .returned (.bool true) ∧ Below W.heap.size W w' := recordApart_any a b W hT ha hb hta htb
end Go.Proofs.YthnkiabhfcddaaaDoor
