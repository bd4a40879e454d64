/-
  The walk of the law FramePlays.
-/
import Derived.Test.YtpgainalimmecaaDoorAwakeFour
import Derived.Test.YtpgainalimmecaaDoorPlay
import Derived.Deep.RegionHeld3
import Derived.Deep.Cut
namespace Go.Proofs.YtpgainalimmecaaDoor
open Go.RowKit
set_option linter.unusedVariables false

set_option maxRecDepth 100000 in
set_option maxHeartbeats 8000000 in
theorem framePlays_walk (v : Value) (xs : List (UInt8 × List UInt8)) (W : World) (hT : Tabs W) (hl : xs.length ≤ 4611686018427387904) (hv : SeqP W W.heap.size v xs) :
    Calls Tryd.prog 4 #[v] W fun e w' => e = .returned (.bool true) ∧ Below W.heap.size W w' := by
  obtain ⟨A, c, rfl, _⟩ := hv.open_
  have HT := Lib.hid hT
  have HV := Lib.hid hv
  have HL := Lib.hid hl
  have HCA := Lib.hid (awake4_any W hT)
  clear hT hv hl
  go_enter Tryd.func4, Tryd.ntmps4
  go_wp2_with fail
  refine HCA.out.mono ?_
  rintro e w1 ⟨rfl, hb⟩
  have HB := Lib.hid hb
  have HV1 := Lib.hid (HV.out.over (Nat.le_refl _) hb)
  clear hb HCA
  go_wp2
  go_loop [4, 5] (fun n i => ∃ k : Nat, k ≤ xs.length ∧ i = .int .i64 k ∧ n = .int .i64 (lenA (xs.take k) : Nat) ∧ lenA (xs.take k) ≤ 1500) (fun _ i => xs.length - (intOf i).toNat)
  case atStart => exact ⟨0, Nat.zero_le _, rfl, rfl, Nat.zero_le _⟩
  case round =>
    obtain ⟨k, hk, rfl, rfl, hn⟩ := hrel
    by_cases hlt : k < xs.length
    · have hkl : (k : Int) ≤ 4611686018427387904 := by have := HL.out; omega
      obtain ⟨b, off, c', A', m, e, hS⟩ := HV1.out.all_ k hlt
      simp only [Value.slice.injEq] at e
      obtain ⟨rfl, _, rfl⟩ := e
      obtain ⟨_, s1, _, _⟩ := hS w1 (bself w1)
      have HX := Lib.hid (lenA_take xs k hlt)
      clear hS
      generalize xs[k].2 = x at s1 HX
      generalize lenA (xs.take k) = s at hn HX
      by_cases h1 : x.length ≤ 1500
      · by_cases h2 : s + x.length ≤ 1500
        · have hz : (x.length : Int) ≤ 1500 := by omega
          have hz2 : (s : Int) + (x.length : Int) ≤ 1500 := by omega
          go_wp2
          go_round
          case rel => exact ⟨k + 1, by omega, by go_num, by rw [HX.out]; go_num, by rw [HX.out]; omega⟩
          case measure => simp [intOf]; omega
        · have hz : (x.length : Int) ≤ 1500 := by omega
          have hz2 : (1500 : Int) < (s : Int) + (x.length : Int) := by omega
          go_wp2
          go_ret
          exact ⟨rfl, HB.out⟩
      · have hz : (1500 : Int) < (x.length : Int) := by omega
        go_wp2
        go_ret
        exact ⟨rfl, HB.out⟩
    · obtain rfl : k = xs.length := by omega
      rw [List.take_length] at hn
      have HN := Lib.hid hn
      clear hn hk hlt
      by_cases h80 : xs.length ≤ 80
      · have HLL := Lib.hid h80
        have q80 : ¬ (80 : Int) < (xs.length : Int) := by omega
        clear h80
        go_wp2_with (go_at_call 14; ((with_reducible refine (new_any w1).mono ?_); rintro e w2 ⟨p, F, rfl, hd, hF, hb⟩; have HP := Lib.hid (PlayAt.first hd hF hb); clear hd hF hb))
        go_loopw [8] (fun i wr => ∃ (k : Nat) (d : DS) (F : Nat → Prop) (v : Value), k ≤ xs.length ∧ i = .int .i64 k ∧ Hid (PlayAt w1 wr p d d F w2.heap.size v) ∧ Hid (d.wait.length + d.skip + d.items.length ≤ lenA (xs.take k))) (fun i _ => xs.length - (intOf i).toNat)
        case atStart => exact ⟨0, newS, F, _, Nat.zero_le _, rfl, HP, Lib.hid (Nat.zero_le _)⟩
        case round =>
          obtain ⟨k, d, F, v, hk, rfl, HP, HZ⟩ := hrel
          have hkl : (k : Int) ≤ 80 := by have := HLL.out; omega
          by_cases hlt : k < xs.length
          · obtain ⟨b, off, c', A', m, e, hS⟩ := HV1.out.all_ k hlt
            simp only [Value.slice.injEq] at e
            obtain ⟨rfl, _, rfl⟩ := e
            have HS := Lib.hid hS
            have HZ2 := Lib.hid (show (actS d xs[k]).wait.length + (actS d xs[k]).skip + (actS d xs[k]).items.length ≤ lenA (xs.take (k + 1)) by rw [lenA_take xs k hlt]; exact actS_small d xs[k] _ HZ.out)
            have HSM := Lib.hid (show d.wait.length + xs[k].2.length ≤ 100000 ∧ d.skip ≤ 100000 ∧ d.items.length ≤ 100000 ∧ d.wait.length ≤ 100000 by have h1 := lenA_le xs (k + 1); rw [lenA_take xs k hlt] at h1; have := HN.out; have := HZ.out; omega)
            obtain ⟨A2, n2, c2, rfl⟩ := seq_slice HP.out.hs
            obtain ⟨kd, x, hx⟩ : ∃ kd x, xs[k] = (kd, x) := ⟨_, _, rfl⟩
            rw [hx] at HS HZ2 HSM
            dsimp only at HS HSM
            clear hS hx
            obtain ⟨s0, s1, _, _⟩ := HS.out wr HP.out.hB
            by_cases hk0 : kd = 0
            · have q0 : ((kd.toNat : Int) == 0) = true := by rw [hk0]; rfl
              have HA := Lib.hid (show actS d (kd, x) = giveS d x by unfold actS; rw [if_pos hk0])
              rw [HA.out] at HZ2
              have HC := give_any W HT.out p d F A' m x wr (bstep HB.out HP.out.hB) (fun k hk => Nat.le_trans HB.out.size (HP.out.hF k hk)) HP.out.hd (fun k => k < w1.heap.size) (HS.out wr HP.out.hB).2.2.1 (fun k hk => ⟨Nat.lt_of_lt_of_le hk HP.out.hB.size, fun f => Nat.lt_irrefl _ (Nat.lt_of_lt_of_le hk (HP.out.hF k f))⟩) ⟨HSM.out.1, HSM.out.2.1, HSM.out.2.2.1⟩
              obtain ⟨d2, hd2⟩ : ∃ d2, giveS d x = d2 := ⟨_, rfl⟩
              have HD2 := Lib.hid hd2
              rw [hd2] at HZ2 HC
              have HC := Lib.hid HC
              clear hd2 hk0
              go_wp2_with (go_at_call 15; ((with_reducible refine HC.out.mono ?_); rintro e w3 ⟨F1, rfl, hm⟩; have HP1 := Lib.hid (HP.out.moved hm); clear hm s0 s1; obtain ⟨s0, s1, _, _⟩ := HS.out w3 HP1.out.hB))
              clear s0 s1
              have HPD := Lib.hid (HP1.out.over (bself w3).drew)
              have HCR := Lib.hid (rgive_any d A2 n2 c2 x w3.drew ⟨HSM.out.1, HSM.out.2.1, HSM.out.2.2.1⟩ HPD.out.hs d2 HD2.out)
              refine wp_region_held_drew (S := fun w' => w'.cell? ⟨b, off + k * 2 + 1, none⟩ = some (.slice A' x.length m) ∧ (convert 22 9 (.slice A' x.length m)).run Tryd.prog w' = .ok (.string (mkB x)) w' ∧ Hid (Below w1.heap.size w1 w')) (by kernel_rfl) ?_ (fun hHeld => ?_)
              · (try dsimp only)
                exact ⟨(HS.out _ HPD.out.hB).2.1, (HS.out _ HPD.out.hB).2.2.2, Lib.hid HPD.out.hB⟩
              refine wpAnyH_take (i := 1) (v := ?_) rfl (by kernel_rfl) (by kernel_rfl) (by kernel_rfl) (fun _ _ _ h => h) (Or.inl ⟨by rfl, ?_⟩) (by assumption) ?_
              rotate_left
              · intro w hSw
                (try dsimp only at hSw)
                go_simp
                try with_reducible rfl
              (try simp only [Act.put, List.getElem_toArray, List.getElem_cons_succ, List.getElem_cons_zero, List.setIfInBounds_toArray, List.set_cons_zero, List.set_cons_succ])
              refine wpAnyH_take (i := 2) (v := ?_) rfl (by kernel_rfl) (by kernel_rfl) (by kernel_rfl) (fun _ _ _ h => h) (Or.inl ⟨by rfl, ?_⟩) (by assumption) ?_
              rotate_left
              · intro w hSw
                (try dsimp only at hSw)
                go_simp
                try with_reducible rfl
              (try simp only [Act.put, List.getElem_toArray, List.getElem_cons_succ, List.getElem_cons_zero, List.setIfInBounds_toArray, List.set_cons_zero, List.set_cons_succ])
              refine wpAnyH_take (i := 3) (v := ?_) rfl (by kernel_rfl) (by kernel_rfl) (by kernel_rfl) (fun _ _ _ h => h) (Or.inl ⟨by rfl, ?_⟩) (by assumption) ?_
              rotate_left
              · intro w hSw
                (try dsimp only at hSw)
                go_simp
                try with_reducible rfl
              (try simp only [Act.put, List.getElem_toArray, List.getElem_cons_succ, List.getElem_cons_zero, List.setIfInBounds_toArray, List.set_cons_zero, List.set_cons_succ])
              refine wpAnyH_take (i := 4) (v := ?_) rfl (by kernel_rfl) (by kernel_rfl) (by kernel_rfl) (fun _ _ _ h => h) (Or.inl ⟨by rfl, ?_⟩) (by assumption) ?_
              rotate_left
              · intro w hSw
                (try dsimp only at hSw)
                go_simp
                try with_reducible rfl
              (try simp only [Act.put, List.getElem_toArray, List.getElem_cons_succ, List.getElem_cons_zero, List.setIfInBounds_toArray, List.set_cons_zero, List.set_cons_succ])
              refine wpAnyH_take (i := 5) (v := ?_) rfl (by kernel_rfl) (by kernel_rfl) (by kernel_rfl) (fun _ _ _ h => h) (Or.inl ⟨by rfl, ?_⟩) (by assumption) ?_
              rotate_left
              · intro w hSw
                (try dsimp only at hSw)
                go_simp
                try with_reducible rfl
              (try simp only [Act.put, List.getElem_toArray, List.getElem_cons_succ, List.getElem_cons_zero, List.setIfInBounds_toArray, List.set_cons_zero, List.set_cons_succ])
              refine wpAnyH_take (i := 6) (v := ?_) rfl (by kernel_rfl) (by kernel_rfl) (by kernel_rfl) (fun _ _ _ h => h) (Or.inl ⟨by rfl, ?_⟩) (by assumption) ?_
              rotate_left
              · intro w hSw
                (try dsimp only at hSw)
                go_simp
                try with_reducible rfl
              (try simp only [Act.put, List.getElem_toArray, List.getElem_cons_succ, List.getElem_cons_zero, List.setIfInBounds_toArray, List.set_cons_zero, List.set_cons_succ])
              refine wpAnyH_ready (rs := [0]) (by kernel_rfl) (by simp) ?_
              refine AllReadyH.cons rfl (fun K hK => ?_) AllReadyH.nil
              obtain ⟨a0, a1, a2, a3, _, _, _, _⟩ := blk4 HPD.out.hg
              go_simp
              clear a0 a1 a2 a3
              refine hK.out _ _ ?_ (fun hHeld => ?_)
              · (try dsimp only)
                exact ⟨(HS.out _ HPD.out.hB).2.1, (HS.out _ HPD.out.hB).2.2.2, Lib.hid HPD.out.hB⟩
              clear hK K
              (try simp only [Act.put, List.getElem_toArray, List.getElem_cons_succ, List.getElem_cons_zero, List.setIfInBounds_toArray, List.set_cons_zero, List.set_cons_succ])
              refine wpAnyH_ready (rs := [7]) (by kernel_rfl) (by simp) ?_
              refine AllReadyH.cons rfl (fun K hK => ?_) AllReadyH.nil
              go_simp
              (go_at_call 16; ((with_reducible refine HCR.out.mono ?_); rintro e w4 ⟨A4, n4, c4, rfl, hs, hf, hb⟩; have hp2 := HPD.out.stored hs hf hb; unfold set4 at hp2; have HP2 := Lib.hid hp2; have HP4 := Lib.hid (HPD.out.over hb); clear hs hf hb hp2))
              go_wp2_with fail
              refine hK.out _ _ ?_ (fun hHeld => ?_)
              · (try dsimp only)
                exact ⟨(HS.out _ HP4.out.hB).2.1, (HS.out _ HP4.out.hB).2.2.2, Lib.hid HP4.out.hB⟩
              clear hK K
              (try simp only [Act.put, List.getElem_toArray, List.getElem_cons_succ, List.getElem_cons_zero, List.setIfInBounds_toArray, List.set_cons_zero, List.set_cons_succ])
              refine wpAnyH_ready (rs := [8]) (by kernel_rfl) (by simp) ?_
              refine AllReadyH.cons rfl (fun K hK => ?_) AllReadyH.nil
              obtain ⟨a0, a1, a2, a3, f0, f1, f2, f3⟩ := blk4 HP4.out.hg
              go_simp
              clear a0 a1 a2 a3 f0 f1 f2 f3
              refine hK.out _ _ ?_ (fun hHeld => ?_)
              · (try dsimp only)
                exact ⟨(HS.out _ HP2.out.hB).2.1, (HS.out _ HP2.out.hB).2.2.2, Lib.hid HP2.out.hB⟩
              clear hK K
              (try simp only [Act.put, List.getElem_toArray, List.getElem_cons_succ, List.getElem_cons_zero, List.setIfInBounds_toArray, List.set_cons_zero, List.set_cons_succ])
              refine wpAnyH_done (by kernel_rfl) ?_ _
              go_upto_region 32 with (fail)
              generalize (((w4.setCell { block := w2.heap.size, off := 0 } (Value.string (mkB d2.wait))).setCell { block := w2.heap.size, off := 1 } (Value.int IntKind.i64 (d2.skip : Int))).setCell { block := w2.heap.size, off := 2 } (Value.slice A4 n4 c4)).setCell { block := w2.heap.size, off := 3 } (Value.bool d2.over) = w5 at HP2 ⊢
              have HP5 := Lib.hid HP2.out
              obtain ⟨a0, _, _, _, _, _, _, _⟩ := blk4 HP5.out.hg
              have hc5 := held_any p d2 F1 w5.drew (HP5.out.over (bself w5).drew).hd
              obtain ⟨wt, hwt⟩ : ∃ wt, d2.wait = wt := ⟨_, rfl⟩
              rw [hwt] at a0 hc5
              have HC5 := Lib.hid hc5
              have HSQ := Lib.hid (show ((mkB wt).size : Int) = (wt.length : Int) by rw [mkB_size])
              clear hwt hc5
              go_wp2
              refine wp_region_held_drew (S := fun w' => w'.cell? ⟨w2.heap.size, 0, none⟩ = some (.string (mkB wt)) ∧ Hid True) (by kernel_rfl) ?_ (fun hHeld => ?_)
              · (try dsimp only)
                exact ⟨a0, Lib.hid trivial⟩
              refine wpAnyH_take (i := 0) (v := ?_) rfl (by kernel_rfl) (by kernel_rfl) (by kernel_rfl) (fun _ _ _ h => h) (Or.inl ⟨by rfl, ?_⟩) (by assumption) ?_
              rotate_left
              · intro w hSw
                (try dsimp only at hSw)
                go_simp
                try with_reducible rfl
              (try simp only [Act.put, List.getElem_toArray, List.getElem_cons_zero, List.setIfInBounds_toArray, List.set_cons_zero, List.set_cons_succ])
              refine wpAnyH_take (i := 2) (v := ?_) rfl (by kernel_rfl) (by kernel_rfl) (by kernel_rfl) (fun _ _ _ h => h) (Or.inl ⟨by rfl, ?_⟩) (by assumption) ?_
              rotate_left
              · intro w hSw
                (try dsimp only at hSw)
                go_simp
                try with_reducible rfl
              (try simp only [Act.put, List.getElem_toArray, List.getElem_cons_succ, List.getElem_cons_zero, List.setIfInBounds_toArray, List.set_cons_zero, List.set_cons_succ])
              refine wpAnyH_take (i := 3) (v := ?_) rfl (by kernel_rfl) (by kernel_rfl) (by kernel_rfl) (fun _ _ _ h => h) (Or.inl ⟨by rfl, ?_⟩) (by assumption) ?_
              rotate_left
              · intro w hSw
                (try dsimp only at hSw)
                go_simp
                try with_reducible rfl
              (try simp only [Act.put, List.getElem_toArray, List.getElem_cons_succ, List.getElem_cons_zero, List.setIfInBounds_toArray, List.set_cons_zero, List.set_cons_succ])
              refine wpAnyH_take (i := 4) (v := ?_) rfl (by kernel_rfl) (by kernel_rfl) (by kernel_rfl) (fun _ _ _ h => h) (Or.inl ⟨by rfl, ?_⟩) (by assumption) ?_
              rotate_left
              · intro w hSw
                (try dsimp only at hSw)
                go_simp
                try with_reducible rfl
              (try simp only [Act.put, List.getElem_toArray, List.getElem_cons_succ, List.getElem_cons_zero, List.setIfInBounds_toArray, List.set_cons_zero, List.set_cons_succ])
              refine wpAnyH_ready (rs := [1]) (by kernel_rfl) (by simp) ?_
              refine AllReadyH.cons rfl (fun K hK => ?_) AllReadyH.nil
              go_simp
              (go_at_call 21; ((with_reducible refine HC5.out.mono ?_); rintro e w9 ⟨rfl, rfl⟩))
              go_wp2_with fail
              refine hK.out _ _ ?_ (fun hHeld => ?_)
              · (try dsimp only)
                exact hHeld
              clear hK K
              (try simp only [Act.put, List.getElem_toArray, List.getElem_cons_succ, List.getElem_cons_zero, List.setIfInBounds_toArray, List.set_cons_zero, List.set_cons_succ])
              refine wpAnyH_take (i := 5) (v := ?_) rfl (by kernel_rfl) (by kernel_rfl) (by kernel_rfl) (fun _ _ _ h => h) (Or.inl ⟨by rfl, ?_⟩) (by assumption) ?_
              rotate_left
              · intro w hSw
                (try dsimp only at hSw)
                go_simp
                try with_reducible rfl
              (try simp only [Act.put, List.getElem_toArray, List.getElem_cons_succ, List.getElem_cons_zero, List.setIfInBounds_toArray, List.set_cons_zero, List.set_cons_succ])
              refine wpAnyH_done (by kernel_rfl) ?_ _
              have hsq := HSQ.out
              go_wp2
              go_roundw
              case rel => exact ⟨k + 1, d2, F1, _, by omega, by go_num, Lib.hid (HP5.out.over (bself w5).drew), HZ2⟩
              case measure => simp [intOf]; omega
            · have q0 : ((kd.toNat : Int) == 0) = false := beq_eq_false_iff_ne.2 fun h => hk0 (UInt8.toNat_inj.1 (by show kd.toNat = 0; omega))
              by_cases hk1 : kd = 1
              · have q1 : ((kd.toNat : Int) == 1) = true := by rw [hk1]; rfl
                have HA := Lib.hid (show actS d (kd, x) = (nextS d).1 by unfold actS; rw [if_neg hk0, if_pos hk1])
                rw [HA.out] at HZ2
                obtain ⟨d2, xi, ok, hd2⟩ : ∃ d2 xi ok, nextS d = (d2, xi, ok) := ⟨_, _, _, rfl⟩
                have HC := Lib.hid (next_at p d d2 xi ok F wr HP.out.hd hd2)
                rw [hd2] at HZ2
                have HD2 := Lib.hid hd2
                clear hk0 hk1 hd2
                go_wp2_with fail
                refine HC.out.mono ?_
                rintro e w3 ⟨F1, D3, A3, c3, rfl, hm, hl3, hD3⟩
                have HP1 := Lib.hid (HP.out.moved hm)
                have HL3 := Lib.hid hl3
                have HD3 := Lib.hid (show ∀ k, D3 k → k < w3.heap.size ∧ k ≠ w2.heap.size from fun k hk => ⟨(hD3 k hk).2.1, fun e => (hD3 k hk).1.elim (fun f => HP.out.hgw.2 (e ▸ f)) (fun q => by have := HP.out.lt; omega)⟩)
                clear hm hl3 hD3 s0 s1
                go_upto_region 28 with (fail)
                have HB5 := Lib.hid (bmore (bself w3) (.cells #[.int .i64 (xi.skip : Int), .int .u8 (xi.kind.toNat : Int), .slice A3 xi.body.length c3] 42))
                have HP5 := Lib.hid (HP1.out.over HB5.out)
                have HX5 := Lib.hid (heap_alloc_new w3 (.cells #[.int .i64 (xi.skip : Int), .int .u8 (xi.kind.toNat : Int), .slice A3 xi.body.length c3] 42))
                have HL5 := Lib.hid (HL3.out.keep (w' := w3.alloc (.cells #[.int .i64 (xi.skip : Int), .int .u8 (xi.kind.toNat : Int), .slice A3 xi.body.length c3] 42)) fun k hk => Below.heap_alloc _ _ k (HD3.out k hk).1)
                have HZ5 := Lib.hid (show w3.heap.size < (w3.alloc (.cells #[.int .i64 (xi.skip : Int), .int .u8 (xi.kind.toNat : Int), .slice A3 xi.body.length c3] 42)).heap.size ∧ w2.heap.size < w3.heap.size by (have := HP1.out.lt; simp; omega))
                generalize w3.alloc (.cells #[.int .i64 (xi.skip : Int), .int .u8 (xi.kind.toNat : Int), .slice A3 xi.body.length c3] 42) = w5 at HP5 HX5 HL5 HZ5 HB5 ⊢
                obtain ⟨a0, a1, a2, a3, _, _, _, _⟩ := blk4 HP5.out.hg
                have HCR := Lib.hid (rnext_at d d2 xi ok A2 n2 c2 w5 (by have := HSM.out.2.2.1; omega) HP5.out.hs HD2.out)
                go_wp2_with fail
                refine HCR.out.mono ?_
                rintro e w6 ⟨A4, n4, c4, rfl, hs, hf, hb⟩
                clear a0 a1 a2 a3
                go_upto_region 29 with (fail)
                have hb7 := bmore (bmore hb (.cells #[.string (mkB d2.wait), .int .i64 (d2.skip : Int), .slice A4 n4 c4, .bool d2.over] 36)) (.cells #[.int .i64 (xi.skip : Int), .int .u8 (xi.kind.toNat : Int), .string (mkB xi.body)] 46)
                have HB7 := Lib.hid hb7
                have HP7 := Lib.hid (HP5.out.over hb7)
                have hp8 := HP5.out.stored (hs.over (Nat.le_refl _) (bmore (bmore (bself w6) (.cells #[.string (mkB d2.wait), .int .i64 (d2.skip : Int), .slice A4 n4 c4, .bool d2.over] 36)) (.cells #[.int .i64 (xi.skip : Int), .int .u8 (xi.kind.toNat : Int), .string (mkB xi.body)] 46))) hf hb7
                have HP8 := Lib.hid hp8
                obtain ⟨hv7, hy7, _, _⟩ := two_blocks (w := w6) (o1 := .cells #[.string (mkB d2.wait), .int .i64 (d2.skip : Int), .slice A4 n4 c4, .bool d2.over] 36) (o2 := .cells #[.int .i64 (xi.skip : Int), .int .u8 (xi.kind.toNat : Int), .string (mkB xi.body)] 46) (Below.refl _ _)
                have HV7 := Lib.hid hv7
                have HY7 := Lib.hid hy7
                have HX7 := Lib.hid ((hb7.block w3.heap.size HZ5.out.1).trans HX5.out)
                have HL7 := Lib.hid (HL5.out.keep fun k hk => hb7.block k (Nat.lt_trans (HD3.out k hk).1 HZ5.out.1))
                have HZ7 := Lib.hid (show w2.heap.size < w6.heap.size from Nat.lt_of_lt_of_le (Nat.lt_trans HZ5.out.2 HZ5.out.1) hb.size)
                clear hs hf hb hb7 hp8 hv7 hy7 HB5 HL5 HX5 HL3
                generalize (w6.alloc (.cells #[.string (mkB d2.wait), .int .i64 (d2.skip : Int), .slice A4 n4 c4, .bool d2.over] 36)).alloc (.cells #[.int .i64 (xi.skip : Int), .int .u8 (xi.kind.toNat : Int), .string (mkB xi.body)] 46) = w7 at HP7 HP8 HV7 HY7 HX7 HL7 HB7 ⊢
                obtain ⟨a0, a1, a2, a3, f0, f1, f2, f3⟩ := blk4 HP7.out.hg
                obtain ⟨b0, b1, b2, b3, _, _, _, _⟩ := blk4 HV7.out
                go_upto_region 30 with (fail)
                have HX8 := Lib.hid ((set4_far w7 w2.heap.size (.string (mkB d2.wait)) (.int .i64 (d2.skip : Int)) (.slice A4 n4 c4) (.bool d2.over) w3.heap.size (by have := HZ5.out.2; omega)).trans HX7.out)
                have HY8 := Lib.hid ((set4_far w7 w2.heap.size (.string (mkB d2.wait)) (.int .i64 (d2.skip : Int)) (.slice A4 n4 c4) (.bool d2.over) (w6.heap.size + 1) (by have := HZ7.out; omega)).trans HY7.out)
                have HL8 := Lib.hid (HL7.out.keep (w' := set4 w7 w2.heap.size (.string (mkB d2.wait)) (.int .i64 (d2.skip : Int)) (.slice A4 n4 c4) (.bool d2.over)) fun k hk => set4_far _ _ _ _ _ _ k (HD3.out k hk).2)
                unfold set4 at HX8 HY8 HL8 HP8
                clear a0 a1 a2 a3 f0 f1 f2 f3 b0 b1 b2 b3
                generalize (((w7.setCell { block := w2.heap.size, off := 0 } (Value.string (mkB d2.wait))).setCell { block := w2.heap.size, off := 1 } (Value.int IntKind.i64 (d2.skip : Int))).setCell { block := w2.heap.size, off := 2 } (Value.slice A4 n4 c4)).setCell { block := w2.heap.size, off := 3 } (Value.bool d2.over) = w8 at HX8 HY8 HL8 HP8 ⊢
                obtain ⟨x0, x1, x2, _, _, _⟩ := blk3 HX8.out
                obtain ⟨y0, y1, y2, _, _, _⟩ := blk3 HY8.out
                have hcv : (convert 22 9 (.slice A3 xi.body.length c3)).run Tryd.prog w8 = .ok (.string (mkB xi.body)) w8 := by
                  obtain ⟨A9, m9, e9, r9, _⟩ := liesB_row (HL8.out.below (B := w3.heap.size) fun k hk => (HD3.out k hk).1)
                  simp only [Value.slice.injEq] at e9
                  obtain ⟨rfl, _, rfl⟩ := e9
                  exact run_str_any c3 r9
                go_upto_region 32 with (fail)
                clear x0 x1 x2 y0 y1 y2 hcv
                have HP5 := Lib.hid HP8.out
                obtain ⟨a0, _, _, _, _, _, _, _⟩ := blk4 HP5.out.hg
                have hc5 := held_any p d2 F1 w8.drew (HP5.out.over (bself w8).drew).hd
                obtain ⟨wt, hwt⟩ : ∃ wt, d2.wait = wt := ⟨_, rfl⟩
                rw [hwt] at a0 hc5
                have HC5 := Lib.hid hc5
                have HSQ := Lib.hid (show ((mkB wt).size : Int) = (wt.length : Int) by rw [mkB_size])
                clear hwt hc5
                go_wp2
                refine wp_region_held_drew (S := fun w' => w'.cell? ⟨w2.heap.size, 0, none⟩ = some (.string (mkB wt)) ∧ Hid True) (by kernel_rfl) ?_ (fun hHeld => ?_)
                · (try dsimp only)
                  exact ⟨a0, Lib.hid trivial⟩
                refine wpAnyH_take (i := 0) (v := ?_) rfl (by kernel_rfl) (by kernel_rfl) (by kernel_rfl) (fun _ _ _ h => h) (Or.inl ⟨by rfl, ?_⟩) (by assumption) ?_
                rotate_left
                · intro w hSw
                  (try dsimp only at hSw)
                  go_simp
                  try with_reducible rfl
                (try simp only [Act.put, List.getElem_toArray, List.getElem_cons_zero, List.setIfInBounds_toArray, List.set_cons_zero, List.set_cons_succ])
                refine wpAnyH_take (i := 2) (v := ?_) rfl (by kernel_rfl) (by kernel_rfl) (by kernel_rfl) (fun _ _ _ h => h) (Or.inl ⟨by rfl, ?_⟩) (by assumption) ?_
                rotate_left
                · intro w hSw
                  (try dsimp only at hSw)
                  go_simp
                  try with_reducible rfl
                (try simp only [Act.put, List.getElem_toArray, List.getElem_cons_succ, List.getElem_cons_zero, List.setIfInBounds_toArray, List.set_cons_zero, List.set_cons_succ])
                refine wpAnyH_take (i := 3) (v := ?_) rfl (by kernel_rfl) (by kernel_rfl) (by kernel_rfl) (fun _ _ _ h => h) (Or.inl ⟨by rfl, ?_⟩) (by assumption) ?_
                rotate_left
                · intro w hSw
                  (try dsimp only at hSw)
                  go_simp
                  try with_reducible rfl
                (try simp only [Act.put, List.getElem_toArray, List.getElem_cons_succ, List.getElem_cons_zero, List.setIfInBounds_toArray, List.set_cons_zero, List.set_cons_succ])
                refine wpAnyH_take (i := 4) (v := ?_) rfl (by kernel_rfl) (by kernel_rfl) (by kernel_rfl) (fun _ _ _ h => h) (Or.inl ⟨by rfl, ?_⟩) (by assumption) ?_
                rotate_left
                · intro w hSw
                  (try dsimp only at hSw)
                  go_simp
                  try with_reducible rfl
                (try simp only [Act.put, List.getElem_toArray, List.getElem_cons_succ, List.getElem_cons_zero, List.setIfInBounds_toArray, List.set_cons_zero, List.set_cons_succ])
                refine wpAnyH_ready (rs := [1]) (by kernel_rfl) (by simp) ?_
                refine AllReadyH.cons rfl (fun K hK => ?_) AllReadyH.nil
                go_simp
                (go_at_call 21; ((with_reducible refine HC5.out.mono ?_); rintro e w9 ⟨rfl, rfl⟩))
                go_wp2_with fail
                refine hK.out _ _ ?_ (fun hHeld => ?_)
                · (try dsimp only)
                  exact hHeld
                clear hK K
                (try simp only [Act.put, List.getElem_toArray, List.getElem_cons_succ, List.getElem_cons_zero, List.setIfInBounds_toArray, List.set_cons_zero, List.set_cons_succ])
                refine wpAnyH_take (i := 5) (v := ?_) rfl (by kernel_rfl) (by kernel_rfl) (by kernel_rfl) (fun _ _ _ h => h) (Or.inl ⟨by rfl, ?_⟩) (by assumption) ?_
                rotate_left
                · intro w hSw
                  (try dsimp only at hSw)
                  go_simp
                  try with_reducible rfl
                (try simp only [Act.put, List.getElem_toArray, List.getElem_cons_succ, List.getElem_cons_zero, List.setIfInBounds_toArray, List.set_cons_zero, List.set_cons_succ])
                refine wpAnyH_done (by kernel_rfl) ?_ _
                have hsq := HSQ.out
                go_wp2
                go_roundw
                case rel => exact ⟨k + 1, d2, F1, _, by omega, by go_num, Lib.hid (HP5.out.over (bself w8).drew), HZ2⟩
                case measure => simp [intOf]; omega
              · have q1 : ((kd.toNat : Int) == 1) = false := beq_eq_false_iff_ne.2 fun h => hk1 (UInt8.toNat_inj.1 (by show kd.toNat = 1; omega))
                have HA := Lib.hid (show actS d (kd, x) = endS d by unfold actS; rw [if_neg hk0, if_neg hk1])
                rw [HA.out] at HZ2
                have HC := fend_any W HT.out p d F wr (bstep HB.out HP.out.hB) (fun k hk => Nat.le_trans HB.out.size (HP.out.hF k hk)) HP.out.hd ⟨HSM.out.2.2.2, HSM.out.2.1, HSM.out.2.2.1⟩
                obtain ⟨d2, hd2⟩ : ∃ d2, endS d = d2 := ⟨_, rfl⟩
                have HD2 := Lib.hid hd2
                rw [hd2] at HZ2 HC
                have HC := Lib.hid HC
                clear hd2 hk0 hk1
                go_wp2_with (first
                  | (go_at_call 19; ((with_reducible refine HC.out.mono ?_); rintro e w3 ⟨F1, rfl, hm⟩; have HP1 := Lib.hid (HP.out.moved hm); clear hm s0 s1; obtain ⟨a0, a1, a2, a3, f0, f1, f2, f3⟩ := blk4 HP1.out.hg; have HCR := Lib.hid (rend_any d A2 n2 c2 w3 ⟨HSM.out.2.2.2, HSM.out.2.1, HSM.out.2.2.1⟩ HP1.out.hs d2 HD2.out)))
                  | (go_at_call 20; ((with_reducible refine HCR.out.mono ?_); rintro e w4 ⟨A4, n4, c4, rfl, hs, hf, hb⟩; have hp2 := HP1.out.stored hs hf hb; unfold set4 at hp2; have HP2 := Lib.hid hp2; have HP4 := Lib.hid (HP1.out.over hb); clear hs hf hb hp2 a0 a1 a2 a3 f0 f1 f2 f3; obtain ⟨a0, a1, a2, a3, f0, f1, f2, f3⟩ := blk4 HP4.out.hg)))
                clear a0 a1 a2 a3 f0 f1 f2 f3
                generalize (((w4.setCell { block := w2.heap.size, off := 0 } (Value.string (mkB d2.wait))).setCell { block := w2.heap.size, off := 1 } (Value.int IntKind.i64 (d2.skip : Int))).setCell { block := w2.heap.size, off := 2 } (Value.slice A4 n4 c4)).setCell { block := w2.heap.size, off := 3 } (Value.bool d2.over) = w5 at HP2 ⊢
                have HP5 := Lib.hid HP2.out
                obtain ⟨a0, _, _, _, _, _, _, _⟩ := blk4 HP5.out.hg
                have hc5 := held_any p d2 F1 w5.drew (HP5.out.over (bself w5).drew).hd
                obtain ⟨wt, hwt⟩ : ∃ wt, d2.wait = wt := ⟨_, rfl⟩
                rw [hwt] at a0 hc5
                have HC5 := Lib.hid hc5
                have HSQ := Lib.hid (show ((mkB wt).size : Int) = (wt.length : Int) by rw [mkB_size])
                clear hwt hc5
                go_wp2
                refine wp_region_held_drew (S := fun w' => w'.cell? ⟨w2.heap.size, 0, none⟩ = some (.string (mkB wt)) ∧ Hid True) (by kernel_rfl) ?_ (fun hHeld => ?_)
                · (try dsimp only)
                  exact ⟨a0, Lib.hid trivial⟩
                refine wpAnyH_take (i := 0) (v := ?_) rfl (by kernel_rfl) (by kernel_rfl) (by kernel_rfl) (fun _ _ _ h => h) (Or.inl ⟨by rfl, ?_⟩) (by assumption) ?_
                rotate_left
                · intro w hSw
                  (try dsimp only at hSw)
                  go_simp
                  try with_reducible rfl
                (try simp only [Act.put, List.getElem_toArray, List.getElem_cons_zero, List.setIfInBounds_toArray, List.set_cons_zero, List.set_cons_succ])
                refine wpAnyH_take (i := 2) (v := ?_) rfl (by kernel_rfl) (by kernel_rfl) (by kernel_rfl) (fun _ _ _ h => h) (Or.inl ⟨by rfl, ?_⟩) (by assumption) ?_
                rotate_left
                · intro w hSw
                  (try dsimp only at hSw)
                  go_simp
                  try with_reducible rfl
                (try simp only [Act.put, List.getElem_toArray, List.getElem_cons_succ, List.getElem_cons_zero, List.setIfInBounds_toArray, List.set_cons_zero, List.set_cons_succ])
                refine wpAnyH_take (i := 3) (v := ?_) rfl (by kernel_rfl) (by kernel_rfl) (by kernel_rfl) (fun _ _ _ h => h) (Or.inl ⟨by rfl, ?_⟩) (by assumption) ?_
                rotate_left
                · intro w hSw
                  (try dsimp only at hSw)
                  go_simp
                  try with_reducible rfl
                (try simp only [Act.put, List.getElem_toArray, List.getElem_cons_succ, List.getElem_cons_zero, List.setIfInBounds_toArray, List.set_cons_zero, List.set_cons_succ])
                refine wpAnyH_take (i := 4) (v := ?_) rfl (by kernel_rfl) (by kernel_rfl) (by kernel_rfl) (fun _ _ _ h => h) (Or.inl ⟨by rfl, ?_⟩) (by assumption) ?_
                rotate_left
                · intro w hSw
                  (try dsimp only at hSw)
                  go_simp
                  try with_reducible rfl
                (try simp only [Act.put, List.getElem_toArray, List.getElem_cons_succ, List.getElem_cons_zero, List.setIfInBounds_toArray, List.set_cons_zero, List.set_cons_succ])
                refine wpAnyH_ready (rs := [1]) (by kernel_rfl) (by simp) ?_
                refine AllReadyH.cons rfl (fun K hK => ?_) AllReadyH.nil
                go_simp
                (go_at_call 21; ((with_reducible refine HC5.out.mono ?_); rintro e w9 ⟨rfl, rfl⟩))
                go_wp2_with fail
                refine hK.out _ _ ?_ (fun hHeld => ?_)
                · (try dsimp only)
                  exact hHeld
                clear hK K
                (try simp only [Act.put, List.getElem_toArray, List.getElem_cons_succ, List.getElem_cons_zero, List.setIfInBounds_toArray, List.set_cons_zero, List.set_cons_succ])
                refine wpAnyH_take (i := 5) (v := ?_) rfl (by kernel_rfl) (by kernel_rfl) (by kernel_rfl) (fun _ _ _ h => h) (Or.inl ⟨by rfl, ?_⟩) (by assumption) ?_
                rotate_left
                · intro w hSw
                  (try dsimp only at hSw)
                  go_simp
                  try with_reducible rfl
                (try simp only [Act.put, List.getElem_toArray, List.getElem_cons_succ, List.getElem_cons_zero, List.setIfInBounds_toArray, List.set_cons_zero, List.set_cons_succ])
                refine wpAnyH_done (by kernel_rfl) ?_ _
                have hsq := HSQ.out
                go_wp2
                go_roundw
                case rel => exact ⟨k + 1, d2, F1, _, by omega, by go_num, Lib.hid (HP5.out.over (bself w5).drew), HZ2⟩
                case measure => simp [intOf]; omega
          · obtain rfl : k = xs.length := by omega
            have HBE := Lib.hid (bstep HB.out HP.out.hB)
            clear hlt hk hkl
            go_wp2_with fail
            refine (give_nil _ _ _ _).mono ?_
            rintro e v1 ⟨rfl, hb1⟩
            have HE1 := Lib.hid (bstep (bmore HBE.out _) hb1)
            clear hb1
            go_wp2_with fail
            refine (end_nil _).mono ?_
            rintro e v2 ⟨rfl, hb2⟩
            have HE2 := Lib.hid (bstep HE1.out hb2)
            clear hb2
            go_wp2_with fail
            refine (next_nil _).mono ?_
            rintro e v3 ⟨rfl, hb3⟩
            have HE3 := Lib.hid (bmore (bstep HE2.out hb3) (.cells #[.int .i64 0, .int .u8 0, .slice none 0 0] 42))
            clear hb3
            go_wp2_with fail
            refine (held_nil _).mono ?_
            rintro e v4 ⟨rfl, rfl⟩
            go_wp2
            go_ret
            exact ⟨rfl, HE3.out⟩
      · have q80 : (80 : Int) < (xs.length : Int) := by omega
        clear h80
        go_wp2
        go_ret
        exact ⟨rfl, HB.out⟩
end Go.Proofs.YtpgainalimmecaaDoor
