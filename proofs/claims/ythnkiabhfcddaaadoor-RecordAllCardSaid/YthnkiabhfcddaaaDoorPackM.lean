/-
  Texts of the proofs, put together: CrcKit, RefCrc, RefCrcPut, RefCrcFits.
-/
import Derived.Test.YthnkiabhfcddaaaDoorPackF
import Derived.Test.YthnkiabhfcddaaaDoorPackA
import Derived.Laws.BitsAllLaws
import Derived.IntWalk
import Derived.Deep.RegionHeld3
/-
  Layer 3, of no reference: check sums' words.
-/
namespace Go.Proofs.YthnkiabhfcddaaaDoor
open Go.RowKit
set_option linter.unusedVariables false
theorem rt_u32 {a b : Int} (h : a = b) : Ending.returned (.int .u32 a) = .returned (.int .u32 b) := by rw [h]

/-- The top bit, as Go's text reckons it. -/
theorem top_bit (s : Nat) : s / 8388608 % 2 = (s.testBit 23).toNat := by
  have : s.testBit 23 = decide (s / 8388608 % 2 = 1) := by rw [Nat.testBit_eq_decide_div_mod_eq]
  rw [this]
  by_cases h : s / 8388608 % 2 = 1
  · rw [h]; rfl
  · have : s / 8388608 % 2 = 0 := by omega
    rw [this]; rfl

/-- A register after the first j bits of a byte. -/
def nx (x : Nat) (c : UInt8) (j : Nat) : Nat := feed x ((byteBits c).take j)
theorem nx_lt (x : Nat) (c : UInt8) (j : Nat) (h : x < 16777216) : nx x c j < 16777216 := feed_lt _ _ h
theorem nx_next (x : Nat) (c : UInt8) (j : Nat) (h : j < 8) (b : Nat) (hb : b = c.toNat / 2 ^ (7 - j) % 2) : nx x c (j + 1) = stp (nx x c j) (b == 1) := by
  have e : (byteBits c).take (j + 1) = (byteBits c).take j ++ [c.toNat.testBit (7 - j)] := by
    have : j = 0 ∨ j = 1 ∨ j = 2 ∨ j = 3 ∨ j = 4 ∨ j = 5 ∨ j = 6 ∨ j = 7 := by omega
    rcases this with rfl | rfl | rfl | rfl | rfl | rfl | rfl | rfl <;> rfl
  unfold nx
  rw [e, feed_append]
  show stp _ _ = _
  congr 1
  rw [Nat.testBit_eq_decide_div_mod_eq, ← hb]
  cases hd : (b == 1) <;> simp_all
theorem nx_end (x : Nat) (c : UInt8) : nx x c 8 = feed x (byteBits c) := rfl

theorem take_next (t : ByteArray) (k : Nat) (h : k < t.size) : t.data.toList.take (k + 1) = t.data.toList.take k ++ [t[k]] := by
  rw [List.take_succ_eq_append_getElem (by simpa using h)]; rfl
theorem size_toList (t : ByteArray) : t.data.toList.length = t.size := by rw [Array.length_toList]; rfl
/-- Three new bytes as a text. -/
theorem run_str3 (w : World) (x y z : Int) (a b c : UInt8) (ha : x = (a.toNat : Int)) (hb : y = (b.toNat : Int)) (hc : z = (c.toNat : Int)) :
    (convert 30 9 (.slice (some ⟨w.heap.size, 0, none⟩) 3 3)).run Tryd.prog (w.alloc (.cells #[.int .u8 x, .int .u8 y, .int .u8 z] 5)) = .ok (.string (mkB [a, b, c])) (w.alloc (.cells #[.int .u8 x, .int .u8 y, .int .u8 z] 5)) := by
  have h := run_str (w := w.alloc (.cells #[.int .u8 x, .int .u8 y, .int .u8 z] 5)) (b := w.heap.size) (off := 0) (cap := 3) (l := [a, b, c]) 3 (by simp) (fun i hi => by
    have h0 : i = 0 ∨ i = 1 ∨ i = 2 := by simp at hi; omega
    rcases h0 with rfl | rfl | rfl
    all_goals
      rw [heap_cell (heap_alloc_new w _)]
      simp [ha, hb, hc])
  simpa using h

theorem hid_drew {W w : World} (h : Hid (Below W.heap.size W w)) : Hid (Below W.heap.size W w.drew) := Lib.hid h.out.drew
theorem hid_step {W w w' : World} (h : Hid (Below W.heap.size W w)) (hb : Below w.heap.size w w') : Hid (Below W.heap.size W w') := Lib.hid (bstep h.out hb)

theorem fits_cmp (t : ByteArray) (m : Nat) (h : t.size = m + 3) : ((mkB (putC (sumC (t.extract 0 m).data.toList))).toList == (t.extract m t.size).toList) = fitsC t.data.toList := by
  have e : (t.extract 0 m).data.toList = t.data.toList.take m := by
    have := extract_toList t 0 m
    rw [ByteArray.toList_eq, List.drop_zero] at this
    exact this
  have e2 : (t.data.toList.drop m).take (t.size - m) = t.data.toList.drop m := List.take_of_length_le (by rw [List.length_drop, size_toList]; omega)
  unfold fitsC
  rw [mkB_toList, extract_toList, e, e2, size_toList, decide_eq_true (by omega : 3 ≤ t.size), Bool.true_and, show t.size - 3 = m by omega]
  rw [Bool.eq_iff_iff]
  simp
end Go.Proofs.YthnkiabhfcddaaaDoor
/-
  Contracts of layer 3's reference: Step, More, Sum, Put.
-/
namespace Go.Proofs.YthnkiabhfcddaaaDoor
open Go.RowKit
set_option linter.unusedVariables false
theorem rstep_any (s b : Nat) (w : World) (hs : s < 16777216) (hb : b < 2) :
    Calls Tryd.prog 80 #[.int .u32 (s : Int), .int .u32 (b : Int)] w fun e w' => e = .returned (.int .u32 (stp s (b == 1) : Nat)) ∧ w = w' := by
  have ht := top_bit s
  by_cases h : s / 8388608 % 2 = b
  · have he : stp s (b == 1) = 2 * s % 16777216 := by
      unfold stp dbl
      rw [← h, ht]
      cases s.testBit 23 <;> simp
    have HE := Lib.hid he
    have h' : (s : Int) / 8388608 % 2 = (b : Int) := by omega
    clear he h ht
    go_enter Tryd.func80, Tryd.ntmps80
    go_wp2
    go_ret
    exact ⟨rt_u32 (by rw [HE.out]; omega), rfl⟩
  · have he : stp s (b == 1) = (2 * s % 16777216) ^^^ 8801531 := by
      unfold stp dbl
      have hb2 : b = 0 ∨ b = 1 := by omega
      cases hc : s.testBit 23
      · rw [hc] at ht; rcases hb2 with rfl | rfl
        · simp at ht; omega
        · simp
      · rw [hc] at ht; rcases hb2 with rfl | rfl
        · simp
        · simp at ht; omega
    have HE := Lib.hid he
    have h' : ¬ (s : Int) / 8388608 % 2 = (b : Int) := by omega
    clear he h ht
    go_enter Tryd.func80, Tryd.ntmps80
    go_wp2
    go_ret
    exact ⟨rt_u32 (by
      have k := u32_xor_nat (2 * s % 16777216) 8801531 (by omega) (by omega)
      rw [HE.out, ← k]
      congr 1
      omega), rfl⟩

theorem stepat (s b r : Nat) (w : World) (hs : s < 16777216) (hb : b < 2) (h : stp s (b == 1) = r) :
    Calls Tryd.prog 80 #[.int .u32 (s : Int), .int .u32 (b : Int)] w fun e w' => e = .returned (.int .u32 (r : Nat)) ∧ w = w' := by
  subst h; exact rstep_any s b w hs hb

theorem stepat' (s r : Nat) (bi : Int) (b : Nat) (w : World) (hs : s < 16777216) (hbi : bi = (b : Int)) (hb : b < 2) (h : stp s (b == 1) = r) :
    Calls Tryd.prog 80 #[.int .u32 (s : Int), .int .u32 bi] w fun e w' => e = .returned (.int .u32 (r : Nat)) ∧ w = w' := by
  subst hbi; exact stepat s b r w hs hb h
set_option maxHeartbeats 1000000 in
set_option maxRecDepth 100000 in
theorem rmore_any (s : Nat) (t : ByteArray) (w : World) (hs : s < 4294967296) (hl : t.size ≤ 1000000) :
    Calls Tryd.prog 73 #[.int .u32 (s : Int), .string t] w fun e w' => e = .returned (.int .u32 (moreC s t.data.toList : Nat)) ∧ w = w' := by
  go_enter Tryd.func73, Tryd.ntmps73
  go_wp2
  go_loop [5, 6] (fun x i => ∃ (k r : Nat), k ≤ t.size ∧ i = .int .i64 k ∧ x = .int .u32 (r : Nat) ∧ r < 16777216 ∧ Hid (r = moreC s (t.data.toList.take k))) (fun _ i => t.size - (intOf i).toNat)
  case atStart => exact ⟨0, s % 16777216, Nat.zero_le _, rfl, by congr 1, Nat.mod_lt _ (by omega), Lib.hid rfl⟩
  case round =>
    obtain ⟨k, r, hk, rfl, rfl, hr, HR⟩ := hrel
    by_cases hlt : k < t.size
    · have HT := Lib.hid (take_next t k hlt)
      go_wp2
      go_loop [5, 7] (fun x q => ∃ (j z : Nat), j ≤ 8 ∧ q = .int .i64 (7 - (j : Int)) ∧ x = .int .u32 (z : Nat) ∧ z < 16777216 ∧ Hid (z = nx r t[k] j)) (fun _ q => (intOf q + 1).toNat)
      case atStart => exact ⟨0, r, by omega, rfl, rfl, hr, Lib.hid rfl⟩
      case round =>
        obtain ⟨j, z, hj, rfl, rfl, hz, HZ⟩ := hrel
        by_cases h8 : j < 8
        · have hx := nx_lt r t[k] (j + 1) hr
          have HC := Lib.hid t[k].toNat_lt
          have h : j = 0 ∨ j = 1 ∨ j = 2 ∨ j = 3 ∨ j = 4 ∨ j = 5 ∨ j = 6 ∨ j = 7 := by omega
          rcases h with rfl | rfl | rfl | rfl | rfl | rfl | rfl | rfl
          · have HN := Lib.hid (nx_next r t[k] 0 h8 (t[k].toNat / 128 % 2) rfl)
            rw [← HZ.out] at HN
            go_wp2_with (go_at_call 80; refine (stepat' _ (nx r t[k] 1) _ (t[k].toNat / 128 % 2) _ hz (by have := HC.out; omega) (by omega) HN.out.symm).mono ?_; rintro _ w' ⟨rfl, rfl⟩)
            go_round
            case rel => exact ⟨1, _, by omega, by go_num, rfl, hx, Lib.hid rfl⟩
            case measure => simp [intOf]
          · have HN := Lib.hid (nx_next r t[k] 1 h8 (t[k].toNat / 64 % 2) rfl)
            rw [← HZ.out] at HN
            go_wp2_with (go_at_call 80; refine (stepat' _ (nx r t[k] 2) _ (t[k].toNat / 64 % 2) _ hz (by have := HC.out; omega) (by omega) HN.out.symm).mono ?_; rintro _ w' ⟨rfl, rfl⟩)
            go_round
            case rel => exact ⟨2, _, by omega, by go_num, rfl, hx, Lib.hid rfl⟩
            case measure => simp [intOf]
          · have HN := Lib.hid (nx_next r t[k] 2 h8 (t[k].toNat / 32 % 2) rfl)
            rw [← HZ.out] at HN
            go_wp2_with (go_at_call 80; refine (stepat' _ (nx r t[k] 3) _ (t[k].toNat / 32 % 2) _ hz (by have := HC.out; omega) (by omega) HN.out.symm).mono ?_; rintro _ w' ⟨rfl, rfl⟩)
            go_round
            case rel => exact ⟨3, _, by omega, by go_num, rfl, hx, Lib.hid rfl⟩
            case measure => simp [intOf]
          · have HN := Lib.hid (nx_next r t[k] 3 h8 (t[k].toNat / 16 % 2) rfl)
            rw [← HZ.out] at HN
            go_wp2_with (go_at_call 80; refine (stepat' _ (nx r t[k] 4) _ (t[k].toNat / 16 % 2) _ hz (by have := HC.out; omega) (by omega) HN.out.symm).mono ?_; rintro _ w' ⟨rfl, rfl⟩)
            go_round
            case rel => exact ⟨4, _, by omega, by go_num, rfl, hx, Lib.hid rfl⟩
            case measure => simp [intOf]
          · have HN := Lib.hid (nx_next r t[k] 4 h8 (t[k].toNat / 8 % 2) rfl)
            rw [← HZ.out] at HN
            go_wp2_with (go_at_call 80; refine (stepat' _ (nx r t[k] 5) _ (t[k].toNat / 8 % 2) _ hz (by have := HC.out; omega) (by omega) HN.out.symm).mono ?_; rintro _ w' ⟨rfl, rfl⟩)
            go_round
            case rel => exact ⟨5, _, by omega, by go_num, rfl, hx, Lib.hid rfl⟩
            case measure => simp [intOf]
          · have HN := Lib.hid (nx_next r t[k] 5 h8 (t[k].toNat / 4 % 2) rfl)
            rw [← HZ.out] at HN
            go_wp2_with (go_at_call 80; refine (stepat' _ (nx r t[k] 6) _ (t[k].toNat / 4 % 2) _ hz (by have := HC.out; omega) (by omega) HN.out.symm).mono ?_; rintro _ w' ⟨rfl, rfl⟩)
            go_round
            case rel => exact ⟨6, _, by omega, by go_num, rfl, hx, Lib.hid rfl⟩
            case measure => simp [intOf]
          · have HN := Lib.hid (nx_next r t[k] 6 h8 (t[k].toNat / 2 % 2) rfl)
            rw [← HZ.out] at HN
            go_wp2_with (go_at_call 80; refine (stepat' _ (nx r t[k] 7) _ (t[k].toNat / 2 % 2) _ hz (by have := HC.out; omega) (by omega) HN.out.symm).mono ?_; rintro _ w' ⟨rfl, rfl⟩)
            go_round
            case rel => exact ⟨7, _, by omega, by go_num, rfl, hx, Lib.hid rfl⟩
            case measure => simp [intOf]
          · have HN := Lib.hid (nx_next r t[k] 7 h8 (t[k].toNat / 1 % 2) rfl)
            rw [← HZ.out] at HN
            go_wp2_with (go_at_call 80; refine (stepat' _ (nx r t[k] 8) _ (t[k].toNat / 1 % 2) _ hz (by have := HC.out; omega) (by omega) HN.out.symm).mono ?_; rintro _ w' ⟨rfl, rfl⟩)
            go_round
            case rel => exact ⟨8, _, by omega, by go_num, rfl, hx, Lib.hid rfl⟩
            case measure => simp [intOf]
        · obtain rfl : j = 8 := by omega
          go_wp2
          go_round
          case rel => exact ⟨k + 1, z, by omega, by go_num, rfl, hz, Lib.hid (by rw [HT.out, moreC_snoc, ← HR.out, HZ.out]; rfl)⟩
          case measure => simp [intOf]; omega
    · obtain rfl : k = t.size := by omega
      go_wp2
      go_ret
      exact ⟨rt_u32 (by rw [HR.out, List.take_of_length_le (by rw [size_toList]; omega)]), rfl⟩
end Go.Proofs.YthnkiabhfcddaaaDoor
/-
  Contracts of layer 3's reference: Sum, Put, Fits.
-/
namespace Go.Proofs.YthnkiabhfcddaaaDoor
open Go.RowKit
set_option linter.unusedVariables false

theorem rsum3_any (t : ByteArray) (w : World) (hl : t.size ≤ 1000000) :
    Calls Tryd.prog 55 #[.string t] w fun e w' => e = .returned (.int .u32 (sumC t.data.toList : Nat)) ∧ w = w' := by
  have HL := Lib.hid hl
  clear hl
  go_enter Tryd.func55, Tryd.ntmps55
  go_wp2_with (go_at_call 73; refine (rmore_any 11994318 t _ (by omega) HL.out).mono ?_; rintro _ w' ⟨rfl, rfl⟩)
  go_ret
  exact ⟨rfl, rfl⟩

set_option maxRecDepth 100000 in
theorem rput3_any (s : Nat) (w : World) (hs : s < 4294967296) :
    Calls Tryd.prog 54 #[.int .u32 (s : Int)] w fun e w' => e = .returned (.string (mkB (putC s))) ∧ Below w.heap.size w w' := by
  have e1 : (s : Int) / 65536 % 256 = ((UInt8.ofNat (s / 65536)).toNat : Int) := by simp
  have e2 : (s : Int) / 256 % 256 = ((UInt8.ofNat (s / 256)).toNat : Int) := by simp
  have e3 : (s : Int) % 256 = ((UInt8.ofNat s).toNat : Int) := by simp
  have hcv := run_str3 w _ _ _ _ _ _ e1 e2 e3
  clear e1 e2 e3
  go_enter Tryd.func54, Tryd.ntmps54
  go_wp2
  go_ret
  exact ⟨rfl, (Below.refl _ _).alloc (Nat.le_refl _) _⟩

theorem rsum3_at (t : ByteArray) (r : Nat) (w : World) (hl : t.size ≤ 1000000) (h : sumC t.data.toList = r) :
    Calls Tryd.prog 55 #[.string t] w fun e w' => e = .returned (.int .u32 (r : Nat)) ∧ w = w' := by
  subst h; exact rsum3_any t w hl
theorem rput3_at (s : Nat) (z : ByteArray) (w : World) (hs : s < 4294967296) (h : mkB (putC s) = z) :
    Calls Tryd.prog 54 #[.int .u32 (s : Int)] w fun e w' => e = .returned (.string z) ∧ Below w.heap.size w w' := by
  subst h; exact rput3_any s w hs
end Go.Proofs.YthnkiabhfcddaaaDoor
/-
  Layer 3's reference: Fits.
-/
namespace Go.Proofs.YthnkiabhfcddaaaDoor
open Go.RowKit
set_option linter.unusedVariables false

set_option maxRecDepth 100000 in
set_option maxHeartbeats 1000000 in
theorem rfits_some (t : ByteArray) (m r : Nat) (z : ByteArray) (q : Bool) (w : World) (hl : t.size ≤ 1000000) (hm : t.size = m + 3) (hr : sumC (t.extract 0 m).data.toList = r) (hz : mkB (putC r) = z) (hq : (z.toList == (t.extract m t.size).toList) = q) :
    Calls Tryd.prog 87 #[.string t] w fun e w' => e = .returned (.bool q) ∧ Below w.heap.size w w' := by
  have HX := Lib.hid (show (t.extract 0 m).size ≤ 1000000 by rw [ByteArray.size_extract]; omega)
  have HP := Lib.hid (show r < 4294967296 by rw [← hr]; exact Nat.lt_of_lt_of_le (sumC_lt _) (by omega))
  have HR := Lib.hid hr
  have HZ := Lib.hid hz
  have HQ := Lib.hid hq
  have k1 : (t.size : Int) - 3 = (m : Int) := by omega
  have k5 : IntKind.i64.wrap (m : Int) = (m : Int) := IntWalk.i64_in _ (by omega)
  have k2 : (m : Int) ≤ (t.size : Int) := by omega
  have k3 : ¬ (t.size : Int) < 3 := by omega
  have k4 : m ≤ t.size := by omega
  clear hr hz hq hm
  go_enter Tryd.func87, Tryd.ntmps87
  go_wp2
  have HB : Hid (Below w.heap.size w w) := Lib.hid (Below.refl _ _)
  go_region_held3 (fun w' => Hid (Below w.heap.size w w'))
    (first | assumption | exact hid_drew (by assumption))
    (first
      | (go_at_call 55; ((with_reducible refine (rsum3_at _ _ _ HX.out HR.out).mono ?_); rintro e w1 ⟨rfl, rfl⟩))
      | (go_at_call 54; ((with_reducible refine (rput3_at _ _ _ HP.out HZ.out).mono ?_); rintro e w1 ⟨rfl, hb1⟩; have hs1 := hid_step (W := w) (by assumption) hb1)))
  have H := hs1.out
  go_wp2
  go_ret
  exact ⟨by rw [← HQ.out]; rfl, H⟩

set_option maxRecDepth 100000 in
theorem rfits_any (t : ByteArray) (w : World) (hl : t.size ≤ 1000000) :
    Calls Tryd.prog 87 #[.string t] w fun e w' => e = .returned (.bool (fitsC t.data.toList)) ∧ Below w.heap.size w w' := by
  by_cases h : 3 ≤ t.size
  · exact rfits_some t (t.size - 3) _ _ _ w hl (by omega) rfl rfl (fits_cmp t _ (by omega))
  · have h' : (t.size : Int) < 3 := by omega
    have HC := Lib.hid (show fitsC t.data.toList = false by unfold fitsC; rw [size_toList, decide_eq_false h]; rfl)
    clear h
    go_enter Tryd.func87, Tryd.ntmps87
    go_wp2
    go_ret
    exact ⟨by rw [HC.out]; rfl, Below.refl _ _⟩
end Go.Proofs.YthnkiabhfcddaaaDoor
