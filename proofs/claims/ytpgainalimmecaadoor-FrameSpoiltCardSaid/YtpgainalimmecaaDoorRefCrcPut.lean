/-
  Contracts of layer 3's reference: Sum, Put, Fits.
-/
import Derived.Test.YtpgainalimmecaaDoorRefCrc
import Derived.Test.YtpgainalimmecaaDoorPairs
import Derived.Deep.RegionHeld3
namespace Go.Proofs.YtpgainalimmecaaDoor
open Go.RowKit
set_option linter.unusedVariables false

theorem rsum3_any (t : ByteArray) (w : World) (hl : t.size ≤ 1000000) :
    Calls Tryd.prog 30 #[.string t] w fun e w' => e = .returned (.int .u32 (sumC t.data.toList : Nat)) ∧ w = w' := by
  have HL := Lib.hid hl
  clear hl
  go_enter Tryd.func30, Tryd.ntmps30
  go_wp2_with (go_at_call 38; refine (rmore_any 11994318 t _ (by omega) HL.out).mono ?_; rintro _ w' ⟨rfl, rfl⟩)
  go_ret
  exact ⟨rfl, rfl⟩

/-- Three new bytes as a text. -/
theorem run_str3 (w : World) (x y z : Int) (a b c : UInt8) (ha : x = (a.toNat : Int)) (hb : y = (b.toNat : Int)) (hc : z = (c.toNat : Int)) :
    (convert 22 9 (.slice (some ⟨w.heap.size, 0, none⟩) 3 3)).run Tryd.prog (w.alloc (.cells #[.int .u8 x, .int .u8 y, .int .u8 z] 5)) = .ok (.string (mkB [a, b, c])) (w.alloc (.cells #[.int .u8 x, .int .u8 y, .int .u8 z] 5)) := by
  have h := run_str (w := w.alloc (.cells #[.int .u8 x, .int .u8 y, .int .u8 z] 5)) (b := w.heap.size) (off := 0) (cap := 3) (l := [a, b, c]) 3 (by simp) (fun i hi => by
    have h0 : i = 0 ∨ i = 1 ∨ i = 2 := by simp at hi; omega
    rcases h0 with rfl | rfl | rfl
    all_goals
      rw [heap_cell (heap_alloc_new w _)]
      simp [ha, hb, hc])
  simpa using h

set_option maxRecDepth 100000 in
theorem rput3_any (s : Nat) (w : World) (hs : s < 4294967296) :
    Calls Tryd.prog 29 #[.int .u32 (s : Int)] w fun e w' => e = .returned (.string (mkB (putC s))) ∧ Below w.heap.size w w' := by
  have e1 : (s : Int) / 65536 % 256 = ((UInt8.ofNat (s / 65536)).toNat : Int) := by simp
  have e2 : (s : Int) / 256 % 256 = ((UInt8.ofNat (s / 256)).toNat : Int) := by simp
  have e3 : (s : Int) % 256 = ((UInt8.ofNat s).toNat : Int) := by simp
  have hcv := run_str3 w _ _ _ _ _ _ e1 e2 e3
  clear e1 e2 e3
  go_enter Tryd.func29, Tryd.ntmps29
  go_wp2
  go_ret
  exact ⟨rfl, (Below.refl _ _).alloc (Nat.le_refl _) _⟩

theorem hid_drew {W w : World} (h : Hid (Below W.heap.size W w)) : Hid (Below W.heap.size W w.drew) := Lib.hid h.out.drew
theorem hid_step {W w w' : World} (h : Hid (Below W.heap.size W w)) (hb : Below w.heap.size w w') : Hid (Below W.heap.size W w') := Lib.hid (bstep h.out hb)

theorem fits_cmp (t : ByteArray) (m : Nat) (h : t.size = m + 3) : ((mkB (putC (sumC (t.extract 0 m).data.toList))).toList == (t.extract m t.size).toList) = fitsC t.data.toList := by
  have e : (t.extract 0 m).data.toList = t.data.toList.take m := by
    have := extract_toList t 0 m
    rw [ByteArray.toList_eq, List.drop_zero] at this
    exact this
  have e2 : (t.data.toList.drop m).take (t.size - m) = t.data.toList.drop m := List.take_of_length_le (by rw [List.length_drop, size_toList]; omega)
  unfold fitsC
  rw [mkB_toList, extract_toList, e, e2, size_toList, decide_eq_true (by omega : 3 ≤ t.size), Bool.true_and, show t.size - 3 = m by omega]
  rw [Bool.eq_iff_iff]
  simp

theorem rsum3_at (t : ByteArray) (r : Nat) (w : World) (hl : t.size ≤ 1000000) (h : sumC t.data.toList = r) :
    Calls Tryd.prog 30 #[.string t] w fun e w' => e = .returned (.int .u32 (r : Nat)) ∧ w = w' := by
  subst h; exact rsum3_any t w hl
theorem rput3_at (s : Nat) (z : ByteArray) (w : World) (hs : s < 4294967296) (h : mkB (putC s) = z) :
    Calls Tryd.prog 29 #[.int .u32 (s : Int)] w fun e w' => e = .returned (.string z) ∧ Below w.heap.size w w' := by
  subst h; exact rput3_any s w hs

set_option maxRecDepth 100000 in
set_option maxHeartbeats 1000000 in
theorem rfits_some (t : ByteArray) (m r : Nat) (z : ByteArray) (q : Bool) (w : World) (hl : t.size ≤ 1000000) (hm : t.size = m + 3) (hr : sumC (t.extract 0 m).data.toList = r) (hz : mkB (putC r) = z) (hq : (z.toList == (t.extract m t.size).toList) = q) :
    Calls Tryd.prog 45 #[.string t] w fun e w' => e = .returned (.bool q) ∧ Below w.heap.size w w' := by
  have HX := Lib.hid (show (t.extract 0 m).size ≤ 1000000 by rw [ByteArray.size_extract]; omega)
  have HP := Lib.hid (show r < 4294967296 by rw [← hr]; exact Nat.lt_of_lt_of_le (sumC_lt _) (by omega))
  have HR := Lib.hid hr
  have HZ := Lib.hid hz
  have HQ := Lib.hid hq
  have k1 : (t.size : Int) - 3 = (m : Int) := by omega
  have k5 : IntKind.i64.wrap (m : Int) = (m : Int) := IntWalk.i64_in _ (by omega)
  have k2 : (m : Int) ≤ (t.size : Int) := by omega
  have k3 : ¬ (t.size : Int) < 3 := by omega
  have k4 : m ≤ t.size := by omega
  clear hr hz hq hm
  go_enter Tryd.func45, Tryd.ntmps45
  go_wp2
  have HB : Hid (Below w.heap.size w w) := Lib.hid (Below.refl _ _)
  go_region_held3 (fun w' => Hid (Below w.heap.size w w'))
    (first | assumption | exact hid_drew (by assumption))
    (first
      | (go_at_call 30; ((with_reducible refine (rsum3_at _ _ _ HX.out HR.out).mono ?_); rintro e w1 ⟨rfl, rfl⟩))
      | (go_at_call 29; ((with_reducible refine (rput3_at _ _ _ HP.out HZ.out).mono ?_); rintro e w1 ⟨rfl, hb1⟩; have hs1 := hid_step (W := w) (by assumption) hb1)))
  have H := hs1.out
  go_wp2
  go_ret
  exact ⟨by rw [← HQ.out]; rfl, H⟩

set_option maxRecDepth 100000 in
theorem rfits_any (t : ByteArray) (w : World) (hl : t.size ≤ 1000000) :
    Calls Tryd.prog 45 #[.string t] w fun e w' => e = .returned (.bool (fitsC t.data.toList)) ∧ Below w.heap.size w w' := by
  by_cases h : 3 ≤ t.size
  · exact rfits_some t (t.size - 3) _ _ _ w hl (by omega) rfl rfl (fits_cmp t _ (by omega))
  · have h' : (t.size : Int) < 3 := by omega
    have HC := Lib.hid (show fitsC t.data.toList = false by unfold fitsC; rw [size_toList, decide_eq_false h]; rfl)
    clear h
    go_enter Tryd.func45, Tryd.ntmps45
    go_wp2
    go_ret
    exact ⟨by rw [HC.out]; rfl, Below.refl _ _⟩
end Go.Proofs.YtpgainalimmecaaDoor
