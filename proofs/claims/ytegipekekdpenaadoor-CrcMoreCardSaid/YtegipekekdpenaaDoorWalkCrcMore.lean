/-
  The walk of the law CrcMore.
-/
import Derived.Test.YtegipekekdpenaaDoorWalkCrcZero
namespace Go.Proofs.YtegipekekdpenaaDoor
open Go.RowKit
set_option linter.unusedVariables false

set_option maxRecDepth 100000 in
set_option maxHeartbeats 1000000 in
theorem crcMore_core (A B : Option Addr) (ca cb : Nat) (a b : List UInt8) (s z x y u v : Nat) (W : World) (hT : Tabs W) (hA : A = none → ca = 0) (hRa : Row W W.heap.size A (bc a)) (hB : B = none → cb = 0) (hRb : Row W W.heap.size B (bc b)) (ha : a.length ≤ 400) (hb : b.length ≤ 400)
    (hs : s < 4294967296) (hz : s % 16777216 = z) (hx : moreC s a = x) (hy : moreC x b = y) (hu : sumC a = u) (hv : moreC u b = v) :
    Calls Tryd.prog 4 #[.int .u32 (s : Int), .slice A a.length ca, .slice B b.length cb] W fun e w' => e = .returned (.bool true) ∧ Below W.heap.size W w' := by
  have HT := Lib.hid hT
  have HA := Lib.hid hA
  have HB := Lib.hid hB
  have HRa := Lib.hid hRa
  have HRb := Lib.hid hRb
  have HLa := Lib.hid ha
  have HLb := Lib.hid hb
  have HS := Lib.hid hs
  have hxl : x < 16777216 := by rw [← hx]; exact moreC_lt _ _
  have hul : u < 16777216 := by rw [← hu]; exact sumC_lt _
  have HXL := Lib.hid (show x < 4294967296 by omega)
  have HUL := Lib.hid (show u < 4294967296 by omega)
  have HZL := Lib.hid (show z < 4294967296 by omega)
  have HX := Lib.hid hx
  have HY := Lib.hid hy
  have HU := Lib.hid hu
  have HV := Lib.hid hv
  have E1 := Lib.hid (show moreC s (a ++ b) = y by rw [moreC_append, hx, hy])
  have E2 := Lib.hid (show sumC (a ++ b) = v by rw [sumC_append, hu, hv])
  have E3 := Lib.hid (show moreC z a = x by rw [← hz, moreC_mod, hx])
  have hxi : (x : Int) ≤ 16777215 := by omega
  have hand := and24 s hs
  rw [hz] at hand
  have HN := Lib.hid (show (a ++ b).length = a.length + b.length from List.length_append)
  have HM := Lib.hid (show (a ++ b).length ≤ 1000000 by rw [List.length_append]; omega)
  clear hT hA hB hRa hRb hs hxl hul hx hy hu hv hz
  go_enter Tryd.func4, Tryd.ntmps4
  go_wp2_with (first
    | (go_at_call 8; ((with_reducible refine (awake3_any W HT.out).mono ?_); rintro e w1 ⟨rfl, hb1⟩; have HB1 := Lib.hid hb1; clear hb1))
    | (at_builtin; refine wp_app_any rfl (.tmp 21) (.tmp 22) rfl W.heap.size W.heap.size (.slice none 0 0) [] a A ca rfl (Owns.none_ _ _) rfl HA.out (HRa.out.below_ HB1.out) (Fits.of (by have := HLa.out; simp only [List.length_nil]; omega)) HB1.out.size ?_; intro v2 w2 ho2 hb2; have HO2 : Hid (Owns w2 W.heap.size v2 a) := Lib.hid ho2; have HB2 := Lib.hid (HB1.out.trans hb2); clear ho2 hb2)
    | (at_builtin; refine wp_app_any rfl (.tmp 24) (.tmp 25) rfl W.heap.size W.heap.size v2 a b B cb rfl HO2.out rfl HB.out (HRb.out.below_ HB2.out) (Fits.of (by have := HLa.out; have := HLb.out; omega)) HB2.out.size ?_; intro v3 w3 ho3 hb3; obtain ⟨A3, c3, rfl, hr3, hlc3, hA3⟩ := lies_row ho3.lies; have HR3 := Lib.hid hr3; have HB3 := Lib.hid (HB2.out.trans hb3); have HF3 := Lib.hid (Below.refl w3.heap.size w3); rw [HN.out]; clear ho3 hb3 hr3 hlc3 hA3 HO2)
    | (go_at_call 12; ((with_reducible refine (cmore_at W HT.out s A ca a w3 HB3.out HS.out ((HRa.out.below_ HB3.out).more HB3.out.size) (by have := HLa.out; omega) HX.out).mono ?_); rintro e w4 ⟨rfl, hb4⟩; have HB4 := Lib.hid (bstep HB3.out hb4); have HF4 := Lib.hid (bstep HF3.out hb4); clear hb4))
    | (go_at_call 12; ((with_reducible refine (cmore_at W HT.out x B cb b w4 HB4.out HXL.out ((HRb.out.below_ HB4.out).more HB4.out.size) (by have := HLb.out; omega) HY.out).mono ?_); rintro e w5 ⟨rfl, hb5⟩; have HB5 := Lib.hid (bstep HB4.out hb5); have HF5 := Lib.hid (bstep HF4.out hb5); clear hb5))
    | (go_at_call 12; ((with_reducible refine (cmore_n W HT.out s A3 c3 (a.length + b.length) (a ++ b) w5 HN.out HB5.out HS.out ((HR3.out.below_ HF5.out).more HF5.out.size) HM.out E1.out).mono ?_); rintro e w6 ⟨rfl, hb6⟩; have HB6 := Lib.hid (bstep HB5.out hb6); have HF6 := Lib.hid (bstep HF5.out hb6); clear hb6))
    | (go_at_call 11; ((with_reducible refine (csum_at W HT.out A ca a w6 HB6.out ((HRa.out.below_ HB6.out).more HB6.out.size) (by have := HLa.out; omega) HU.out).mono ?_); rintro e w7 ⟨rfl, hb7⟩; have HB7 := Lib.hid (bstep HB6.out hb7); have HF7 := Lib.hid (bstep HF6.out hb7); clear hb7))
    | (go_at_call 12; ((with_reducible refine (cmore_at W HT.out u B cb b w7 HB7.out HUL.out ((HRb.out.below_ HB7.out).more HB7.out.size) (by have := HLb.out; omega) HV.out).mono ?_); rintro e w8 ⟨rfl, hb8⟩; have HB8 := Lib.hid (bstep HB7.out hb8); have HF8 := Lib.hid (bstep HF7.out hb8); clear hb8))
    | (go_at_call 11; ((with_reducible refine (csum_n W HT.out A3 c3 (a.length + b.length) (a ++ b) w8 HN.out HB8.out ((HR3.out.below_ HF8.out).more HF8.out.size) HM.out E2.out).mono ?_); rintro e w9 ⟨rfl, hb9⟩; have HB9 := Lib.hid (bstep HB8.out hb9); clear hb9))
    | (go_at_call 12; ((with_reducible refine (cmore_at W HT.out z A ca a w9 HB9.out HZL.out ((HRa.out.below_ HB9.out).more HB9.out.size) (by have := HLa.out; omega) E3.out).mono ?_); rintro e w10 ⟨rfl, hb10⟩; have HB10 := Lib.hid (bstep HB9.out hb10); clear hb10)))
  go_ret
  exact ⟨rfl, HB10.out⟩

set_option maxRecDepth 100000 in
theorem crcMore_walk (s : Int) (A : Option Addr) (ca : Nat) (xs : List Int) (B : Option Addr) (cb : Nat) (ys : List Int) (W : World) (hT : Tabs W) (hs : (Lit.int .u32 s).wf = true) (hca : xs.length ≤ ca) (hA : A = none → ca = 0) (hRa : Row W W.heap.size A (xs.map (Value.int .u8))) (hwa : ∀ n ∈ xs, (Lit.int .u8 n).wf = true)
    (hcb : ys.length ≤ cb) (hB : B = none → cb = 0) (hRb : Row W W.heap.size B (ys.map (Value.int .u8))) (hwb : ∀ n ∈ ys, (Lit.int .u8 n).wf = true) :
    Calls Tryd.prog 4 #[.int .u32 s, .slice A xs.length ca, .slice B ys.length cb] W fun e w' => e = .returned (.bool true) ∧ Below W.heap.size W w' := by
  obtain ⟨a, h1, h2⟩ := ints_bc hwa
  rw [h1] at hRa
  rw [h2] at hca ⊢
  obtain ⟨b, h3, h4⟩ := ints_bc hwb
  rw [h3] at hRb
  rw [h4] at hcb ⊢
  have hb := bounds_u32 hs
  obtain ⟨s, rfl⟩ : ∃ n : Nat, s = n := ⟨s.toNat, by omega⟩
  by_cases ha : a.length ≤ 400
  · by_cases hb2 : b.length ≤ 400
    · exact crcMore_core A B ca cb a b s _ _ _ _ _ W hT hA hRa hB hRb ha hb2 (by omega) rfl rfl rfl rfl rfl
    · have HT := Lib.hid hT
      go_enter Tryd.func4, Tryd.ntmps4
      go_wp2_with (go_at_call 8; ((with_reducible refine (awake3_any W HT.out).mono ?_); rintro e w1 ⟨rfl, hb1⟩; have HB1 := Lib.hid hb1; clear hb1))
      go_ret
      exact ⟨rfl, HB1.out⟩
  · have HT := Lib.hid hT
    go_enter Tryd.func4, Tryd.ntmps4
    go_wp2_with (go_at_call 8; ((with_reducible refine (awake3_any W HT.out).mono ?_); rintro e w1 ⟨rfl, hb1⟩; have HB1 := Lib.hid hb1; clear hb1))
    go_ret
    exact ⟨rfl, HB1.out⟩
end Go.Proofs.YtegipekekdpenaaDoor
