/-
  The walk of the law CrcZero.
-/
import Derived.Test.YtegipekekdpenaaDoorAwakeThree
import Derived.Laws.BitsAllLaws
namespace Go.Proofs.YtegipekekdpenaaDoor
open Go.RowKit
set_option linter.unusedVariables false

theorem and24 (o : Nat) (h : o < 4294967296) : Go.bits .and .u32 (o : Int) 16777215 = ((o % 16777216 : Nat) : Int) := by
  have k := u32_and_nat o 16777215 h (by omega)
  have e : o &&& 16777215 = o % 16777216 := by
    rw [show (16777215 : Nat) = 2 ^ 24 - 1 by rfl, show (16777216 : Nat) = 2 ^ 24 by rfl, Nat.and_two_pow_sub_one_eq_mod]
  rw [e] at k
  exact k

set_option maxRecDepth 100000 in
set_option maxHeartbeats 1000000 in
theorem crcZero_core (A : Option Addr) (c : Nat) (l : List UInt8) (o r z : Nat) (q : Bool) (W : World) (hT : Tabs W) (hA : A = none → c = 0) (hR : Row W W.heap.size A (bc l)) (hl : l.length ≤ 400) (ho : o < 4294967296) (hz : o % 16777216 = z) (hr : sumC l = r)
    (hq : (z = r ∧ q = true) ∨ (¬ z = r ∧ q = false)) :
    Calls Tryd.prog 7 #[.slice A l.length c, .int .u32 (o : Int)] W fun e w' => e = .returned (.bool true) ∧ Below W.heap.size W w' := by
  have HT := Lib.hid hT
  have HA := Lib.hid hA
  have HR := Lib.hid hR
  have HL := Lib.hid hl
  have HS := Lib.hid hr
  have HO := Lib.hid ho
  have hrl : r < 16777216 := by rw [← hr]; exact sumC_lt l
  have HRL := Lib.hid (show r < 4294967296 by omega)
  have E1 := Lib.hid (show sumC (l ++ putC r) = 0 by rw [sumC_append, hr, more_put_iff r r hrl hrl])
  have E2 := Lib.hid (show fitsC (l ++ putC r) = true by rw [fitsC_put, hr, Nat.mod_eq_of_lt hrl]; simp)
  have E3 := Lib.hid (show fitsC (l ++ putC o) = q by
    rw [fitsC_put, hr, hz]
    rcases hq with ⟨h1, h2⟩ | ⟨h1, h2⟩
    · rw [h2]; simpa using h1
    · rw [h2]; simpa using h1)
  have hand := and24 o ho
  rw [hz] at hand
  have hl3 : ((l.length + 3 : Nat) : Int) = (l.length : Int) + 3 := by omega
  clear hT hA hR hr ho hrl hz
  have hN : ∀ z, (l ++ putC z).length = l.length + 3 := fun z => by simp [putC]
  have HN := Lib.hid hN
  have HP := Lib.hid (show ∀ z, (putC z).length = 3 from fun z => rfl)
  clear hN
  rcases hq with ⟨h1, rfl⟩ | ⟨h1, rfl⟩
  all_goals try (replace h1 := h1.symm; subst h1)
  all_goals
    go_enter Tryd.func7, Tryd.ntmps7
    go_wp2_with (first
      | (go_at_call 8; ((with_reducible refine (awake3_any W HT.out).mono ?_); rintro e w1 ⟨rfl, hb1⟩; have HB1 := Lib.hid hb1; clear hb1))
      | (go_at_call 11; ((with_reducible refine (csum_at W HT.out A c l w1 HB1.out ((HR.out.below_ HB1.out).more HB1.out.size) (by have := HL.out; omega) HS.out).mono ?_); rintro e w2 ⟨rfl, hb2⟩; have HB2 := Lib.hid (bstep HB1.out hb2); clear hb2))
      | (at_builtin; refine wp_app_any rfl (.tmp 17) (.tmp 18) rfl W.heap.size W.heap.size (.slice none 0 0) [] l A c rfl (Owns.none_ _ _) rfl HA.out (HR.out.below_ HB2.out) (Fits.of (by have := HL.out; simp only [List.length_nil]; omega)) HB2.out.size ?_; intro v3 w3 ho3 hb3; have HO3 : Hid (Owns w3 W.heap.size v3 l) := Lib.hid ho3; have HB3 := Lib.hid (HB2.out.trans hb3); clear ho3 hb3)
      | (go_at_call 14; ((with_reducible refine (cput_at r w3 HRL.out rfl).mono ?_); rintro e w4 ⟨A4, c4, rfl, hr4, hlc4, hA4, hb4⟩; have HB4 := Lib.hid (bstep HB3.out hb4); have HO4 := Lib.hid (HO3.out.over hb4); have HR4 := Lib.hid hr4; have HA4 := Lib.hid hA4; clear hb4 hr4 hA4 hlc4 HO3))
      | (at_builtin; refine wp_app_any rfl (.tmp 20) (.tmp 22) rfl W.heap.size w4.heap.size v3 l (putC r) A4 c4 rfl HO4.out rfl HA4.out HR4.out (Fits.of (by have := HL.out; rw [HP.out]; omega)) HB4.out.size ?_; intro v5 w5 ho5 hb5; obtain ⟨A5, c5, rfl, hr5, hlc5, hA5⟩ := lies_row ho5.lies; have HR5 := Lib.hid hr5; have HC5 := Lib.hid hlc5; have HB5 := Lib.hid (HB4.out.trans hb5); have HF5 := Lib.hid (Below.refl w5.heap.size w5); rw [HN.out]; clear ho5 hb5 hr5 hlc5 hA5 HR4 HO4 HA4)
      | (at_builtin; refine wp_app_any rfl (.tmp 24) (.tmp 25) rfl w5.heap.size W.heap.size (.slice none 0 0) [] l A c rfl (Owns.none_ _ _) rfl HA.out (HR.out.below_ HB5.out) (Fits.of (by have := HL.out; simp only [List.length_nil]; omega)) (Nat.le_refl _) ?_; intro v6 w6 ho6 hb6; have HO6 : Hid (Owns w6 w5.heap.size v6 l) := Lib.hid ho6; have HF6 := Lib.hid hb6; clear ho6 hb6)
      | (go_at_call 14; ((with_reducible refine (cput_at o w6 HO.out rfl).mono ?_); rintro e w7 ⟨A7, c7, rfl, hr7, hlc7, hA7, hb7⟩; have HF7 := Lib.hid (bstep HF6.out hb7); have HO7 := Lib.hid (HO6.out.over hb7); have HR7 := Lib.hid hr7; have HA7 := Lib.hid hA7; clear hb7 hr7 hA7 hlc7 HO6))
      | (at_builtin; refine wp_app_any rfl (.tmp 27) (.tmp 29) rfl w5.heap.size w7.heap.size v6 l (putC o) A7 c7 rfl HO7.out rfl HA7.out HR7.out (Fits.of (by have := HL.out; rw [HP.out]; omega)) HF7.out.size ?_; intro v8 w8 ho8 hb8; obtain ⟨A8, c8, rfl, hr8, hlc8, hA8⟩ := lies_row ho8.lies; have HR8 := Lib.hid hr8; have HC8 := Lib.hid hlc8; have HF8 := Lib.hid (HF7.out.trans hb8); have HB8 := Lib.hid (bstep HB5.out HF8.out); rw [HN.out]; clear ho8 hb8 hr8 hlc8 hA8 HR7 HO7 HA7)
      | (go_at_call 11; ((with_reducible refine (csum_n W HT.out A5 c5 (l.length + 3) (l ++ putC r) w8 (HN.out r) HB8.out ((HR5.out.below_ HF8.out).more HF8.out.size) (by have := HL.out; rw [HN.out]; omega) E1.out).mono ?_); rintro e w9 ⟨rfl, hb9⟩; have HB9 := Lib.hid (bstep HB8.out hb9); have HF9 := Lib.hid (bstep HF8.out hb9); have HG9 := Lib.hid hb9; clear hb9))
      | (go_at_call 15; ((with_reducible refine (cfits_n W HT.out A5 c5 (l.length + 3) (l ++ putC r) w9 (HN.out r) HB9.out ((HR5.out.below_ HF9.out).more HF9.out.size) HC5.out (by have := HL.out; rw [HN.out]; omega) E2.out).mono ?_); rintro e w10 ⟨rfl, hb10⟩; have HB10 := Lib.hid (bstep HB9.out hb10); have HG10 := Lib.hid (bstep HG9.out hb10); clear hb10))
      | (go_at_call 15; ((with_reducible refine (cfits_n W HT.out A8 c8 (l.length + 3) (l ++ putC o) w10 (HN.out o) HB10.out ((HR8.out.below_ HG10.out).more HG10.out.size) HC8.out (by have := HL.out; rw [HN.out]; omega) E3.out).mono ?_); rintro e w11 ⟨rfl, hb11⟩; have HB11 := Lib.hid (bstep HB10.out hb11); clear hb11)))
    go_ret
    exact ⟨by first | rfl | (simp; omega), HB11.out⟩

set_option maxRecDepth 100000 in
theorem crcZero_walk (A : Option Addr) (c : Nat) (zs : List Int) (o : Int) (W : World) (hT : Tabs W) (hlc : zs.length ≤ c) (hA : A = none → c = 0) (hR : Row W W.heap.size A (zs.map (Value.int .u8))) (hw : ∀ n ∈ zs, (Lit.int .u8 n).wf = true) (ho : (Lit.int .u32 o).wf = true) :
    Calls Tryd.prog 7 #[.slice A zs.length c, .int .u32 o] W fun e w' => e = .returned (.bool true) ∧ Below W.heap.size W w' := by
  obtain ⟨l, h1, h2⟩ := ints_bc hw
  rw [h1] at hR
  rw [h2] at hlc ⊢
  have hb := bounds_u32 ho
  obtain ⟨o, rfl⟩ : ∃ n : Nat, o = n := ⟨o.toNat, by omega⟩
  by_cases hl : l.length ≤ 400
  · by_cases hq : o % 16777216 = sumC l
    · exact crcZero_core A c l o _ _ true W hT hA hR hl (by omega) rfl rfl (.inl ⟨hq, rfl⟩)
    · exact crcZero_core A c l o _ _ false W hT hA hR hl (by omega) rfl rfl (.inr ⟨hq, rfl⟩)
  · have HT := Lib.hid hT
    go_enter Tryd.func7, Tryd.ntmps7
    go_wp2_with (go_at_call 8; ((with_reducible refine (awake3_any W HT.out).mono ?_); rintro e w1 ⟨rfl, hb1⟩; have HB1 := Lib.hid hb1; clear hb1))
    go_ret
    exact ⟨rfl, HB1.out⟩
end Go.Proofs.YtegipekekdpenaaDoor
