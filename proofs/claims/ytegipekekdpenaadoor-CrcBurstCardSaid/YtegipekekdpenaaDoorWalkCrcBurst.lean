/-
  The walk of the law CrcBurst.
-/
import Derived.Test.YtegipekekdpenaaDoorWalkCrcZero
import Derived.Test.YtegipekekdpenaaDoorCrcTurn
namespace Go.Proofs.YtegipekekdpenaaDoor
open Go.RowKit
set_option linter.unusedVariables false

theorem bit_and (t i b : Nat) (ht : t < 16777216) (hb : t / 2 ^ i % 2 = b) : Go.bits .and .u32 ((t : Int) / 2 ^ i) 1 = (b : Int) := by
  have hlt : t / 2 ^ i < 4294967296 := Nat.lt_of_le_of_lt (Nat.div_le_self _ _) (by omega)
  have k := u32_and_nat (t / 2 ^ i) 1 hlt (by omega)
  have e : t / 2 ^ i &&& 1 = b := by rw [← hb]; exact Nat.and_one_is_mod _
  rw [e] at k
  rw [← k]
  congr 1
theorem fl_zero (l : List UInt8) (k t : Nat) : fl l k t 0 = l := rfl
theorem fl_yes (l : List UInt8) (k t i : Nat) (h : t / 2 ^ i % 2 = 1) : fl l k t (i + 1) = flipB (fl l k t i) (k + i) := by
  have : t.testBit i = true := by rw [Nat.testBit_eq_decide_div_mod_eq, decide_eq_true h]
  show (if t.testBit i = true then _ else _) = _
  rw [if_pos this]
theorem fl_no (l : List UInt8) (k t i : Nat) (h : t / 2 ^ i % 2 = 0) : fl l k t (i + 1) = fl l k t i := by
  have : ¬ t.testBit i = true := by rw [Nat.testBit_eq_decide_div_mod_eq]; simp; omega
  show (if t.testBit i = true then _ else _) = _
  rw [if_neg this]

set_option maxRecDepth 100000 in
set_option maxHeartbeats 1000000 in
theorem crcBurst_core (A : Option Addr) (ca : Nat) (l : List UInt8) (d o t s k : Nat) (W : World) (hT : Tabs W) (hA : A = none → ca = 0) (hR : Row W W.heap.size A (bc l)) (hl : l.length ≤ 100)
    (hd : d < 65536) (ho : o < 4294967296) (ht : o % 16777216 = t) (h0 : ¬ t = 0) (hs : sumC l = s) (hk : d % ((l.length + 3) * 8 - 23) = k) :
    Calls Tryd.prog 6 #[.slice A l.length ca, .int .u16 (d : Int), .int .u32 (o : Int)] W fun e w' => e = .returned (.bool true) ∧ Below W.heap.size W w' := by
  have HT := Lib.hid hT
  have HA := Lib.hid hA
  have HR := Lib.hid hR
  have HL := Lib.hid hl
  have hsl : s < 16777216 := by rw [← hs]; exact sumC_lt l
  have HSL := Lib.hid (show s < 4294967296 by omega)
  have HS := Lib.hid hs
  have E1 := Lib.hid (show sumC (l ++ putC s) = 0 by rw [sumC_append, hs, more_put_iff s s hsl hsl])
  have E2 := Lib.hid (show fitsC (l ++ putC s) = true by rw [fitsC_put, hs, Nat.mod_eq_of_lt hsl]; simp)
  have hand := and24 o ho
  rw [ht] at hand
  have HTL := Lib.hid (show t < 16777216 by omega)
  have hN : (l ++ putC s).length = l.length + 3 := by simp [putC]
  have HN := Lib.hid hN
  have HP := Lib.hid (show (putC s).length = 3 from rfl)
  have hne : ((t : Int) == 0) = false := by simp; omega
  have hkk : ((d : Int)) % (((l.length : Int) + 3) * 8 - 23) = (k : Int) := by
    have e : ((l.length : Int) + 3) * 8 - 23 = (((l.length + 3) * 8 - 23 : Nat) : Int) := by omega
    rw [e, ← hk]; exact (Int.natCast_emod d _).symm
  have hkl : k + 24 ≤ 8 * (l.length + 3) := by have := Nat.mod_lt d (show 0 < (l.length + 3) * 8 - 23 by omega); omega
  have HK := Lib.hid hkl
  clear hT hA hR hs hsl hN hk ho ht hkl
  go_enter Tryd.func6, Tryd.ntmps6
  go_wp2_with (first
      | (go_at_call 8; ((with_reducible refine (awake3_any W HT.out).mono ?_); rintro e w1 ⟨rfl, hb1⟩; have HB1 := Lib.hid hb1; clear hb1))
      | (at_builtin; refine wp_app_any rfl (.tmp 26) (.tmp 27) rfl W.heap.size W.heap.size (.slice none 0 0) [] l A ca rfl (Owns.none_ _ _) rfl HA.out (HR.out.below_ HB1.out) (Fits.of (by have := HL.out; simp only [List.length_nil]; omega)) HB1.out.size ?_; intro v3 w3 ho3 hb3; have HO3 : Hid (Owns w3 W.heap.size v3 l) := Lib.hid ho3; have HB3 := Lib.hid (HB1.out.trans hb3); clear ho3 hb3)
      | (go_at_call 11; ((with_reducible refine (csum_at W HT.out A ca l w3 HB3.out ((HR.out.below_ HB3.out).more HB3.out.size) (by have := HL.out; omega) HS.out).mono ?_); rintro e w2 ⟨rfl, hb2⟩; have HB2 := Lib.hid (bstep HB3.out hb2); have HO2 := Lib.hid (HO3.out.over hb2); clear hb2 HO3))
      | (go_at_call 14; ((with_reducible refine (cput_at s w2 HSL.out rfl).mono ?_); rintro e w4 ⟨A4, c4, rfl, hr4, hlc4, hA4, hb4⟩; have HB4 := Lib.hid (bstep HB2.out hb4); have HO4 := Lib.hid (HO2.out.over hb4); have HR4 := Lib.hid hr4; have HA4 := Lib.hid hA4; clear hb4 hr4 hA4 hlc4 HO2))
      | (at_builtin; refine wp_app_any rfl (.tmp 29) (.tmp 32) rfl W.heap.size w4.heap.size v3 l (putC s) A4 c4 rfl HO4.out rfl HA4.out HR4.out (Fits.of (by have := HL.out; rw [HP.out]; omega)) HB4.out.size ?_; intro v5 w5 ho5 hb5; have HB5 := Lib.hid (HB4.out.trans hb5); have HO5 := Lib.hid ho5; obtain ⟨g, c5, rfl, hg, _⟩ := ho5.block_ (by rw [HN.out]; omega); have HG := Lib.hid hg; have HC5 : Hid (l.length + 3 ≤ c5) := Lib.hid (by obtain ⟨_, _, e, _, hlc, _⟩ := lies_row HO5.out.lies; simp only [Value.slice.injEq] at e; rw [← HN.out]; omega); rw [HN.out] at HO5; rw [HN.out]; clear ho5 hb5 HR4 HO4 HA4 hg)
      | (go_at_call 15; ((with_reducible refine (cfits_n W HT.out _ c5 (l.length + 3) (l ++ putC s) w5 HN.out HB5.out (by obtain ⟨_, _, e, hr, _, _⟩ := lies_row HO5.out.lies; simp only [Value.slice.injEq] at e; rw [e.1]; exact hr) (by rw [HN.out]; exact HC5.out) (by rw [HN.out]; have := HL.out; omega) E2.out).mono ?_); rintro e w6 ⟨rfl, hb6⟩; have HB6 := Lib.hid (bstep HB5.out hb6); have HO6 := Lib.hid (HO5.out.over hb6); clear hb6)))
  have HO7 : Hid (Owns w6 W.heap.size (.slice (some ⟨g, 0, none⟩) (l.length + 3) c5) (fl (l ++ putC s) k t 0)) := HO6
  clear HO6
  go_loopw [12] (fun i wr => ∃ n : Nat, n ≤ 24 ∧ i = .int .i64 n ∧ Hid (Owns wr W.heap.size (.slice (some ⟨g, 0, none⟩) (l.length + 3) c5) (fl (l ++ putC s) k t n)) ∧ Hid (Below W.heap.size W wr)) (fun i _ => (24 - intOf i).toNat)
  case atStart => exact ⟨0, by omega, rfl, HO7, HB6⟩
  case round =>
    obtain ⟨n, hn, rfl, HO, HB⟩ := hrel
    by_cases hlt : n < 24
    · by_cases hb : t / 2 ^ n % 2 = 1
      · have hband := bit_and t n 1 HTL.out hb
        have HF := Lib.hid (fl_yes (l ++ putC s) k t n hb)
        have HFN := Lib.hid (show (fl (l ++ putC s) k t n).length = l.length + 3 by rw [fl_length]; exact HN.out)
        obtain ⟨P, hP⟩ : ∃ P, P = k + n := ⟨_, rfl⟩
        obtain ⟨j, hj⟩ : ∃ j, j = P / 8 := ⟨_, rfl⟩
        obtain ⟨r, hr⟩ : ∃ r, r = P % 8 := ⟨_, rfl⟩
        obtain ⟨m, hm⟩ : ∃ m, m = 128 / 2 ^ r := ⟨_, rfl⟩
        have hjl : j < l.length + 3 := by have := HK.out; omega
        have hjL : j < (fl (l ++ putC s) k t n).length := by rw [HFN.out]; exact hjl
        obtain ⟨c0, f0⟩ := HO.out.cell_ j hjL
        have HX : Hid ((fl (l ++ putC s) k t n).getD j 0 = (fl (l ++ putC s) k t n)[j]) := Lib.hid (by simp [List.getD, hjL])
        have HSet := Lib.hid (fun y => HO.out.set_ j hjL y)
        generalize (fl (l ++ putC s) k t n)[j] = x at c0 HX
        have hm256 : m < 256 := by rw [hm]; exact Nat.lt_of_le_of_lt (Nat.div_le_self _ _) (by omega)
        obtain ⟨y, hy⟩ : ∃ y : UInt8, y = x ^^^ UInt8.ofNat m := ⟨_, rfl⟩
        have HFL := Lib.hid (show (fl (l ++ putC s) k t n).set j y = fl (l ++ putC s) k t (n + 1) by rw [HF.out]; unfold flipB; rw [← hP, ← hj, HX.out, ← hr, ← hm, hy])
        have hxy : Go.bits .xor .u8 (x.toNat : Int) (m : Int) = (y.toNat : Int) := by
          rw [u8_xor_nat _ _ x.toNat_lt hm256, hy, UInt8.toNat_xor, u8_nat m hm256]
        have q1 : (k : Int) + (n : Int) = (P : Int) := by omega
        have q2 : (P : Int) / 8 = (j : Int) := by omega
        have q3 : (P : Int) % 8 = (r : Int) := by omega
        have q4 : (128 : Int) / 2 ^ r = (m : Int) := by rw [hm]; simp
        have hP1 : (P : Int) ≤ 1000 := by have := HK.out; omega
        clear hb hP hj hr hm hy
        go_wp2
        exact ⟨⟨n + 1, by omega, by go_num, Lib.hid (by have := HSet.out y; rw [HFL.out] at this; exact this), Lib.hid (HB.out.setCell HG.out _)⟩, by simp [intOf]; omega⟩
      · have hb0 : t / 2 ^ n % 2 = 0 := by omega
        have hband := bit_and t n 0 HTL.out hb0
        have HF := Lib.hid (fl_no (l ++ putC s) k t n hb0)
        clear hb hb0
        go_wp2
        go_roundw
        case rel => exact ⟨n + 1, by omega, by go_num, Lib.hid (by rw [HF.out]; exact HO.out), HB⟩
        case measure => simp [intOf]; omega
    · obtain rfl : n = 24 := by omega
      have HFN := Lib.hid (show (fl (l ++ putC s) k t 24).length = l.length + 3 by rw [fl_length]; exact HN.out)
      have E3 := Lib.hid (turned (l ++ putC s) k t (by rw [HN.out]; omega) E1.out (by rw [HN.out]; exact HK.out) HTL.out h0)
      go_wp2_with (go_at_call 15; ((with_reducible refine (cfits_n W HT.out _ c5 (l.length + 3) (fl (l ++ putC s) k t 24) wr HFN.out HB.out (by obtain ⟨_, _, e, hr, _, _⟩ := lies_row HO.out.lies; simp only [Value.slice.injEq] at e; rw [e.1]; exact hr) (by rw [HFN.out]; exact HC5.out) (by rw [HFN.out]; have := HL.out; omega) E3.out).mono ?_); rintro e w7 ⟨rfl, hb7⟩; have HB7 := Lib.hid (bstep HB.out hb7); clear hb7))
      go_ret
      exact ⟨rfl, HB7.out⟩

set_option maxRecDepth 100000 in
theorem crcBurst_walk (A : Option Addr) (c : Nat) (zs : List Int) (d o : Int) (W : World) (hT : Tabs W) (hlc : zs.length ≤ c) (hA : A = none → c = 0) (hR : Row W W.heap.size A (zs.map (Value.int .u8))) (hw : ∀ n ∈ zs, (Lit.int .u8 n).wf = true) (hd : (Lit.int .u16 d).wf = true) (ho : (Lit.int .u32 o).wf = true) :
    Calls Tryd.prog 6 #[.slice A zs.length c, .int .u16 d, .int .u32 o] W fun e w' => e = .returned (.bool true) ∧ Below W.heap.size W w' := by
  obtain ⟨l, h1, h2⟩ := ints_bc hw
  rw [h1] at hR
  rw [h2] at hlc ⊢
  have hb := bounds_u32 ho
  have hb2 := bounds_u16 hd
  obtain ⟨o, rfl⟩ : ∃ n : Nat, o = n := ⟨o.toNat, by omega⟩
  obtain ⟨d, rfl⟩ : ∃ n : Nat, d = n := ⟨d.toNat, by omega⟩
  have hand := and24 o (by omega)
  by_cases hl : l.length ≤ 100
  · by_cases h0 : o % 16777216 = 0
    · have HT := Lib.hid hT
      rw [h0] at hand
      go_enter Tryd.func6, Tryd.ntmps6
      go_wp2_with (go_at_call 8; ((with_reducible refine (awake3_any W HT.out).mono ?_); rintro e w1 ⟨rfl, hb1⟩; have HB1 := Lib.hid hb1; clear hb1))
      go_ret
      exact ⟨rfl, HB1.out⟩
    · exact crcBurst_core A c l d o _ _ _ W hT hA hR hl (by omega) (by omega) rfl h0 rfl rfl
  · have HT := Lib.hid hT
    go_enter Tryd.func6, Tryd.ntmps6
    go_wp2_with (go_at_call 8; ((with_reducible refine (awake3_any W HT.out).mono ?_); rintro e w1 ⟨rfl, hb1⟩; have HB1 := Lib.hid hb1; clear hb1))
    go_ret
    exact ⟨rfl, HB1.out⟩
end Go.Proofs.YtegipekekdpenaaDoor
