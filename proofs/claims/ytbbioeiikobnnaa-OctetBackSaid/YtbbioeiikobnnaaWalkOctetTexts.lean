/-
  The walk of the law OctetTexts.
-/
import Derived.Test.YtbbioeiikobnnaaAwake
import Derived.Test.YtbbioeiikobnnaaMore
namespace Go.Proofs.Ytbbioeiikobnnaa
open Go.RowKit
set_option linter.unusedVariables false

theorem text_at (g : Nat) (l : List UInt8) (e most : Int) (w : World) (h : Rdr w g l e) (hm1 : -9223372036854775808 ≤ most) (hm2 : most ≤ 9223372036854775807) {s l' : List UInt8} {e' : Int} (hd : rdText l e most = (s, l', e')) :
    Calls Try.prog 26 #[.pointer (some ⟨g, 0, none⟩), .int .i64 most] w (Did g (.string (mkB s)) (l', e') w) := by
  have k := text_any g l e most w h hm1 hm2
  rw [hd] at k
  exact k
theorem texts_at (ss : List ByteArray) (l : List UInt8) (hd : encTs ss = l) (A : Option Addr) (c : Nat) (w : World) (hz : ∀ s ∈ ss, s.size ≤ 1000000) (hr : Row w w.heap.size A (ss.map Value.string)) (hn : ss.length ≤ 1000000) :
    Calls Try.prog 15 #[.slice A ss.length c] w (Gets w.heap.size l w) := by
  subst hd; exact texts_any ss A c w hz hr hn
theorem encTs_one (s : ByteArray) : encTs [s] = enc s.data.toList.length ++ s.data.toList := by
  have : s.data.toList.length = s.size := by rw [Array.length_toList]; rfl
  rw [this]
  simp [encTs]

set_option maxRecDepth 100000 in
set_option maxHeartbeats 1000000 in
theorem octetTexts_walk (s : ByteArray) (A : Option Addr) (c : Nat) (zs : List Int) (most : Int) (W : World) (h0 : s.size ≤ maxLen) (hl : zs.length ≤ c) (hA : A = none → c = 0) (hr : Row W W.heap.size A (zs.map (Value.int .u8))) (hw : ∀ n ∈ zs, (Lit.int .u8 n).wf = true) (h2 : (Lit.int .i16 most).wf = true) :
    Calls Try.prog 8 #[.string s, .slice A zs.length c, .int .i16 most] W fun e w' => e = .returned (.bool true) ∧ Below W.heap.size W w' := by
  obtain ⟨l, hzl, hlen⟩ := ints_bc hw
  rw [hzl] at hr
  rw [hlen] at hl ⊢
  have hm := bounds_i16 h2
  have HA := Lib.hid hA
  have HR := Lib.hid hr
  have H0 := Lib.hid h0
  clear hA hr hw h2 hzl hlen h0
  go_enter Try.func8, Try.ntmps8
  go_wp2_with (go_at_call 9; refine (awake_any _).mono ?_; rintro e w1 ⟨rfl, hb1⟩; have HB1 := Lib.hid hb1; clear hb1)
  · go_ret
    exact ⟨rfl, HB1.out⟩
  · have hs : s.size ≤ 400 := by omega
    have hl60 : l.length ≤ 60 := by omega
    have hsd : s.data.toList.length = s.size := by rw [Array.length_toList]; rfl
    have HSD := Lib.hid hsd
    have hle := (enc_len s.data.toList.length (by omega)).2
    have HLE := Lib.hid hle
    clear hsd hle
    refine (texts_at [s] _ (encTs_one s) (some ⟨w1.heap.size, 0, none⟩) 1 _ (by intro x hx; simp at hx; subst hx; omega) (lit_row w1 [.string s] 9 _ rfl) (by simp)).mono ?_
    rintro e w2 ⟨v2, rfl, ho2, hb2⟩
    have HO2 := Lib.hid ho2
    have HB2 : Hid (Below W.heap.size W w2) := Lib.hid ((HB1.out.alloc HB1.out.size _).trans (hb2.mono (by have := HB1.out.size; simp; omega)))
    have HZ2 : Hid (W.heap.size ≤ (w1.alloc (.cells #[.string s] 9)).heap.size ∧ (w1.alloc (.cells #[.string s] 9)).heap.size ≤ w2.heap.size) := Lib.hid ⟨by have := HB1.out.size; simp; omega, hb2.size⟩
    clear ho2 hb2
    generalize (w1.alloc (.cells #[.string s] 9)).heap.size = base2 at HO2 HZ2
    go_wp2_with (at_builtin; refine wp_app_any rfl (.tmp 25) (.tmp 26) rfl base2 W.heap.size v2 _ l A c rfl HO2.out rfl HA.out (HR.out.below_ HB2.out) (Fits.of (by have := HLE.out; have := HSD.out; simp only [List.length_append]; omega)) HZ2.out.2 ?_; intro v3 w3 ho3 hb3)
    have HO3 := Lib.hid ho3
    have HB3 : Hid (Below W.heap.size W w3) := Lib.hid (HB2.out.trans (hb3.mono HZ2.out.1))
    clear ho3 hb3
    refine (open_any _ _ _ HO3.out.lies (Fits.of (by have := HLE.out; have := HSD.out; simp only [List.length_append]; omega))).mono ?_
    rintro e w4 ⟨g, rfl, hg, hr4, hb4⟩
    have HR4 := Lib.hid hr4
    have HB4 : Hid (Below W.heap.size W w4) := Lib.hid (HB3.out.trans (hb4.mono HB3.out.size))
    have HG : Hid (W.heap.size ≤ g) := Lib.hid (Nat.le_trans HB3.out.size hg)
    clear hr4 hb4 hg
    go_wp2_with fail
    by_cases hfit : (s.data.toList.length : Int) ≤ max most 0
    · refine (text_at g _ 0 most _ HR4.out (by omega) (by omega) (rdText_enc _ _ _ (by have := HSD.out; omega) hfit)).mono ?_
      rintro e w5 ⟨rfl, hr5, hg5⟩
      have HR5 := Lib.hid hr5
      obtain ⟨v5, hh5, _, _⟩ := hr5
      have HH5 := Lib.hid hh5
      have HB5 : Hid (Below W.heap.size W w5) := Lib.hid (HB4.out.grown hg5 HB4.out.size (by intro k hk; cases hk; exact HG.out))
      clear hg5 hh5
      rw [HSD.out] at hfit
      rw [mkB_data]
      by_cases hp : 0 ≤ most
      all_goals
        first
        | rw [Int.max_eq_left hp] at hfit
        | rw [Int.max_eq_right (by omega)] at hfit
        go_wp2_with (first
          | (go_at_call 29; refine (err_any g _ _ _ HH5.out).mono ?_; rintro e w' ⟨rfl, rfl⟩)
          | (go_at_call 28; refine (left_any g _ _ _ HR5.out).mono ?_; rintro e w' ⟨rfl, rfl⟩))
        go_ret
        exact ⟨rfl, HB5.out⟩
    · refine (text_at g _ 0 most _ HR4.out (by omega) (by omega) (rdText_enc_long _ _ _ (by have := HSD.out; omega) hfit)).mono ?_
      rintro e w5 ⟨rfl, hr5, hg5⟩
      have HR5 := Lib.hid hr5
      obtain ⟨v5, hh5, _, _⟩ := hr5
      have HH5 := Lib.hid hh5
      have HB5 : Hid (Below W.heap.size W w5) := Lib.hid (HB4.out.grown hg5 HB4.out.size (by intro k hk; cases hk; exact HG.out))
      clear hg5 hh5
      rw [HSD.out] at hfit
      have hE : (mkB []).toList.isEmpty = true := by rw [ByteArray.toList_eq]; rfl
      by_cases hp : 0 ≤ most
      all_goals
        first
        | rw [Int.max_eq_left hp] at hfit
        | rw [Int.max_eq_right (by omega)] at hfit
        go_wp2_with (first
          | (go_at_call 29; refine (err_any g _ _ _ HH5.out).mono ?_; rintro e w' ⟨rfl, rfl⟩)
          | (go_at_call 30; refine (end_any g _ _ _ HR5.out).mono ?_; rw [show rdEnd [] 13 = 13 by decide]; rintro e w' ⟨rfl, rfl⟩)
          | (go_at_call 28; refine (left_any g _ _ _ HR5.out).mono ?_; rintro e w' ⟨rfl, rfl⟩))
        go_ret
        exact ⟨rfl, HB5.out⟩
  · go_ret
    exact ⟨rfl, HB1.out⟩
end Go.Proofs.Ytbbioeiikobnnaa
