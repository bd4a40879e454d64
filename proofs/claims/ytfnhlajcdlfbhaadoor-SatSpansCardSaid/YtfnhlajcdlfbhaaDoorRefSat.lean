/-
  Contracts of layer 2's reference: low, highs, whole, Add, for every number.
-/
import Derived.Test.YtfnhlajcdlfbhaaDoorProg
import Derived.WalkKit
import Derived.Lib.Hide
namespace Go.Proofs.YtfnhlajcdlfbhaaDoor
open Go.RowKit
set_option linter.unusedVariables false

/-- A number that is cut at the ends, and whether it was. -/
def cutS (v : Int) : Int × Bool := if 9223372036854775807 < v then (9223372036854775807, true) else if v < -9223372036854775808 then (-9223372036854775808, true) else (v, false)

theorem rt_int {k : IntKind} {a b : Int} (h : a = b) : Ending.returned (.int k a) = .returned (.int k b) := by rw [h]
theorem tmod_pos (a : Int) (h : 0 ≤ a) : a.tmod 4294967296 = a % 4294967296 := Int.tmod_eq_emod_of_nonneg h
theorem tmod_neg (a : Int) (h : a < 0) : a.tmod 4294967296 = -((-a) % 4294967296) := by
  have e : a = -(-a) := by omega
  rw [e, Int.neg_tmod, Int.tmod_eq_emod_of_nonneg (by omega)]
  simp
theorem tdiv_pos (a : Int) (h : 0 ≤ a) : a.tdiv 4294967296 = a / 4294967296 := Int.tdiv_eq_ediv_of_nonneg h
theorem tdiv_neg (a : Int) (h : a < 0) : a.tdiv 4294967296 = -((-a) / 4294967296) := by
  have e : a = -(-a) := by omega
  rw [e, Int.neg_tdiv, Int.tdiv_eq_ediv_of_nonneg (by omega)]
  simp

theorem low_any (a : Int) (w : World) (h1 : -9223372036854775808 ≤ a) (h2 : a ≤ 9223372036854775807) :
    Calls Tryd.prog 27 #[.int .i64 a] w fun e w' => e = .returned (.int .i64 (a % 4294967296)) ∧ w = w' := by
  by_cases hp : 0 ≤ a
  · have ht := Lib.hid (tmod_pos a hp)
    have hb : 0 ≤ a.tmod 4294967296 := by rw [ht.out]; omega
    go_enter Tryd.func27, Tryd.ntmps27
    go_wp2
    go_ret
    exact ⟨rfl, rfl⟩
  · have ht := Lib.hid (tmod_neg a (by omega))
    by_cases hz : a.tmod 4294967296 < 0
    · go_enter Tryd.func27, Tryd.ntmps27
      go_wp2
      go_ret
      refine ⟨rt_int ?_, rfl⟩
      have := ht.out
      unfold wrap64
      omega
    · have hz2 : 0 ≤ a.tmod 4294967296 := by omega
      go_enter Tryd.func27, Tryd.ntmps27
      go_wp2
      go_ret
      refine ⟨rt_int ?_, rfl⟩
      have := ht.out
      omega
theorem highs_any (a : Int) (w : World) (h1 : -9223372036854775808 ≤ a) (h2 : a ≤ 9223372036854775807) :
    Calls Tryd.prog 26 #[.int .i64 a] w fun e w' => e = .returned (.int .i64 (a / 4294967296)) ∧ w = w' := by
  by_cases hp : 0 ≤ a
  · have ht := Lib.hid (tmod_pos a hp)
    have hd := Lib.hid (tdiv_pos a hp)
    have hb : 0 ≤ a.tmod 4294967296 := by rw [ht.out]; omega
    go_enter Tryd.func26, Tryd.ntmps26
    go_wp2
    go_ret
    refine ⟨rt_int ?_, rfl⟩
    have := hd.out
    try unfold wrap64
    omega
  · have ht := Lib.hid (tmod_neg a (by omega))
    have hd := Lib.hid (tdiv_neg a (by omega))
    by_cases hz : a.tmod 4294967296 < 0
    · go_enter Tryd.func26, Tryd.ntmps26
      go_wp2
      go_ret
      refine ⟨rt_int ?_, rfl⟩
      have := ht.out
      have := hd.out
      try unfold wrap64
      omega
    · have hz2 : 0 ≤ a.tmod 4294967296 := by omega
      go_enter Tryd.func26, Tryd.ntmps26
      go_wp2
      go_ret
      refine ⟨rt_int ?_, rfl⟩
      have := ht.out
      have := hd.out
      try unfold wrap64
      omega

theorem whole_end (h l : Int) (h1 : 0 ≤ l) (h2 : l < 4294967296) : cutS (h * 4294967296 + l) = if 2147483647 < h then (9223372036854775807, true) else if h < -2147483648 then (-9223372036854775808, true) else (h * 4294967296 + l, false) := by
  unfold cutS
  by_cases a : 2147483647 < h
  · rw [if_pos a, if_pos (by omega)]
  · rw [if_neg a, if_neg (by omega)]
    by_cases b : h < -2147483648
    · rw [if_pos b, if_pos (by omega)]
    · rw [if_neg b, if_neg (by omega)]

set_option maxRecDepth 100000 in
theorem whole_any (h l : Int) (w : World) (h1 : -8589934592 ≤ h) (h2 : h ≤ 8589934592) (l1 : -8589934592 ≤ l) (l2 : l ≤ 8589934592) :
    Calls Tryd.prog 25 #[.int .i64 h, .int .i64 l] w fun e w' => e = .returned (.tuple #[.int .i64 (cutS (h * 4294967296 + l)).1, .bool (cutS (h * 4294967296 + l)).2]) ∧ w = w' := by
  obtain ⟨v, hv⟩ : ∃ v, v = h * 4294967296 + l := ⟨_, rfl⟩
  rw [← hv]
  have HV := Lib.hid hv
  clear hv
  go_enter Tryd.func25, Tryd.ntmps25
  go_wp2
  go_loop [0, 1] (fun a b => ∃ x y : Int, a = .int .i64 x ∧ b = .int .i64 y ∧ Hid (v = x * 4294967296 + y) ∧ -8589934600 ≤ x ∧ x ≤ 8589934600 ∧ -8589934592 ≤ y ∧ y ≤ 8589934592 ∧ Hid (-8589934594 * 4294967296 ≤ v ∧ v ≤ 8589934594 * 4294967296)) (fun _ b => (8589934592 - intOf b).toNat)
  case atStart => exact ⟨h, l, rfl, rfl, HV, by omega, by omega, by omega, by omega, Lib.hid (by have := HV.out; omega)⟩
  case round =>
    obtain ⟨x, y, rfl, rfl, HX, x1, x2, y1, y2, HB⟩ := hrel
    by_cases hy : y < 0
    · go_wp2
      go_round
      case rel => exact ⟨x - 1, y + 4294967296, rfl, rfl, Lib.hid (by have := HX.out; omega), by have := HX.out; have := HB.out; omega, by omega, by omega, by omega, HB⟩
      case measure => simp [intOf]; omega
    · go_wp2
      go_loop [0, 1] (fun a b => ∃ x y : Int, a = .int .i64 x ∧ b = .int .i64 y ∧ Hid (v = x * 4294967296 + y) ∧ -8589934610 ≤ x ∧ x ≤ 8589934610 ∧ 0 ≤ y ∧ y ≤ 8589934592) (fun _ b => (intOf b).toNat)
      case atStart => exact ⟨x, y, rfl, rfl, HX, by omega, by omega, by omega, by omega⟩
      case round =>
        obtain ⟨x, y, rfl, rfl, HX, x1, x2, y1, y2⟩ := hrel
        by_cases hy : 4294967296 ≤ y
        · go_wp2
          go_round
          case rel => exact ⟨x + 1, y - 4294967296, rfl, rfl, Lib.hid (by have := HX.out; omega), by omega, by have := HX.out; have := HB.out; omega, by omega, by omega⟩
          case measure => simp [intOf]; omega
        · have he := Lib.hid (whole_end x y y1 (by omega))
          rw [← HX.out] at he
          by_cases a1 : 2147483647 < x
          · have h3 := he.out
            rw [if_pos a1] at h3
            have H3 := Lib.hid h3
            clear he h3
            go_wp2
            go_ret2
            exact ⟨by rw [H3.out]; rfl, rfl⟩
          · by_cases a2 : x < -2147483648
            · have h3 := he.out
              rw [if_neg a1, if_pos a2] at h3
              have H3 := Lib.hid h3
              clear he h3
              go_wp2
              go_ret2
              exact ⟨by rw [H3.out]; rfl, rfl⟩
            · have h3 := he.out
              rw [if_neg a1, if_neg a2] at h3
              have H3 := Lib.hid h3
              clear he h3
              go_wp2
              go_ret2
              exact ⟨by rw [H3.out, HX.out]; rfl, rfl⟩

/-- The reference's Add. -/
theorem radd_any (a b : Int) (w : World) (a1 : -9223372036854775808 ≤ a) (a2 : a ≤ 9223372036854775807) (b1 : -9223372036854775808 ≤ b) (b2 : b ≤ 9223372036854775807) :
    Calls Tryd.prog 11 #[.int .i64 a, .int .i64 b] w fun e w' => e = .returned (.tuple #[.int .i64 (cutS (a + b)).1, .bool (cutS (a + b)).2]) ∧ w = w' := by
  have h := Lib.hid (show a / 4294967296 * 4294967296 + b / 4294967296 * 4294967296 + (a % 4294967296 + b % 4294967296) = a + b by omega)
  have q1 : -2147483648 ≤ a / 4294967296 ∧ a / 4294967296 ≤ 2147483647 := by omega
  have q2 : -2147483648 ≤ b / 4294967296 ∧ b / 4294967296 ≤ 2147483647 := by omega
  have r1 : 0 ≤ a % 4294967296 ∧ a % 4294967296 < 4294967296 := by omega
  have r2 : 0 ≤ b % 4294967296 ∧ b % 4294967296 < 4294967296 := by omega
  have A := Lib.hid (And.intro a1 a2)
  have B := Lib.hid (And.intro b1 b2)
  clear a1 a2 b1 b2
  go_enter Tryd.func11, Tryd.ntmps11
  go_wp2_with (first
    | (go_at_call 26; refine (highs_any _ _ (by first | exact A.out.1 | exact B.out.1) (by first | exact A.out.2 | exact B.out.2)).mono ?_; rintro _ w' ⟨rfl, rfl⟩)
    | (go_at_call 27; refine (low_any _ _ (by first | exact A.out.1 | exact B.out.1) (by first | exact A.out.2 | exact B.out.2)).mono ?_; rintro _ w' ⟨rfl, rfl⟩)
    | (go_at_call 25; refine (whole_any _ _ _ (by omega) (by omega) (by omega) (by omega)).mono ?_; rintro _ w' ⟨rfl, rfl⟩))
  go_ret2
  exact ⟨by rw [← h.out, ← Int.add_mul]; rfl, rfl⟩
end Go.Proofs.YtfnhlajcdlfbhaaDoor
