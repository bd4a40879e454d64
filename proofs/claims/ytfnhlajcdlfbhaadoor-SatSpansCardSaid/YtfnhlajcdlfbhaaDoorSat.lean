/-
  Contracts of layer 2's numbers: Add, Sub, Sum of package sat, for every number.
-/
import Derived.Test.YtfnhlajcdlfbhaaDoorRefSum
import Derived.Test.YtfnhlajcdlfbhaaDoorRow
namespace Go.Proofs.YtfnhlajcdlfbhaaDoor
open Go.RowKit
set_option linter.unusedVariables false

theorem cutS_up (v : Int) (h : 9223372036854775807 < v) : cutS v = (9223372036854775807, true) := by unfold cutS; rw [if_pos h]
theorem cutS_down (v : Int) (h : v < -9223372036854775808) : cutS v = (-9223372036854775808, true) := by unfold cutS; rw [if_neg (by omega), if_pos h]
theorem cutS_in (v : Int) (h : -9223372036854775808 ≤ v ∧ v ≤ 9223372036854775807) : cutS v = (v, false) := by unfold cutS; rw [if_neg (by omega), if_neg (by omega)]

theorem sadd_any (a b : Int) (w : World) (a1 : -9223372036854775808 ≤ a) (a2 : a ≤ 9223372036854775807) (b1 : -9223372036854775808 ≤ b) (b2 : b ≤ 9223372036854775807) :
    Calls Tryd.prog 10 #[.int .i64 a, .int .i64 b] w fun e w' => e = .returned (.tuple #[.int .i64 (cutS (a + b)).1, .bool (cutS (a + b)).2]) ∧ w = w' := by
  by_cases h1 : 9223372036854775807 < a + b
  · rw [cutS_up _ h1]
    have hb : 0 < b := by omega
    have hs : wrap64 (a + b) < a := by unfold wrap64; omega
    clear h1 a1 a2 b1 b2
    go_enter Tryd.func10, Tryd.ntmps10
    go_wp2
    go_ret2
    exact ⟨rfl, rfl⟩
  · by_cases h2 : a + b < -9223372036854775808
    · rw [cutS_down _ h2]
      have hb : b < 0 := by omega
      have hs : a < wrap64 (a + b) := by unfold wrap64; omega
      clear h1 h2 a1 a2 b1 b2
      go_enter Tryd.func10, Tryd.ntmps10
      go_wp2
      go_ret2
      exact ⟨rfl, rfl⟩
    · rw [cutS_in _ ⟨by omega, by omega⟩]
      have g1 : -9223372036854775808 ≤ a + b := by omega
      have g2 : a + b ≤ 9223372036854775807 := by omega
      clear h1 h2
      by_cases hb : 0 < b
      · go_enter Tryd.func10, Tryd.ntmps10
        go_wp2
        go_ret2
        exact ⟨rfl, rfl⟩
      · by_cases hb : b < 0
        · go_enter Tryd.func10, Tryd.ntmps10
          go_wp2
          go_ret2
          exact ⟨rfl, rfl⟩
        · go_enter Tryd.func10, Tryd.ntmps10
          go_wp2
          go_ret2
          exact ⟨rfl, rfl⟩

theorem ssub_any (a b : Int) (w : World) (a1 : -9223372036854775808 ≤ a) (a2 : a ≤ 9223372036854775807) (b1 : -9223372036854775808 ≤ b) (b2 : b ≤ 9223372036854775807) :
    Calls Tryd.prog 12 #[.int .i64 a, .int .i64 b] w fun e w' => e = .returned (.tuple #[.int .i64 (cutS (a - b)).1, .bool (cutS (a - b)).2]) ∧ w = w' := by
  by_cases h1 : 9223372036854775807 < a - b
  · rw [cutS_up _ h1]
    have hb : b < 0 := by omega
    have hs : wrap64 (a - b) < a := by unfold wrap64; omega
    clear h1 a1 a2 b1 b2
    go_enter Tryd.func12, Tryd.ntmps12
    go_wp2
    go_ret2
    exact ⟨rfl, rfl⟩
  · by_cases h2 : a - b < -9223372036854775808
    · rw [cutS_down _ h2]
      have hb : 0 < b := by omega
      have hs : a < wrap64 (a - b) := by unfold wrap64; omega
      clear h1 h2 a1 a2 b1 b2
      go_enter Tryd.func12, Tryd.ntmps12
      go_wp2
      go_ret2
      exact ⟨rfl, rfl⟩
    · rw [cutS_in _ ⟨by omega, by omega⟩]
      have g1 : -9223372036854775808 ≤ a - b := by omega
      have g2 : a - b ≤ 9223372036854775807 := by omega
      clear h1 h2
      by_cases hb : 0 < b
      · go_enter Tryd.func12, Tryd.ntmps12
        go_wp2
        go_ret2
        exact ⟨rfl, rfl⟩
      · by_cases hb : b < 0
        · go_enter Tryd.func12, Tryd.ntmps12
          go_wp2
          go_ret2
          exact ⟨rfl, rfl⟩
        · go_enter Tryd.func12, Tryd.ntmps12
          go_wp2
          go_ret2
          exact ⟨rfl, rfl⟩

set_option maxRecDepth 100000 in
theorem ssum_any (zs : List Int) (A : Option Addr) (c B : Nat) (w : World) (hz : ∀ z ∈ zs, -9223372036854775808 ≤ z ∧ z ≤ 9223372036854775807) (hr : Row w B A (zs.map (Value.int .i64))) (hn : zs.length ≤ 1000000) :
    Calls Tryd.prog 14 #[.slice A zs.length c] w fun e w' => e = .returned (.tuple #[.int .i64 (sumS zs (0, false)).1, .bool (sumS zs (0, false)).2]) ∧ w = w' := by
  have HR := Lib.hid hr
  have HZ := Lib.hid hz
  clear hr hz
  go_enter Tryd.func14, Tryd.ntmps14
  go_wp2
  go_loop [4, 5, 12] (fun s p i => ∃ (k : Nat) (x : Int) (q : Bool), k ≤ zs.length ∧ i = .int .i64 k ∧ s = .int .i64 x ∧ p = .bool q ∧ Hid (sumS (zs.take k) (0, false) = (x, q))) (fun _ _ i => zs.length - (intOf i).toNat)
  case atStart => exact ⟨0, 0, false, Nat.zero_le _, rfl, rfl, rfl, Lib.hid rfl⟩
  case round =>
    obtain ⟨k, x, q, hk, rfl, rfl, rfl, HS⟩ := hrel
    have HX := Lib.hid (by have := sumS_range (zs.take k) (0, false) (by decide); rwa [HS.out] at this)
    by_cases hlt : k < zs.length
    · obtain ⟨b, off, rfl, hb, hc⟩ := HR.out.at_ k (by simpa using hlt)
      simp only [List.getElem_map] at hc
      have HK := Lib.hid (HZ.out zs[k] (List.getElem_mem hlt))
      have HN := Lib.hid (by have := sumS_snoc (zs.take k) zs[k] (0, false); rwa [← List.take_succ_eq_append_getElem hlt, HS.out] at this)
      generalize zs[k] = y at hc HK HN
      clear hb
      cases q
      all_goals
        go_wp2_with (go_at_call 10; refine (sadd_any _ _ _ HX.out.1 HX.out.2 HK.out.1 HK.out.2).mono ?_; rintro _ w' ⟨rfl, rfl⟩)
        go_round
        case rel => exact ⟨k + 1, (cutS (x + y)).1, _, by omega, by go_num, rfl, rfl, Lib.hid (by rw [HN.out]; rfl)⟩
        case measure => simp [intOf]; omega
    · have hk' : k = zs.length := by omega
      subst hk'
      have h := HS.out
      rw [List.take_length] at h
      have H := Lib.hid h
      clear h HS
      go_wp2
      go_ret2
      exact ⟨by rw [H.out]; rfl, rfl⟩
end Go.Proofs.YtfnhlajcdlfbhaaDoor
