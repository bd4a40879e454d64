/-
  Contract of layer 2's reference Sum.
-/
import Derived.Test.YtfnhlajcdlfbhaaDoorRefSub
import Derived.Test.YtfnhlajcdlfbhaaDoorRow
namespace Go.Proofs.YtfnhlajcdlfbhaaDoor
open Go.RowKit
set_option linter.unusedVariables false

set_option maxRecDepth 100000 in
theorem rsum_any (zs : List Int) (A : Option Addr) (c B : Nat) (w : World) (hz : ∀ z ∈ zs, -9223372036854775808 ≤ z ∧ z ≤ 9223372036854775807) (hr : Row w B A (zs.map (Value.int .i64))) (hn : zs.length ≤ 1000000) :
    Calls Tryd.prog 15 #[.slice A zs.length c] w fun e w' => e = .returned (.tuple #[.int .i64 (sumS zs (0, false)).1, .bool (sumS zs (0, false)).2]) ∧ w = w' := by
  have HR := Lib.hid hr
  have HZ := Lib.hid hz
  clear hr hz
  go_enter Tryd.func15, Tryd.ntmps15
  go_wp2
  go_loop [4, 5, 6] (fun s p i => ∃ (k : Nat) (x : Int) (q : Bool), k ≤ zs.length ∧ i = .int .i64 k ∧ s = .int .i64 x ∧ p = .bool q ∧ Hid (sumS (zs.take k) (0, false) = (x, q))) (fun _ _ i => zs.length - (intOf i).toNat)
  case atStart => exact ⟨0, 0, false, Nat.zero_le _, rfl, rfl, rfl, Lib.hid rfl⟩
  case round =>
    obtain ⟨k, x, q, hk, rfl, rfl, rfl, HS⟩ := hrel
    have HX := Lib.hid (by have := sumS_range (zs.take k) (0, false) (by decide); rwa [HS.out] at this)
    by_cases hlt : k < zs.length
    · obtain ⟨b, off, rfl, hb, hc⟩ := HR.out.at_ k (by simpa using hlt)
      simp only [List.getElem_map] at hc
      have HK := Lib.hid (HZ.out zs[k] (List.getElem_mem hlt))
      have HN := Lib.hid (by have := sumS_snoc (zs.take k) zs[k] (0, false); rwa [← List.take_succ_eq_append_getElem hlt, HS.out] at this)
      generalize zs[k] = y at hc HK HN
      clear hb
      cases q
      all_goals
        go_wp2_with (go_at_call 11; refine (radd_any _ _ _ HX.out.1 HX.out.2 HK.out.1 HK.out.2).mono ?_; rintro _ w' ⟨rfl, rfl⟩)
        go_round
        case rel => exact ⟨k + 1, (cutS (x + y)).1, _, by omega, by go_num, rfl, rfl, Lib.hid (by rw [HN.out]; rfl)⟩
        case measure => simp [intOf]; omega
    · have hk' : k = zs.length := by omega
      subst hk'
      have h := HS.out
      rw [List.take_length] at h
      have H := Lib.hid h
      clear h HS
      go_wp2
      go_ret2
      exact ⟨by rw [H.out]; rfl, rfl⟩
end Go.Proofs.YtfnhlajcdlfbhaaDoor
