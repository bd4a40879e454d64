/-
  The walk of the law SatOrder.
-/
import Derived.Test.YtfnhlajcdlfbhaaDoorAwakeTwo
import Derived.OpenShut
namespace Go.Proofs.YtfnhlajcdlfbhaaDoor
open Go.RowKit
set_option linter.unusedVariables false

theorem order_some (a b c x y : Int) (p p2 : Bool) (h : a ≤ b) (hx : cutS (a + c) = (x, p)) (hy : cutS (b + c) = (y, p2)) : x ≤ y := by
  unfold cutS at hx hy
  split at hx <;> split at hy <;> (try split at hx) <;> (try split at hy) <;> simp only [Prod.mk.injEq] at hx hy <;> omega
theorem order_back (a c x : Int) (ha : -9223372036854775808 ≤ a ∧ a ≤ 9223372036854775807) (hx : cutS (a + c) = (x, false)) : cutS (x - c) = (a, false) := by
  unfold cutS at hx ⊢
  split at hx
  · simp at hx
  · split at hx
    · simp at hx
    · simp only [Prod.mk.injEq, and_true] at hx
      rw [if_neg (by omega), if_neg (by omega)]
      congr 1
      omega

set_option maxRecDepth 100000 in
theorem satOrder_core (a b c x y k : Int) (p p2 cut : Bool) (W : World) (hN : NoneIs W) (ha : -9223372036854775808 ≤ a ∧ a ≤ 9223372036854775807) (hb : -9223372036854775808 ≤ b ∧ b ≤ 9223372036854775807) (hc : -9223372036854775808 ≤ c ∧ c ≤ 9223372036854775807)
    (hx : cutS (a + c) = (x, p)) (hy : cutS (b + c) = (y, p2)) (hk : cutS (x - c) = (k, cut)) (hxr : -9223372036854775808 ≤ x ∧ x ≤ 9223372036854775807) (h1 : b < a ∨ (a ≤ b ∧ x ≤ y)) (h2 : p = true ∨ (p = false ∧ k = a ∧ cut = false)) :
    Calls Tryd.prog 6 #[.int .i64 a, .int .i64 b, .int .i64 c] W fun e w' => e = .returned (.bool true) ∧ Below W.heap.size W w' := by
  have HA := Lib.hid ha
  have HB := Lib.hid hb
  have HC := Lib.hid hc
  have HX := Lib.hid hx
  have HZ := Lib.hid (show cutS (c + a) = (x, p) by rw [Int.add_comm]; exact hx)
  have HY := Lib.hid hy
  have HK := Lib.hid hk
  have HR := Lib.hid hxr
  have HN := Lib.hid hN
  clear ha hb hc hx hy hk hxr hN
  rcases h1 with h1 | ⟨h1, h1b⟩
  all_goals rcases h2 with rfl | ⟨rfl, rfl, rfl⟩
  all_goals
    go_enter Tryd.func6, Tryd.ntmps6
    go_wp2_with (first
      | (go_at_call 9; refine (awake2_any _ HN.out).mono ?_; rintro e w1 ⟨rfl, hb1⟩; have HB1 := Lib.hid hb1; clear hb1)
      | (go_at_call 10; (with_reducible refine (sadd_at _ _ _ HA.out HC.out HX.out).mono ?_); rintro e w' ⟨rfl, rfl⟩)
      | (go_at_call 10; (with_reducible refine (sadd_at _ _ _ HB.out HC.out HY.out).mono ?_); rintro e w' ⟨rfl, rfl⟩)
      | (go_at_call 10; (with_reducible refine (sadd_at _ _ _ HC.out HA.out HZ.out).mono ?_); rintro e w' ⟨rfl, rfl⟩)
      | (go_at_call 12; (with_reducible refine (ssub_at _ _ _ HR.out HC.out HK.out).mono ?_); rintro e w' ⟨rfl, rfl⟩))
    go_ret
    exact ⟨rfl, HB1.out⟩

theorem satOrder_walk (a b c : Int) (W : World) (hN : NoneIs W) (h0 : (Lit.int .i64 a).wf = true) (h1 : (Lit.int .i64 b).wf = true) (h2 : (Lit.int .i64 c).wf = true) :
    Calls Tryd.prog 6 #[.int .i64 a, .int .i64 b, .int .i64 c] W fun e w' => e = .returned (.bool true) ∧ Below W.heap.size W w' := by
  have ha := bounds_i64 h0
  rcases hx : cutS (a + c) with ⟨x, p⟩
  rcases hy : cutS (b + c) with ⟨y, p2⟩
  rcases hk : cutS (x - c) with ⟨k, cut⟩
  refine satOrder_core a b c x y k p p2 cut W hN ha (bounds_i64 h1) (bounds_i64 h2) hx hy hk ?_ ?_ ?_
  · have := cutS_range (a + c); rw [hx] at this; exact this
  · by_cases h : a ≤ b
    · exact .inr ⟨h, order_some a b c x y p p2 h hx hy⟩
    · exact .inl (by omega)
  · cases p
    · rw [order_back a c x ha hx] at hk
      injection hk with e1 e2
      exact .inr ⟨rfl, e1.symm, e2.symm⟩
    · exact .inl rfl
end Go.Proofs.YtfnhlajcdlfbhaaDoor
