/-
  Contract of layer 2's law's 'awake': the document's examples hold.
-/
import Derived.Test.YtfnhlajcdlfbhaaDoorSpanAt
namespace Go.Proofs.YtfnhlajcdlfbhaaDoor
open Go.RowKit
set_option linter.unusedVariables false

theorem ssub_at (a b : Int) (w : World) (ha : -9223372036854775808 ≤ a ∧ a ≤ 9223372036854775807) (hb : -9223372036854775808 ≤ b ∧ b ≤ 9223372036854775807) {x : Int} {p : Bool} (hd : cutS (a - b) = (x, p)) :
    Calls Tryd.prog 12 #[.int .i64 a, .int .i64 b] w fun e w' => e = .returned (.tuple #[.int .i64 x, .bool p]) ∧ w = w' := by
  have k := ssub_any a b w ha.1 ha.2 hb.1 hb.2
  rw [hd] at k
  exact k
theorem sat_at (lo hi t : Int) (w : World) (hN : NoneIs w) (h1 : -9223372036854775808 ≤ lo ∧ lo ≤ 9223372036854775807) (h2 : -9223372036854775808 ≤ hi ∧ hi ≤ 9223372036854775807) (h3 : -9223372036854775808 ≤ t ∧ t ≤ 9223372036854775807) {x y : Int} {p : Bool} (hd : atS lo hi t = ((x, y), p)) :
    Calls Tryd.prog 16 #[.agg #[.int .i64 lo, .int .i64 hi], .int .i64 t] w fun e w' => e = .returned (.tuple #[.agg #[.int .i64 x, .int .i64 y], .bool p]) ∧ Below w.heap.size w w' := by
  have k := sat_any lo hi t w hN h1 h2 h3
  rw [hd] at k
  exact k

set_option maxRecDepth 100000 in
theorem awake2_any (w : World) (hN : NoneIs w) : Calls Tryd.prog 9 #[] w fun e w' => e = .returned (.bool true) ∧ Below w.heap.size w w' := by
  have HN := Lib.hid hN
  clear hN
  have E1 := Lib.hid (show cutS (9223372036854775807 + 1) = (9223372036854775807, true) by decide)
  have E2 := Lib.hid (show cutS (5 - 7) = (-2, false) by decide)
  have E3 := Lib.hid (show atS 2 5 9223372036854775804 = ((9223372036854775806, 9223372036854775807), true) by decide)
  have E4 := Lib.hid (show okS 9223372036854775806 9223372036854775807 = true by decide)
  go_enter Tryd.func9, Tryd.ntmps9
  go_wp2_with (first
    | (go_at_call 10; refine (sadd_at _ _ _ (by decide) (by decide) E1.out).mono ?_; rintro _ w' ⟨rfl, rfl⟩)
    | (go_at_call 12; refine (ssub_at _ _ _ (by decide) (by decide) E2.out).mono ?_; rintro _ w' ⟨rfl, rfl⟩)
    | (go_at_call 16; refine (sat_at _ _ _ _ HN.out (by decide) (by decide) (by decide) E3.out).mono ?_; rintro _ w2 ⟨rfl, hb2⟩; have HB2 := Lib.hid hb2; clear hb2)
    | (go_at_call 20; refine (sright_any _ _ _).mono ?_; rw [E4.out]; rintro _ w3 ⟨rfl, hb3⟩; have HB3 := Lib.hid hb3; clear hb3))
  go_ret
  exact ⟨rfl, (HB2.out.alloc HB2.out.size _).trans (HB3.out.mono (by have := HB2.out.size; simp; omega))⟩
end Go.Proofs.YtfnhlajcdlfbhaaDoor
