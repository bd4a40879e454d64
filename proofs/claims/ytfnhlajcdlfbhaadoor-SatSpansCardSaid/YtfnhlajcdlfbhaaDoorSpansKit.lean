/-
  Words for the walk of the law SatSpans.
-/
import Derived.Test.YtfnhlajcdlfbhaaDoorWalkSatMeets
import Derived.Test.YtfnhlajcdlfbhaaDoorSpanText
import Derived.Test.YtfnhlajcdlfbhaaDoorRefSub
namespace Go.Proofs.YtfnhlajcdlfbhaaDoor
open Go.RowKit
set_option linter.unusedVariables false

theorem rat_at (lo hi t : Int) (w : World) (h1 : -9223372036854775808 ≤ lo ∧ lo ≤ 9223372036854775807) (h2 : -9223372036854775808 ≤ hi ∧ hi ≤ 9223372036854775807) (h3 : -9223372036854775808 ≤ t ∧ t ≤ 9223372036854775807) {x y : Int} {p : Bool} (hd : atS lo hi t = ((x, y), p)) :
    Calls Tryd.prog 17 #[.agg #[.int .i64 lo, .int .i64 hi], .int .i64 t] w fun e w' => e = .returned (.tuple #[.agg #[.int .i64 x, .int .i64 y], .bool p]) ∧ Below w.heap.size w w' := by
  have k := rat_any lo hi t w h1 h2 h3
  rw [hd] at k
  exact k
theorem rmeet_at (a b c d : Int) (w : World) {x y : Int} {p : Bool} (h : meetS a b c d = ((x, y), p)) :
    Calls Tryd.prog 19 #[.agg #[.int .i64 a, .int .i64 b], .agg #[.int .i64 c, .int .i64 d]] w fun e w' => e = .returned (.tuple #[.agg #[.int .i64 x, .int .i64 y], .bool p]) ∧ Below w.heap.size w w' := by
  have k := rmeet_any a b c d w
  rw [h] at k
  exact k
theorem rright_at (lo hi : Int) (w : World) {q : Bool} (h : okS lo hi = q) : Calls Tryd.prog 21 #[.agg #[.int .i64 lo, .int .i64 hi]] w fun e w' => e = .returned (.bool q) ∧ Below w.heap.size w w' := by
  subst h; exact rright_any lo hi w
theorem stext_at (W : World) (hT : Pows W) (lo hi : Int) (w : World) (hW : Below W.heap.size W w) (h1 : -9223372036854775808 ≤ lo ∧ lo ≤ 9223372036854775807) (h2 : -9223372036854775808 ≤ hi ∧ hi ≤ 9223372036854775807) {z : ByteArray} (hz : mkB (textS lo hi) = z) :
    Calls Tryd.prog 23 #[.agg #[.int .i64 lo, .int .i64 hi]] w fun e w' => e = .returned (.string z) ∧ Below w.heap.size w w' := by
  subst hz; exact stext_any W hT lo hi w hW h1.1 h1.2 h2.1 h2.2
theorem rtext_at (lo hi : Int) (w : World) (h1 : -9223372036854775808 ≤ lo ∧ lo ≤ 9223372036854775807) (h2 : -9223372036854775808 ≤ hi ∧ hi ≤ 9223372036854775807) {z : ByteArray} (hz : mkB (textS lo hi) = z) :
    Calls Tryd.prog 24 #[.agg #[.int .i64 lo, .int .i64 hi]] w fun e w' => e = .returned (.string z) ∧ Below w.heap.size w w' := by
  subst hz; exact rspantext_any lo hi w h1.1 h1.2 h2.1 h2.2

/-- Six blocks of two cells, and what was there before. -/
def SixS (W : World) (g0 g1 g2 g3 g4 g5 : Nat) (a b x y u v : Int) (w : World) : Prop := w.cell? ⟨g0, 0, none⟩ = some (.int .i64 a) ∧ w.cell? ⟨g0, 1, none⟩ = some (.int .i64 b) ∧ w.cell? ⟨g1, 0, none⟩ = some (.int .i64 a) ∧ w.cell? ⟨g1, 1, none⟩ = some (.int .i64 b) ∧ w.cell? ⟨g2, 0, none⟩ = some (.int .i64 x) ∧ w.cell? ⟨g2, 1, none⟩ = some (.int .i64 y) ∧ w.cell? ⟨g3, 0, none⟩ = some (.int .i64 x) ∧ w.cell? ⟨g3, 1, none⟩ = some (.int .i64 y) ∧ w.cell? ⟨g4, 0, none⟩ = some (.int .i64 u) ∧ w.cell? ⟨g4, 1, none⟩ = some (.int .i64 v) ∧ w.cell? ⟨g5, 0, none⟩ = some (.int .i64 u) ∧ w.cell? ⟨g5, 1, none⟩ = some (.int .i64 v) ∧ Hid (g0 < w.heap.size ∧ g1 < w.heap.size ∧ g2 < w.heap.size ∧ g3 < w.heap.size ∧ g4 < w.heap.size ∧ g5 < w.heap.size ∧ Below W.heap.size W w)
theorem SixS.keep {W w w' : World} {g0 g1 g2 g3 g4 g5 : Nat} {a b x y u v : Int} (h : SixS W g0 g1 g2 g3 g4 g5 a b x y u v w) (hb : Below w.heap.size w w') : SixS W g0 g1 g2 g3 g4 g5 a b x y u v w' := by
  obtain ⟨c0, d0, c1, d1, c2, d2, c3, d3, c4, d4, c5, d5, hh⟩ := h
  obtain ⟨l0, l1, l2, l3, l4, l5, hW⟩ := hh.out
  have k : ∀ g o e, g < w.heap.size → w.cell? ⟨g, o, none⟩ = some e → w'.cell? ⟨g, o, none⟩ = some e := fun g o e hg he => (hb.cell (p := ⟨g, o, none⟩) hg).trans he
  have hs := hb.size
  exact ⟨k _ _ _ l0 c0, k _ _ _ l0 d0, k _ _ _ l1 c1, k _ _ _ l1 d1, k _ _ _ l2 c2, k _ _ _ l2 d2, k _ _ _ l3 c3, k _ _ _ l3 d3, k _ _ _ l4 c4, k _ _ _ l4 d4, k _ _ _ l5 c5, k _ _ _ l5 d5, Lib.hid ⟨Nat.lt_of_lt_of_le l0 hs, Nat.lt_of_lt_of_le l1 hs, Nat.lt_of_lt_of_le l2 hs, Nat.lt_of_lt_of_le l3 hs, Nat.lt_of_lt_of_le l4 hs, Nat.lt_of_lt_of_le l5 hs, bstep hW hb⟩⟩
theorem SixS.mk_ {W w : World} {g0 g1 g2 g3 g4 g5 : Nat} {a b x y u v : Int} (h0 : Pair w g0 a b) (h1 : Pair w g1 a b) (h2 : Pair w g2 x y) (h3 : Pair w g3 x y) (h4 : Pair w g4 u v) (h5 : Pair w g5 u v) (hb : Below W.heap.size W w) : SixS W g0 g1 g2 g3 g4 g5 a b x y u v w :=
  ⟨h0.1, h0.2, h1.1, h1.2, h2.1, h2.2, h3.1, h3.2, h4.1, h4.2, h5.1, h5.2, Lib.hid ⟨h0.lt, h1.lt, h2.lt, h3.lt, h4.lt, h5.lt, hb⟩⟩
theorem SixS.far {W w : World} {g0 g1 g2 g3 g4 g5 : Nat} {a b x y u v : Int} (h : SixS W g0 g1 g2 g3 g4 g5 a b x y u v w) : Below W.heap.size W w := by
  obtain ⟨_, _, _, _, _, _, _, _, _, _, _, _, hh⟩ := h
  exact hh.out.2.2.2.2.2.2
theorem SixS.drew {W w : World} {g0 g1 g2 g3 g4 g5 : Nat} {a b x y u v : Int} (h : SixS W g0 g1 g2 g3 g4 g5 a b x y u v w) : SixS W g0 g1 g2 g3 g4 g5 a b x y u v w.drew := h.keep (Below.refl _ _).drew
end Go.Proofs.YtfnhlajcdlfbhaaDoor
