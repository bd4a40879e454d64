/-
  Words for memory, of no layer: a block's first two cells hold two integers of 64 bits, and go on doing so behind a call that makes memory.
-/
import Derived.Test.YtckhhphchphmlaaRow
namespace Go.Proofs.Ytckhhphchphmlaa
open Go.RowKit

/-- The two cells of block g. -/
def Pair (w : World) (g : Nat) (a b : Int) : Prop := w.cell? ⟨g, 0, none⟩ = some (.int .i64 a) ∧ w.cell? ⟨g, 1, none⟩ = some (.int .i64 b)
theorem Pair.lt {w : World} {g : Nat} {a b : Int} (h : Pair w g a b) : g < w.heap.size := World.block_lt_of_cell? _ _ h.1
theorem Pair.keep {w w' : World} {g : Nat} {a b : Int} (h : Pair w g a b) (hb : Below w.heap.size w w') : Pair w' g a b :=
  ⟨(hb.cell (p := ⟨g, 0, none⟩) h.lt).trans h.1, (hb.cell (p := ⟨g, 1, none⟩) h.lt).trans h.2⟩
theorem Pair.alloc {w : World} {g : Nat} {a b : Int} (h : Pair w g a b) (o : Obj) : Pair (w.alloc o) g a b := h.keep ((Below.refl _ _).alloc (Nat.le_refl _) _)
theorem Pair.drew {w : World} {g : Nat} {a b : Int} (h : Pair w g a b) : Pair w.drew g a b := h.keep (Below.refl _ _).drew
theorem Pair.new (w : World) (a b : Int) (t : TypeId) : Pair (w.alloc (.cells #[.int .i64 a, .int .i64 b] t)) w.heap.size a b :=
  ⟨by rw [heap_cell (heap_alloc_new w _)]; rfl, by rw [heap_cell (heap_alloc_new w _)]; rfl⟩
/-- What stood in W stands behind one block more, and behind a call that makes memory. -/
theorem bstep {W w w' : World} (h : Below W.heap.size W w) (hb : Below w.heap.size w w') : Below W.heap.size W w' := h.trans (hb.mono h.size)
theorem bmore {W w : World} (h : Below W.heap.size W w) (o : Obj) : Below W.heap.size W (w.alloc o) := h.alloc h.size _
theorem bself (W : World) : Below W.heap.size W W := Below.refl _ _
end Go.Proofs.Ytckhhphchphmlaa
