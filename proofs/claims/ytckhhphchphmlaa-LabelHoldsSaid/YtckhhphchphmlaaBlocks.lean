/-
  Words for memory, of no layer: blocks that a call made for its variables, behind a call that makes memory; blocks of three to six cells.
-/
import Derived.Test.YtckhhphchphmlaaRow
import Derived.Test.YtckhhphchphmlaaPairs
namespace Go.Proofs.Ytckhhphchphmlaa
open Go.RowKit
set_option linter.unusedVariables false

theorem one_block {w w1 : World} {o1 : Obj} (hb : Below (w.alloc o1).heap.size (w.alloc o1) w1) :
    w1.heap[w.heap.size]? = some o1 ∧ Below w.heap.size w w1 ∧ w.heap.size + 1 ≤ w1.heap.size := by
  refine ⟨(hb.block _ (by simp)).trans (heap_alloc_new w _), ((Below.refl _ _).alloc (Nat.le_refl _) _).trans (hb.mono (by simp)), by have := hb.size; simpa using this⟩
theorem two_blocks {w w1 : World} {o1 o2 : Obj} (hb : Below ((w.alloc o1).alloc o2).heap.size ((w.alloc o1).alloc o2) w1) :
    w1.heap[w.heap.size]? = some o1 ∧ w1.heap[w.heap.size + 1]? = some o2 ∧ Below w.heap.size w w1 ∧ w.heap.size + 2 ≤ w1.heap.size := by
  have h := one_block (w := w.alloc o1) (o1 := o2) hb
  have h0 := one_block (w := w) (o1 := o1) h.2.1
  have e : (w.alloc o1).heap.size = w.heap.size + 1 := by simp
  rw [e] at h
  exact ⟨h0.1, h.1, h0.2.1, h.2.2⟩
theorem three_blocks {w w1 : World} {o1 o2 o3 : Obj} (hb : Below (((w.alloc o1).alloc o2).alloc o3).heap.size (((w.alloc o1).alloc o2).alloc o3) w1) :
    w1.heap[w.heap.size]? = some o1 ∧ w1.heap[w.heap.size + 1]? = some o2 ∧ w1.heap[w.heap.size + 2]? = some o3 ∧ Below w.heap.size w w1 ∧ w.heap.size + 3 ≤ w1.heap.size := by
  have h := one_block (w := (w.alloc o1).alloc o2) (o1 := o3) hb
  have h0 := two_blocks (w := w) h.2.1
  have e : ((w.alloc o1).alloc o2).heap.size = w.heap.size + 2 := by simp
  rw [e] at h
  exact ⟨h0.1, h0.2.1, h.1, h0.2.2.1, h.2.2⟩
/-- A block of three cells. -/
structure Blk3 (w : World) (g : Nat) (a b c : Value) : Prop where
  c0 : w.cell? ⟨g, 0, none⟩ = some a
  c1 : w.cell? ⟨g, 1, none⟩ = some b
  c2 : w.cell? ⟨g, 2, none⟩ = some c
  f0 : w.frozen? ⟨g, 0, none⟩ = false
  f1 : w.frozen? ⟨g, 1, none⟩ = false
  f2 : w.frozen? ⟨g, 2, none⟩ = false
theorem blk3 {w : World} {g : Nat} {a b c : Value} {t : TypeId} (h : w.heap[g]? = some (.cells #[a, b, c] t (0, 0))) : Blk3 w g a b c :=
  ⟨by rw [heap_cell h]; rfl, by rw [heap_cell h]; rfl, by rw [heap_cell h]; rfl, heap_frozen h 0, heap_frozen h 1, heap_frozen h 2⟩
/-- A block of four cells. -/
structure Blk4 (w : World) (g : Nat) (a b c d : Value) : Prop where
  c0 : w.cell? ⟨g, 0, none⟩ = some a
  c1 : w.cell? ⟨g, 1, none⟩ = some b
  c2 : w.cell? ⟨g, 2, none⟩ = some c
  c3 : w.cell? ⟨g, 3, none⟩ = some d
  f0 : w.frozen? ⟨g, 0, none⟩ = false
  f1 : w.frozen? ⟨g, 1, none⟩ = false
  f2 : w.frozen? ⟨g, 2, none⟩ = false
  f3 : w.frozen? ⟨g, 3, none⟩ = false
theorem blk4 {w : World} {g : Nat} {a b c d : Value} {t : TypeId} (h : w.heap[g]? = some (.cells #[a, b, c, d] t (0, 0))) : Blk4 w g a b c d :=
  ⟨by rw [heap_cell h]; rfl, by rw [heap_cell h]; rfl, by rw [heap_cell h]; rfl, by rw [heap_cell h]; rfl, heap_frozen h 0, heap_frozen h 1, heap_frozen h 2, heap_frozen h 3⟩
/-- Four stores into one block. -/
def set4 (w : World) (g : Nat) (a b c d : Value) : World := (((w.setCell ⟨g, 0, none⟩ a).setCell ⟨g, 1, none⟩ b).setCell ⟨g, 2, none⟩ c).setCell ⟨g, 3, none⟩ d
theorem set4_far (w : World) (g : Nat) (a b c d : Value) (k : Nat) (hk : k ≠ g) : (set4 w g a b c d).heap[k]? = w.heap[k]? := by
  unfold set4
  rw [heap_far _ _ _ hk, heap_far _ _ _ hk, heap_far _ _ _ hk, heap_far _ _ _ hk]
theorem setCell_size (w : World) (p : Addr) (u : Value) : (w.setCell p u).heap.size = w.heap.size := by simp [World.setCell]
theorem set4_size (w : World) (g : Nat) (a b c d : Value) : (set4 w g a b c d).heap.size = w.heap.size := by unfold set4; rw [setCell_size, setCell_size, setCell_size, setCell_size]
theorem set4_heap {w : World} {g : Nat} {a b c d a' b' c' d' : Value} {t : TypeId} (h : w.heap[g]? = some (.cells #[a, b, c, d] t (0, 0))) : (set4 w g a' b' c' d').heap[g]? = some (.cells #[a', b', c', d'] t (0, 0)) :=
  heap_set (heap_set (heap_set (heap_set h 0 a') 1 b') 2 c') 3 d'
theorem set4_below {W w : World} {B g : Nat} (h : Below B W w) (hg : B ≤ g) (a b c d : Value) : Below B W (set4 w g a b c d) := (((h.setCell hg _).setCell hg _).setCell hg _).setCell hg _
/-- Three stores into one block. -/
def set3 (w : World) (g : Nat) (a b c : Value) : World := ((w.setCell ⟨g, 0, none⟩ a).setCell ⟨g, 1, none⟩ b).setCell ⟨g, 2, none⟩ c
theorem set3_far (w : World) (g : Nat) (a b c : Value) (k : Nat) (hk : k ≠ g) : (set3 w g a b c).heap[k]? = w.heap[k]? := by
  unfold set3
  rw [heap_far _ _ _ hk, heap_far _ _ _ hk, heap_far _ _ _ hk]
theorem set3_size (w : World) (g : Nat) (a b c : Value) : (set3 w g a b c).heap.size = w.heap.size := by unfold set3; rw [setCell_size, setCell_size, setCell_size]
theorem set3_heap {w : World} {g : Nat} {a b c a' b' c' : Value} {t : TypeId} (h : w.heap[g]? = some (.cells #[a, b, c] t (0, 0))) : (set3 w g a' b' c').heap[g]? = some (.cells #[a', b', c'] t (0, 0)) :=
  heap_set (heap_set (heap_set h 0 a') 1 b') 2 c'
theorem set3_below {W w : World} {B g : Nat} (h : Below B W w) (hg : B ≤ g) (a b c : Value) : Below B W (set3 w g a b c) := ((h.setCell hg _).setCell hg _).setCell hg _
end Go.Proofs.Ytckhhphchphmlaa
