/-
  Texts of the proofs, put together: Row, Txt, Str, Pairs, Blocks.
-/
import Derived.Test.YthnkiabhfcddaaaDoorProg
import Derived.WalkKit
import Derived.Below
import Derived.OwnWalk
import Derived.Lib.Hide
import Derived.Laws.Rows
import Derived.Laws.NewBlocks
import Derived.Laws.Concat
import Derived.Laws.BytesArg
/-
  Words for memory, of no layer: a slice as a row of cells; a block that is known whole.
-/
namespace Go.Proofs.YthnkiabhfcddaaaDoor
open Go.RowKit

section
variable {w w' : World} {g : Nat} {t : TypeId} {cs : Array Value}
theorem heap_lt (h : w.heap[g]? = some (.cells cs t (0, 0))) : g < w.heap.size := by
  rcases Nat.lt_or_ge g w.heap.size with hlt | hge
  · exact hlt
  · rw [Array.getElem?_eq_none hge] at h; cases h
theorem heap_cell (h : w.heap[g]? = some (.cells cs t (0, 0))) (i : Nat) : w.cell? ⟨g, i, none⟩ = cs[i]? := cell_of_row w g i cs t (0, 0) h
theorem heap_frozen (h : w.heap[g]? = some (.cells cs t (0, 0))) (i : Nat) : w.frozen? ⟨g, i, none⟩ = false := by simp [World.frozen?, h]
theorem heap_set (h : w.heap[g]? = some (.cells cs t (0, 0))) (i : Nat) (u : Value) : (w.setCell ⟨g, i, none⟩ u).heap[g]? = some (.cells (cs.setIfInBounds i u) t (0, 0)) := by
  simp [World.setCell, Array.getElem?_modify, h]
theorem heap_far (k i : Nat) (u : Value) (hk : k ≠ g) : (w.setCell ⟨g, i, none⟩ u).heap[k]? = w.heap[k]? := Below.heap_setCell w _ u k hk
end

/-- A slice whose address is A, in a block below B, holds the cells xs. -/
def Row (w : World) (B : Nat) (A : Option Addr) (xs : List Value) : Prop :=
  xs ≠ [] → ∃ b off, A = some ⟨b, off, none⟩ ∧ b < B ∧ ∀ i u, xs[i]? = some u → w.cell? ⟨b, off + i, none⟩ = some u

theorem Row.keep {w w' : World} {B : Nat} {A : Option Addr} {xs : List Value} (h : Row w B A xs) (hb : ∀ k, k < B → w'.heap[k]? = w.heap[k]?) : Row w' B A xs := fun hne => by
  obtain ⟨b, off, e, hl, hc⟩ := h hne
  exact ⟨b, off, e, hl, fun i u hu => (World.cell?_of_block (w := w) (hb b hl)).trans (hc i u hu)⟩
theorem Row.below_ {w w' : World} {B : Nat} {A : Option Addr} {xs : List Value} (h : Row w B A xs) (hb : Below B w w') : Row w' B A xs := h.keep hb.block
theorem Row.more {w : World} {B B' : Nat} {A : Option Addr} {xs : List Value} (h : Row w B A xs) (hB : B ≤ B') : Row w B' A xs := fun hne => by
  obtain ⟨b, off, e, hl, hc⟩ := h hne
  exact ⟨b, off, e, by omega, hc⟩
theorem Row.at_ {w : World} {B : Nat} {A : Option Addr} {xs : List Value} (h : Row w B A xs) (k : Nat) (hk : k < xs.length) :
    ∃ b off, A = some ⟨b, off, none⟩ ∧ b < B ∧ w.cell? ⟨b, off + k, none⟩ = some xs[k] := by
  obtain ⟨b, off, e, hl, hc⟩ := h (by intro e; subst e; simp at hk)
  exact ⟨b, off, e, hl, hc k _ (List.getElem?_eq_getElem hk)⟩

theorem lit_row (w : World) (xs : List Value) (t : TypeId) (cs : Array Value) (h : cs = xs.toArray) : Row (w.alloc (.cells cs t)) (w.alloc (.cells cs t)).heap.size (some ⟨w.heap.size, 0, none⟩) xs := fun _ => by
  subst h
  refine ⟨w.heap.size, 0, rfl, by simp, fun i u hu => ?_⟩
  rw [Nat.zero_add, heap_cell (heap_alloc_new w _)]
  simpa using hu
theorem below_cells {W w1 : World} (hb : Below W.heap.size W w1) : (∀ b o, b < W.heap.size → w1.cell? ⟨b, o, none⟩ = W.cell? ⟨b, o, none⟩) ∧ (∀ b o, b < W.heap.size → w1.frozen? ⟨b, o, none⟩ = W.frozen? ⟨b, o, none⟩) :=
  ⟨fun b o h => hb.cell (p := ⟨b, o, none⟩) h, fun b o h => hb.frozen (p := ⟨b, o, none⟩) h⟩
end Go.Proofs.YthnkiabhfcddaaaDoor
/-
  Words for texts, of no layer: bytes as a text, texts set together, a piece of one.
-/
namespace Go.Proofs.YthnkiabhfcddaaaDoor
open Go.RowKit

theorem u8_of (u : Nat) (h : u < 256) : ((u : Nat) : Int) = ((UInt8.ofNat u).toNat : Int) := by
  have : (UInt8.ofNat u).toNat = u := by simp; omega
  rw [this]

/-- Bytes as a text. -/
def mkB (l : List UInt8) : ByteArray := ⟨l.toArray⟩

theorem mkB_size (l : List UInt8) : (mkB l).size = l.length := by simp [mkB, ByteArray.size]
theorem mkB_append (a b : List UInt8) : mkB a ++ mkB b = mkB (a ++ b) := by
  simpa [mkB] using ByteArray.mk_append_mk a b
theorem run_add (w : World) (a b : List UInt8) (h : a.length + b.length ≤ 1000000000) : (Op.stringOp .add (mkB a) (mkB b)).run Tryd.prog w = .ok (.string (mkB (a ++ b))) w := by
  rw [run_string_add_sum w _ _ (by rw [mkB_size, mkB_size]; omega), mkB_append]
theorem mkB_toList (l : List UInt8) : (mkB l).toList = l := by rw [ByteArray.toList_eq]; rfl
theorem extract_toList (s : ByteArray) (a b : Nat) : (s.extract a b).toList = (s.data.toList.drop a).take (b - a) := by
  have h := ByteArray.extract_mk s.data.toList a b
  have e : ByteArray.mk s.data.toList.toArray = s := rfl
  rw [e] at h
  rw [h]
  exact mkB_toList _
end Go.Proofs.YthnkiabhfcddaaaDoor
/-
  Words for texts, of no layer: bytes as a text, texts set together, a new byte as a text.
-/
namespace Go.Proofs.YthnkiabhfcddaaaDoor
open Go.RowKit

theorem strOfNums_bytes (l : List UInt8) : strOfNums (l.map fun c => (c.toNat : Int)) = mkB l := by
  have e : ((l.map fun c => (c.toNat : Int)).map fun n : Int => UInt8.ofNat n.toNat) = l := by
    rw [List.map_map]
    conv => rhs; rw [← List.map_id l]
    apply List.map_congr_left
    intro a _
    simp
  show (⟨((l.map fun c => (c.toNat : Int)).map fun n : Int => UInt8.ofNat n.toNat).toArray⟩ : ByteArray) = ⟨l.toArray⟩
  rw [e]

theorem run_str {w : World} {b off cap : Nat} {l : List UInt8} (n : Nat) (hn : n ≤ l.length) (hcs : ∀ i (h : i < l.length), w.cell? ⟨b, off + i, none⟩ = some (.int .u8 (l[i].toNat : Int))) :
    (convert 30 9 (.slice (some ⟨b, off, none⟩) n cap)).run Tryd.prog w = .ok (.string (mkB (l.take n))) w := by
  have h := run_convert_bytes_arg (P := Tryd.prog) w 30 5 Tryd.underlying30 Tryd.underlying5 b off n cap ((l.take n).map fun c => (c.toNat : Int)) (by simp; omega)
    (fun i hi => by
      rw [hcs i (by omega)]
      simp [List.getD, hi, show i < l.length by omega]) 9 Tryd.underlying9
  rw [h]
  rw [strOfNums_bytes]

theorem run_str_nil (w : World) (n c : Nat) : (convert 30 9 (.slice none n c)).run Tryd.prog w = .ok (.string (mkB [])) w :=
  run_convert_bytes_nil (P := Tryd.prog) w 30 5 Tryd.underlying30 Tryd.underlying5 n c 9 Tryd.underlying9

/-- One new byte as a text. -/
theorem run_str1 (w : World) (n : Int) (c : UInt8) (hc : n = (c.toNat : Int)) :
    (convert 30 9 (.slice (some ⟨w.heap.size, 0, none⟩) 1 1)).run Tryd.prog (w.alloc (.cells #[.int .u8 n] 5)) = .ok (.string (mkB [c])) (w.alloc (.cells #[.int .u8 n] 5)) := by
  have h := run_str (w := w.alloc (.cells #[.int .u8 n] 5)) (b := w.heap.size) (off := 0) (cap := 1) (l := [c]) 1 (by simp) (fun i hi => by
    have h0 : i = 0 := by simpa using hi
    subst h0
    rw [heap_cell (heap_alloc_new w _)]
    simp [hc])
  simpa using h
end Go.Proofs.YthnkiabhfcddaaaDoor
/-
  Words for memory, of no layer: a block's first two cells hold two integers of 64 bits, and go on doing so behind a call that makes memory.
-/
namespace Go.Proofs.YthnkiabhfcddaaaDoor
open Go.RowKit

/-- The two cells of block g. -/
def Pair (w : World) (g : Nat) (a b : Int) : Prop := w.cell? ⟨g, 0, none⟩ = some (.int .i64 a) ∧ w.cell? ⟨g, 1, none⟩ = some (.int .i64 b)
theorem Pair.lt {w : World} {g : Nat} {a b : Int} (h : Pair w g a b) : g < w.heap.size := World.block_lt_of_cell? _ _ h.1
theorem Pair.keep {w w' : World} {g : Nat} {a b : Int} (h : Pair w g a b) (hb : Below w.heap.size w w') : Pair w' g a b :=
  ⟨(hb.cell (p := ⟨g, 0, none⟩) h.lt).trans h.1, (hb.cell (p := ⟨g, 1, none⟩) h.lt).trans h.2⟩
theorem Pair.alloc {w : World} {g : Nat} {a b : Int} (h : Pair w g a b) (o : Obj) : Pair (w.alloc o) g a b := h.keep ((Below.refl _ _).alloc (Nat.le_refl _) _)
theorem Pair.drew {w : World} {g : Nat} {a b : Int} (h : Pair w g a b) : Pair w.drew g a b := h.keep (Below.refl _ _).drew
theorem Pair.new (w : World) (a b : Int) (t : TypeId) : Pair (w.alloc (.cells #[.int .i64 a, .int .i64 b] t)) w.heap.size a b :=
  ⟨by rw [heap_cell (heap_alloc_new w _)]; rfl, by rw [heap_cell (heap_alloc_new w _)]; rfl⟩
/-- What stood in W stands behind one block more, and behind a call that makes memory. -/
theorem bstep {W w w' : World} (h : Below W.heap.size W w) (hb : Below w.heap.size w w') : Below W.heap.size W w' := h.trans (hb.mono h.size)
theorem bmore {W w : World} (h : Below W.heap.size W w) (o : Obj) : Below W.heap.size W (w.alloc o) := h.alloc h.size _
theorem bself (W : World) : Below W.heap.size W W := Below.refl _ _
end Go.Proofs.YthnkiabhfcddaaaDoor
/-
  Words for memory, of no layer: blocks that a call made for its variables, behind a call that makes memory; blocks of three to six cells.
-/
namespace Go.Proofs.YthnkiabhfcddaaaDoor
open Go.RowKit
set_option linter.unusedVariables false

theorem one_block {w w1 : World} {o1 : Obj} (hb : Below (w.alloc o1).heap.size (w.alloc o1) w1) :
    w1.heap[w.heap.size]? = some o1 ∧ Below w.heap.size w w1 ∧ w.heap.size + 1 ≤ w1.heap.size := by
  refine ⟨(hb.block _ (by simp)).trans (heap_alloc_new w _), ((Below.refl _ _).alloc (Nat.le_refl _) _).trans (hb.mono (by simp)), by have := hb.size; simpa using this⟩
theorem two_blocks {w w1 : World} {o1 o2 : Obj} (hb : Below ((w.alloc o1).alloc o2).heap.size ((w.alloc o1).alloc o2) w1) :
    w1.heap[w.heap.size]? = some o1 ∧ w1.heap[w.heap.size + 1]? = some o2 ∧ Below w.heap.size w w1 ∧ w.heap.size + 2 ≤ w1.heap.size := by
  have h := one_block (w := w.alloc o1) (o1 := o2) hb
  have h0 := one_block (w := w) (o1 := o1) h.2.1
  have e : (w.alloc o1).heap.size = w.heap.size + 1 := by simp
  rw [e] at h
  exact ⟨h0.1, h.1, h0.2.1, h.2.2⟩
theorem three_blocks {w w1 : World} {o1 o2 o3 : Obj} (hb : Below (((w.alloc o1).alloc o2).alloc o3).heap.size (((w.alloc o1).alloc o2).alloc o3) w1) :
    w1.heap[w.heap.size]? = some o1 ∧ w1.heap[w.heap.size + 1]? = some o2 ∧ w1.heap[w.heap.size + 2]? = some o3 ∧ Below w.heap.size w w1 ∧ w.heap.size + 3 ≤ w1.heap.size := by
  have h := one_block (w := (w.alloc o1).alloc o2) (o1 := o3) hb
  have h0 := two_blocks (w := w) h.2.1
  have e : ((w.alloc o1).alloc o2).heap.size = w.heap.size + 2 := by simp
  rw [e] at h
  exact ⟨h0.1, h0.2.1, h.1, h0.2.2.1, h.2.2⟩
/-- A block of three cells. -/
structure Blk3 (w : World) (g : Nat) (a b c : Value) : Prop where
  c0 : w.cell? ⟨g, 0, none⟩ = some a
  c1 : w.cell? ⟨g, 1, none⟩ = some b
  c2 : w.cell? ⟨g, 2, none⟩ = some c
  f0 : w.frozen? ⟨g, 0, none⟩ = false
  f1 : w.frozen? ⟨g, 1, none⟩ = false
  f2 : w.frozen? ⟨g, 2, none⟩ = false
theorem blk3 {w : World} {g : Nat} {a b c : Value} {t : TypeId} (h : w.heap[g]? = some (.cells #[a, b, c] t (0, 0))) : Blk3 w g a b c :=
  ⟨by rw [heap_cell h]; rfl, by rw [heap_cell h]; rfl, by rw [heap_cell h]; rfl, heap_frozen h 0, heap_frozen h 1, heap_frozen h 2⟩
/-- A block of four cells. -/
structure Blk4 (w : World) (g : Nat) (a b c d : Value) : Prop where
  c0 : w.cell? ⟨g, 0, none⟩ = some a
  c1 : w.cell? ⟨g, 1, none⟩ = some b
  c2 : w.cell? ⟨g, 2, none⟩ = some c
  c3 : w.cell? ⟨g, 3, none⟩ = some d
  f0 : w.frozen? ⟨g, 0, none⟩ = false
  f1 : w.frozen? ⟨g, 1, none⟩ = false
  f2 : w.frozen? ⟨g, 2, none⟩ = false
  f3 : w.frozen? ⟨g, 3, none⟩ = false
theorem blk4 {w : World} {g : Nat} {a b c d : Value} {t : TypeId} (h : w.heap[g]? = some (.cells #[a, b, c, d] t (0, 0))) : Blk4 w g a b c d :=
  ⟨by rw [heap_cell h]; rfl, by rw [heap_cell h]; rfl, by rw [heap_cell h]; rfl, by rw [heap_cell h]; rfl, heap_frozen h 0, heap_frozen h 1, heap_frozen h 2, heap_frozen h 3⟩
/-- Four stores into one block. -/
def set4 (w : World) (g : Nat) (a b c d : Value) : World := (((w.setCell ⟨g, 0, none⟩ a).setCell ⟨g, 1, none⟩ b).setCell ⟨g, 2, none⟩ c).setCell ⟨g, 3, none⟩ d
theorem set4_far (w : World) (g : Nat) (a b c d : Value) (k : Nat) (hk : k ≠ g) : (set4 w g a b c d).heap[k]? = w.heap[k]? := by
  unfold set4
  rw [heap_far _ _ _ hk, heap_far _ _ _ hk, heap_far _ _ _ hk, heap_far _ _ _ hk]
theorem setCell_size (w : World) (p : Addr) (u : Value) : (w.setCell p u).heap.size = w.heap.size := by simp [World.setCell]
theorem set4_size (w : World) (g : Nat) (a b c d : Value) : (set4 w g a b c d).heap.size = w.heap.size := by unfold set4; rw [setCell_size, setCell_size, setCell_size, setCell_size]
theorem set4_heap {w : World} {g : Nat} {a b c d a' b' c' d' : Value} {t : TypeId} (h : w.heap[g]? = some (.cells #[a, b, c, d] t (0, 0))) : (set4 w g a' b' c' d').heap[g]? = some (.cells #[a', b', c', d'] t (0, 0)) :=
  heap_set (heap_set (heap_set (heap_set h 0 a') 1 b') 2 c') 3 d'
theorem set4_below {W w : World} {B g : Nat} (h : Below B W w) (hg : B ≤ g) (a b c d : Value) : Below B W (set4 w g a b c d) := (((h.setCell hg _).setCell hg _).setCell hg _).setCell hg _
/-- Three stores into one block. -/
def set3 (w : World) (g : Nat) (a b c : Value) : World := ((w.setCell ⟨g, 0, none⟩ a).setCell ⟨g, 1, none⟩ b).setCell ⟨g, 2, none⟩ c
theorem set3_far (w : World) (g : Nat) (a b c : Value) (k : Nat) (hk : k ≠ g) : (set3 w g a b c).heap[k]? = w.heap[k]? := by
  unfold set3
  rw [heap_far _ _ _ hk, heap_far _ _ _ hk, heap_far _ _ _ hk]
theorem set3_size (w : World) (g : Nat) (a b c : Value) : (set3 w g a b c).heap.size = w.heap.size := by unfold set3; rw [setCell_size, setCell_size, setCell_size]
theorem set3_heap {w : World} {g : Nat} {a b c a' b' c' : Value} {t : TypeId} (h : w.heap[g]? = some (.cells #[a, b, c] t (0, 0))) : (set3 w g a' b' c').heap[g]? = some (.cells #[a', b', c'] t (0, 0)) :=
  heap_set (heap_set (heap_set h 0 a') 1 b') 2 c'
theorem set3_below {W w : World} {B g : Nat} (h : Below B W w) (hg : B ≤ g) (a b c : Value) : Below B W (set3 w g a b c) := ((h.setCell hg _).setCell hg _).setCell hg _
end Go.Proofs.YthnkiabhfcddaaaDoor
