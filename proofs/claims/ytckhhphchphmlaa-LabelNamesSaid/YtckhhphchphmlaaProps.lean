/-
  Layer 5: slices of propositions in memory.
-/
import Derived.Test.YtckhhphchphmlaaLabelMath
import Derived.Test.YtckhhphchphmlaaSeqArg
import Derived.Test.YtckhhphchphmlaaTxt
import Derived.Test.YtckhhphchphmlaaPairs
import Derived.Test.YtckhhphchphmlaaBlocks
import Derived.Laws.StructEq
namespace Go.Proofs.Ytckhhphchphmlaa
open Go.RowKit
set_option linter.unusedVariables false

/-- Propositions as cells. -/
def prc (p : Pr) : List Value := [.string (mkB p.name), .int .i64 p.val]
def prC (l : List Pr) : List Value := l.flatMap prc
theorem prC_length (l : List Pr) : (prC l).length = l.length * 2 := by
  induction l with
  | nil => rfl
  | cons x l ih => simp only [prC, List.flatMap_cons, List.length_append, List.length_cons] at ih ⊢; rw [ih]; simp [prc]; omega
theorem prC_append (a b : List Pr) : prC (a ++ b) = prC a ++ prC b := by simp [prC]
theorem prC_one (l : List Pr) : ∀ y ∈ prC l, y.oneCell' = true := by
  intro y hy
  obtain ⟨x, _, hx⟩ := List.mem_flatMap.1 hy
  simp [prc] at hx
  rcases hx with rfl | rfl <;> rfl
theorem prC_at : ∀ (l : List Pr) (i : Nat) (h : i < l.length), (prC l)[i * 2]? = some (.string (mkB l[i].name)) ∧ (prC l)[i * 2 + 1]? = some (.int .i64 l[i].val)
  | [], _, h => by simp at h
  | x :: l, 0, _ => by
    have ec : prC (x :: l) = [.string (mkB x.name), .int .i64 x.val] ++ prC l := rfl
    rw [ec]
    exact ⟨rfl, rfl⟩
  | x :: l, i + 1, h => by
    have ih := prC_at l i (by simpa using h)
    have ec : prC (x :: l) = [.string (mkB x.name), .int .i64 x.val] ++ prC l := rfl
    rw [ec, List.getElem?_append_right (by simp; omega), List.getElem?_append_right (by simp; omega)]
    simp only [List.length_cons, List.length_nil, Nat.reduceAdd, List.getElem_cons_succ]
    rw [show (i + 1) * 2 - 2 = i * 2 by omega, show (i + 1) * 2 + 1 - 2 = i * 2 + 1 by omega]
    exact ih
theorem info_P : (Try.prog.info? 38).map (fun i => (i.zero, i.size, i.bytes)) = some (some (.agg #[.string ByteArray.empty, .int .i64 0]), 2, 24) := by kernel_rfl
/-- A slice of propositions. -/
def Props (w : World) (B : Nat) (v : Value) (l : List Pr) : Prop := SeqA w B 2 v l.length (prC l)
/-- One of the call's own. -/
def OwnsP (w : World) (base : Nat) (v : Value) (l : List Pr) : Prop := w.ownsRow base 38 2 v l.length (prC l)
section
variable {w w' : World} {B : Nat} {v : Value} {l : List Pr}
theorem Props.keep (h : Props w B v l) (hb : ∀ k, k < B → w'.heap[k]? = w.heap[k]?) : Props w' B v l := SeqA.keep h hb
theorem Props.more {B' : Nat} (h : Props w B v l) (hB : B ≤ B') : Props w B' v l := SeqA.more h hB
theorem Props.over (h : Props w B v l) (hB : B ≤ w.heap.size) (hb : Below w.heap.size w w') : Props w' w'.heap.size v l := (h.keep fun k hk => hb.block k (by omega)).more (Nat.le_trans hB hb.size)
theorem Props.open_ (h : Props w B v l) : ∃ A c, v = .slice A l.length c ∧ l.length ≤ c := SeqA.open_ h
theorem OwnsP.props {base : Nat} (h : OwnsP w base v l) : Props w w.heap.size v l := Seq.arg (Seq.own h)
theorem OwnsP.nil_ (w : World) (base : Nat) : OwnsP w base (.slice none 0 0) [] := World.ownsRow_nil w base _ 2
theorem props_nil (w : World) (B : Nat) : Props w B (.slice none 0 0) [] := (Seq.nil_ w B 2).arg
/-- The i-th of them. -/
theorem Props.at_ (h : Props w B v l) (i : Nat) (hi : i < l.length) : ∃ b off c, v = .slice (some ⟨b, off, none⟩) l.length c ∧ b < B ∧ w.cell? ⟨b, off + i * 2, none⟩ = some (.string (mkB l[i].name)) ∧ w.cell? ⟨b, off + i * 2 + 1, none⟩ = some (.int .i64 l[i].val) := by
  rcases h.2 with ⟨h0, _⟩ | ⟨b, off, c, e, hn, hb, hc⟩
  · omega
  · obtain ⟨q0, q1⟩ := prC_at l i hi
    exact ⟨b, off, c, e, hb, hc _ _ q0, by rw [Nat.add_assoc]; exact hc _ _ q1⟩
end
/-- The i-th, of a slice whose address is known. -/
theorem Props.cells {w : World} {B b off n c : Nat} {l : List Pr} (h : Props w B (.slice (some ⟨b, off, none⟩) n c) l) (i : Nat) (hi : i < l.length) : b < B ∧ w.cell? ⟨b, off + i * 2, none⟩ = some (.string (mkB l[i].name)) ∧ w.cell? ⟨b, off + i * 2 + 1, none⟩ = some (.int .i64 l[i].val) := by
  obtain ⟨b', off', c', e, h1, h2, h3⟩ := h.at_ i hi
  simp only [Value.slice.injEq, Option.some.injEq, Addr.mk.injEq] at e
  obtain ⟨⟨rfl, rfl, _⟩, _, _⟩ := e
  exact ⟨h1, h2, h3⟩
theorem Props.some_ {w : World} {B n c : Nat} {A : Option Addr} {l : List Pr} (h : Props w B (.slice A n c) l) (h0 : 0 < l.length) : ∃ b off, A = some ⟨b, off, none⟩ := by
  obtain ⟨b, off, c', e, _⟩ := h.at_ 0 h0
  simp only [Value.slice.injEq] at e
  exact ⟨b, off, e.1⟩
theorem Props.len {w : World} {B n c : Nat} {A : Option Addr} {l : List Pr} (h : Props w B (.slice A n c) l) : n = l.length ∧ n ≤ c := by
  obtain ⟨A', c', e, hc⟩ := h.open_
  simp only [Value.slice.injEq] at e
  omega
/-- One more in a list of the call's own. -/
theorem OwnsP.join {w : World} {base n : Nat} {v : Value} {l : List Pr} {p : Pr} {xs : List Value} (h : w.ownsRow base 38 2 v (n + 1) (prC l ++ xs)) (hn : n = l.length) (hx : xs = prc p) : OwnsP w base v (l ++ [p]) := by
  subst hn; subst hx
  unfold OwnsP
  rw [prC_append, List.length_append]
  exact h
/-- Two propositions as values. -/
theorem run_neq_pr (w : World) (a b : Pr) : (binOp .neq 38 (.agg #[.string (mkB a.name), .int .i64 a.val]) (.agg #[.string (mkB b.name), .int .i64 b.val])).run Try.prog w = .ok (.bool (!decide (a = b))) w := by
  have us := Try.underlying9
  have ui := Try.underlying2
  have a3 := Try.isAgg9
  have b3 := Try.isAgg2
  have hS : Try.prog.underlying 38 = some (.struct (Try.prog.fieldsOf 38)) := by kernel_rfl
  have hp : Try.prog.stoodInHeld 38 = false := by kernel_rfl
  rw [run_neq_struct, show (10000 : Nat) = 9999 + 1 from rfl, run_equalIn_agg w 9999 38 _ _ hS hp]
  simp only [Program.fieldsOf, Try.underlying38]
  go_simp
  rw [mkB_toList, mkB_toList]
  obtain ⟨n, v⟩ := a
  obtain ⟨m, u⟩ := b
  by_cases h1 : n = m <;> by_cases h2 : v = u <;> simp [h1, h2]
/-- New ones, written out. -/
theorem props_lit (w : World) (l : List Pr) (cs : Array Value) (t : TypeId) (h : cs = (prC l).toArray) : Props (w.alloc (.cells cs t)) (w.alloc (.cells cs t)).heap.size (.slice (some ⟨w.heap.size, 0, none⟩) l.length l.length) l := by
  subst h
  refine ⟨prC_length l, .inr ⟨w.heap.size, 0, l.length, rfl, Nat.le_refl _, by simp, fun i u hu => ?_⟩⟩
  rw [Nat.zero_add, heap_cell (heap_alloc_new w _)]
  simpa using hu
end Go.Proofs.Ytckhhphchphmlaa
