/-
  Words for memory, of no layer: a slice of elements of any width, wherever it lies; an append of one to a slice of the call's own.
-/
import Derived.Test.YtckhhphchphmlaaRow
import Derived.Laws.AppendOwnNone
import Derived.Maps.AppendAt
import Derived.Laws.OwnMore
namespace Go.Proofs.Ytckhhphchphmlaa
open Go.RowKit
set_option linter.unusedVariables false

/-- The value v is a slice of n elements, each of z cells, in blocks below B, whose cells read xs. -/
def Seq (w : World) (B z : Nat) (v : Value) (n : Nat) (xs : List Value) : Prop :=
  xs.length = n * z ∧ ((v = .slice none 0 0 ∧ n = 0) ∨ ∃ b off c, v = .slice (some ⟨b, off, none⟩) n c ∧ n ≤ c ∧ b < B ∧ ∀ i u, xs[i]? = some u → w.cell? ⟨b, off + i, none⟩ = some u)
section
variable {w w' : World} {B z n : Nat} {v : Value} {xs : List Value}
theorem Seq.nil_ (w : World) (B z : Nat) : Seq w B z (.slice none 0 0) 0 [] := ⟨by simp, .inl ⟨rfl, rfl⟩⟩
theorem Seq.keep (h : Seq w B z v n xs) (hb : ∀ k, k < B → w'.heap[k]? = w.heap[k]?) : Seq w' B z v n xs := by
  refine ⟨h.1, ?_⟩
  rcases h.2 with h2 | ⟨b, off, c, e, hn, hB, hc⟩
  · exact .inl h2
  · exact .inr ⟨b, off, c, e, hn, hB, fun i u hu => (World.cell?_of_block (w := w) (hb b hB)).trans (hc i u hu)⟩
theorem Seq.keep_ (h : Seq w B z v n xs) (hb : ∀ k, v.ownBlock = some k → w'.heap[k]? = w.heap[k]?) : Seq w' B z v n xs := by
  refine ⟨h.1, ?_⟩
  rcases h.2 with h2 | ⟨b, off, c, rfl, hn, hB, hc⟩
  · exact .inl h2
  · exact .inr ⟨b, off, c, rfl, hn, hB, fun i u hu => (World.cell?_of_block (w := w) (hb b rfl)).trans (hc i u hu)⟩
theorem Seq.old (h : Seq w B z v n xs) : ∀ k, v.ownBlock = some k → k < B := by
  rcases h.2 with ⟨rfl, _⟩ | ⟨b, off, c, rfl, hn, hB, hc⟩
  · intro k hk; simp [Value.ownBlock] at hk
  · intro k hk; simp [Value.ownBlock] at hk; rw [← hk]; exact hB
theorem Seq.below_ (h : Seq w B z v n xs) (hb : Below B w w') : Seq w' B z v n xs := h.keep hb.block
theorem Seq.more {B' : Nat} (h : Seq w B z v n xs) (hB : B ≤ B') : Seq w B' z v n xs := by
  refine ⟨h.1, ?_⟩
  rcases h.2 with h2 | ⟨b, off, c, e, hn, hb, hc⟩
  · exact .inl h2
  · exact .inr ⟨b, off, c, e, hn, by omega, hc⟩
/-- Behind a call that made memory. -/
theorem Seq.over (h : Seq w B z v n xs) (hB : B ≤ w.heap.size) (hb : Below w.heap.size w w') : Seq w' w'.heap.size z v n xs := (h.below_ (hb.mono hB)).more (Nat.le_trans hB hb.size)
theorem Seq.own {base : Nat} {e : TypeId} (h : w.ownsRow base e z v n xs) : Seq w w.heap.size z v n xs := by
  refine ⟨h.1, ?_⟩
  rcases h.2 with h2 | ⟨g, cap, cur, rfl, hg, hh, hn, _, _, hx⟩
  · exact .inl h2
  · refine .inr ⟨g, 0, cap, rfl, hn, heap_lt hh, fun i u hu => ?_⟩
    rw [heap_cell hh, Nat.zero_add]
    rw [← hx, List.getElem?_take] at hu
    split at hu
    · simpa using hu
    · cases hu
/-- A slice's address, length and room. -/
theorem Seq.open_ (h : Seq w B z v n xs) : ∃ A c, v = .slice A n c ∧ n ≤ c ∧ (A = none → c = 0 ∧ n = 0) ∧ ∀ a, A = some a → ∃ b off, a = ⟨b, off, none⟩ ∧ b < B ∧ ∀ i u, xs[i]? = some u → w.cell? ⟨b, off + i, none⟩ = some u := by
  rcases h.2 with ⟨rfl, rfl⟩ | ⟨b, off, c, rfl, hn, hb, hc⟩
  · exact ⟨none, 0, rfl, Nat.le_refl _, fun _ => ⟨rfl, rfl⟩, fun a e => by cases e⟩
  · exact ⟨some ⟨b, off, none⟩, c, rfl, hn, fun e => (by cases e), fun a e => by injection e with e; subst e; exact ⟨b, off, rfl, hb, hc⟩⟩
end

/-- One new element. -/
theorem Seq.lit_ (w : World) (cs : List Value) (t : TypeId) : Seq (w.alloc (.cells cs.toArray t)) (w.alloc (.cells cs.toArray t)).heap.size cs.length (.slice (some ⟨w.heap.size, 0, none⟩) 1 1) 1 cs :=
  ⟨by simp, .inr ⟨w.heap.size, 0, 1, rfl, Nat.le_refl _, by simp, fun i u hu => by rw [Nat.zero_add, heap_cell (heap_alloc_new w _)]; simpa using hu⟩⟩
theorem ownsRow_below {w w' : World} {base : Nat} {e : TypeId} {z : Nat} {v : Value} {n : Nat} {xs : List Value} (h : w.ownsRow base e z v n xs) (hs : ∀ k, v.ownBlock = some k → w'.heap[k]? = w.heap[k]?) : w'.ownsRow base e z v n xs := by
  refine ⟨h.1, ?_⟩
  rcases h.2 with h2 | ⟨g, cap, cur, rfl, hg, hh, r⟩
  · exact .inl h2
  · exact .inr ⟨g, cap, cur, rfl, hg, by rw [hs g rfl]; exact hh, r⟩
theorem ownsRow_old {w : World} {base : Nat} {e : TypeId} {z : Nat} {v : Value} {n : Nat} {xs : List Value} (h : w.ownsRow base e z v n xs) : ∀ k, v.ownBlock = some k → base ≤ k ∧ k < w.heap.size := by
  rcases h.2 with ⟨rfl, _⟩ | ⟨g, cap, cur, rfl, hg, hh, _⟩
  · intro k hk; simp [Value.ownBlock] at hk
  · intro k hk; simp [Value.ownBlock] at hk; rw [← hk]; exact ⟨hg, heap_lt hh⟩
theorem ownsRow_mono {w : World} {base base' : Nat} {e : TypeId} {z : Nat} {v : Value} {n : Nat} {xs : List Value} (h : w.ownsRow base e z v n xs) (hb : base' ≤ base) : w.ownsRow base' e z v n xs := by
  refine ⟨h.1, ?_⟩
  rcases h.2 with h2 | ⟨g, cap, cur, rfl, hg, r⟩
  · exact .inl h2
  · exact .inr ⟨g, cap, cur, rfl, by omega, r⟩
theorem ownsRow_over {w w' : World} {base : Nat} {e : TypeId} {z : Nat} {v : Value} {n : Nat} {xs : List Value} (h : w.ownsRow base e z v n xs) (hb : Below w.heap.size w w') : w'.ownsRow base e z v n xs :=
  ownsRow_below h fun k hk => hb.block k (ownsRow_old h k hk).2

theorem own_slice {w : World} {base : Nat} {e : TypeId} {z : Nat} {v : Value} {n : Nat} {xs : List Value} (h : w.ownsRow base e z v n xs) : ∃ A m c, v = .slice A m c := by
  rcases h.2 with ⟨rfl, _⟩ | ⟨g, cap, cur, rfl, _⟩
  · exact ⟨_, _, _, rfl⟩
  · exact ⟨_, _, _, rfl⟩
theorem seq_slice {w : World} {B z : Nat} {v : Value} {n : Nat} {xs : List Value} (h : Seq w B z v n xs) : ∃ A m c, v = .slice A m c := by
  obtain ⟨A, c, rfl, _⟩ := h.open_
  exact ⟨_, _, _, rfl⟩
/-- What an append of the slice v leaves: the new slice v'. -/
def Grew (w : World) (base : Nat) (e : TypeId) (z : Nat) (v v' : Value) (n : Nat) (xs : List Value) (w' : World) : Prop :=
  w'.ownsRow base e z v' n xs ∧ w.grownBy w' v.ownBlock ∧ (v'.ownBlock = v.ownBlock ∨ v'.ownBlock = some w.heap.size) ∧ Below base w w'

theorem run_app_seq {w : World} {B : Nat} (ts ty e : TypeId) (zv : Value) (z bytes : Nat) (ht : Try.prog.underlying ts = some (.slice e)) (hinfo : (Try.prog.info? e).map (fun i => (i.zero, i.size, i.bytes)) = some (some zv, z, bytes)) (hzs : zv.cells.size = z) (hz0 : 0 < z)
    (base : Nat) (v u : Value) (n m : Nat) (xs ys : List Value) (hown : w.ownsRow base e z v n xs) (hu : Seq w B z u m ys) (h1 : ∀ y ∈ ys, y.oneCell' = true) (hn : (n + m) * (bytes + 1) ≤ 1000000000000) (hbase : base ≤ w.heap.size) :
    ∃ v' w', (Builtin.append_ #[ts, ts] ty #[v, u]).run Try.prog w = .ok v' w' ∧ Grew w base e z v v' (n + m) (xs ++ ys) w' := by
  obtain ⟨i0, hi0, q0, q1, q2⟩ := info_parts hinfo
  have hk := Nat.le_mul_of_pos_right (n + m) (show 0 < bytes + 1 by omega)
  have hbm : (n + m) * bytes ≤ (n + m) * (bytes + 1) := Nat.mul_le_mul_left _ (by omega)
  have hge : ∀ k, v.ownBlock = some k → base ≤ k := fun k hk => (ownsRow_old hown k hk).1
  rcases hu.2 with ⟨rfl, rfl⟩ | ⟨b, off, c, rfl, hmc, hB, hc⟩
  · have hy : ys = [] := List.eq_nil_of_length_eq_zero (by simpa using hu.1)
    subst hy
    exact ⟨v, w, run_append_owned_none (P := Try.prog) (w := w) base ts ty e i0 z ht hi0 v n xs hown, by simpa using hown, World.grownBy.refl _ _, .inl rfl, Below.refl _ _⟩
  · obtain ⟨v', w', hr, a1, a2, a3, a4⟩ := run_append_own_at (P := Try.prog) w base ts ty e i0 zv z bytes ht hi0 q0 q1 q2 hzs hz0 v n xs hown ⟨b, off, none⟩ m c ys hu.1 (fun j y hy => by rw [Addr.add_lit]; exact hc j y hy) h1 (by unfold maxLen; omega) (by omega) hbase
    exact ⟨v', w', hr, a1, a2, a4, (Below.refl _ _).grown a2 hbase hge⟩
/-- An append, at the operation alone. -/
theorem wp_app_seq_op {w : World} {B : Nat} {o : Oper} {a : Act} {K : Act → World → Prop} {Q : Exit → Act → World → Prop} (s x : Operand) (ts e : TypeId) (zv : Value) (z bytes : Nat) (ht : Try.prog.underlying ts = some (.slice e)) (hinfo : (Try.prog.info? e).map (fun i => (i.zero, i.size, i.bytes)) = some (some zv, z, bytes)) (hzs : zv.cells.size = z) (hz0 : 0 < z)
    (ho : o.op = .call { callee := .builtin .append, args := #[s, x], argTypes := #[ts, ts] })
    (base : Nat) (v u : Value) (n m : Nat) (xs ys : List Value) (hs : a.eval s = v) (hx : a.eval x = u) (hown : w.ownsRow base e z v n xs) (hu : Seq w B z u m ys) (h1 : ∀ y ∈ ys, y.oneCell' = true) (hn : (n + m) * (bytes + 1) ≤ 1000000000000) (hbase : base ≤ w.heap.size)
    (h : ∀ v' w', Grew w base e z v v' (n + m) (xs ++ ys) w' → K (a.put o.dst v') w') : o.wp Try.prog a w K Q := by
  obtain ⟨v', w', hr, hg⟩ := run_app_seq ts o.type e zv z bytes ht hinfo hzs hz0 base v u n m xs ys hown hu h1 hn hbase
  unfold Oper.wp execOp
  simp only [ho, resolve, invoke, builtin, Sem.run_bind, Sem.run_pure, Result.andThen_ok, List.map_toArray, List.map_cons, List.map_nil, hs, hx, hr]
  exact h v' w' hg
/-- An append. -/
theorem wp_app_seq {w : World} {B : Nat} {ops : Array Oper} {rest : List Oper} {o : Oper} {a : Act} {Q : Exit → Act → World → Prop} (hgd : o.guard = none) (s x : Operand) (ts e : TypeId) (zv : Value) (z bytes : Nat) (ht : Try.prog.underlying ts = some (.slice e)) (hinfo : (Try.prog.info? e).map (fun i => (i.zero, i.size, i.bytes)) = some (some zv, z, bytes)) (hzs : zv.cells.size = z) (hz0 : 0 < z)
    (ho : o.op = .call { callee := .builtin .append, args := #[s, x], argTypes := #[ts, ts] })
    (base : Nat) (v u : Value) (n m : Nat) (xs ys : List Value) (hs : a.eval s = v) (hx : a.eval x = u) (hown : w.ownsRow base e z v n xs) (hu : Seq w B z u m ys) (h1 : ∀ y ∈ ys, y.oneCell' = true) (hn : (n + m) * (bytes + 1) ≤ 1000000000000) (hbase : base ≤ w.heap.size)
    (h : ∀ v' w', Grew w base e z v v' (n + m) (xs ++ ys) w' → wpList Try.prog ops Q rest (a.put o.dst v') w') : wpList Try.prog ops Q (o :: rest) a w :=
  wpList_plain hgd fun K hK => wp_app_seq_op s x ts e zv z bytes ht hinfo hzs hz0 ho base v u n m xs ys hs hx hown hu h1 hn hbase fun v' w' hg => hK _ _ (h v' w' hg)
end Go.Proofs.Ytckhhphchphmlaa
