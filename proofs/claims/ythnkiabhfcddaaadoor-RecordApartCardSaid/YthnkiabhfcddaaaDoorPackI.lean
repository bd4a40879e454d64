/-
  Texts of the proofs, put together: Seq, SeqArg, SeqOff.
-/
import Derived.Test.YthnkiabhfcddaaaDoorPackA
import Derived.Laws.AppendOwnNone
import Derived.Maps.AppendAt
import Derived.Laws.OwnMore
/-
  Words for memory, of no layer: a slice of elements of any width, wherever it lies; an append of one to a slice of the call's own.
-/
namespace Go.Proofs.YthnkiabhfcddaaaDoor
open Go.RowKit
set_option linter.unusedVariables false

/-- The value v is a slice of n elements, each of z cells, in blocks below B, whose cells read xs. -/
def Seq (w : World) (B z : Nat) (v : Value) (n : Nat) (xs : List Value) : Prop :=
  xs.length = n * z ∧ ((v = .slice none 0 0 ∧ n = 0) ∨ ∃ b off c, v = .slice (some ⟨b, off, none⟩) n c ∧ n ≤ c ∧ b < B ∧ ∀ i u, xs[i]? = some u → w.cell? ⟨b, off + i, none⟩ = some u)
section
variable {w w' : World} {B z n : Nat} {v : Value} {xs : List Value}
theorem Seq.nil_ (w : World) (B z : Nat) : Seq w B z (.slice none 0 0) 0 [] := ⟨by simp, .inl ⟨rfl, rfl⟩⟩
theorem Seq.keep (h : Seq w B z v n xs) (hb : ∀ k, k < B → w'.heap[k]? = w.heap[k]?) : Seq w' B z v n xs := by
  refine ⟨h.1, ?_⟩
  rcases h.2 with h2 | ⟨b, off, c, e, hn, hB, hc⟩
  · exact .inl h2
  · exact .inr ⟨b, off, c, e, hn, hB, fun i u hu => (World.cell?_of_block (w := w) (hb b hB)).trans (hc i u hu)⟩
theorem Seq.keep_ (h : Seq w B z v n xs) (hb : ∀ k, v.ownBlock = some k → w'.heap[k]? = w.heap[k]?) : Seq w' B z v n xs := by
  refine ⟨h.1, ?_⟩
  rcases h.2 with h2 | ⟨b, off, c, rfl, hn, hB, hc⟩
  · exact .inl h2
  · exact .inr ⟨b, off, c, rfl, hn, hB, fun i u hu => (World.cell?_of_block (w := w) (hb b rfl)).trans (hc i u hu)⟩
theorem Seq.old (h : Seq w B z v n xs) : ∀ k, v.ownBlock = some k → k < B := by
  rcases h.2 with ⟨rfl, _⟩ | ⟨b, off, c, rfl, hn, hB, hc⟩
  · intro k hk; simp [Value.ownBlock] at hk
  · intro k hk; simp [Value.ownBlock] at hk; rw [← hk]; exact hB
theorem Seq.below_ (h : Seq w B z v n xs) (hb : Below B w w') : Seq w' B z v n xs := h.keep hb.block
theorem Seq.more {B' : Nat} (h : Seq w B z v n xs) (hB : B ≤ B') : Seq w B' z v n xs := by
  refine ⟨h.1, ?_⟩
  rcases h.2 with h2 | ⟨b, off, c, e, hn, hb, hc⟩
  · exact .inl h2
  · exact .inr ⟨b, off, c, e, hn, by omega, hc⟩
/-- Behind a call that made memory. -/
theorem Seq.over (h : Seq w B z v n xs) (hB : B ≤ w.heap.size) (hb : Below w.heap.size w w') : Seq w' w'.heap.size z v n xs := (h.below_ (hb.mono hB)).more (Nat.le_trans hB hb.size)
theorem Seq.own {base : Nat} {e : TypeId} (h : w.ownsRow base e z v n xs) : Seq w w.heap.size z v n xs := by
  refine ⟨h.1, ?_⟩
  rcases h.2 with h2 | ⟨g, cap, cur, rfl, hg, hh, hn, _, _, hx⟩
  · exact .inl h2
  · refine .inr ⟨g, 0, cap, rfl, hn, heap_lt hh, fun i u hu => ?_⟩
    rw [heap_cell hh, Nat.zero_add]
    rw [← hx, List.getElem?_take] at hu
    split at hu
    · simpa using hu
    · cases hu
/-- A slice's address, length and room. -/
theorem Seq.open_ (h : Seq w B z v n xs) : ∃ A c, v = .slice A n c ∧ n ≤ c ∧ (A = none → c = 0 ∧ n = 0) ∧ ∀ a, A = some a → ∃ b off, a = ⟨b, off, none⟩ ∧ b < B ∧ ∀ i u, xs[i]? = some u → w.cell? ⟨b, off + i, none⟩ = some u := by
  rcases h.2 with ⟨rfl, rfl⟩ | ⟨b, off, c, rfl, hn, hb, hc⟩
  · exact ⟨none, 0, rfl, Nat.le_refl _, fun _ => ⟨rfl, rfl⟩, fun a e => by cases e⟩
  · exact ⟨some ⟨b, off, none⟩, c, rfl, hn, fun e => (by cases e), fun a e => by injection e with e; subst e; exact ⟨b, off, rfl, hb, hc⟩⟩
end

/-- One new element. -/
theorem Seq.lit_ (w : World) (cs : List Value) (t : TypeId) : Seq (w.alloc (.cells cs.toArray t)) (w.alloc (.cells cs.toArray t)).heap.size cs.length (.slice (some ⟨w.heap.size, 0, none⟩) 1 1) 1 cs :=
  ⟨by simp, .inr ⟨w.heap.size, 0, 1, rfl, Nat.le_refl _, by simp, fun i u hu => by rw [Nat.zero_add, heap_cell (heap_alloc_new w _)]; simpa using hu⟩⟩
theorem ownsRow_below {w w' : World} {base : Nat} {e : TypeId} {z : Nat} {v : Value} {n : Nat} {xs : List Value} (h : w.ownsRow base e z v n xs) (hs : ∀ k, v.ownBlock = some k → w'.heap[k]? = w.heap[k]?) : w'.ownsRow base e z v n xs := by
  refine ⟨h.1, ?_⟩
  rcases h.2 with h2 | ⟨g, cap, cur, rfl, hg, hh, r⟩
  · exact .inl h2
  · exact .inr ⟨g, cap, cur, rfl, hg, by rw [hs g rfl]; exact hh, r⟩
theorem ownsRow_old {w : World} {base : Nat} {e : TypeId} {z : Nat} {v : Value} {n : Nat} {xs : List Value} (h : w.ownsRow base e z v n xs) : ∀ k, v.ownBlock = some k → base ≤ k ∧ k < w.heap.size := by
  rcases h.2 with ⟨rfl, _⟩ | ⟨g, cap, cur, rfl, hg, hh, _⟩
  · intro k hk; simp [Value.ownBlock] at hk
  · intro k hk; simp [Value.ownBlock] at hk; rw [← hk]; exact ⟨hg, heap_lt hh⟩
theorem ownsRow_mono {w : World} {base base' : Nat} {e : TypeId} {z : Nat} {v : Value} {n : Nat} {xs : List Value} (h : w.ownsRow base e z v n xs) (hb : base' ≤ base) : w.ownsRow base' e z v n xs := by
  refine ⟨h.1, ?_⟩
  rcases h.2 with h2 | ⟨g, cap, cur, rfl, hg, r⟩
  · exact .inl h2
  · exact .inr ⟨g, cap, cur, rfl, by omega, r⟩
theorem ownsRow_over {w w' : World} {base : Nat} {e : TypeId} {z : Nat} {v : Value} {n : Nat} {xs : List Value} (h : w.ownsRow base e z v n xs) (hb : Below w.heap.size w w') : w'.ownsRow base e z v n xs :=
  ownsRow_below h fun k hk => hb.block k (ownsRow_old h k hk).2

theorem own_slice {w : World} {base : Nat} {e : TypeId} {z : Nat} {v : Value} {n : Nat} {xs : List Value} (h : w.ownsRow base e z v n xs) : ∃ A m c, v = .slice A m c := by
  rcases h.2 with ⟨rfl, _⟩ | ⟨g, cap, cur, rfl, _⟩
  · exact ⟨_, _, _, rfl⟩
  · exact ⟨_, _, _, rfl⟩
theorem seq_slice {w : World} {B z : Nat} {v : Value} {n : Nat} {xs : List Value} (h : Seq w B z v n xs) : ∃ A m c, v = .slice A m c := by
  obtain ⟨A, c, rfl, _⟩ := h.open_
  exact ⟨_, _, _, rfl⟩
/-- What an append of the slice v leaves: the new slice v'. -/
def Grew (w : World) (base : Nat) (e : TypeId) (z : Nat) (v v' : Value) (n : Nat) (xs : List Value) (w' : World) : Prop :=
  w'.ownsRow base e z v' n xs ∧ w.grownBy w' v.ownBlock ∧ (v'.ownBlock = v.ownBlock ∨ v'.ownBlock = some w.heap.size) ∧ Below base w w'

theorem run_app_seq {w : World} {B : Nat} (ts ty e : TypeId) (zv : Value) (z bytes : Nat) (ht : Tryd.prog.underlying ts = some (.slice e)) (hinfo : (Tryd.prog.info? e).map (fun i => (i.zero, i.size, i.bytes)) = some (some zv, z, bytes)) (hzs : zv.cells.size = z) (hz0 : 0 < z)
    (base : Nat) (v u : Value) (n m : Nat) (xs ys : List Value) (hown : w.ownsRow base e z v n xs) (hu : Seq w B z u m ys) (h1 : ∀ y ∈ ys, y.oneCell' = true) (hn : (n + m) * (bytes + 1) ≤ 1000000000000) (hbase : base ≤ w.heap.size) :
    ∃ v' w', (Builtin.append_ #[ts, ts] ty #[v, u]).run Tryd.prog w = .ok v' w' ∧ Grew w base e z v v' (n + m) (xs ++ ys) w' := by
  obtain ⟨i0, hi0, q0, q1, q2⟩ := info_parts hinfo
  have hk := Nat.le_mul_of_pos_right (n + m) (show 0 < bytes + 1 by omega)
  have hbm : (n + m) * bytes ≤ (n + m) * (bytes + 1) := Nat.mul_le_mul_left _ (by omega)
  have hge : ∀ k, v.ownBlock = some k → base ≤ k := fun k hk => (ownsRow_old hown k hk).1
  rcases hu.2 with ⟨rfl, rfl⟩ | ⟨b, off, c, rfl, hmc, hB, hc⟩
  · have hy : ys = [] := List.eq_nil_of_length_eq_zero (by simpa using hu.1)
    subst hy
    exact ⟨v, w, run_append_owned_none (P := Tryd.prog) (w := w) base ts ty e i0 z ht hi0 v n xs hown, by simpa using hown, World.grownBy.refl _ _, .inl rfl, Below.refl _ _⟩
  · obtain ⟨v', w', hr, a1, a2, a3, a4⟩ := run_append_own_at (P := Tryd.prog) w base ts ty e i0 zv z bytes ht hi0 q0 q1 q2 hzs hz0 v n xs hown ⟨b, off, none⟩ m c ys hu.1 (fun j y hy => by rw [Addr.add_lit]; exact hc j y hy) h1 (by unfold maxLen; omega) (by omega) hbase
    exact ⟨v', w', hr, a1, a2, a4, (Below.refl _ _).grown a2 hbase hge⟩
/-- An append, at the operation alone. -/
theorem wp_app_seq_op {w : World} {B : Nat} {o : Oper} {a : Act} {K : Act → World → Prop} {Q : Exit → Act → World → Prop} (s x : Operand) (ts e : TypeId) (zv : Value) (z bytes : Nat) (ht : Tryd.prog.underlying ts = some (.slice e)) (hinfo : (Tryd.prog.info? e).map (fun i => (i.zero, i.size, i.bytes)) = some (some zv, z, bytes)) (hzs : zv.cells.size = z) (hz0 : 0 < z)
    (ho : o.op = .call { callee := .builtin .append, args := #[s, x], argTypes := #[ts, ts] })
    (base : Nat) (v u : Value) (n m : Nat) (xs ys : List Value) (hs : a.eval s = v) (hx : a.eval x = u) (hown : w.ownsRow base e z v n xs) (hu : Seq w B z u m ys) (h1 : ∀ y ∈ ys, y.oneCell' = true) (hn : (n + m) * (bytes + 1) ≤ 1000000000000) (hbase : base ≤ w.heap.size)
    (h : ∀ v' w', Grew w base e z v v' (n + m) (xs ++ ys) w' → K (a.put o.dst v') w') : o.wp Tryd.prog a w K Q := by
  obtain ⟨v', w', hr, hg⟩ := run_app_seq ts o.type e zv z bytes ht hinfo hzs hz0 base v u n m xs ys hown hu h1 hn hbase
  unfold Oper.wp execOp
  simp only [ho, resolve, invoke, builtin, Sem.run_bind, Sem.run_pure, Result.andThen_ok, List.map_toArray, List.map_cons, List.map_nil, hs, hx, hr]
  exact h v' w' hg
/-- An append. -/
theorem wp_app_seq {w : World} {B : Nat} {ops : Array Oper} {rest : List Oper} {o : Oper} {a : Act} {Q : Exit → Act → World → Prop} (hgd : o.guard = none) (s x : Operand) (ts e : TypeId) (zv : Value) (z bytes : Nat) (ht : Tryd.prog.underlying ts = some (.slice e)) (hinfo : (Tryd.prog.info? e).map (fun i => (i.zero, i.size, i.bytes)) = some (some zv, z, bytes)) (hzs : zv.cells.size = z) (hz0 : 0 < z)
    (ho : o.op = .call { callee := .builtin .append, args := #[s, x], argTypes := #[ts, ts] })
    (base : Nat) (v u : Value) (n m : Nat) (xs ys : List Value) (hs : a.eval s = v) (hx : a.eval x = u) (hown : w.ownsRow base e z v n xs) (hu : Seq w B z u m ys) (h1 : ∀ y ∈ ys, y.oneCell' = true) (hn : (n + m) * (bytes + 1) ≤ 1000000000000) (hbase : base ≤ w.heap.size)
    (h : ∀ v' w', Grew w base e z v v' (n + m) (xs ++ ys) w' → wpList Tryd.prog ops Q rest (a.put o.dst v') w') : wpList Tryd.prog ops Q (o :: rest) a w :=
  wpList_plain hgd fun K hK => wp_app_seq_op s x ts e zv z bytes ht hinfo hzs hz0 ho base v u n m xs ys hs hx hown hu h1 hn hbase fun v' w' hg => hK _ _ (h v' w' hg)
end Go.Proofs.YthnkiabhfcddaaaDoor
/-
  Words for memory, of no layer: an argument's slice, which may point wherever where it is empty.
-/
namespace Go.Proofs.YthnkiabhfcddaaaDoor
open Go.RowKit
set_option linter.unusedVariables false

/-- An argument's slice: as Seq, but where it is empty it may point wherever. -/
def SeqA (w : World) (B z : Nat) (v : Value) (n : Nat) (xs : List Value) : Prop :=
  xs.length = n * z ∧ ((n = 0 ∧ ∃ A c, v = .slice A 0 c ∧ (A = none → c = 0)) ∨ ∃ b off c, v = .slice (some ⟨b, off, none⟩) n c ∧ n ≤ c ∧ b < B ∧ ∀ i u, xs[i]? = some u → w.cell? ⟨b, off + i, none⟩ = some u)
theorem Seq.arg {w : World} {B z n : Nat} {v : Value} {xs : List Value} (h : Seq w B z v n xs) : SeqA w B z v n xs := by
  refine ⟨h.1, ?_⟩
  rcases h.2 with ⟨rfl, h0⟩ | h0
  · exact .inl ⟨h0, none, 0, rfl, fun _ => rfl⟩
  · exact .inr h0
section
variable {w w' : World} {B z n : Nat} {v : Value} {xs : List Value}
theorem SeqA.keep (h : SeqA w B z v n xs) (hb : ∀ k, k < B → w'.heap[k]? = w.heap[k]?) : SeqA w' B z v n xs := by
  refine ⟨h.1, ?_⟩
  rcases h.2 with h2 | ⟨b, off, c, e, hn, hB, hc⟩
  · exact .inl h2
  · exact .inr ⟨b, off, c, e, hn, hB, fun i u hu => (World.cell?_of_block (w := w) (hb b hB)).trans (hc i u hu)⟩
theorem SeqA.more {B' : Nat} (h : SeqA w B z v n xs) (hB : B ≤ B') : SeqA w B' z v n xs := by
  refine ⟨h.1, ?_⟩
  rcases h.2 with h2 | ⟨b, off, c, e, hn, hb, hc⟩
  · exact .inl h2
  · exact .inr ⟨b, off, c, e, hn, by omega, hc⟩
theorem SeqA.open_ (h : SeqA w B z v n xs) : ∃ A c, v = .slice A n c ∧ n ≤ c := by
  rcases h.2 with ⟨rfl, A, c, e, _⟩ | ⟨b, off, c, e, hn, _⟩
  · exact ⟨A, c, e, Nat.zero_le _⟩
  · exact ⟨_, c, e, hn⟩
end
end Go.Proofs.YthnkiabhfcddaaaDoor
/-
  Words for memory, of no layer: a slice of elements of any width, anywhere in a block of which it is the only slice; an append to it; its first element taken away.
-/
namespace Go.Proofs.YthnkiabhfcddaaaDoor
open Go.RowKit
set_option linter.unusedVariables false

/-- The value v is a slice of n elements, each of z cells, that reach from anywhere in a block to its end (as far as there is room). -/
def OwnAt (w : World) (e : TypeId) (z : Nat) (v : Value) (n : Nat) (xs : List Value) : Prop :=
  xs.length = n * z ∧ ((v = .slice none 0 0 ∧ n = 0) ∨ ∃ g off cap cur, v = .slice (some ⟨g, off, none⟩) n cap ∧ w.heap[g]? = some (.cells cur e (0, 0)) ∧ n ≤ cap ∧ cap ≤ maxLen ∧ off + cap * z ≤ cur.size ∧ (cur.toList.drop off).take (n * z) = xs)
section
variable {w w' : World} {e : TypeId} {z n : Nat} {v : Value} {xs : List Value}
theorem OwnAt.none_ (w : World) (e : TypeId) (z : Nat) : OwnAt w e z (.slice none 0 0) 0 [] := ⟨by simp, .inl ⟨rfl, rfl⟩⟩
theorem OwnAt.of_row {base : Nat} (h : w.ownsRow base e z v n xs) : OwnAt w e z v n xs := by
  refine ⟨h.1, ?_⟩
  rcases h.2 with h2 | ⟨g, cap, cur, rfl, _, hh, hn, hm, hs, hx⟩
  · exact .inl h2
  · exact .inr ⟨g, 0, cap, cur, rfl, hh, hn, hm, by omega, by rw [List.drop_zero]; exact hx⟩
theorem OwnAt.keep (h : OwnAt w e z v n xs) (hb : ∀ k, v.ownBlock = some k → w'.heap[k]? = w.heap[k]?) : OwnAt w' e z v n xs := by
  refine ⟨h.1, ?_⟩
  rcases h.2 with h2 | ⟨g, off, cap, cur, rfl, hh, r⟩
  · exact .inl h2
  · exact .inr ⟨g, off, cap, cur, rfl, by rw [hb g rfl]; exact hh, r⟩
/-- Its block. -/
theorem OwnAt.block (h : OwnAt w e z v n xs) : ∀ k, v.ownBlock = some k → ∃ cur, w.heap[k]? = some (.cells cur e (0, 0)) := by
  rcases h.2 with ⟨rfl, _⟩ | ⟨g, off, cap, cur, rfl, hh, _⟩
  · intro k hk; simp [Value.ownBlock] at hk
  · intro k hk; simp [Value.ownBlock] at hk; subst hk; exact ⟨cur, hh⟩
theorem OwnAt.open_ (h : OwnAt w e z v n xs) : ∃ A c, v = .slice A n c ∧ n ≤ c := by
  rcases h.2 with ⟨rfl, rfl⟩ | ⟨g, off, cap, cur, rfl, hh, hn, _⟩
  · exact ⟨_, _, rfl, Nat.le_refl _⟩
  · exact ⟨_, _, rfl, hn⟩
/-- It reads as such. -/
theorem OwnAt.cell {g off c : Nat} (h : OwnAt w e z (.slice (some ⟨g, off, none⟩) n c) n xs) (i : Nat) (u : Value) (hu : xs[i]? = some u) : w.cell? ⟨g, off + i, none⟩ = some u := by
  rcases h.2 with ⟨h, _⟩ | ⟨g', off', cap, cur, e, hh, _, _, _, hx⟩
  · cases h
  · simp only [Value.slice.injEq, Option.some.injEq, Addr.mk.injEq] at e
    obtain ⟨⟨rfl, rfl, _⟩, _, rfl⟩ := e
    rw [heap_cell hh, ← Array.getElem?_toList]
    rw [← hx, List.getElem?_take] at hu
    split at hu
    · rw [List.getElem?_drop] at hu; exact hu
    · cases hu
end

/-- What an append to the slice v leaves: the new slice v'. -/
structure GrewAt (w : World) (e : TypeId) (z : Nat) (v v' : Value) (n : Nat) (xs : List Value) (w' : World) : Prop where
  own : OwnAt w' e z v' n xs
  grown : w.grownBy w' v.ownBlock
  at_ : v'.ownBlock = v.ownBlock ∨ v'.ownBlock = some w.heap.size

theorem run_app_off {w : World} {B : Nat} (ts ty e : TypeId) (zv : Value) (z bytes : Nat) (ht : Tryd.prog.underlying ts = some (.slice e)) (hinfo : (Tryd.prog.info? e).map (fun i => (i.zero, i.size, i.bytes)) = some (some zv, z, bytes)) (hzs : zv.cells.size = z) (hz0 : 0 < z)
    (v u : Value) (n m : Nat) (xs ys : List Value) (hown : OwnAt w e z v n xs) (hu : Seq w B z u m ys) (h1 : ∀ y ∈ ys, y.oneCell' = true) (hn : (n + m) * (bytes + 1) ≤ 1000000000000) :
    ∃ v' w', (Builtin.append_ #[ts, ts] ty #[v, u]).run Tryd.prog w = .ok v' w' ∧ GrewAt w e z v v' (n + m) (xs ++ ys) w' := by
  obtain ⟨i, hi0, q0, q1, q2⟩ := info_parts hinfo
  have hk := Nat.le_mul_of_pos_right (n + m) (show 0 < bytes + 1 by omega)
  have hbm : (n + m) * bytes ≤ (n + m) * (bytes + 1) := Nat.mul_le_mul_left _ (by omega)
  have hmx : n + m ≤ maxLen := by unfold maxLen; omega
  rcases hown.2 with ⟨rfl, rfl⟩ | ⟨g, off, cap, cur, rfl, hg, hnc, hcm, hcs, htake⟩
  · have hx : xs = [] := List.eq_nil_of_length_eq_zero (by simpa using hown.1)
    subst hx
    obtain ⟨v', w', hr, a1, a2, a3, _⟩ := run_app_seq ts ty e zv z bytes ht hinfo hzs hz0 0 (.slice none 0 0) u 0 m [] ys (World.ownsRow_nil w 0 e z) hu h1 (by simpa using hn) (Nat.zero_le _)
    exact ⟨v', w', hr, OwnAt.of_row a1, a2, a3⟩
  · rcases hu.2 with ⟨rfl, rfl⟩ | ⟨b, boff, c, rfl, hmc, hB, hc⟩
    · have hy : ys = [] := List.eq_nil_of_length_eq_zero (by simpa using hu.1)
      subst hy
      refine ⟨_, w, ?_, by simpa using hown, World.grownBy.refl _ _, .inl rfl⟩
      simp [Builtin.append_, run_underlying ht, sizeOf, typeInfo, hi0, Builtin.lenOf, Builtin.firstCells, hnc, storeCells]
    · have hnews : ∀ j y, ys[j]? = some y → w.cell? ((⟨b, boff, none⟩ : Addr).add j) = some y := fun j y hy => by rw [Addr.add_lit]; exact hc j y hy
      have hlen : (xs ++ ys).length = (n + m) * z := by rw [List.length_append, hown.1, hu.1, Nat.add_mul]
      by_cases hroom : n + m ≤ cap
      · have hfit0 := Nat.mul_le_mul_right z hroom
        rw [Nat.add_mul] at hfit0
        have hyl := hu.1
        have hfit : off + n * z + ys.length ≤ cur.size := by omega
        have hf := run_firstCells_some (P := Tryd.prog) w i.size m ⟨b, boff, none⟩ m c ys (by rw [q1]; exact hu.1) hnews
        rw [q1] at hf
        have hst := run_storeCells_at Tryd.prog g (off + n * z) e ys 0 cur w hg (by omega) h1
        simp only [Nat.add_zero] at hst
        refine ⟨.slice (some ⟨g, off, none⟩) (n + m) cap, w.setRow g (cur.toList.take (off + n * z) ++ ys ++ cur.toList.drop (off + n * z + ys.length)).toArray, ?_, ?_, ⟨rfl, rfl, rfl, by simp, fun k _ hk => setRow_other w g k _ (fun e => hk (by simp [Value.ownBlock, e]))⟩, .inl rfl⟩
        · simp [Builtin.append_, run_underlying ht, sizeOf, typeInfo, hi0, Builtin.lenOf, hroom, hf, Addr.add_lit, q1, hst]
        · refine ⟨hlen, .inr ⟨g, off, cap, _, rfl, setRow_heap w g cur _ e _ hg, hroom, hcm, ?_, ?_⟩⟩
          · simp only [List.size_toArray, List.length_append, List.length_take, List.length_drop, Array.length_toList]
            omega
          · have e1 : (cur.toList.take (off + n * z) ++ ys ++ cur.toList.drop (off + n * z + ys.length)).drop off = xs ++ ys ++ cur.toList.drop (off + n * z + ys.length) := by
              rw [List.append_assoc, List.drop_append_of_le_length (by rw [List.length_take, Array.length_toList]; omega), List.drop_take, show off + n * z - off = n * z by omega, htake, List.append_assoc]
            simp only []
            rw [e1, ← hlen]
            exact List.take_left
      · have holds : ∀ j u, xs[j]? = some u → w.cell? ((⟨g, off, none⟩ : Addr).add j) = some u := fun j u hj => by rw [Addr.add_lit]; exact hown.cell j u hj
        have hr := run_append_grow (P := Tryd.prog) w ts ty e i zv ht hi0 q0 ⟨g, off, none⟩ n cap xs (by rw [q1]; exact hown.1) holds ⟨b, boff, none⟩ m c ys (by rw [q1]; exact hu.1) hnews (by omega) (by omega) (growslice_fits (by omega) (by rw [q2]; omega))
        have hge := grownCap_ge w (n + m) cap e
        have hcm2 : grownCap w (n + m) cap e ≤ maxLen := grownCap_le_maxLen w (n + m) cap e hmx
        have hsub : n + m + (grownCap w (n + m) cap e - (n + m)) = grownCap w (n + m) cap e := by omega
        refine ⟨_, _, hr, ⟨hlen, .inr ⟨w.heap.size, 0, _, _, rfl, heap_alloc_new w.drew _, hge, hcm2, ?_, ?_⟩⟩, ⟨rfl, rfl, rfl, by simp, fun k hk _ => Below.heap_alloc w.drew _ k hk⟩, .inr rfl⟩
        · simp only [Array.size_append, List.size_toArray, size_zeroCells, hzs, hown.1, hu.1, ← Nat.add_mul, hsub]
          omega
        · simp only [Array.toList_append, List.append_assoc, List.drop_zero]
          rw [← List.append_assoc, ← hlen]
          exact List.take_left
/-- An append, at the operation alone. -/
theorem wp_app_off_op {w : World} {B : Nat} {o : Oper} {a : Act} {K : Act → World → Prop} {Q : Exit → Act → World → Prop} (s x : Operand) (ts e : TypeId) (zv : Value) (z bytes : Nat) (ht : Tryd.prog.underlying ts = some (.slice e)) (hinfo : (Tryd.prog.info? e).map (fun i => (i.zero, i.size, i.bytes)) = some (some zv, z, bytes)) (hzs : zv.cells.size = z) (hz0 : 0 < z)
    (ho : o.op = .call { callee := .builtin .append, args := #[s, x], argTypes := #[ts, ts] })
    (v u : Value) (n m : Nat) (xs ys : List Value) (hs : a.eval s = v) (hx : a.eval x = u) (hown : OwnAt w e z v n xs) (hu : Seq w B z u m ys) (h1 : ∀ y ∈ ys, y.oneCell' = true) (hn : (n + m) * (bytes + 1) ≤ 1000000000000)
    (h : ∀ v' w', GrewAt w e z v v' (n + m) (xs ++ ys) w' → K (a.put o.dst v') w') : o.wp Tryd.prog a w K Q := by
  obtain ⟨v', w', hr, hg⟩ := run_app_off ts o.type e zv z bytes ht hinfo hzs hz0 v u n m xs ys hown hu h1 hn
  unfold Oper.wp execOp
  simp only [ho, resolve, invoke, builtin, Sem.run_bind, Sem.run_pure, Result.andThen_ok, List.map_toArray, List.map_cons, List.map_nil, hs, hx, hr]
  exact h v' w' hg
/-- All but the first element. -/
theorem OwnAt.tail {w : World} {e : TypeId} {z g off n c : Nat} {ys xs : List Value} (h : OwnAt w e z (.slice (some ⟨g, off, none⟩) (n + 1) c) (n + 1) (ys ++ xs)) (hy : ys.length = z) (hn : 0 < n) :
    OwnAt w e z (.slice (some ⟨g, off + z, none⟩) n (c - 1)) n xs := by
  obtain ⟨h0, ⟨h, _⟩ | ⟨g', off', cap, cur, e, hh, hnc, hcm, hcs, hx⟩⟩ := h
  · cases h
  · simp only [Value.slice.injEq, Option.some.injEq, Addr.mk.injEq] at e
    obtain ⟨⟨rfl, rfl, _⟩, _, rfl⟩ := e
    rw [List.length_append, hy, Nat.add_mul, Nat.one_mul] at h0
    obtain ⟨d, rfl⟩ : ∃ d, c = d + 1 := ⟨c - 1, by omega⟩
    rw [Nat.add_mul, Nat.one_mul] at hcs
    refine ⟨by omega, .inr ⟨g, off + z, d, cur, rfl, hh, by omega, by omega, by omega, ?_⟩⟩
    rw [Nat.add_mul, Nat.one_mul, Nat.add_comm, ← hy] at hx
    have e2 := congrArg (List.drop ys.length) hx
    rw [List.drop_take, show ys.length + n * ys.length - ys.length = n * ys.length by omega, List.drop_drop, List.drop_left] at e2
    rw [← hy]
    exact e2
/-- A cell of it is turned. -/
theorem OwnAt.set_ {w : World} {e : TypeId} {z g off n c i : Nat} {xs : List Value} (h : OwnAt w e z (.slice (some ⟨g, off, none⟩) n c) n xs) (u : Value) (hi : i < n * z) : OwnAt (w.setCell ⟨g, off + i, none⟩ u) e z (.slice (some ⟨g, off, none⟩) n c) n (xs.set i u) := by
  obtain ⟨h0, ⟨h, _⟩ | ⟨g', off', cap, cur, e, hh, hnc, hcm, hcs, hx⟩⟩ := h
  · cases h
  · simp only [Value.slice.injEq, Option.some.injEq, Addr.mk.injEq] at e
    obtain ⟨⟨rfl, rfl, _⟩, _, rfl⟩ := e
    refine ⟨by rw [List.length_set]; exact h0, .inr ⟨g, off, c, cur.setIfInBounds (off + i) u, rfl, heap_set hh _ u, hnc, hcm, by simpa using hcs, ?_⟩⟩
    rw [Array.toList_setIfInBounds, List.drop_set, if_neg (by omega), show off + i - off = i by omega, List.take_set, hx]
end Go.Proofs.YthnkiabhfcddaaaDoor
