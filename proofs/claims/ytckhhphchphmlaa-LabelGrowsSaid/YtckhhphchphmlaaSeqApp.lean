/-
  Words for memory, of no layer: an append of an argument's slice, which may point wherever where it is empty.
-/
import Derived.Test.YtckhhphchphmlaaSeqArg
namespace Go.Proofs.Ytckhhphchphmlaa
open Go.RowKit
set_option linter.unusedVariables false

theorem run_app_seqA {w : World} {B : Nat} (ts ty e : TypeId) (zv : Value) (z bytes : Nat) (ht : Try.prog.underlying ts = some (.slice e)) (hinfo : (Try.prog.info? e).map (fun i => (i.zero, i.size, i.bytes)) = some (some zv, z, bytes)) (hzs : zv.cells.size = z) (hz0 : 0 < z)
    (base : Nat) (v u : Value) (n m : Nat) (xs ys : List Value) (hown : w.ownsRow base e z v n xs) (hu : SeqA w B z u m ys) (h1 : ∀ y ∈ ys, y.oneCell' = true) (hn : (n + m) * (bytes + 1) ≤ 1000000000000) (hbase : base ≤ w.heap.size) :
    ∃ v' w', (Builtin.append_ #[ts, ts] ty #[v, u]).run Try.prog w = .ok v' w' ∧ Grew w base e z v v' (n + m) (xs ++ ys) w' := by
  rcases hu.2 with ⟨rfl, A, c, rfl, hA⟩ | hr
  · obtain ⟨i0, hi0, q0, q1, q2⟩ := info_parts hinfo
    have hy : ys = [] := List.eq_nil_of_length_eq_zero (by simpa using hu.1)
    subst hy
    have hge : ∀ k, v.ownBlock = some k → base ≤ k := fun k hk => (ownsRow_old hown k hk).1
    cases A with
    | none =>
      obtain rfl := hA rfl
      exact ⟨v, w, run_append_owned_none (P := Try.prog) (w := w) base ts ty e i0 z ht hi0 v n xs hown, by simpa using hown, World.grownBy.refl _ _, .inl rfl, Below.refl _ _⟩
    | some ad =>
      have hk := Nat.le_mul_of_pos_right (n + 0) (show 0 < bytes + 1 by omega)
      have hbm : (n + 0) * bytes ≤ (n + 0) * (bytes + 1) := Nat.mul_le_mul_left _ (by omega)
      obtain ⟨v', w', hr, a1, a2, a3, a4⟩ := run_append_own_at (P := Try.prog) w base ts ty e i0 zv z bytes ht hi0 q0 q1 q2 hzs hz0 v n xs hown ad 0 c [] (by simp) (fun j y hy => by simp at hy) (fun y hy => by simp at hy) (by unfold maxLen; omega) (by omega) hbase
      exact ⟨v', w', hr, a1, a2, a4, (Below.refl _ _).grown a2 hbase hge⟩
  · exact run_app_seq ts ty e zv z bytes ht hinfo hzs hz0 base v u n m xs ys hown ⟨hu.1, .inr hr⟩ h1 hn hbase
/-- An append, at the operation alone. -/
theorem wp_app_seqA_op {w : World} {B : Nat} {o : Oper} {a : Act} {K : Act → World → Prop} {Q : Exit → Act → World → Prop} (s x : Operand) (ts e : TypeId) (zv : Value) (z bytes : Nat) (ht : Try.prog.underlying ts = some (.slice e)) (hinfo : (Try.prog.info? e).map (fun i => (i.zero, i.size, i.bytes)) = some (some zv, z, bytes)) (hzs : zv.cells.size = z) (hz0 : 0 < z)
    (ho : o.op = .call { callee := .builtin .append, args := #[s, x], argTypes := #[ts, ts] })
    (base : Nat) (v u : Value) (n m : Nat) (xs ys : List Value) (hs : a.eval s = v) (hx : a.eval x = u) (hown : w.ownsRow base e z v n xs) (hu : SeqA w B z u m ys) (h1 : ∀ y ∈ ys, y.oneCell' = true) (hn : (n + m) * (bytes + 1) ≤ 1000000000000) (hbase : base ≤ w.heap.size)
    (h : ∀ v' w', Grew w base e z v v' (n + m) (xs ++ ys) w' → K (a.put o.dst v') w') : o.wp Try.prog a w K Q := by
  obtain ⟨v', w', hr, hg⟩ := run_app_seqA ts o.type e zv z bytes ht hinfo hzs hz0 base v u n m xs ys hown hu h1 hn hbase
  unfold Oper.wp execOp
  simp only [ho, resolve, invoke, builtin, Sem.run_bind, Sem.run_pure, Result.andThen_ok, List.map_toArray, List.map_cons, List.map_nil, hs, hx, hr]
  exact h v' w' hg
/-- An append. -/
theorem wp_app_seqA {w : World} {B : Nat} {ops : Array Oper} {rest : List Oper} {o : Oper} {a : Act} {Q : Exit → Act → World → Prop} (hgd : o.guard = none) (s x : Operand) (ts e : TypeId) (zv : Value) (z bytes : Nat) (ht : Try.prog.underlying ts = some (.slice e)) (hinfo : (Try.prog.info? e).map (fun i => (i.zero, i.size, i.bytes)) = some (some zv, z, bytes)) (hzs : zv.cells.size = z) (hz0 : 0 < z)
    (ho : o.op = .call { callee := .builtin .append, args := #[s, x], argTypes := #[ts, ts] })
    (base : Nat) (v u : Value) (n m : Nat) (xs ys : List Value) (hs : a.eval s = v) (hx : a.eval x = u) (hown : w.ownsRow base e z v n xs) (hu : SeqA w B z u m ys) (h1 : ∀ y ∈ ys, y.oneCell' = true) (hn : (n + m) * (bytes + 1) ≤ 1000000000000) (hbase : base ≤ w.heap.size)
    (h : ∀ v' w', Grew w base e z v v' (n + m) (xs ++ ys) w' → wpList Try.prog ops Q rest (a.put o.dst v') w') : wpList Try.prog ops Q (o :: rest) a w :=
  wpList_plain hgd fun K hK => wp_app_seqA_op s x ts e zv z bytes ht hinfo hzs hz0 ho base v u n m xs ys hs hx hown hu h1 hn hbase fun v' w' hg => hK _ _ (h v' w' hg)
end Go.Proofs.Ytckhhphchphmlaa
