/-
  Words for memory: bytes as cells, a slice of bytes that the call owns.
-/
import Derived.Test.YthnkiabhfcddaaaDoorProg
import Derived.WalkKit
import Derived.Below
import Derived.OwnWalk
import Derived.Lib.Hide
import Derived.Lib.AppendStr
import Derived.Test.YthnkiabhfcddaaaDoorPackA
namespace Go.Proofs.YthnkiabhfcddaaaDoor
open Go.RowKit

/-- Bytes as cells. -/
def bc (l : List UInt8) : List Value := l.map fun b => Value.int .u8 (b.toNat : Int)
theorem bc_length (l : List UInt8) : (bc l).length = l.length := by simp [bc]
theorem bc_append (a b : List UInt8) : bc (a ++ b) = bc a ++ bc b := by simp [bc]
theorem bc_one (l : List UInt8) : ∀ u ∈ bc l, u.oneCell' = true := by
  intro u hu
  obtain ⟨_, _, rfl⟩ := List.mem_map.1 hu
  rfl
theorem bc_get (l : List UInt8) (j : Nat) (h : j < l.length) : (bc l)[j]? = some (.int .u8 (l[j].toNat : Int)) := by simp [bc, h]

/-- The value v is a slice of the call's own (from block 'base' on) that holds the bytes l. -/
def Owns (w : World) (base : Nat) (v : Value) (l : List UInt8) : Prop := w.ownsRow base 5 1 v l.length (bc l)

/-- What a call ends in that hands back bytes of the caller's own. -/
def Gets (base : Nat) (l : List UInt8) (w : World) (e : Ending) (w' : World) : Prop := ∃ v, e = .returned v ∧ Owns w' base v l ∧ Below base w w'

theorem info_u8 : (Tryd.prog.info? 5).map (fun i => (i.zero, i.size, i.bytes)) = some (some (.int .u8 0), 1, 1) := by kernel_rfl

section
variable {w w' : World} {base : Nat} {v : Value} {l : List UInt8}
theorem Owns.none_ (w : World) (base : Nat) : Owns w base (.slice none 0 0) [] := ⟨by simp [bc], .inl ⟨rfl, rfl⟩⟩
theorem Owns.ge (h : Owns w base v l) : ∀ k, v.ownBlock = some k → base ≤ k := by
  rcases h.2 with ⟨rfl, _⟩ | ⟨g, cap, cur, rfl, hg, _⟩
  · intro k hk; simp [Value.ownBlock] at hk
  · intro k hk; simp [Value.ownBlock] at hk; omega
theorem Owns.below_ (h : Owns w base v l) (hs : ∀ k, v.ownBlock = some k → w'.heap[k]? = w.heap[k]?) : Owns w' base v l := by
  refine ⟨h.1, ?_⟩
  rcases h.2 with h2 | ⟨g, cap, cur, rfl, hg, hh, r⟩
  · exact .inl h2
  · exact .inr ⟨g, cap, cur, rfl, hg, by rw [hs g rfl]; exact hh, r⟩
theorem Owns.alloc (h : Owns w base v l) (o : Obj) : Owns (w.alloc o) base v l := by
  refine ⟨h.1, ?_⟩
  rcases h.2 with h2 | ⟨g, cap, cur, rfl, hg, hh, r⟩
  · exact .inl h2
  · refine .inr ⟨g, cap, cur, rfl, hg, ?_, r⟩
    rw [Below.heap_alloc w o g]
    · exact hh
    · rcases Nat.lt_or_ge g w.heap.size with hlt | hge
      · exact hlt
      · rw [Array.getElem?_eq_none hge] at hh; cases hh
end

/-- The most bytes that a slice of the call's own may come to hold. -/
def Fits (n : Nat) : Prop := n ≤ 140737488355328
theorem Fits.of {n : Nat} (h : n ≤ 1099511627776) : Fits n := by unfold Fits; omega
theorem Fits.le {n m : Nat} (h : Fits n) (hm : m ≤ n) : Fits m := by unfold Fits at *; omega

/-- An append of bytes that lie at an address. -/
theorem wp_app {ops : Array Oper} {rest : List Oper} {o : Oper} {a : Act} {Q : Exit → Act → World → Prop} {w : World} (hgd : o.guard = none) (s x : Operand)
    (ho : o.op = .call { callee := .builtin .append, args := #[s, x], argTypes := #[30, 30] })
    (base : Nat) (v : Value) (l m : List UInt8) (c : Nat) (ad : Addr) (hs : a.eval s = v) (hown : Owns w base v l) (hx : a.eval x = .slice (some ad) m.length c)
    (hcell : ∀ j (h : j < m.length), w.cell? (ad.add j) = some (.int .u8 (m[j].toNat : Int))) (hf : Fits (l.length + m.length)) (hbase : base ≤ w.heap.size)
    (h : ∀ v' w', Owns w' base v' (l ++ m) → Below base w w' → wpList Tryd.prog ops Q rest (a.put o.dst v') w') : wpList Tryd.prog ops Q (o :: rest) a w := by
  obtain ⟨i0, hi0, hz0, hz1, hz2⟩ := info_parts info_u8
  unfold Fits at hf
  refine wpList_append_own w hgd s x _ ho base _ i0 _ 1 1 Tryd.underlying30 hi0 hz0 hz1 hz2 rfl (by omega) v l.length (bc l) hs hown ad m.length c (bc m) hx (by simp [bc]) ?_ (bc_one m) (by unfold maxLen; omega) (by omega) hbase ?_
  · intro j u hu
    have hj : j < m.length := by
      have := (List.getElem?_eq_some_iff.1 hu).1
      simpa [bc] using this
    rw [bc_get m j hj] at hu
    rw [← hu]
    exact hcell j hj
  · intro v' w' h1 h2 _
    refine h v' w' ?_ ((Below.refl _ _).grown h2 hbase hown.ge)
    unfold Owns
    rw [bc_append, List.length_append]
    exact h1

/-- An append of one byte that was just made. -/
theorem wp_push {ops : Array Oper} {rest : List Oper} {o : Oper} {a : Act} {Q : Exit → Act → World → Prop} {w : World} (hgd : o.guard = none) (s x : Operand)
    (ho : o.op = .call { callee := .builtin .append, args := #[s, x], argTypes := #[30, 30] })
    (base : Nat) (v : Value) (l : List UInt8) (c : UInt8) (n : Int) (cap g : Nat) (hs : a.eval s = v) (hown : Owns w base v l) (hx : a.eval x = .slice (some ⟨g, 0, none⟩) 1 cap)
    (hcell : w.cell? ⟨g, 0, none⟩ = some (.int .u8 n)) (hc : n = (c.toNat : Int)) (hf : Fits (l.length + 1)) (hbase : base ≤ w.heap.size)
    (h : ∀ v' w', Owns w' base v' (l ++ [c]) → Below base w w' → wpList Tryd.prog ops Q rest (a.put o.dst v') w') : wpList Tryd.prog ops Q (o :: rest) a w := by
  refine wp_app hgd s x ho base v l [c] cap ⟨g, 0, none⟩ hs hown hx ?_ hf hbase h
  intro j hj
  have h0 : j = 0 := by simpa using hj
  subst h0
  subst hc
  exact hcell

/-- An append of a text's bytes. -/
theorem wp_app_str {ops : Array Oper} {rest : List Oper} {o : Oper} {a : Act} {Q : Exit → Act → World → Prop} {w : World} (hgd : o.guard = none) (s x : Operand)
    (ho : o.op = .call { callee := .builtin .append, args := #[s, x], argTypes := #[30, 9] })
    (base : Nat) (v : Value) (l : List UInt8) (t : ByteArray) (hs : a.eval s = v) (hown : Owns w base v l) (hx : a.eval x = .string t)
    (hf : Fits (l.length + t.size)) (hbase : base ≤ w.heap.size)
    (h : ∀ v' w', Owns w' base v' (l ++ t.data.toList) → Below base w w' → wpList Tryd.prog ops Q rest (a.put o.dst v') w') : wpList Tryd.prog ops Q (o :: rest) a w := by
  obtain ⟨i0, hi0, hz0, hz1, hz2⟩ := info_parts info_u8
  unfold Fits at hf
  refine Lib.wpList_append_own_string w hgd s x _ _ ho base _ i0 Tryd.underlying30 Tryd.underlying9 hi0 hz0 hz1 hz2 v l.length (bc l) hs hown t hx (by unfold maxLen; omega) (by omega) hbase ?_
  intro v' w' h1 h2 _
  refine h v' w' ?_ ((Below.refl _ _).grown h2 hbase hown.ge)
  unfold Owns
  rw [bc_append, List.length_append]
  exact h1
end Go.Proofs.YthnkiabhfcddaaaDoor
