/-
  Package label: two rows in order made one (merge), over lists.
-/
import Derived.Test.YtckhhphchphmlaaLabelOrd
namespace Go.Proofs.Ytckhhphchphmlaa
open Go.RowKit
set_option linter.unusedVariables false

/-- Two rows in order, made one. -/
def mergeL : List Pr → List Pr → List Pr
  | [], b => b
  | x :: a, [] => x :: a
  | x :: a, y :: b => if aheadL x y = true then x :: mergeL a (y :: b) else if x = y then x :: mergeL a b else y :: mergeL (x :: a) b
  termination_by a b => a.length + b.length
theorem merge_nil (b : List Pr) : mergeL [] b = b := by rw [mergeL]
theorem merge_nil2 (a : List Pr) : mergeL a [] = a := by cases a <;> rw [mergeL]
theorem merge_lt {x y : Pr} (a b : List Pr) (h : ordL x y = -1) : mergeL (x :: a) (y :: b) = x :: mergeL a (y :: b) := by
  rw [mergeL]
  rcases ord_cases x y with ⟨p, q⟩ | ⟨p, q⟩ | ⟨p, q⟩
  · rw [if_pos p]
  · omega
  · omega
theorem merge_eq {x y : Pr} (a b : List Pr) (h : ordL x y = 0) : mergeL (x :: a) (y :: b) = x :: mergeL a b := by
  rw [mergeL]
  rcases ord_cases x y with ⟨p, q⟩ | ⟨p, q⟩ | ⟨p, q⟩
  · omega
  · subst p
    rw [if_neg (by rw [ahead_irr]; exact Bool.false_ne_true), if_pos rfl]
  · omega
theorem ahead_not {x y : Pr} (h : aheadL x y = true) : aheadL y x = false ∧ x ≠ y := by
  have hn : x ≠ y := fun e => by rw [e, ahead_irr] at h; cases h
  refine ⟨?_, hn⟩
  cases hy : aheadL y x with
  | false => rfl
  | true => have := ahead_trans h hy; rw [ahead_irr] at this; cases this
theorem merge_gt {x y : Pr} (a b : List Pr) (h : ordL x y = 1) : mergeL (x :: a) (y :: b) = y :: mergeL (x :: a) b := by
  rw [mergeL]
  rcases ord_cases x y with ⟨p, q⟩ | ⟨p, q⟩ | ⟨p, q⟩
  · omega
  · omega
  · obtain ⟨h1, h2⟩ := ahead_not p
    rw [if_neg (by rw [h1]; exact Bool.false_ne_true), if_neg (fun e => h2 e.symm)]
theorem merge_mem (q : Pr) : ∀ a b : List Pr, q ∈ mergeL a b ↔ q ∈ a ∨ q ∈ b
  | [], b => by rw [merge_nil]; simp
  | x :: a, [] => by rw [merge_nil2]; simp
  | x :: a, y :: b => by
    rcases ord_cases x y with ⟨p, h⟩ | ⟨p, h⟩ | ⟨p, h⟩
    · rw [merge_lt a b h, List.mem_cons, merge_mem q a (y :: b), List.mem_cons, List.mem_cons, or_assoc]
    · subst p
      rw [merge_eq a b h, List.mem_cons, merge_mem q a b, List.mem_cons, List.mem_cons]
      constructor
      · rintro (h | h | h)
        · exact .inl (.inl h)
        · exact .inl (.inr h)
        · exact .inr (.inr h)
      · rintro ((h | h) | h | h)
        · exact .inl h
        · exact .inr (.inl h)
        · exact .inl h
        · exact .inr (.inr h)
    · rw [merge_gt a b h, List.mem_cons, merge_mem q (x :: a) b, List.mem_cons (b := y)]
      constructor
      · rintro (h | h | h)
        · exact .inr (.inl h)
        · exact .inl h
        · exact .inr (.inr h)
      · rintro (h | h | h)
        · exact .inr (.inl h)
        · exact .inl h
        · exact .inr (.inr h)
  termination_by a b => a.length + b.length
theorem merge_sort : ∀ a b : List Pr, SortL a → SortL b → SortL (mergeL a b)
  | [], b, _, hb => by rw [merge_nil]; exact hb
  | x :: a, [], ha, _ => by rw [merge_nil2]; exact ha
  | x :: a, y :: b, ha, hb => by
    obtain ⟨a1, a2⟩ := List.pairwise_cons.1 ha
    obtain ⟨b1, b2⟩ := List.pairwise_cons.1 hb
    rcases ord_cases x y with ⟨p, h⟩ | ⟨p, h⟩ | ⟨p, h⟩
    · rw [merge_lt a b h]
      refine List.pairwise_cons.2 ⟨fun q hq => ?_, merge_sort a (y :: b) a2 hb⟩
      rcases (merge_mem q _ _).1 hq with h | h
      · exact a1 q h
      · rcases List.mem_cons.1 h with rfl | h
        · exact p
        · exact ahead_trans p (b1 q h)
    · subst p
      rw [merge_eq a b h]
      refine List.pairwise_cons.2 ⟨fun q hq => ?_, merge_sort a b a2 b2⟩
      exact ((merge_mem q _ _).1 hq).elim (a1 q) (b1 q)
    · rw [merge_gt a b h]
      refine List.pairwise_cons.2 ⟨fun q hq => ?_, merge_sort (x :: a) b ha b2⟩
      rcases (merge_mem q _ _).1 hq with h | h
      · rcases List.mem_cons.1 h with rfl | h
        · exact p
        · exact ahead_trans p (a1 q h)
      · exact b1 q h
  termination_by a b => a.length + b.length
theorem merge_of (a b : List Pr) : mergeL (ofL a) (ofL b) = unionL a b := by
  rw [union_of]
  refine sort_ext _ _ (merge_sort _ _ (of_sort a) (of_sort b)) (of_sort _) fun q => ?_
  rw [merge_mem, of_mem, of_mem, of_mem, List.mem_append]
theorem of_one : ∀ l : List Pr, l.length < 2 → ofL l = l
  | [], _ => rfl
  | [x], _ => rfl
  | _ :: _ :: _, h => by simp at h; omega
theorem of_halves (l : List Pr) (k : Nat) : unionL (l.take k) (l.drop k) = ofL l := by rw [union_of, List.take_append_drop]
theorem merge_len : ∀ a b : List Pr, (mergeL a b).length ≤ a.length + b.length
  | [], b => by rw [merge_nil]; simp
  | x :: a, [] => by rw [merge_nil2]; simp
  | x :: a, y :: b => by
    rcases ord_cases x y with ⟨p, h⟩ | ⟨p, h⟩ | ⟨p, h⟩
    · rw [merge_lt a b h]; have := merge_len a (y :: b); simp at this ⊢; omega
    · rw [merge_eq a b h]; have := merge_len a b; simp at this ⊢; omega
    · rw [merge_gt a b h]; have := merge_len (x :: a) b; simp at this ⊢; omega
  termination_by a b => a.length + b.length
end Go.Proofs.Ytckhhphchphmlaa
