/-
  Layer 5, plain mathematics: propositions in order, each once; atoms; names.
-/
import Derived.Test.YtiflpjdiokloaaaDoorProg
namespace Go.Proofs.YtiflpjdiokloaaaDoor
set_option linter.unusedVariables false

/-! Texts in order. -/
theorem less_irr : ∀ a : List UInt8, Op.bytesLess a a = false
  | [] => rfl
  | x :: a => by simp [Op.bytesLess, less_irr a]
theorem less_trans : ∀ a b c : List UInt8, Op.bytesLess a b = true → Op.bytesLess b c = true → Op.bytesLess a c = true
  | _, [], _, h, _ => by cases ‹List UInt8› <;> simp [Op.bytesLess] at h
  | _, _ :: _, [], _, h => by simp [Op.bytesLess] at h
  | [], _ :: _, _ :: _, _, _ => rfl
  | x :: a, y :: b, z :: c, h, k => by
    simp only [Op.bytesLess, Bool.or_eq_true, Bool.and_eq_true, decide_eq_true_eq, beq_iff_eq] at h k ⊢
    rcases h with h | ⟨rfl, h⟩
    · rcases k with k | ⟨rfl, k⟩
      · exact .inl (UInt8.lt_trans h k)
      · exact .inl h
    · rcases k with k | ⟨rfl, k⟩
      · exact .inl k
      · exact .inr ⟨rfl, less_trans a b c h k⟩
theorem less_total : ∀ a b : List UInt8, Op.bytesLess a b = true ∨ a = b ∨ Op.bytesLess b a = true
  | [], [] => .inr (.inl rfl)
  | [], _ :: _ => .inl rfl
  | _ :: _, [] => .inr (.inr rfl)
  | x :: a, y :: b => by
    simp only [Op.bytesLess, Bool.or_eq_true, Bool.and_eq_true, decide_eq_true_eq, beq_iff_eq, List.cons.injEq]
    rcases Nat.lt_trichotomy x.toNat y.toNat with h | h | h
    · exact .inl (.inl (UInt8.lt_iff_toNat_lt.2 h))
    · have e := UInt8.toNat_inj.1 h
      subst e
      rcases less_total a b with h | h | h
      · exact .inl (.inr ⟨rfl, h⟩)
      · exact .inr (.inl ⟨rfl, h⟩)
      · exact .inr (.inr (.inr ⟨rfl, h⟩))
    · exact .inr (.inr (.inl (UInt8.lt_iff_toNat_lt.2 h)))

/-- A proposition. -/
structure Pr where
  name : List UInt8
  val : Int
  deriving DecidableEq
/-- One stands ahead of another. -/
def aheadL (a b : Pr) : Bool := Op.bytesLess a.name b.name || (a.name == b.name && decide (a.val < b.val))
theorem ahead_irr (a : Pr) : aheadL a a = false := by simp [aheadL, less_irr]
theorem ahead_trans {a b c : Pr} (h : aheadL a b = true) (k : aheadL b c = true) : aheadL a c = true := by
  simp only [aheadL, Bool.or_eq_true, Bool.and_eq_true, decide_eq_true_eq, beq_iff_eq] at h k ⊢
  rcases h with h | ⟨e, h⟩
  · rcases k with k | ⟨f, k⟩
    · exact .inl (less_trans _ _ _ h k)
    · rw [f] at h; exact .inl h
  · rw [e]
    rcases k with k | ⟨f, k⟩
    · exact .inl k
    · exact .inr ⟨f, by omega⟩
theorem ahead_total (a b : Pr) : aheadL a b = true ∨ a = b ∨ aheadL b a = true := by
  obtain ⟨n, v⟩ := a
  obtain ⟨m, u⟩ := b
  simp only [aheadL, Bool.or_eq_true, Bool.and_eq_true, decide_eq_true_eq, beq_iff_eq, Pr.mk.injEq]
  rcases less_total n m with h | h | h
  · exact .inl (.inl h)
  · subst h
    rcases Int.lt_trichotomy v u with h | h | h
    · exact .inl (.inr ⟨rfl, h⟩)
    · exact .inr (.inl ⟨rfl, h⟩)
    · exact .inr (.inr (.inr ⟨rfl, h⟩))
  · exact .inr (.inr (.inl h))
/-- One more, in order. -/
def putL : List Pr → Pr → List Pr
  | [], p => [p]
  | x :: l, p => if aheadL x p = true then x :: putL l p else if x = p then x :: l else p :: x :: l
def ofL (l : List Pr) : List Pr := l.foldl putL []
def unionL (a b : List Pr) : List Pr := b.foldl putL (ofL a)
theorem union_of (a b : List Pr) : unionL a b = ofL (a ++ b) := by simp [unionL, ofL]
theorem of_snoc (l : List Pr) (p : Pr) : ofL (l ++ [p]) = putL (ofL l) p := by simp [ofL]
theorem of_nil : ofL [] = [] := rfl
theorem put_mem (p q : Pr) : ∀ l : List Pr, q ∈ putL l p ↔ q ∈ l ∨ q = p
  | [] => by simp [putL]
  | x :: l => by
    unfold putL
    split
    · rw [List.mem_cons, List.mem_cons, put_mem p q l]
      constructor
      · rintro (h | h | h)
        · exact .inl (.inl h)
        · exact .inl (.inr h)
        · exact .inr h
      · rintro ((h | h) | h)
        · exact .inl h
        · exact .inr (.inl h)
        · exact .inr (.inr h)
    · split
      · rename_i h
        subst h
        simp only [List.mem_cons]
        constructor
        · exact .inl
        · rintro (h | h)
          · exact h
          · exact .inl h
      · simp only [List.mem_cons]
        constructor
        · rintro (h | h)
          · exact .inr h
          · exact .inl h
        · rintro (h | h)
          · exact .inr h
          · exact .inl h
theorem of_mem (q : Pr) (l : List Pr) : q ∈ ofL l ↔ q ∈ l := by
  suffices h : ∀ (l m : List Pr), q ∈ l.foldl putL m ↔ q ∈ m ∨ q ∈ l by
    have := h l []
    simpa [ofL] using this
  intro l
  induction l with
  | nil => simp
  | cons x l ih =>
    intro m
    rw [List.foldl_cons, ih, put_mem, List.mem_cons, or_assoc]
/-- In order, each once. -/
def SortL (l : List Pr) : Prop := l.Pairwise fun a b => aheadL a b = true
theorem put_sort (p : Pr) : ∀ l : List Pr, SortL l → SortL (putL l p)
  | [], _ => List.pairwise_singleton _ _
  | x :: l, h => by
    obtain ⟨h1, h2⟩ := List.pairwise_cons.1 h
    unfold putL
    split
    · rename_i hx
      refine List.pairwise_cons.2 ⟨fun q hq => ?_, put_sort p l h2⟩
      rcases (put_mem p q l).1 hq with hq | rfl
      · exact h1 q hq
      · exact hx
    · rename_i hx
      split
      · exact h
      · rename_i hne
        have hpx : aheadL p x = true := by
          rcases ahead_total x p with k | k | k
          · exact absurd k hx
          · exact absurd k hne
          · exact k
        refine List.pairwise_cons.2 ⟨fun q hq => ?_, h⟩
        rcases List.mem_cons.1 hq with rfl | hq
        · exact hpx
        · exact ahead_trans hpx (h1 q hq)
theorem of_sort (l : List Pr) : SortL (ofL l) := by
  suffices h : ∀ (l m : List Pr), SortL m → SortL (l.foldl putL m) from h l [] List.Pairwise.nil
  intro l
  induction l with
  | nil => exact fun _ h => h
  | cons x l ih => exact fun m h => ih _ (put_sort x m h)
/-- Two of them with the same propositions are one. -/
theorem sort_ext : ∀ (l m : List Pr), SortL l → SortL m → (∀ q, q ∈ l ↔ q ∈ m) → l = m
  | [], [], _, _, _ => rfl
  | [], y :: m, _, _, h => by have := (h y).2 List.mem_cons_self; cases this
  | x :: l, [], _, _, h => by have := (h x).1 List.mem_cons_self; cases this
  | x :: l, y :: m, hl, hm, h => by
    obtain ⟨l1, l2⟩ := List.pairwise_cons.1 hl
    obtain ⟨m1, m2⟩ := List.pairwise_cons.1 hm
    have hxy : x = y := by
      rcases List.mem_cons.1 ((h x).1 List.mem_cons_self) with e | e
      · exact e
      · rcases List.mem_cons.1 ((h y).2 List.mem_cons_self) with f | f
        · exact f.symm
        · have := ahead_trans (m1 x e) (l1 y f)
          rw [ahead_irr] at this; cases this
    subst hxy
    congr 1
    refine sort_ext l m l2 m2 fun q => ⟨fun hq => ?_, fun hq => ?_⟩
    · rcases List.mem_cons.1 ((h q).1 (List.mem_cons_of_mem _ hq)) with e | e
      · subst e; have := l1 q hq; rw [ahead_irr] at this; cases this
      · exact e
    · rcases List.mem_cons.1 ((h q).2 (List.mem_cons_of_mem _ hq)) with e | e
      · subst e; have := m1 q hq; rw [ahead_irr] at this; cases this
      · exact e
theorem of_ext {a b : List Pr} (h : ∀ q, q ∈ a ↔ q ∈ b) : ofL a = ofL b := sort_ext _ _ (of_sort a) (of_sort b) fun q => by rw [of_mem, of_mem]; exact h q
theorem put_len (p : Pr) : ∀ l : List Pr, (putL l p).length ≤ l.length + 1
  | [] => Nat.le_refl _
  | x :: l => by
    unfold putL
    split
    · have := put_len p l; simp only [List.length_cons]; omega
    · split <;> simp only [List.length_cons] <;> omega
theorem of_len (l : List Pr) : (ofL l).length ≤ l.length := by
  suffices h : ∀ (l m : List Pr), (l.foldl putL m).length ≤ m.length + l.length by
    have := h l []
    simpa [ofL] using this
  intro l
  induction l with
  | nil => intro m; simp
  | cons x l ih =>
    intro m
    have h1 := ih (putL m x)
    have h2 := put_len x m
    rw [List.foldl_cons, List.length_cons]
    omega
theorem union_len (a b : List Pr) : (unionL a b).length ≤ a.length + b.length := by
  rw [union_of]
  have := of_len (a ++ b)
  rw [List.length_append] at this
  exact this

/-! What the law LabelUnion asks. -/
theorem union_assoc (a b c : List Pr) : unionL (unionL a b) c = unionL a (unionL c b) := by
  rw [union_of, union_of, union_of, union_of]
  refine of_ext fun q => ?_
  rw [List.mem_append, of_mem, List.mem_append, List.mem_append, of_mem, List.mem_append]
  constructor
  · rintro ((h | h) | h)
    · exact .inl h
    · exact .inr (.inr h)
    · exact .inr (.inl h)
  · rintro (h | h | h)
    · exact .inl (.inl h)
    · exact .inr h
    · exact .inl (.inr h)
theorem union_self (a : List Pr) : unionL a a = ofL a := by
  rw [union_of]
  exact of_ext fun q => by rw [List.mem_append, or_self]
theorem union_nil (a : List Pr) : unionL [] a = ofL a := by rw [union_of, List.nil_append]

/-! Atoms. -/
def meetsL (v op u : Int) : Bool :=
  if op = 0 then true else if op = 1 then v == u else if op = 2 then v != u else if op = 3 then decide (v < u) else if op = 4 then decide (v ≤ u) else if op = 5 then decide (u < v) else op == 6 && decide (u ≤ v)
def holdsL (l : List Pr) (n : List UInt8) (op u : Int) : Bool := l.any fun p => p.name == n && meetsL p.val op u
theorem holds_ext {a b : List Pr} (h : ∀ q, q ∈ a ↔ q ∈ b) (n : List UInt8) (op u : Int) : holdsL a n op u = holdsL b n op u := by
  unfold holdsL
  rw [Bool.eq_iff_iff, List.any_eq_true, List.any_eq_true]
  constructor
  · rintro ⟨q, hq, hx⟩; exact ⟨q, (h q).1 hq, hx⟩
  · rintro ⟨q, hq, hx⟩; exact ⟨q, (h q).2 hq, hx⟩
theorem holds_of (a : List Pr) (n : List UInt8) (op u : Int) : holdsL (ofL a) n op u = holdsL a n op u := holds_ext (fun q => of_mem q a) n op u
theorem holds_union (a b : List Pr) (n : List UInt8) (op u : Int) : holdsL (unionL a b) n op u = (holdsL a n op u || holdsL b n op u) := by
  rw [union_of, holds_of]
  unfold holdsL
  rw [List.any_append]
theorem holds_one (p : Pr) (n : List UInt8) (op u : Int) : holdsL [p] n op u = (p.name == n && meetsL p.val op u) := by simp [holdsL]
/-- What the law LabelOpposite asks. -/
theorem opposite (p : Pr) (v : Int) (o : List UInt8) :
    ((if holdsL [p] p.name 3 v then 1 else 0) + (if holdsL [p] p.name 1 v then 1 else 0) + (if holdsL [p] p.name 5 v then 1 else 0) : Nat) = 1 ∧ holdsL [p] p.name 4 v = !holdsL [p] p.name 5 v ∧ holdsL [p] p.name 6 v = !holdsL [p] p.name 3 v ∧ holdsL [p] p.name 2 v = (holdsL [p] p.name 3 v || holdsL [p] p.name 5 v) ∧ holdsL [p] o 0 0 = (o == p.name) := by
  simp only [holds_one, beq_self_eq_true, Bool.true_and, meetsL]
  have h0 : (p.name == o) = (o == p.name) := by rw [Bool.eq_iff_iff, beq_iff_eq, beq_iff_eq]; exact eq_comm
  rcases Int.lt_trichotomy p.val v with h | h | h
  · have h1 : ¬ v < p.val := by omega
    have h2 : p.val ≤ v := by omega
    have h3 : ¬ v ≤ p.val := by omega
    have h4 : ¬ p.val = v := by omega
    simp [h, h1, h2, h3, h4, h0]
  · subst h
    simp [h0]
  · have h1 : ¬ p.val < v := by omega
    have h2 : ¬ p.val ≤ v := by omega
    have h3 : v ≤ p.val := by omega
    have h4 : ¬ p.val = v := by omega
    simp [h, h1, h2, h3, h4, h0]

/-! Names. -/
def letterL (c : UInt8) : Bool := decide (97 ≤ c.toNat) && decide (c.toNat ≤ 122)
def otherL (c : UInt8) : Bool := decide (48 ≤ c.toNat) && decide (c.toNat ≤ 57) || c.toNat == 95
def nameL (s : List UInt8) : Bool :=
  match s with
  | [] => false
  | c :: r => decide (r.length ≤ 11) && (c :: r != [116, 114, 117, 101]) && (c :: r != [102, 97, 108, 115, 101]) && letterL c && r.all fun x => letterL x || otherL x
/-- The k-th one's name is a name, and it stands behind the one ahead of it, if there is one. -/
def rightAt (l : List Pr) (k : Nat) : Bool := nameL (l.getD k ⟨[], 0⟩).name && (k == 0 || aheadL (l.getD (k - 1) ⟨[], 0⟩) (l.getD k ⟨[], 0⟩))
def rightTo (l : List Pr) (k : Nat) : Bool := (List.range k).all (rightAt l)
def rightL (l : List Pr) : Bool := rightTo l l.length
theorem right_next (l : List Pr) (k : Nat) : rightTo l (k + 1) = (rightTo l k && rightAt l k) := by
  unfold rightTo
  rw [List.range_succ, List.all_append]
  simp
theorem right_bad (l : List Pr) (k : Nat) (hk : k < l.length) (h : rightAt l k = false) : rightL l = false := by
  unfold rightL rightTo
  rw [List.all_eq_false]
  exact ⟨k, List.mem_range.2 hk, by rw [h]; decide⟩
end Go.Proofs.YtiflpjdiokloaaaDoor
