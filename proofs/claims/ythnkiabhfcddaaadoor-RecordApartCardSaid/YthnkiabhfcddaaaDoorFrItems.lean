/-
  Layer 4: slices of the program's items; what comes of bytes in pieces.
-/
import Derived.Test.YthnkiabhfcddaaaDoorPackL
import Derived.Test.YthnkiabhfcddaaaDoorPackN
namespace Go.Proofs.YthnkiabhfcddaaaDoor
open Go.RowKit
set_option linter.unusedVariables false

/-- The program's items as cells; a body is a slice. -/
def cellsF : List It → List Value → List Value
  | x :: l, b :: bs => .int .i64 (x.skip : Int) :: .int .u8 (x.kind.toNat : Int) :: b :: cellsF l bs
  | _, _ => []
theorem cellsF_length : ∀ (l : List It) (bs : List Value), bs.length = l.length → (cellsF l bs).length = l.length * 3
  | [], _, _ => rfl
  | _ :: _, [], h => by simp at h
  | x :: l, b :: bs, h => by
    simp only [cellsF, List.length_cons]
    rw [cellsF_length l bs (by simpa using h)]
    omega
theorem cellsF_append : ∀ (l m : List It) (bs cs : List Value), bs.length = l.length → cellsF (l ++ m) (bs ++ cs) = cellsF l bs ++ cellsF m cs
  | [], _, [], _, _ => rfl
  | [], _, _ :: _, _, h => by simp at h
  | _ :: _, _, [], _, h => by simp at h
  | x :: l, m, b :: bs, cs, h => by
    simp only [List.cons_append, cellsF]
    rw [cellsF_append l m bs cs (by simpa using h)]
/-- The cells of the i-th item. -/
theorem cellsF_at : ∀ (l : List It) (bs : List Value) (i : Nat) (hl : bs.length = l.length) (h : i < l.length), (cellsF l bs)[i * 3]? = some (.int .i64 (l[i].skip : Int)) ∧ (cellsF l bs)[i * 3 + 1]? = some (.int .u8 (l[i].kind.toNat : Int)) ∧ (cellsF l bs)[i * 3 + 2]? = bs[i]?
  | [], _, _, _, h => by simp at h
  | _ :: _, [], _, h, _ => by simp at h
  | x :: l, b :: bs, 0, _, _ => by simp [cellsF]
  | x :: l, b :: bs, i + 1, hl, h => by
    have ih := cellsF_at l bs i (by simpa using hl) (by simpa using h)
    have e : (i + 1) * 3 = i * 3 + 3 := by omega
    simp only [cellsF, e, List.getElem_cons_succ, List.getElem?_cons_succ]
    exact ih
/-- The value v is a slice of the program's items, in blocks below B. -/
def SeqF (w : World) (B : Nat) (v : Value) (l : List It) : Prop :=
  ∃ bs : List Value, bs.length = l.length ∧ Seq w B 3 v l.length (cellsF l bs) ∧ ∀ i (h : i < l.length) u, bs[i]? = some u → LiesB w B u l[i].body
section
variable {w w' : World} {B : Nat} {v : Value} {l : List It}
theorem SeqF.keep (h : SeqF w B v l) (hb : ∀ k, k < B → w'.heap[k]? = w.heap[k]?) : SeqF w' B v l := by
  obtain ⟨bs, h0, h1, h2⟩ := h
  exact ⟨bs, h0, h1.keep hb, fun i hi u hu => (h2 i hi u hu).keep hb⟩
theorem SeqF.more {B' : Nat} (h : SeqF w B v l) (hB : B ≤ B') : SeqF w B' v l := by
  obtain ⟨bs, h0, h1, h2⟩ := h
  exact ⟨bs, h0, h1.more hB, fun i hi u hu => (h2 i hi u hu).more hB⟩
theorem SeqF.over (h : SeqF w B v l) (hB : B ≤ w.heap.size) (hb : Below w.heap.size w w') : SeqF w' w'.heap.size v l := (h.keep fun k hk => hb.block k (by omega)).more (Nat.le_trans hB hb.size)
/-- The i-th of them. -/
theorem SeqF.at_ (h : SeqF w B v l) (i : Nat) (hi : i < l.length) : ∃ b off c A m, v = .slice (some ⟨b, off, none⟩) l.length c ∧ b < B ∧ w.cell? ⟨b, off + i * 3, none⟩ = some (.int .i64 (l[i].skip : Int)) ∧ w.cell? ⟨b, off + i * 3 + 1, none⟩ = some (.int .u8 (l[i].kind.toNat : Int)) ∧ w.cell? ⟨b, off + i * 3 + 2, none⟩ = some (.slice A l[i].body.length m) ∧ Row w B A (bc l[i].body) := by
  obtain ⟨bs, h0, h1, h2⟩ := h
  rcases h1.2 with ⟨_, h3⟩ | ⟨b, off, c, e, hn, hb, hc⟩
  · omega
  · obtain ⟨q0, q1, q2⟩ := cellsF_at l bs i h0 hi
    have hv : bs[i]? = some (bs[i]'(by omega)) := List.getElem?_eq_getElem (by omega)
    obtain ⟨A, m, e2, r1, _⟩ := liesB_row (h2 i hi _ hv)
    refine ⟨b, off, c, A, m, e, hb, hc _ _ q0, ?_, ?_, r1⟩
    · rw [Nat.add_assoc]; exact hc _ _ q1
    · rw [Nat.add_assoc, hc _ _ (q2.trans hv), e2]
theorem SeqF.open_ (h : SeqF w B v l) : ∃ A c, v = .slice A l.length c ∧ l.length ≤ c := by
  obtain ⟨bs, _, h1, _⟩ := h
  obtain ⟨A, c, e, hn, _⟩ := h1.open_
  exact ⟨A, c, e, hn⟩
end

/-- All but the first one. -/
theorem SeqF.tail {w : World} {B b off n c : Nat} {x : It} {l : List It} (h : SeqF w B (.slice (some ⟨b, off, none⟩) n c) (x :: l)) (o2 : Nat) (ho : o2 = off + 3 ∨ c = 1 ∧ o2 = off) : SeqF w B (.slice (some ⟨b, o2, none⟩) (n - 1) (c - 1)) l := by
  obtain ⟨bs, h0, h1, h2⟩ := h
  match bs, h0 with
  | b0 :: bs, h0 =>
    rcases h1.2 with ⟨h, _⟩ | ⟨b', off', c', e, hnc, hb, hc⟩
    · cases h
    · simp only [Value.slice.injEq, Option.some.injEq, Addr.mk.injEq] at e
      obtain ⟨⟨rfl, rfl, _⟩, hl, rfl⟩ := e
      have hn : n - 1 = l.length := by rw [hl]; simp
      refine ⟨bs, by simpa using h0, ⟨cellsF_length l bs (by simpa using h0), .inr ⟨b, o2, c - 1, by rw [hn], by simp only [List.length_cons] at hnc; omega, hb, fun i u hu => ?_⟩⟩, fun i hi u hu => h2 (i + 1) (by simp; omega) u (by simpa using hu)⟩
      rcases ho with rfl | ⟨h1, rfl⟩
      · have := hc (i + 3) u (by simpa [cellsF] using hu)
        rw [show off + 3 + i = off + (i + 3) by omega]
        exact this
      · have hi : i < l.length * 3 := by rw [← cellsF_length l bs (by simpa using h0)]; exact (List.getElem?_eq_some_iff.1 hu).1
        simp only [List.length_cons] at hnc
        omega
/-! What comes of bytes in pieces. -/
def giveAll (ls : List (List UInt8)) : DS := ls.foldl giveS newS
theorem giveAll_snoc (ls : List (List UInt8)) (b : List UInt8) : giveAll (ls ++ [b]) = giveS (giveAll ls) b := by simp [giveAll]
theorem giveAll_eq : ∀ (n : Nat) (ls : List (List UInt8)), ls.length = n → giveAll ls = ⟨(passF false ls.flatten 0).1, (passF false ls.flatten 0).2.1, (passF false ls.flatten 0).2.2, false⟩
  | 0, [], _ => by simp [giveAll, newS, pass_nil]
  | n + 1, ls, h => by
    have hne : ls ≠ [] := by intro e; subst e; simp at h
    obtain ⟨l, x, rfl⟩ : ∃ l x, ls = l ++ [x] := ⟨ls.dropLast, ls.getLast hne, (List.dropLast_concat_getLast hne).symm⟩
    rw [giveAll_snoc, giveAll_eq n l (by simpa using h), List.flatten_append, List.flatten_singleton]
    rw [pass_append false x _ l.flatten 0 (Nat.le_refl _)]
    rfl
theorem giveAll_small (ls : List (List UInt8)) : (giveAll ls).wait.length ≤ lenB ls ∧ (giveAll ls).skip ≤ lenB ls ∧ (giveAll ls).items.length ≤ lenB ls := by
  rw [giveAll_eq _ ls rfl]
  have := pass_small false ls.flatten 0
  rw [lenB_flatten] at this
  dsimp only
  exact ⟨by omega, by omega, by omega⟩
theorem end_all (ls : List (List UInt8)) : (endS (giveAll ls)).items = allI ls.flatten := by
  rw [giveAll_eq _ ls rfl]
  have h := pass_append true [] _ ls.flatten 0 (Nat.le_refl _)
  rw [List.append_nil, List.append_nil] at h
  unfold endS allI
  rw [h]
  simp
theorem all_len (b : List UInt8) : (allI b).length ≤ b.length := by
  have h := sumI_len (allI b)
  rw [all_sum] at h
  exact h
end Go.Proofs.YthnkiabhfcddaaaDoor
