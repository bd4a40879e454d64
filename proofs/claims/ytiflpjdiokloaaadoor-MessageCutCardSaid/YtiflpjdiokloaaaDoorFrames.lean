/-
  Layer 4: slices of the program's frames.
-/
import Derived.Test.YtiflpjdiokloaaaDoorTouch
import Derived.Test.YtiflpjdiokloaaaDoorPackL
namespace Go.Proofs.YtiflpjdiokloaaaDoor
open Go.RowKit
set_option linter.unusedVariables false

/-- Frames as cells; a body is a slice. -/
def cells2 : List (UInt8 × List UInt8) → List Value → List Value
  | x :: l, b :: bs => .int .u8 (x.1.toNat : Int) :: b :: cells2 l bs
  | _, _ => []
theorem cells2_length : ∀ (l : List (UInt8 × List UInt8)) (bs : List Value), bs.length = l.length → (cells2 l bs).length = l.length * 2
  | [], _, _ => rfl
  | _ :: _, [], h => by simp at h
  | x :: l, b :: bs, h => by
    simp only [cells2, List.length_cons]
    rw [cells2_length l bs (by simpa using h)]
    omega
theorem cells2_at : ∀ (l : List (UInt8 × List UInt8)) (bs : List Value) (i : Nat) (hl : bs.length = l.length) (h : i < l.length), (cells2 l bs)[i * 2]? = some (.int .u8 (l[i].1.toNat : Int)) ∧ (cells2 l bs)[i * 2 + 1]? = bs[i]?
  | [], _, _, _, h => by simp at h
  | _ :: _, [], _, h, _ => by simp at h
  | x :: l, b :: bs, 0, _, _ => by simp [cells2]
  | x :: l, b :: bs, i + 1, hl, h => by
    have ih := cells2_at l bs i (by simpa using hl) (by simpa using h)
    have e : (i + 1) * 2 = i * 2 + 2 := by omega
    simp only [cells2, e, List.getElem_cons_succ, List.getElem?_cons_succ]
    exact ih
/-- The value v is a slice of frames, in blocks below B. -/
def SeqP (w : World) (B : Nat) (v : Value) (l : List (UInt8 × List UInt8)) : Prop :=
  ∃ bs : List Value, bs.length = l.length ∧ SeqA w B 2 v l.length (cells2 l bs) ∧ ∀ i (h : i < l.length) u, bs[i]? = some u → LiesB w B u l[i].2
section
variable {w w' : World} {B : Nat} {v : Value} {l : List (UInt8 × List UInt8)}
theorem SeqP.keep (h : SeqP w B v l) (hb : ∀ k, k < B → w'.heap[k]? = w.heap[k]?) : SeqP w' B v l := by
  obtain ⟨bs, h0, h1, h2⟩ := h
  exact ⟨bs, h0, h1.keep hb, fun i hi u hu => (h2 i hi u hu).keep hb⟩
theorem SeqP.more {B' : Nat} (h : SeqP w B v l) (hB : B ≤ B') : SeqP w B' v l := by
  obtain ⟨bs, h0, h1, h2⟩ := h
  exact ⟨bs, h0, h1.more hB, fun i hi u hu => (h2 i hi u hu).more hB⟩
theorem SeqP.over (h : SeqP w B v l) (hB : B ≤ w.heap.size) (hb : Below w.heap.size w w') : SeqP w' w'.heap.size v l := (h.keep fun k hk => hb.block k (by omega)).more (Nat.le_trans hB hb.size)
theorem SeqP.open_ (h : SeqP w B v l) : ∃ A c, v = .slice A l.length c ∧ l.length ≤ c := by
  obtain ⟨bs, _, h1, _⟩ := h
  exact h1.open_
/-- The i-th of them, in each later world. -/
theorem SeqP.in_ (h : SeqP w w.heap.size v l) (i : Nat) (hi : i < l.length) : ∃ b off c A m, v = .slice (some ⟨b, off, none⟩) l.length c ∧ l[i].2.length ≤ m ∧ (A = none → m = 0) ∧ ∀ w', Below w.heap.size w w' → w'.cell? ⟨b, off + i * 2, none⟩ = some (.int .u8 (l[i].1.toNat : Int)) ∧ w'.cell? ⟨b, off + i * 2 + 1, none⟩ = some (.slice A l[i].2.length m) ∧ Row w' w'.heap.size A (bc l[i].2) := by
  obtain ⟨bs, h0, h1, h2⟩ := h
  rcases h1.2 with ⟨h3, _⟩ | ⟨b, off, c, e, hn, hb, hc⟩
  · omega
  · obtain ⟨q0, q1⟩ := cells2_at l bs i h0 hi
    have hv : bs[i]? = some (bs[i]'(by omega)) := List.getElem?_eq_getElem (by omega)
    obtain ⟨A, m, e2, r1, r2, r3⟩ := liesB_row (h2 i hi _ hv)
    refine ⟨b, off, c, A, m, e, r2, r3, fun w' hw => ⟨?_, ?_, (r1.below_ hw).more hw.size⟩⟩
    · rw [(hw.cell (p := ⟨b, off + i * 2, none⟩) hb : w'.cell? ⟨b, off + i * 2, none⟩ = _)]
      exact hc _ _ q0
    · rw [(hw.cell (p := ⟨b, off + i * 2 + 1, none⟩) hb : w'.cell? ⟨b, off + i * 2 + 1, none⟩ = _), Nat.add_assoc, hc _ _ (q1.trans hv), e2]
end
/-- The i-th of them, in each later world, and where its body lies. -/
theorem SeqP.all_ {w : World} {v : Value} {l : List (UInt8 × List UInt8)} (h : SeqP w w.heap.size v l) (i : Nat) (hi : i < l.length) : ∃ b off c A m, v = .slice (some ⟨b, off, none⟩) l.length c ∧ ∀ w', Below w.heap.size w w' → w'.cell? ⟨b, off + i * 2, none⟩ = some (.int .u8 (l[i].1.toNat : Int)) ∧ w'.cell? ⟨b, off + i * 2 + 1, none⟩ = some (.slice A l[i].2.length m) ∧ LiesIn w' (fun k => k < w.heap.size) (.slice A l[i].2.length m) l[i].2 ∧ (convert 31 9 (.slice A l[i].2.length m)).run Tryd.prog w' = .ok (.string (mkB l[i].2)) w' := by
  obtain ⟨bs, h0, h1, h2⟩ := h
  rcases h1.2 with ⟨h3, _⟩ | ⟨b, off, c, e, hn, hb, hc⟩
  · omega
  · obtain ⟨q0, q1⟩ := cells2_at l bs i h0 hi
    have hv : bs[i]? = some (bs[i]'(by omega)) := List.getElem?_eq_getElem (by omega)
    have hL := h2 i hi _ hv
    obtain ⟨A, m, e2, r1, _⟩ := liesB_row hL
    refine ⟨b, off, c, A, m, e, fun w' hw => ⟨?_, ?_, ?_, run_str_any m (r1.below_ hw)⟩⟩
    · rw [(hw.cell (p := ⟨b, off + i * 2, none⟩) hb : w'.cell? ⟨b, off + i * 2, none⟩ = _)]
      exact hc _ _ q0
    · rw [(hw.cell (p := ⟨b, off + i * 2 + 1, none⟩) hb : w'.cell? ⟨b, off + i * 2 + 1, none⟩ = _), Nat.add_assoc, hc _ _ (q1.trans hv), e2]
    · rw [← e2]; exact hL.keep fun k hk => hw.block k hk
def smallF (l : List (UInt8 × List UInt8)) : Bool := l.all fun f => decide (f.2.length ≤ 256)
theorem smallF_iff (l : List (UInt8 × List UInt8)) : smallF l = true ↔ ∀ f ∈ l, f.2.length ≤ 256 := by simp [smallF]
theorem putsF_snoc (l : List (UInt8 × List UInt8)) (f : UInt8 × List UInt8) : putsF (l ++ [f]) = putsF l ++ putF f.1 f.2 := by simp [putsF]
theorem putsF_len (l : List (UInt8 × List UInt8)) (h : ∀ f ∈ l, f.2.length ≤ 256) : (putsF l).length ≤ 263 * l.length := by
  induction l with
  | nil => simp [putsF]
  | cons x l ih =>
    have h1 := ih fun f hf => h f (by simp [hf])
    have h2 := h x (by simp)
    show (putF x.1 x.2 ++ putsF l).length ≤ _
    rw [List.length_append, putF_length, List.length_cons]
    omega
end Go.Proofs.YtiflpjdiokloaaaDoor
