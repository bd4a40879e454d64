/-
  Words for memory, of no layer: an argument's slice, which may point wherever where it is empty.
-/
import Derived.Test.YtckhhphchphmlaaSeq
namespace Go.Proofs.Ytckhhphchphmlaa
open Go.RowKit
set_option linter.unusedVariables false

/-- An argument's slice: as Seq, but where it is empty it may point wherever. -/
def SeqA (w : World) (B z : Nat) (v : Value) (n : Nat) (xs : List Value) : Prop :=
  xs.length = n * z ∧ ((n = 0 ∧ ∃ A c, v = .slice A 0 c ∧ (A = none → c = 0)) ∨ ∃ b off c, v = .slice (some ⟨b, off, none⟩) n c ∧ n ≤ c ∧ b < B ∧ ∀ i u, xs[i]? = some u → w.cell? ⟨b, off + i, none⟩ = some u)
theorem Seq.arg {w : World} {B z n : Nat} {v : Value} {xs : List Value} (h : Seq w B z v n xs) : SeqA w B z v n xs := by
  refine ⟨h.1, ?_⟩
  rcases h.2 with ⟨rfl, h0⟩ | h0
  · exact .inl ⟨h0, none, 0, rfl, fun _ => rfl⟩
  · exact .inr h0
section
variable {w w' : World} {B z n : Nat} {v : Value} {xs : List Value}
theorem SeqA.keep (h : SeqA w B z v n xs) (hb : ∀ k, k < B → w'.heap[k]? = w.heap[k]?) : SeqA w' B z v n xs := by
  refine ⟨h.1, ?_⟩
  rcases h.2 with h2 | ⟨b, off, c, e, hn, hB, hc⟩
  · exact .inl h2
  · exact .inr ⟨b, off, c, e, hn, hB, fun i u hu => (World.cell?_of_block (w := w) (hb b hB)).trans (hc i u hu)⟩
theorem SeqA.more {B' : Nat} (h : SeqA w B z v n xs) (hB : B ≤ B') : SeqA w B' z v n xs := by
  refine ⟨h.1, ?_⟩
  rcases h.2 with h2 | ⟨b, off, c, e, hn, hb, hc⟩
  · exact .inl h2
  · exact .inr ⟨b, off, c, e, hn, by omega, hc⟩
theorem SeqA.open_ (h : SeqA w B z v n xs) : ∃ A c, v = .slice A n c ∧ n ≤ c := by
  rcases h.2 with ⟨rfl, A, c, e, _⟩ | ⟨b, off, c, e, hn, _⟩
  · exact ⟨A, c, e, Nat.zero_le _⟩
  · exact ⟨_, c, e, hn⟩
end
end Go.Proofs.Ytckhhphchphmlaa
