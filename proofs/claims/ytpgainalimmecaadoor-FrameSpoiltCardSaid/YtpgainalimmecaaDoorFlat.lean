/-
  Pairs of bytes as bytes, of no layer: plain mathematics.
-/
namespace Go.Proofs.YtpgainalimmecaaDoor
set_option linter.unusedVariables false

/-- Pairs of bytes, one behind the other. -/
def flat (ps : List (UInt8 × UInt8)) : List UInt8 := ps.flatMap fun p => [p.1, p.2]
theorem flat_length (ps : List (UInt8 × UInt8)) : (flat ps).length = 2 * ps.length := by
  induction ps with
  | nil => rfl
  | cons p ps ih => simp only [flat, List.flatMap_cons, List.length_append, List.length_cons, List.length_nil] at ih ⊢; omega
theorem flat_get (ps : List (UInt8 × UInt8)) : ∀ k (h : k < ps.length), (flat ps)[2 * k]? = some ps[k].1 ∧ (flat ps)[2 * k + 1]? = some ps[k].2 := by
  induction ps with
  | nil => intro k h; simp at h
  | cons p ps ih =>
    intro k h
    cases k with
    | zero => exact ⟨rfl, rfl⟩
    | succ k =>
      have := ih k (by simpa using h)
      show (p.1 :: p.2 :: flat ps)[2 * (k + 1)]? = _ ∧ (p.1 :: p.2 :: flat ps)[2 * (k + 1) + 1]? = _
      rw [show 2 * (k + 1) = 2 * k + 1 + 1 by omega]
      simpa using this
end Go.Proofs.YtpgainalimmecaaDoor
