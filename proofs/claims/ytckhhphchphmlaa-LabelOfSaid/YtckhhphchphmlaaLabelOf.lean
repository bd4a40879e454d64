/-
  The law LabelOf is true for every input: whatever the arguments, the call returns true, and each argument reads afterwards as it read before. Conditions: those of the given row, no other.
-/
import Derived.Test.YtckhhphchphmlaaArgs
import Derived.Lib.SmallJoins
import Derived.Test.YtckhhphchphmlaaWalkLabelOf
import Derived.Test.YtckhhphchphmlaaArgsProps
namespace Go.Proofs.Ytckhhphchphmlaa
open Go.ChangeShapes Go.WideShapes Go.ChangeAt Go.RowKit Go.Joins
open Go.ChangeMaps (open_string shut_string)
set_option linter.unusedVariables false

set_option maxRecDepth 100000 in
theorem labelOf_lifted (os : Os) (started : os.Started) (H : Type) (enc : TypeId × Value → H) :
    ReturnsInHanded {} Try.checked os 4 .any (Rows.labelOfSpec.pre6 enc Try.prog Try.f4 Rows.labelOfRow.domain false) (Rows.labelOfSpec.post enc Try.prog Try.f4 false true false false) := by
  refine returnsInHanded_of_change_sized (C := Try.checked) own started (by kernel_rfl) Try.func4
    (ChangeSpec.witness6 (enc := enc) (C := Try.checked) false ⟨#[], #[.slice none 0 0, .slice none 0 0], []⟩ 8 (by kernel_rfl) (by kernel_rfl) (by kernel_rfl) (by kernel_rfl)) ?_
  intro W base args ds gs before hval0 hW hcnd hSZ _
  have hval : ∀ (j : Nat) t v, Try.f4.params[j]? = some t → args[j]? = some v → Value.okWide Try.prog W .any base t v := hval0
  have hW' := hW
  obtain ⟨p, q, hA0, hV, rfl, hfz, hnd⟩ := hW
  have hA : DataW.TrodAll enc Try.prog W 0 (fun _ => true) true Try.f4.params.toList args.toList ds p := hA0
  rw [Try.params4] at hSZ hA hval
  obtain ⟨v0, vs0, d0, ds0, p0, q0, hargs, rfl, rfl, h0, r0⟩ := trodAll_cons hA
  obtain ⟨v1, vs1, d1, ds1, p1, q1, rfl, rfl, rfl, h1, r1⟩ := trodAll_cons r0
  obtain ⟨rfl, rfl, rfl⟩ := trodAll_nil r1
  obtain rfl : args = #[v0, v1] := by cases args; simp_all
  obtain ⟨rfl, rfl⟩ := trodVars_none hV
  have k0 := h0
  have lt0 := trod_lt h0
  obtain ⟨l0, hv0, hs0⟩ := arg_props Try.underlying24 Try.underlying38 (by kernel_rfl) (by kernel_rfl) Try.underlying9 Try.underlying2 (hval 0 24 v0 rfl rfl) h0
  have hl0 := hs0.le (j := 0) hSZ rfl rfl Try.underlying24 (of_decide_eq_true (by kernel_rfl))
  have k1 := h1
  have lt1 := trod_lt h1
  obtain ⟨l1, hv1, hs1⟩ := arg_props Try.underlying24 Try.underlying38 (by kernel_rfl) (by kernel_rfl) Try.underlying9 Try.underlying2 (hval 1 24 v1 rfl rfl) h1
  have hl1 := hs1.le (j := 1) hSZ rfl rfl Try.underlying24 (of_decide_eq_true (by kernel_rfl))
  clear hA0 hval0
  refine (labelOf_any v0 l0 v1 l1 W hl0 hv0 hl1 hv1).mono fun e W' ⟨he, bel⟩ => ?_
  subst he
  exact ⟨_, rfl, _, _, _, [], _, [], hW', trodAll_mk1 (shut_bool Try.underlying4 _), (trodAll_cons_mk (Below.trod laidOut (by kernel_rfl) (of_decide_eq_true (by kernel_rfl)) k0 bel lt0) (trodAll_cons_mk (Below.trod laidOut (by kernel_rfl) (of_decide_eq_true (by kernel_rfl)) k1 bel lt1) trodAll_mk0)), rfl, bel.frame _, fun h => by cases h⟩

theorem labelOf_over : Rows.labelOfRow.holds Try.pinned (OpenSpec.ofChange Rows.labelOfSpec) :=
  OpenClaim.holds_of_wide 4 Try.f4 rfl rfl rfl rfl rfl rfl rfl ⟨rfl, rfl, rfl, rfl, rfl⟩ rfl rfl rfl rfl rfl (by kernel_rfl) Try.func4 (by kernel_rfl)
    (of_decide_eq_true (by kernel_rfl)) (by unfold Func.isWrapper; first | (rw [if_pos (by decide +kernel)]; kernel_rfl) | (rw [if_neg (by decide +kernel)]; exact ⟨rfl, rfl⟩))
    (fun os started H enc _ => labelOf_lifted os started H enc)


/-- The statement. -/
theorem labelOf_proved : Rows.LabelOfSaid := labelOf_over
#print axioms labelOf_proved
end Go.Proofs.Ytckhhphchphmlaa
