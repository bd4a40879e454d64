/-
  Contract of layer 2's Text of package sat: a span's text, over the library's numbers by digits.
-/
import Derived.Test.YtfnhlajcdlfbhaaDoorShelf
import Derived.Test.YtfnhlajcdlfbhaaDoorRefText
import Derived.Lib.AppendIntMem
namespace Go.Proofs.YtfnhlajcdlfbhaaDoor
open Go.RowKit
set_option linter.unusedVariables false

/-- The library's table of powers of ten reads as its initialiser lays it, in every world in which what stood in W stands. -/
def Pows (W : World) : Prop := Lib.TabBelow Tryd.prog W.heap.size W "internal/strconv.uint64pow10" .u64 Lib.pow10Tab

/-- A number by digits, as the library makes it. -/
theorem fmt10_any (W : World) (hT : Pows W) (n : Int) (h0 : -9223372036854775808 ≤ n) (h1 : n ≤ 9223372036854775807) (w : World) (hb : Below W.heap.size W w) :
    Calls Tryd.prog 31 #[.int .i64 n, .int .i64 10] w fun e w' => e = .returned (.string (mkB (Lib.itoa n))) ∧ Below w.heap.size w w' :=
  (Any.strconv_FormatInt_10 Tryd.laysM173 n h0 h1 w (hT w hb)).mono fun e w' h => by
    obtain ⟨rfl, k, os, rfl⟩ := h
    exact ⟨rfl, Lib.below_grow _ _ (Nat.le_refl _) _ _⟩

set_option maxRecDepth 100000 in
set_option maxHeartbeats 1000000 in
theorem stext_any (W : World) (hT : Pows W) (lo hi : Int) (w : World) (hW : Below W.heap.size W w) (h0 : -9223372036854775808 ≤ lo) (h1 : lo ≤ 9223372036854775807) (h2 : -9223372036854775808 ≤ hi) (h3 : hi ≤ 9223372036854775807) :
    Calls Tryd.prog 23 #[.agg #[.int .i64 lo, .int .i64 hi]] w fun e w' => e = .returned (.string (mkB (textS lo hi))) ∧ Below w.heap.size w w' := by
  have hA := Lib.itoa_length_le lo h0 h1
  have hB := Lib.itoa_length_le hi h2 h3
  have H1 : ∀ w', Below w.heap.size w w' → _ := fun w' h => fmt10_any W hT lo h0 h1 w' (hW.trans (h.mono hW.size))
  have H2 : ∀ w', Below w.heap.size w w' → _ := fun w' h => fmt10_any W hT hi h2 h3 w' (hW.trans (h.mono hW.size))
  have E : Hid (textS lo hi = 91 :: (Lib.itoa lo ++ 44 :: (Lib.itoa hi ++ [93]))) := Lib.hid rfl
  generalize Lib.itoa lo = a at hA H1 E
  generalize Lib.itoa hi = b at hB H2 E
  have k1 : ∀ W, (Op.stringOp .add ⟨#[91]⟩ (mkB a)).run Tryd.prog W = .ok (.string (mkB ([91] ++ a))) W := fun W => run_add W [91] a (by simp only [List.length_cons, List.length_nil]; omega)
  have k2 : ∀ W, (Op.stringOp .add (mkB ([91] ++ a)) ⟨#[44]⟩).run Tryd.prog W = .ok (.string (mkB ([91] ++ a ++ [44]))) W := fun W => run_add W ([91] ++ a) [44] (by simp only [List.length_append, List.length_cons, List.length_nil]; omega)
  have k3 : ∀ W, (Op.stringOp .add (mkB ([91] ++ a ++ [44])) (mkB b)).run Tryd.prog W = .ok (.string (mkB ([91] ++ a ++ [44] ++ b))) W := fun W => run_add W _ _ (by simp only [List.length_append, List.length_cons, List.length_nil]; omega)
  have k4 : ∀ W, (Op.stringOp .add (mkB ([91] ++ a ++ [44] ++ b)) ⟨#[93]⟩).run Tryd.prog W = .ok (.string (mkB ([91] ++ a ++ [44] ++ b ++ [93]))) W := fun W => run_add W ([91] ++ a ++ [44] ++ b) [93] (by simp only [List.length_append, List.length_cons, List.length_nil]; omega)
  have E2 : Hid (textS lo hi = [91] ++ a ++ [44] ++ b ++ [93]) := Lib.hid (by rw [E.out]; simp)
  generalize [91] ++ a ++ [44] ++ b ++ [93] = x4 at k4 E2
  generalize [91] ++ a ++ [44] ++ b = x3 at k3 k4
  generalize [91] ++ a ++ [44] = x2 at k2 k3
  generalize [91] ++ a = x1 at k1 k2
  clear E hA hB hW hT
  go_enter Tryd.func23, Tryd.ntmps23
  go_wp2
  have HT : TwoS w w.heap.size lo hi (w.alloc (.cells #[.int .i64 lo, .int .i64 hi] 31)) := ⟨by rw [heap_cell (heap_alloc_new w _)]; rfl, by rw [heap_cell (heap_alloc_new w _)]; rfl, Lib.hid ⟨by simp, (Below.refl _ _).alloc (Nat.le_refl _) _⟩⟩
  generalize w.heap.size = g at HT ⊢
  generalize w.alloc (.cells #[.int .i64 lo, .int .i64 hi] 31) = wx at HT ⊢
  have K1 : ∀ w', TwoS w g lo hi w' → Calls Tryd.prog 31 #[.int .i64 lo, .int .i64 10] w' (fun e w'' => e = .returned (.string (mkB a)) ∧ Below w'.heap.size w' w'') := fun w' h => H1 w' h.far
  have K2 : ∀ w', TwoS w g lo hi w' → Calls Tryd.prog 31 #[.int .i64 hi, .int .i64 10] w' (fun e w'' => e = .returned (.string (mkB b)) ∧ Below w'.heap.size w' w'') := fun w' h => H2 w' h.far
  clear H1 H2
  have q := HT
  obtain ⟨q1, q2, q3⟩ := q
  go_region_held3 (fun w' => w'.cell? ⟨g, 0, none⟩ = some (.int .i64 lo) ∧ w'.cell? ⟨g, 1, none⟩ = some (.int .i64 hi) ∧ Hid (g < w'.heap.size ∧ Below w.heap.size w w'))
    (first | assumption | exact TwoS.drew (by assumption))
    (first
      | (go_at_call 31; ((with_reducible refine Calls.mono (K1 _ ?_) ?_); (first | assumption); rintro e w1 ⟨rfl, hb1⟩; have hs1 := TwoS.keep (W := w) (g := g) (lo := lo) (hi := hi) (by assumption) hb1))
      | (go_at_call 31; ((with_reducible refine Calls.mono (K2 _ ?_) ?_); (first | assumption); rintro e w1 ⟨rfl, hb1⟩; have hs1 := TwoS.keep (W := w) (g := g) (lo := lo) (hi := hi) (by assumption) hb1)))
  have H := hs1.2.2
  go_wp2
  go_ret
  exact ⟨by rw [E2.out]; rfl, H.out.2⟩
end Go.Proofs.YtfnhlajcdlfbhaaDoor
