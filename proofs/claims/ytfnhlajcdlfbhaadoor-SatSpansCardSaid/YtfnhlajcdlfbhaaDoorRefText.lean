/-
  Contract of layer 2's reference Text: a span's text.
-/
import Derived.Test.YtfnhlajcdlfbhaaDoorRefDigits
import Derived.Deep.RegionHeld3
namespace Go.Proofs.YtfnhlajcdlfbhaaDoor
open Go.RowKit
set_option linter.unusedVariables false

/-- A span's text. -/
def textS (lo hi : Int) : List UInt8 := 91 :: (Lib.itoa lo ++ 44 :: (Lib.itoa hi ++ [93]))

/-- A span's two cells, and what was there before. -/
def TwoS (W : World) (g : Nat) (lo hi : Int) (w : World) : Prop := w.cell? ⟨g, 0, none⟩ = some (.int .i64 lo) ∧ w.cell? ⟨g, 1, none⟩ = some (.int .i64 hi) ∧ Hid (g < w.heap.size ∧ Below W.heap.size W w)
theorem TwoS.keep {W w w' : World} {g : Nat} {lo hi : Int} (h : TwoS W g lo hi w) (hb : Below w.heap.size w w') : TwoS W g lo hi w' := by
  obtain ⟨h1, h2, h3⟩ := h
  have hg := h3.out.1
  exact ⟨(hb.cell (p := ⟨g, 0, none⟩) hg).trans h1, (hb.cell (p := ⟨g, 1, none⟩) hg).trans h2, Lib.hid ⟨Nat.lt_of_lt_of_le hg hb.size, h3.out.2.trans (hb.mono h3.out.2.size)⟩⟩
theorem TwoS.far {W w : World} {g : Nat} {lo hi : Int} (h : TwoS W g lo hi w) : Below W.heap.size W w := h.2.2.out.2
theorem TwoS.drew {W w : World} {g : Nat} {lo hi : Int} (h : TwoS W g lo hi w) : TwoS W g lo hi w.drew := h.keep (Below.refl _ _).drew

set_option maxRecDepth 100000 in
set_option maxHeartbeats 1000000 in
theorem rspantext_any (lo hi : Int) (w : World) (h0 : -9223372036854775808 ≤ lo) (h1 : lo ≤ 9223372036854775807) (h2 : -9223372036854775808 ≤ hi) (h3 : hi ≤ 9223372036854775807) :
    Calls Tryd.prog 24 #[.agg #[.int .i64 lo, .int .i64 hi]] w fun e w' => e = .returned (.string (mkB (textS lo hi))) ∧ Below w.heap.size w w' := by
  have hA := Lib.itoa_length_le lo h0 h1
  have hB := Lib.itoa_length_le hi h2 h3
  have H1 := fun w => rdigits_any lo w h0 h1
  have H2 := fun w => rdigits_any hi w h2 h3
  have E : Hid (textS lo hi = 91 :: (Lib.itoa lo ++ 44 :: (Lib.itoa hi ++ [93]))) := Lib.hid rfl
  generalize Lib.itoa lo = a at hA H1 E
  generalize Lib.itoa hi = b at hB H2 E
  have k1 : ∀ W, (Op.stringOp .add ⟨#[91]⟩ (mkB a)).run Tryd.prog W = .ok (.string (mkB ([91] ++ a))) W := fun W => run_add W [91] a (by simp only [List.length_cons, List.length_nil]; omega)
  have k2 : ∀ W, (Op.stringOp .add (mkB ([91] ++ a)) ⟨#[44]⟩).run Tryd.prog W = .ok (.string (mkB ([91] ++ a ++ [44]))) W := fun W => run_add W ([91] ++ a) [44] (by simp only [List.length_append, List.length_cons, List.length_nil]; omega)
  have k3 : ∀ W, (Op.stringOp .add (mkB ([91] ++ a ++ [44])) (mkB b)).run Tryd.prog W = .ok (.string (mkB ([91] ++ a ++ [44] ++ b))) W := fun W => run_add W _ _ (by simp only [List.length_append, List.length_cons, List.length_nil]; omega)
  have k4 : ∀ W, (Op.stringOp .add (mkB ([91] ++ a ++ [44] ++ b)) ⟨#[93]⟩).run Tryd.prog W = .ok (.string (mkB ([91] ++ a ++ [44] ++ b ++ [93]))) W := fun W => run_add W ([91] ++ a ++ [44] ++ b) [93] (by simp only [List.length_append, List.length_cons, List.length_nil]; omega)
  have E2 : Hid (textS lo hi = [91] ++ a ++ [44] ++ b ++ [93]) := Lib.hid (by rw [E.out]; simp)
  generalize [91] ++ a ++ [44] ++ b ++ [93] = x4 at k4 E2
  generalize [91] ++ a ++ [44] ++ b = x3 at k3 k4
  generalize [91] ++ a ++ [44] = x2 at k2 k3
  generalize [91] ++ a = x1 at k1 k2
  clear E hA hB
  go_enter Tryd.func24, Tryd.ntmps24
  go_wp2
  have HT : TwoS w w.heap.size lo hi (w.alloc (.cells #[.int .i64 lo, .int .i64 hi] 32)) := ⟨by rw [heap_cell (heap_alloc_new w _)]; rfl, by rw [heap_cell (heap_alloc_new w _)]; rfl, Lib.hid ⟨by simp, (Below.refl _ _).alloc (Nat.le_refl _) _⟩⟩
  generalize w.heap.size = g at HT ⊢
  generalize w.alloc (.cells #[.int .i64 lo, .int .i64 hi] 32) = wx at HT ⊢
  have q := HT
  obtain ⟨q1, q2, q3⟩ := q
  go_region_held3 (fun w' => w'.cell? ⟨g, 0, none⟩ = some (.int .i64 lo) ∧ w'.cell? ⟨g, 1, none⟩ = some (.int .i64 hi) ∧ Hid (g < w'.heap.size ∧ Below w.heap.size w w'))
    (first | assumption | exact TwoS.drew (by assumption))
    (first
      | (go_at_call 32; ((with_reducible refine (H1 _).mono ?_); rintro e w1 ⟨rfl, hb1⟩; have hs1 := TwoS.keep (W := w) (g := g) (lo := lo) (hi := hi) (by assumption) hb1))
      | (go_at_call 32; ((with_reducible refine (H2 _).mono ?_); rintro e w1 ⟨rfl, hb1⟩; have hs1 := TwoS.keep (W := w) (g := g) (lo := lo) (hi := hi) (by assumption) hb1)))
  have H := hs1.2.2
  go_wp2
  go_ret
  exact ⟨by rw [E2.out]; rfl, H.out.2⟩
end Go.Proofs.YtfnhlajcdlfbhaaDoor
