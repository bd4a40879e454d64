/-
  Contracts of layer 2's spans: Right, Has, At, Meet of package sat; the package's variable 'none' holds {1, 0}.
-/
import Derived.Test.YtfnhlajcdlfbhaaDoorSat
import Derived.Test.YtfnhlajcdlfbhaaDoorRefSpan
namespace Go.Proofs.YtfnhlajcdlfbhaaDoor
open Go.RowKit
set_option linter.unusedVariables false

/-- The package's variable 'none' reads as the span from 1 to 0. -/
def NoneIs (w : World) : Prop := w.cell? ⟨0, 0, none⟩ = some (.int .i64 1) ∧ w.cell? ⟨0, 1, none⟩ = some (.int .i64 0)
theorem NoneIs.lt {w : World} (h : NoneIs w) : 0 < w.heap.size := World.block_lt_of_cell? _ _ h.1
theorem NoneIs.below {w w' : World} {B : Nat} (h : NoneIs w) (hb : Below B w w') (hB : 0 < B) : NoneIs w' :=
  ⟨(hb.cell (p := ⟨0, 0, none⟩) hB).trans h.1, (hb.cell (p := ⟨0, 1, none⟩) hB).trans h.2⟩

theorem sright_any (lo hi : Int) (w : World) : Calls Tryd.prog 20 #[.agg #[.int .i64 lo, .int .i64 hi]] w fun e w' => e = .returned (.bool (okS lo hi)) ∧ Below w.heap.size w w' := by
  by_cases h1 : 0 ≤ lo
  · by_cases h2 : lo ≤ hi
    · have H := Lib.hid ((okS_iff lo hi).2 ⟨h1, h2⟩)
      go_enter Tryd.func20, Tryd.ntmps20
      go_wp2
      go_ret
      exact ⟨by rw [H.out]; rfl, (Below.refl _ _).alloc (Nat.le_refl _) _⟩
    · have H := Lib.hid (show okS lo hi = false by rw [Bool.eq_false_iff]; intro h; have := (okS_iff lo hi).1 h; omega)
      go_enter Tryd.func20, Tryd.ntmps20
      go_wp2
      go_ret
      exact ⟨by rw [H.out]; rfl, (Below.refl _ _).alloc (Nat.le_refl _) _⟩
  · have H := Lib.hid (show okS lo hi = false by rw [Bool.eq_false_iff]; intro h; have := (okS_iff lo hi).1 h; omega)
    go_enter Tryd.func20, Tryd.ntmps20
    go_wp2
    go_ret
    exact ⟨by rw [H.out]; rfl, (Below.refl _ _).alloc (Nat.le_refl _) _⟩
theorem hasS_iff (lo hi d : Int) : hasS lo hi d = true ↔ lo ≤ d ∧ d ≤ hi := by simp [hasS]
theorem shas_any (lo hi d : Int) (w : World) : Calls Tryd.prog 22 #[.agg #[.int .i64 lo, .int .i64 hi], .int .i64 d] w fun e w' => e = .returned (.bool (hasS lo hi d)) ∧ Below w.heap.size w w' := by
  by_cases h1 : lo ≤ d
  · by_cases h2 : d ≤ hi
    · have H := Lib.hid ((hasS_iff lo hi d).2 ⟨h1, h2⟩)
      go_enter Tryd.func22, Tryd.ntmps22
      go_wp2
      go_ret
      exact ⟨by rw [H.out]; rfl, (Below.refl _ _).alloc (Nat.le_refl _) _⟩
    · have H := Lib.hid (show hasS lo hi d = false by rw [Bool.eq_false_iff]; intro h; have := (hasS_iff lo hi d).1 h; omega)
      go_enter Tryd.func22, Tryd.ntmps22
      go_wp2
      go_ret
      exact ⟨by rw [H.out]; rfl, (Below.refl _ _).alloc (Nat.le_refl _) _⟩
  · have H := Lib.hid (show hasS lo hi d = false by rw [Bool.eq_false_iff]; intro h; have := (hasS_iff lo hi d).1 h; omega)
    go_enter Tryd.func22, Tryd.ntmps22
    go_wp2
    go_ret
    exact ⟨by rw [H.out]; rfl, (Below.refl _ _).alloc (Nat.le_refl _) _⟩

/-- What a call that hands back a span ends in. -/
def OneDid (r : Int × Int) (w : World) (x : Ending) (w' : World) : Prop := x = .returned (.agg #[.int .i64 r.1, .int .i64 r.2]) ∧ Below w.heap.size w w'
/-- The numbers from lo to hi, or none. -/
def fromS (lo hi : Int) : Int × Int := if hi < lo then (1, 0) else (lo, hi)

set_option maxRecDepth 100000 in
theorem from_any (lo hi : Int) (w : World) (hN : NoneIs w) : Calls Tryd.prog 30 #[.int .i64 lo, .int .i64 hi] w (OneDid (fromS lo hi) w) := by
  have hz := hN.lt
  obtain ⟨n0, n1⟩ := hN
  unfold fromS
  by_cases h : hi < lo
  · rw [if_pos h]
    go_enter Tryd.func30, Tryd.ntmps30
    go_wp2
    exact bodyPost_ret (v := .agg #[.int .i64 1, .int .i64 0]) (by simp [results, Tryd.results30, go_sem]) rfl ⟨rfl, (Below.refl _ _).alloc (Nat.le_refl _) _⟩
  · rw [if_neg h]
    go_enter Tryd.func30, Tryd.ntmps30
    go_wp2
    exact bodyPost_ret (v := .agg #[.int .i64 lo, .int .i64 hi]) (by simp [results, Tryd.results30, go_sem]) rfl ⟨rfl, (Below.refl _ _).alloc (Nat.le_refl _) _⟩

/-- A span, and whether there is one. -/
def toldS (lo hi : Int) : (Int × Int) × Bool := if lo = 1 ∧ hi = 0 then ((0, 0), false) else ((lo, hi), true)
set_option maxRecDepth 100000 in
theorem told_any (lo hi : Int) (w : World) (hN : NoneIs w) : Calls Tryd.prog 28 #[.agg #[.int .i64 lo, .int .i64 hi]] w (SpanDid (toldS lo hi) w) := by
  have hz := hN.lt
  obtain ⟨n0, n1⟩ := hN
  unfold toldS
  by_cases h1 : lo = 1
  · by_cases h2 : hi = 0
    · rw [if_pos ⟨h1, h2⟩]
      subst h1; subst h2
      go_enter Tryd.func28, Tryd.ntmps28
      go_wp2
      exact bodyPost_ret (v := .tuple #[.agg #[.int .i64 0, .int .i64 0], .bool false]) (by simp [results, Tryd.results28, go_sem]) rfl ⟨rfl, ((Below.refl _ _).alloc (Nat.le_refl _) _).alloc (by simp) _⟩
    · rw [if_neg (by omega)]
      subst h1
      go_enter Tryd.func28, Tryd.ntmps28
      go_wp2
      exact bodyPost_ret (v := .tuple #[.agg #[.int .i64 1, .int .i64 hi], .bool true]) (by simp [results, Tryd.results28, go_sem]) rfl ⟨rfl, ((Below.refl _ _).alloc (Nat.le_refl _) _).alloc (by simp) _⟩
  · rw [if_neg (by omega)]
    go_enter Tryd.func28, Tryd.ntmps28
    go_wp2
    exact bodyPost_ret (v := .tuple #[.agg #[.int .i64 lo, .int .i64 hi], .bool true]) (by simp [results, Tryd.results28, go_sem]) rfl ⟨rfl, ((Below.refl _ _).alloc (Nat.le_refl _) _).alloc (by simp) _⟩
end Go.Proofs.YtfnhlajcdlfbhaaDoor
