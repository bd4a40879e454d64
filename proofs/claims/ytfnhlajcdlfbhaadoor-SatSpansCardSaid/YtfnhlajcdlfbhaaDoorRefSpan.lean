/-
  Contracts of layer 2's reference on spans: Right, At, Meet.
-/
import Derived.Test.YtfnhlajcdlfbhaaDoorRefSat
import Derived.Test.YtfnhlajcdlfbhaaDoorRow
namespace Go.Proofs.YtfnhlajcdlfbhaaDoor
open Go.RowKit
set_option linter.unusedVariables false

/-- May it be a span? -/
def okS (lo hi : Int) : Bool := decide (0 ≤ lo) && decide (lo ≤ hi)
theorem okS_iff (lo hi : Int) : okS lo hi = true ↔ 0 ≤ lo ∧ lo ≤ hi := by simp [okS]
/-- Is it one of a span's numbers? -/
def hasS (lo hi d : Int) : Bool := decide (lo ≤ d) && decide (d ≤ hi)
/-- What two spans have in common. -/
def meetS (a b c d : Int) : (Int × Int) × Bool := if max a c ≤ min b d then ((max a c, min b d), true) else ((0, 0), false)
/-- The moments of a span behind a moment. -/
def atS (lo hi t : Int) : (Int × Int) × Bool := if okS lo hi = true ∧ 0 ≤ t ∧ (cutS (t + lo)).2 = false then (((cutS (t + lo)).1, (cutS (t + hi)).1), true) else ((0, 0), false)

theorem rright_any (lo hi : Int) (w : World) : Calls Tryd.prog 21 #[.agg #[.int .i64 lo, .int .i64 hi]] w fun e w' => e = .returned (.bool (okS lo hi)) ∧ Below w.heap.size w w' := by
  by_cases h1 : 0 ≤ lo
  · by_cases h2 : lo ≤ hi
    · have H := Lib.hid ((okS_iff lo hi).2 ⟨h1, h2⟩)
      go_enter Tryd.func21, Tryd.ntmps21
      go_wp2
      go_ret
      exact ⟨by rw [H.out]; rfl, (Below.refl _ _).alloc (Nat.le_refl _) _⟩
    · have H := Lib.hid (show okS lo hi = false by rw [Bool.eq_false_iff]; intro h; have := (okS_iff lo hi).1 h; omega)
      go_enter Tryd.func21, Tryd.ntmps21
      go_wp2
      go_ret
      exact ⟨by rw [H.out]; rfl, (Below.refl _ _).alloc (Nat.le_refl _) _⟩
  · have H := Lib.hid (show okS lo hi = false by rw [Bool.eq_false_iff]; intro h; have := (okS_iff lo hi).1 h; omega)
    go_enter Tryd.func21, Tryd.ntmps21
    go_wp2
    go_ret
    exact ⟨by rw [H.out]; rfl, (Below.refl _ _).alloc (Nat.le_refl _) _⟩

/-- What a call that hands back a span and a bool ends in. -/
def SpanDid (r : (Int × Int) × Bool) (w : World) (x : Ending) (w' : World) : Prop := x = .returned (.tuple #[.agg #[.int .i64 r.1.1, .int .i64 r.1.2], .bool r.2]) ∧ Below w.heap.size w w'

set_option maxRecDepth 100000 in
set_option maxHeartbeats 1000000 in
theorem rmeet_core (a b c d x y : Int) (w : World) (hx : a < c ∧ x = c ∨ ¬ a < c ∧ x = a) (hy : d < b ∧ y = d ∨ ¬ d < b ∧ y = b) :
    Calls Tryd.prog 19 #[.agg #[.int .i64 a, .int .i64 b], .agg #[.int .i64 c, .int .i64 d]] w (SpanDid (if x ≤ y then ((x, y), true) else ((0, 0), false)) w) := by
  by_cases h3 : x ≤ y
  · rw [if_pos h3]
    rcases hx with ⟨h1, rfl⟩ | ⟨h1, rfl⟩
    all_goals rcases hy with ⟨h2, rfl⟩ | ⟨h2, rfl⟩
    all_goals
      go_enter Tryd.func19, Tryd.ntmps19
      go_wp2
      exact bodyPost_ret (v := .tuple #[.agg #[.int .i64 x, .int .i64 y], .bool true]) (by simp [results, Tryd.results19, go_sem]) rfl
        ⟨rfl, ((((Below.refl _ _).alloc (Nat.le_refl _) _).alloc (by simp) _).alloc (by simp; omega) _).alloc (by simp; omega) _⟩
  · rw [if_neg h3]
    rcases hx with ⟨h1, rfl⟩ | ⟨h1, rfl⟩
    all_goals rcases hy with ⟨h2, rfl⟩ | ⟨h2, rfl⟩
    all_goals
      go_enter Tryd.func19, Tryd.ntmps19
      go_wp2
      exact bodyPost_ret (v := .tuple #[.agg #[.int .i64 0, .int .i64 0], .bool false]) (by simp [results, Tryd.results19, go_sem]) rfl
        ⟨rfl, ((((Below.refl _ _).alloc (Nat.le_refl _) _).alloc (by simp) _).alloc (by simp; omega) _).alloc (by simp; omega) _⟩
theorem rmeet_any (a b c d : Int) (w : World) : Calls Tryd.prog 19 #[.agg #[.int .i64 a, .int .i64 b], .agg #[.int .i64 c, .int .i64 d]] w (SpanDid (meetS a b c d) w) :=
  rmeet_core a b c d (max a c) (min b d) w (by omega) (by omega)

set_option maxRecDepth 100000 in
theorem rat_none (lo hi t : Int) (w : World) (ho : okS lo hi = false) : Calls Tryd.prog 17 #[.agg #[.int .i64 lo, .int .i64 hi], .int .i64 t] w (SpanDid ((0, 0), false) w) := by
  go_enter Tryd.func17, Tryd.ntmps17
  go_wp2_with (go_at_call 21; refine (rright_any lo hi _).mono ?_; rintro _ w2 ⟨rfl, hb2⟩; obtain ⟨hc, hf⟩ := below_cells hb2; have hz : w.heap.size + 1 < w2.heap.size := (by have := hb2.size; simp at this; omega); have HB2 := Lib.hid hb2; clear hb2)
  exact bodyPost_ret (v := .tuple #[.agg #[.int .i64 0, .int .i64 0], .bool false]) (by simp [results, Tryd.results17, go_sem, hc]) rfl
    ⟨rfl, ((((Below.refl _ _).alloc (Nat.le_refl _) _).alloc (by simp) _).trans (HB2.out.mono (by simp; omega))).setCell (by simp) _ |>.setCell (by simp) _⟩
set_option maxRecDepth 100000 in
theorem rat_below (lo hi t : Int) (w : World) (ho : okS lo hi = true) (ht : t < 0) : Calls Tryd.prog 17 #[.agg #[.int .i64 lo, .int .i64 hi], .int .i64 t] w (SpanDid ((0, 0), false) w) := by
  go_enter Tryd.func17, Tryd.ntmps17
  go_wp2_with (go_at_call 21; refine (rright_any lo hi _).mono ?_; rintro _ w2 ⟨rfl, hb2⟩; obtain ⟨hc, hf⟩ := below_cells hb2; have hz : w.heap.size + 1 < w2.heap.size := (by have := hb2.size; simp at this; omega); have HB2 := Lib.hid hb2; clear hb2)
  exact bodyPost_ret (v := .tuple #[.agg #[.int .i64 0, .int .i64 0], .bool false]) (by simp [results, Tryd.results17, go_sem, hc]) rfl
    ⟨rfl, ((((Below.refl _ _).alloc (Nat.le_refl _) _).alloc (by simp) _).trans (HB2.out.mono (by simp; omega))).setCell (by simp) _ |>.setCell (by simp) _⟩
theorem radd_at (a b : Int) (w : World) (ha : -9223372036854775808 ≤ a ∧ a ≤ 9223372036854775807) (hb : -9223372036854775808 ≤ b ∧ b ≤ 9223372036854775807) {x : Int} {p : Bool} (hd : cutS (a + b) = (x, p)) :
    Calls Tryd.prog 11 #[.int .i64 a, .int .i64 b] w fun e w' => e = .returned (.tuple #[.int .i64 x, .bool p]) ∧ w = w' := by
  have k := radd_any a b w ha.1 ha.2 hb.1 hb.2
  rw [hd] at k
  exact k
set_option maxRecDepth 100000 in
theorem rat_cut (lo hi t : Int) (w : World) (ho : okS lo hi = true) (ht : 0 ≤ t) (h1 : -9223372036854775808 ≤ lo ∧ lo ≤ 9223372036854775807) (h3 : -9223372036854775808 ≤ t ∧ t ≤ 9223372036854775807) {x : Int} (hd : cutS (t + lo) = (x, true)) :
    Calls Tryd.prog 17 #[.agg #[.int .i64 lo, .int .i64 hi], .int .i64 t] w (SpanDid ((0, 0), false) w) := by
  have H1 := Lib.hid h1
  have H3 := Lib.hid h3
  have HD := Lib.hid hd
  clear h1 h3 hd
  go_enter Tryd.func17, Tryd.ntmps17
  go_wp2_with (first
    | (go_at_call 21; refine (rright_any lo hi _).mono ?_; rintro _ w2 ⟨rfl, hb2⟩; obtain ⟨hc, hf⟩ := below_cells hb2; have hz : w.heap.size + 1 < w2.heap.size := (by have := hb2.size; simp at this; omega); have HB2 := Lib.hid hb2; clear hb2)
    | (go_at_call 11; refine (radd_at t lo _ H3.out H1.out HD.out).mono ?_; rintro _ w' ⟨rfl, rfl⟩))
  exact bodyPost_ret (v := .tuple #[.agg #[.int .i64 0, .int .i64 0], .bool false]) (by simp [results, Tryd.results17, go_sem, hc]) rfl
    ⟨rfl, ((((Below.refl _ _).alloc (Nat.le_refl _) _).alloc (by simp) _).trans (HB2.out.mono (by simp; omega))).setCell (by simp) _ |>.setCell (by simp) _⟩
set_option maxRecDepth 100000 in
theorem rat_some (lo hi t : Int) (w : World) (ho : okS lo hi = true) (ht : 0 ≤ t) (h1 : -9223372036854775808 ≤ lo ∧ lo ≤ 9223372036854775807) (h2 : -9223372036854775808 ≤ hi ∧ hi ≤ 9223372036854775807) (h3 : -9223372036854775808 ≤ t ∧ t ≤ 9223372036854775807) {x y : Int} {p : Bool} (hd : cutS (t + lo) = (x, false)) (hd2 : cutS (t + hi) = (y, p)) :
    Calls Tryd.prog 17 #[.agg #[.int .i64 lo, .int .i64 hi], .int .i64 t] w (SpanDid ((x, y), true) w) := by
  have H1 := Lib.hid h1
  have H2 := Lib.hid h2
  have H3 := Lib.hid h3
  have HD := Lib.hid hd
  have HD2 := Lib.hid hd2
  clear h1 h2 h3 hd hd2
  go_enter Tryd.func17, Tryd.ntmps17
  go_wp2_with (first
    | (go_at_call 21; refine (rright_any lo hi _).mono ?_; rintro _ w2 ⟨rfl, hb2⟩; obtain ⟨hc, hf⟩ := below_cells hb2; have hz : w.heap.size + 1 < w2.heap.size := (by have := hb2.size; simp at this; omega); have HB2 := Lib.hid hb2; clear hb2)
    | (go_at_call 11; ((with_reducible refine (radd_at t lo _ H3.out H1.out HD.out).mono ?_); rintro _ w' ⟨rfl, rfl⟩))
    | (go_at_call 11; ((with_reducible refine (radd_at t hi _ H3.out H2.out HD2.out).mono ?_); rintro _ w' ⟨rfl, rfl⟩)))
  exact bodyPost_ret (v := .tuple #[.agg #[.int .i64 x, .int .i64 y], .bool true]) (by simp [results, Tryd.results17, go_sem, hc]) rfl
    ⟨rfl, ((((Below.refl _ _).alloc (Nat.le_refl _) _).alloc (by simp) _).trans (HB2.out.mono (by simp; omega))).setCell (by simp) _ |>.setCell (by simp) _⟩
/-- The reference's At. -/
theorem rat_any (lo hi t : Int) (w : World) (h1 : -9223372036854775808 ≤ lo ∧ lo ≤ 9223372036854775807) (h2 : -9223372036854775808 ≤ hi ∧ hi ≤ 9223372036854775807) (h3 : -9223372036854775808 ≤ t ∧ t ≤ 9223372036854775807) :
    Calls Tryd.prog 17 #[.agg #[.int .i64 lo, .int .i64 hi], .int .i64 t] w (SpanDid (atS lo hi t) w) := by
  unfold atS
  by_cases ho : okS lo hi = true
  · by_cases ht : 0 ≤ t
    · rcases hd : cutS (t + lo) with ⟨x, p⟩
      cases p
      · rw [if_pos ⟨ho, ht, rfl⟩]
        exact rat_some lo hi t w ho ht h1 h2 h3 hd rfl
      · rw [if_neg (by simp)]
        exact rat_cut lo hi t w ho ht h1 h3 hd
    · rw [if_neg (fun h => ht h.2.1)]
      exact rat_below lo hi t w ho (by omega)
  · rw [if_neg (fun h => ho h.1)]
    exact rat_none lo hi t w (by simpa using ho)
end Go.Proofs.YtfnhlajcdlfbhaaDoor
