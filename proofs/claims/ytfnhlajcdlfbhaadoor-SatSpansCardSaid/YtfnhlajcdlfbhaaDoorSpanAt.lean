/-
  Contracts of layer 2's spans: At and Meet of package sat.
-/
import Derived.Test.YtfnhlajcdlfbhaaDoorSpan
import Derived.Lib.MinMax
namespace Go.Proofs.YtfnhlajcdlfbhaaDoor
open Go.RowKit
set_option linter.unusedVariables false

theorem sadd_at (a b : Int) (w : World) (ha : -9223372036854775808 ≤ a ∧ a ≤ 9223372036854775807) (hb : -9223372036854775808 ≤ b ∧ b ≤ 9223372036854775807) {x : Int} {p : Bool} (hd : cutS (a + b) = (x, p)) :
    Calls Tryd.prog 10 #[.int .i64 a, .int .i64 b] w fun e w' => e = .returned (.tuple #[.int .i64 x, .bool p]) ∧ w = w' := by
  have k := sadd_any a b w ha.1 ha.2 hb.1 hb.2
  rw [hd] at k
  exact k

/-- The moments of a span behind a moment, or none. -/
def behindS (lo hi t : Int) : Int × Int := if okS lo hi = true ∧ 0 ≤ t ∧ (cutS (t + lo)).2 = false then fromS (cutS (t + lo)).1 (cutS (t + hi)).1 else (1, 0)

set_option maxRecDepth 100000 in
theorem behind_none (lo hi t : Int) (w : World) (hN : NoneIs w) (ho : okS lo hi = false) : Calls Tryd.prog 29 #[.agg #[.int .i64 lo, .int .i64 hi], .int .i64 t] w (OneDid (1, 0) w) := by
  have hl := hN.lt
  obtain ⟨n0, n1⟩ := hN
  go_enter Tryd.func29, Tryd.ntmps29
  go_wp2_with (go_at_call 20; refine (sright_any lo hi _).mono ?_; rintro _ w2 ⟨rfl, hb2⟩; obtain ⟨hc, hf⟩ := below_cells hb2; have hz : w.heap.size + 1 < w2.heap.size := (by have := hb2.size; simp at this; omega); have HB2 := Lib.hid hb2; clear hb2)
  exact bodyPost_ret (v := .agg #[.int .i64 1, .int .i64 0]) (by simp [results, Tryd.results29, go_sem, hc]) rfl
    ⟨rfl, ((((Below.refl _ _).alloc (Nat.le_refl _) _).alloc (by simp) _).trans (HB2.out.mono (by simp; omega))).setCell (by simp) _ |>.setCell (by simp) _⟩
set_option maxRecDepth 100000 in
theorem behind_below (lo hi t : Int) (w : World) (hN : NoneIs w) (ho : okS lo hi = true) (ht : t < 0) : Calls Tryd.prog 29 #[.agg #[.int .i64 lo, .int .i64 hi], .int .i64 t] w (OneDid (1, 0) w) := by
  have hl := hN.lt
  obtain ⟨n0, n1⟩ := hN
  go_enter Tryd.func29, Tryd.ntmps29
  go_wp2_with (go_at_call 20; refine (sright_any lo hi _).mono ?_; rintro _ w2 ⟨rfl, hb2⟩; obtain ⟨hc, hf⟩ := below_cells hb2; have hz : w.heap.size + 1 < w2.heap.size := (by have := hb2.size; simp at this; omega); have HB2 := Lib.hid hb2; clear hb2)
  exact bodyPost_ret (v := .agg #[.int .i64 1, .int .i64 0]) (by simp [results, Tryd.results29, go_sem, hc]) rfl
    ⟨rfl, ((((Below.refl _ _).alloc (Nat.le_refl _) _).alloc (by simp) _).trans (HB2.out.mono (by simp; omega))).setCell (by simp) _ |>.setCell (by simp) _⟩
set_option maxRecDepth 100000 in
theorem behind_cut (lo hi t : Int) (w : World) (hN : NoneIs w) (ho : okS lo hi = true) (ht : 0 ≤ t) (h1 : -9223372036854775808 ≤ lo ∧ lo ≤ 9223372036854775807) (h3 : -9223372036854775808 ≤ t ∧ t ≤ 9223372036854775807) {x : Int} (hd : cutS (t + lo) = (x, true)) :
    Calls Tryd.prog 29 #[.agg #[.int .i64 lo, .int .i64 hi], .int .i64 t] w (OneDid (1, 0) w) := by
  have hl := hN.lt
  obtain ⟨n0, n1⟩ := hN
  have H1 := Lib.hid h1
  have H3 := Lib.hid h3
  have HD := Lib.hid hd
  clear h1 h3 hd
  go_enter Tryd.func29, Tryd.ntmps29
  go_wp2_with (first
    | (go_at_call 20; refine (sright_any lo hi _).mono ?_; rintro _ w2 ⟨rfl, hb2⟩; obtain ⟨hc, hf⟩ := below_cells hb2; have hz : w.heap.size + 1 < w2.heap.size := (by have := hb2.size; simp at this; omega); have HB2 := Lib.hid hb2; clear hb2)
    | (go_at_call 10; refine (sadd_at t lo _ H3.out H1.out HD.out).mono ?_; rintro _ w' ⟨rfl, rfl⟩))
  exact bodyPost_ret (v := .agg #[.int .i64 1, .int .i64 0]) (by simp [results, Tryd.results29, go_sem, hc]) rfl
    ⟨rfl, ((((Below.refl _ _).alloc (Nat.le_refl _) _).alloc (by simp) _).trans (HB2.out.mono (by simp; omega))).setCell (by simp) _ |>.setCell (by simp) _⟩
set_option maxRecDepth 100000 in
theorem behind_some (lo hi t : Int) (w : World) (hN : NoneIs w) (ho : okS lo hi = true) (ht : 0 ≤ t) (h1 : -9223372036854775808 ≤ lo ∧ lo ≤ 9223372036854775807) (h2 : -9223372036854775808 ≤ hi ∧ hi ≤ 9223372036854775807) (h3 : -9223372036854775808 ≤ t ∧ t ≤ 9223372036854775807) {x y u v : Int} {p : Bool} (hd : cutS (t + lo) = (x, false)) (hd2 : cutS (t + hi) = (y, p)) (he : fromS x y = (u, v)) :
    Calls Tryd.prog 29 #[.agg #[.int .i64 lo, .int .i64 hi], .int .i64 t] w (OneDid (u, v) w) := by
  have hl := hN.lt
  have HN := Lib.hid hN
  have H1 := Lib.hid h1
  have H2 := Lib.hid h2
  have H3 := Lib.hid h3
  have HD := Lib.hid hd
  have HD2 := Lib.hid hd2
  have HE := Lib.hid he
  clear h1 h2 h3 hd hd2 he hN
  go_enter Tryd.func29, Tryd.ntmps29
  go_wp2_with (first
    | (go_at_call 20; refine (sright_any lo hi _).mono ?_; rintro _ w2 ⟨rfl, hb2⟩; obtain ⟨hc, hf⟩ := below_cells hb2; have hz : w.heap.size + 1 < w2.heap.size := (by have := hb2.size; simp at this; omega); have HB2 := Lib.hid hb2; clear hb2; have HN2 := Lib.hid (HN.out.below (((Below.refl w.heap.size w).alloc (Nat.le_refl _) _ |>.alloc (by simp) _).trans (HB2.out.mono (by simp; omega))) hl))
    | (go_at_call 10; ((with_reducible refine (sadd_at t lo _ H3.out H1.out HD.out).mono ?_); rintro _ w' ⟨rfl, rfl⟩))
    | (go_at_call 10; ((with_reducible refine (sadd_at t hi _ H3.out H2.out HD2.out).mono ?_); rintro _ w' ⟨rfl, rfl⟩))
    | (go_at_call 30; refine (from_any x y _ HN2.out).mono ?_; rw [HE.out]; rintro _ w3 ⟨rfl, hb3⟩; have hz3 := hb3.size; have hz4 : w.heap.size + 1 < w3.heap.size := (by omega); obtain ⟨hc3, hf3⟩ := below_cells hb3; have HB3 := Lib.hid hb3; clear hb3))
  exact bodyPost_ret (v := .agg #[.int .i64 u, .int .i64 v]) (by simp [results, Tryd.results29, go_sem, hc, hc3, hz]) rfl
    ⟨rfl, (((((Below.refl _ _).alloc (Nat.le_refl _) _).alloc (by simp) _).trans (HB2.out.mono (by simp; omega))).trans (HB3.out.mono (by omega))).setCell (by simp) _ |>.setCell (by simp) _⟩

theorem cutS_mono (a b : Int) (h : a ≤ b) : (cutS a).1 ≤ (cutS b).1 := by
  unfold cutS
  split <;> split <;> (try split) <;> (try split) <;> dsimp only <;> omega
theorem behind_any (lo hi t : Int) (w : World) (hN : NoneIs w) (h1 : -9223372036854775808 ≤ lo ∧ lo ≤ 9223372036854775807) (h2 : -9223372036854775808 ≤ hi ∧ hi ≤ 9223372036854775807) (h3 : -9223372036854775808 ≤ t ∧ t ≤ 9223372036854775807) :
    Calls Tryd.prog 29 #[.agg #[.int .i64 lo, .int .i64 hi], .int .i64 t] w (OneDid (behindS lo hi t) w) := by
  unfold behindS
  by_cases ho : okS lo hi = true
  · by_cases ht : 0 ≤ t
    · rcases hd : cutS (t + lo) with ⟨x, p⟩
      cases p
      · rw [if_pos ⟨ho, ht, rfl⟩]
        exact behind_some lo hi t w hN ho ht h1 h2 h3 hd rfl rfl
      · rw [if_neg (by simp)]
        exact behind_cut lo hi t w hN ho ht h1 h3 hd
    · rw [if_neg (fun h => ht h.2.1)]
      exact behind_below lo hi t w hN ho (by omega)
  · rw [if_neg (fun h => ho h.1)]
    exact behind_none lo hi t w hN (by simpa using ho)
/-- A span that is there is not the one from 1 to 0. -/
theorem toldS_from (x y : Int) : toldS (fromS x y).1 (fromS x y).2 = if y < x then ((0, 0), false) else ((x, y), true) := by
  unfold toldS fromS
  by_cases h : y < x
  · rw [if_pos h, if_pos h]; rfl
  · rw [if_neg h, if_neg h, if_neg (by dsimp only; omega)]
theorem toldS_behind (lo hi t : Int) : toldS (behindS lo hi t).1 (behindS lo hi t).2 = atS lo hi t := by
  unfold behindS atS
  by_cases h : okS lo hi = true ∧ 0 ≤ t ∧ (cutS (t + lo)).2 = false
  · rw [if_pos h, if_pos h, toldS_from, if_neg]
    have := cutS_mono (t + lo) (t + hi) (by have := (okS_iff lo hi).1 h.1; omega)
    omega
  · rw [if_neg h, if_neg h]; rfl
theorem toldS_meet (a b c d : Int) : toldS (fromS (max a c) (min b d)).1 (fromS (max a c) (min b d)).2 = meetS a b c d := by
  rw [toldS_from]
  unfold meetS
  by_cases h : max a c ≤ min b d
  · rw [if_neg (by omega), if_pos h]
  · rw [if_pos (by omega), if_neg h]

set_option maxRecDepth 100000 in
theorem sat_any (lo hi t : Int) (w : World) (hN : NoneIs w) (h1 : -9223372036854775808 ≤ lo ∧ lo ≤ 9223372036854775807) (h2 : -9223372036854775808 ≤ hi ∧ hi ≤ 9223372036854775807) (h3 : -9223372036854775808 ≤ t ∧ t ≤ 9223372036854775807) :
    Calls Tryd.prog 16 #[.agg #[.int .i64 lo, .int .i64 hi], .int .i64 t] w (SpanDid (atS lo hi t) w) := by
  rw [← toldS_behind]
  rcases hb : behindS lo hi t with ⟨x, y⟩
  dsimp only
  rcases ht : toldS x y with ⟨⟨u, v⟩, p⟩
  have hl := hN.lt
  have HB := Lib.hid hb
  have HT := Lib.hid ht
  have HN := Lib.hid hN
  have H1 := Lib.hid h1
  have H2 := Lib.hid h2
  have H3 := Lib.hid h3
  clear hb ht hN h1 h2 h3
  go_enter Tryd.func16, Tryd.ntmps16
  go_wp2_with (first
    | (go_at_call 29; refine (behind_any lo hi t _ (HN.out.below ((Below.refl w.heap.size w).alloc (Nat.le_refl _) _ |>.alloc (by simp) _) hl) H1.out H2.out H3.out).mono ?_; rw [HB.out]; rintro _ w2 ⟨rfl, hb2⟩; obtain ⟨hc, hf⟩ := below_cells hb2; have hz : w.heap.size + 1 < w2.heap.size := (by have := hb2.size; simp at this; omega); have HB2 := Lib.hid hb2; clear hb2; have HN2 := Lib.hid (HN.out.below (((Below.refl w.heap.size w).alloc (Nat.le_refl _) _ |>.alloc (by simp) _).trans (HB2.out.mono (by simp; omega))) hl))
    | (go_at_call 28; refine (told_any x y _ HN2.out).mono ?_; rw [HT.out]; rintro _ w3 ⟨rfl, hb3⟩; have hz3 := hb3.size; obtain ⟨hc3, hf3⟩ := below_cells hb3; have HB3 := Lib.hid hb3; clear hb3))
  exact bodyPost_ret (v := .tuple #[.agg #[.int .i64 u, .int .i64 v], .bool p]) (by simp [results, Tryd.results16, go_sem, hc, hc3, hz]) rfl
    ⟨rfl, (((((Below.refl _ _).alloc (Nat.le_refl _) _).alloc (by simp) _).trans (HB2.out.mono (by simp; omega))).trans (HB3.out.mono (by omega))).setCell (by simp) _ |>.setCell (by simp) _⟩

set_option maxRecDepth 100000 in
theorem smeet_any (a b c d : Int) (w : World) (hN : NoneIs w) : Calls Tryd.prog 18 #[.agg #[.int .i64 a, .int .i64 b], .agg #[.int .i64 c, .int .i64 d]] w (SpanDid (meetS a b c d) w) := by
  rw [← toldS_meet]
  rcases hb : fromS (max a c) (min b d) with ⟨x, y⟩
  dsimp only
  rcases ht : toldS x y with ⟨⟨u, v⟩, p⟩
  have hl := hN.lt
  have HB := Lib.hid hb
  have HT := Lib.hid ht
  have HN := Lib.hid hN
  clear hb ht hN
  go_enter Tryd.func18, Tryd.ntmps18
  go_wp2_with (first
    | (go_at_call 30; refine (from_any _ _ _ (HN.out.below ((Below.refl w.heap.size w).alloc (Nat.le_refl _) _ |>.alloc (by simp) _ |>.alloc (by simp; omega) _) hl)).mono ?_; rw [HB.out]; rintro _ w2 ⟨rfl, hb2⟩; obtain ⟨hc, hf⟩ := below_cells hb2; have hz : w.heap.size + 2 < w2.heap.size := (by have := hb2.size; simp at this; omega); have HB2 := Lib.hid hb2; clear hb2; have HN2 := Lib.hid (HN.out.below (((Below.refl w.heap.size w).alloc (Nat.le_refl _) _ |>.alloc (by simp) _ |>.alloc (by simp; omega) _).trans (HB2.out.mono (by simp; omega))) hl))
    | (go_at_call 28; refine (told_any x y _ HN2.out).mono ?_; rw [HT.out]; rintro _ w3 ⟨rfl, hb3⟩; have hz3 := hb3.size; obtain ⟨hc3, hf3⟩ := below_cells hb3; have HB3 := Lib.hid hb3; clear hb3))
  exact bodyPost_ret (v := .tuple #[.agg #[.int .i64 u, .int .i64 v], .bool p]) (by simp [results, Tryd.results18, go_sem, hc, hc3, hz]) rfl
    ⟨rfl, ((((((Below.refl _ _).alloc (Nat.le_refl _) _).alloc (by simp) _).alloc (by simp; omega) _).trans (HB2.out.mono (by simp; omega))).trans (HB3.out.mono (by omega))).setCell (by simp; omega) _ |>.setCell (by simp; omega) _⟩
end Go.Proofs.YtfnhlajcdlfbhaaDoor
