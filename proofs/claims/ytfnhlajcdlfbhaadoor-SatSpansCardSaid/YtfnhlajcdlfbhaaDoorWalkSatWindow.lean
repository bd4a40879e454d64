/-
  The walk of the law SatWindow.
-/
import Derived.Test.YtfnhlajcdlfbhaaDoorAwakeTwo
import Derived.Test.YtfnhlajcdlfbhaaDoorPairs
import Derived.OpenShut
namespace Go.Proofs.YtfnhlajcdlfbhaaDoor
open Go.RowKit
set_option linter.unusedVariables false

theorem shas_at (lo hi d : Int) (w : World) {q : Bool} (h : hasS lo hi d = q) : Calls Tryd.prog 22 #[.agg #[.int .i64 lo, .int .i64 hi], .int .i64 d] w fun e w' => e = .returned (.bool q) ∧ Below w.heap.size w w' := by
  subst h; exact shas_any lo hi d w
theorem sright_at (lo hi : Int) (w : World) {q : Bool} (h : okS lo hi = q) : Calls Tryd.prog 20 #[.agg #[.int .i64 lo, .int .i64 hi]] w fun e w' => e = .returned (.bool q) ∧ Below w.heap.size w w' := by
  subst h; exact sright_any lo hi w

set_option maxRecDepth 100000 in
theorem window_out (lo hi t u : Int) (W : World) (hN : NoneIs W) (h : t < 0 ∨ (0 ≤ t ∧ u < 0) ∨ (0 ≤ t ∧ 0 ≤ u ∧ okS lo hi = false)) :
    Calls Tryd.prog 7 #[.agg #[.int .i64 lo, .int .i64 hi], .int .i64 t, .int .i64 u] W fun e w' => e = .returned (.bool true) ∧ Below W.heap.size W w' := by
  have HN := Lib.hid (hN.below (bmore (bself W) (.cells #[.int .i64 lo, .int .i64 hi] 31)) hN.lt)
  have P0 := Pair.new W lo hi 31
  have HB := Lib.hid (bmore (bself W) (.cells #[.int .i64 lo, .int .i64 hi] 31))
  rcases h with h | ⟨h1, h⟩ | ⟨h1, h2, h⟩
  · go_enter Tryd.func7, Tryd.ntmps7
    go_wp2_with (go_at_call 9; refine (awake2_any _ HN.out).mono ?_; rintro e w1 ⟨rfl, hb1⟩; have HB1 := Lib.hid (bstep HB.out hb1); clear hb1)
    go_ret
    exact ⟨rfl, HB1.out⟩
  · go_enter Tryd.func7, Tryd.ntmps7
    go_wp2_with (go_at_call 9; refine (awake2_any _ HN.out).mono ?_; rintro e w1 ⟨rfl, hb1⟩; have HB1 := Lib.hid (bstep HB.out hb1); clear hb1)
    go_ret
    exact ⟨rfl, HB1.out⟩
  · have HR := Lib.hid h
    clear h
    go_enter Tryd.func7, Tryd.ntmps7
    go_wp2_with (first
      | (go_at_call 9; refine (awake2_any _ HN.out).mono ?_; rintro e w1 ⟨rfl, hb1⟩; have HB1 := Lib.hid (bstep HB.out hb1); obtain ⟨p1, p2⟩ := P0.keep hb1; clear hb1)
      | (go_at_call 20; refine (sright_at _ _ _ HR.out).mono ?_; rintro e w2 ⟨rfl, hb2⟩; have HB2 := Lib.hid (bstep HB1.out hb2); clear hb2))
    go_ret
    exact ⟨rfl, HB2.out⟩

set_option maxRecDepth 100000 in
theorem window_none (lo hi t u : Int) (W : World) (hN : NoneIs W) (h1 : -9223372036854775808 ≤ lo ∧ lo ≤ 9223372036854775807) (h2 : -9223372036854775808 ≤ hi ∧ hi ≤ 9223372036854775807) (h3 : 0 ≤ t ∧ t ≤ 9223372036854775807) (h4 : 0 ≤ u ∧ u ≤ 9223372036854775807)
    (hr : okS lo hi = true) (ha : atS lo hi t = ((0, 0), false)) (h : u < t ∨ (t ≤ u ∧ hasS lo hi (u - t) = false)) :
    Calls Tryd.prog 7 #[.agg #[.int .i64 lo, .int .i64 hi], .int .i64 t, .int .i64 u] W fun e w' => e = .returned (.bool true) ∧ Below W.heap.size W w' := by
  have HN := Lib.hid (hN.below (bmore (bself W) (.cells #[.int .i64 lo, .int .i64 hi] 31)) hN.lt)
  have P0 := Pair.new W lo hi 31
  have HB := Lib.hid (bmore (bself W) (.cells #[.int .i64 lo, .int .i64 hi] 31))
  have HL := Lib.hid hN.lt
  have HR := Lib.hid hr
  have HA := Lib.hid ha
  have H1 := Lib.hid h1
  have H2 := Lib.hid h2
  have H3 := Lib.hid (show -9223372036854775808 ≤ t ∧ t ≤ 9223372036854775807 by omega)
  obtain ⟨t0, t1⟩ := h3
  obtain ⟨u0, u1⟩ := h4
  have HN0 := Lib.hid hN
  clear hN h1 h2 hr ha
  rcases h with h | ⟨h, hh⟩
  all_goals try have HH := Lib.hid hh
  all_goals try clear hh
  all_goals
    go_enter Tryd.func7, Tryd.ntmps7
    go_wp2_with (first
      | (go_at_call 9; refine (awake2_any _ HN.out).mono ?_; rintro e w1 ⟨rfl, hb1⟩; have HB1 := Lib.hid (bstep HB.out hb1); have P1 := P0.keep hb1; obtain ⟨p1, p2⟩ := P0.keep hb1; clear hb1)
      | (go_at_call 20; refine (sright_at _ _ _ HR.out).mono ?_; rintro e w2 ⟨rfl, hb2⟩; have HB2 := Lib.hid (bstep HB1.out hb2); have P2 := P1.keep hb2; obtain ⟨r1, r2⟩ := P1.keep hb2; clear hb2)
      | (go_at_call 16; refine (sat_at _ _ _ _ (HN0.out.below HB2.out HL.out) H1.out H2.out H3.out HA.out).mono ?_; rintro e w3 ⟨rfl, hb3⟩; have HB3 := Lib.hid (bmore (bstep HB2.out hb3) (.cells #[.int .i64 0, .int .i64 0] 31)); have P3 := (P2.keep hb3).alloc (.cells #[.int .i64 0, .int .i64 0] 31); obtain ⟨s1, s2⟩ := P2.keep hb3; have hz3 := (P2.keep hb3).lt; clear hb3)
      | (go_at_call 22; refine (shas_at _ _ _ _ HH.out).mono ?_; rintro e w4 ⟨rfl, hb4⟩; have HB4 := Lib.hid (bstep HB3.out hb4); obtain ⟨v1, v2⟩ := (Pair.new w3 0 0 31).keep hb4; clear hb4))
    go_ret
    exact ⟨rfl, by first | exact HB4.out | exact HB3.out⟩

set_option maxRecDepth 100000 in
theorem window_some (lo hi t u x y : Int) (q : Bool) (W : World) (hN : NoneIs W) (h1 : -9223372036854775808 ≤ lo ∧ lo ≤ 9223372036854775807) (h2 : -9223372036854775808 ≤ hi ∧ hi ≤ 9223372036854775807) (h3 : 0 ≤ t ∧ t ≤ 9223372036854775807) (h4 : 0 ≤ u ∧ u ≤ 9223372036854775807)
    (hr : okS lo hi = true) (ha : atS lo hi t = ((x, y), true)) (hw : hasS x y u = q) (hk : okS x y = true) (hx : t ≤ x) (h : (u < t ∧ q = false) ∨ (t ≤ u ∧ hasS lo hi (u - t) = q)) :
    Calls Tryd.prog 7 #[.agg #[.int .i64 lo, .int .i64 hi], .int .i64 t, .int .i64 u] W fun e w' => e = .returned (.bool true) ∧ Below W.heap.size W w' := by
  have HN := Lib.hid (hN.below (bmore (bself W) (.cells #[.int .i64 lo, .int .i64 hi] 31)) hN.lt)
  have P0 := Pair.new W lo hi 31
  have HB := Lib.hid (bmore (bself W) (.cells #[.int .i64 lo, .int .i64 hi] 31))
  have HL := Lib.hid hN.lt
  have HR := Lib.hid hr
  have HA := Lib.hid ha
  have HW := Lib.hid hw
  have HK := Lib.hid hk
  have H1 := Lib.hid h1
  have H2 := Lib.hid h2
  have H3 := Lib.hid (show -9223372036854775808 ≤ t ∧ t ≤ 9223372036854775807 by omega)
  obtain ⟨t0, t1⟩ := h3
  obtain ⟨u0, u1⟩ := h4
  have HN0 := Lib.hid hN
  clear hN h1 h2 hr ha hw hk
  rcases h with ⟨h, rfl⟩ | ⟨h, hh⟩
  · go_enter Tryd.func7, Tryd.ntmps7
    go_wp2_with (first
      | (go_at_call 9; refine (awake2_any _ HN.out).mono ?_; rintro e w1 ⟨rfl, hb1⟩; have HB1 := Lib.hid (bstep HB.out hb1); have P1 := P0.keep hb1; obtain ⟨p1, p2⟩ := P0.keep hb1; clear hb1)
      | (go_at_call 20; ((with_reducible refine (sright_at _ _ _ HR.out).mono ?_); rintro e w2 ⟨rfl, hb2⟩; have HB2 := Lib.hid (bstep HB1.out hb2); have P2 := P1.keep hb2; obtain ⟨r1, r2⟩ := P1.keep hb2; clear hb2))
      | (go_at_call 16; refine (sat_at _ _ _ _ (HN0.out.below HB2.out HL.out) H1.out H2.out H3.out HA.out).mono ?_; rintro e w3 ⟨rfl, hb3⟩; have HB3 := Lib.hid (bmore (bstep HB2.out hb3) (.cells #[.int .i64 x, .int .i64 y] 31)); obtain ⟨s1, s2⟩ := P2.keep hb3; have hz3 := (P2.keep hb3).lt; clear hb3)
      | (go_at_call 22; ((with_reducible refine (shas_at _ _ _ _ HW.out).mono ?_); rintro e w5 ⟨rfl, hb5⟩; have HB5 := Lib.hid (bstep HB3.out hb5); obtain ⟨v1, v2⟩ := (Pair.new w3 x y 31).keep hb5; have P5 := (Pair.new w3 x y 31).keep hb5; clear hb5))
      | (go_at_call 20; ((with_reducible refine (sright_at _ _ _ HK.out).mono ?_); rintro e w6 ⟨rfl, hb6⟩; have HB6 := Lib.hid (bstep HB5.out hb6); obtain ⟨v1, v2⟩ := P5.keep hb6; clear hb6)))
    go_ret
    exact ⟨rfl, HB6.out⟩
  · have HH := Lib.hid hh
    clear hh
    go_enter Tryd.func7, Tryd.ntmps7
    go_wp2_with (first
      | (go_at_call 9; refine (awake2_any _ HN.out).mono ?_; rintro e w1 ⟨rfl, hb1⟩; have HB1 := Lib.hid (bstep HB.out hb1); have P1 := P0.keep hb1; obtain ⟨p1, p2⟩ := P0.keep hb1; clear hb1)
      | (go_at_call 20; ((with_reducible refine (sright_at _ _ _ HR.out).mono ?_); rintro e w2 ⟨rfl, hb2⟩; have HB2 := Lib.hid (bstep HB1.out hb2); have P2 := P1.keep hb2; obtain ⟨r1, r2⟩ := P1.keep hb2; clear hb2))
      | (go_at_call 16; refine (sat_at _ _ _ _ (HN0.out.below HB2.out HL.out) H1.out H2.out H3.out HA.out).mono ?_; rintro e w3 ⟨rfl, hb3⟩; have HB3 := Lib.hid (bmore (bstep HB2.out hb3) (.cells #[.int .i64 x, .int .i64 y] 31)); obtain ⟨s1, s2⟩ := P2.keep hb3; have hz3 := (P2.keep hb3).lt; clear hb3)
      | (go_at_call 22; ((with_reducible refine (shas_at _ _ _ _ HH.out).mono ?_); rintro e w4 ⟨rfl, hb4⟩; have HB4 := Lib.hid (bstep HB3.out hb4); obtain ⟨v1, v2⟩ := (Pair.new w3 x y 31).keep hb4; have P4 := (Pair.new w3 x y 31).keep hb4; clear hb4))
      | (go_at_call 22; ((with_reducible refine (shas_at _ _ _ _ HW.out).mono ?_); rintro e w5 ⟨rfl, hb5⟩; have HB5 := Lib.hid (bstep HB4.out hb5); obtain ⟨v1, v2⟩ := P4.keep hb5; have P5 := P4.keep hb5; clear hb5))
      | (go_at_call 20; ((with_reducible refine (sright_at _ _ _ HK.out).mono ?_); rintro e w6 ⟨rfl, hb6⟩; have HB6 := Lib.hid (bstep HB5.out hb6); obtain ⟨v1, v2⟩ := P5.keep hb6; clear hb6)))
    go_ret
    exact ⟨by simp, HB6.out⟩

theorem atS_none {lo hi t : Int} (h : okS lo hi = true) (ht : 0 ≤ t) {x y : Int} (ha : atS lo hi t = ((x, y), false)) : x = 0 ∧ y = 0 ∧ 9223372036854775807 < t + lo := by
  have hl := (okS_iff lo hi).1 h
  unfold atS at ha
  split at ha
  · simp at ha
  · rename_i hc
    simp only [Prod.mk.injEq, and_true] at ha
    refine ⟨ha.1.symm, ha.2.symm, ?_⟩
    by_cases hv : 9223372036854775807 < t + lo
    · exact hv
    · exact absurd ⟨h, ht, by rw [cutS_in _ ⟨by omega, by omega⟩]⟩ hc
theorem atS_some {lo hi t : Int} {x y : Int} (ha : atS lo hi t = ((x, y), true)) : 0 ≤ lo ∧ lo ≤ hi ∧ x = t + lo ∧ t + lo ≤ 9223372036854775807 ∧ (t + hi ≤ 9223372036854775807 ∧ y = t + hi ∨ 9223372036854775807 < t + hi ∧ y = 9223372036854775807) := by
  unfold atS at ha
  split at ha
  · rename_i hc
    obtain ⟨h, ht, hp⟩ := hc
    have hl := (okS_iff lo hi).1 h
    simp only [Prod.mk.injEq, and_true] at ha
    have hv : ¬ 9223372036854775807 < t + lo := fun hv => by rw [cutS_up _ hv] at hp; simp at hp
    rw [cutS_in (t + lo) ⟨by omega, by omega⟩] at ha
    refine ⟨hl.1, hl.2, ha.1.symm, by omega, ?_⟩
    by_cases hw : 9223372036854775807 < t + hi
    · rw [cutS_up _ hw] at ha; exact .inr ⟨hw, ha.2.symm⟩
    · rw [cutS_in (t + hi) ⟨by omega, by omega⟩] at ha; exact .inl ⟨by omega, ha.2.symm⟩
  · simp at ha
theorem hasS_not {lo hi d : Int} (h : ¬ (lo ≤ d ∧ d ≤ hi)) : hasS lo hi d = false := by
  rw [Bool.eq_false_iff]; exact fun hh => h ((hasS_iff _ _ _).1 hh)

theorem satWindow_walk (lo hi t u : Int) (W : World) (hN : NoneIs W) (g1 : (Lit.int .i64 lo).wf = true) (g2 : (Lit.int .i64 hi).wf = true) (g3 : (Lit.int .i64 t).wf = true) (g4 : (Lit.int .i64 u).wf = true) :
    Calls Tryd.prog 7 #[.agg #[.int .i64 lo, .int .i64 hi], .int .i64 t, .int .i64 u] W fun e w' => e = .returned (.bool true) ∧ Below W.heap.size W w' := by
  have h1 := bounds_i64 g1
  have h2 := bounds_i64 g2
  have h3 := bounds_i64 g3
  have h4 := bounds_i64 g4
  by_cases ht : 0 ≤ t
  · by_cases hu : 0 ≤ u
    · rcases hr : okS lo hi with _ | _
      · exact window_out lo hi t u W hN (.inr (.inr ⟨ht, hu, hr⟩))
      · rcases ha : atS lo hi t with ⟨⟨x, y⟩, p⟩
        cases p
        · obtain ⟨rfl, rfl, hc⟩ := atS_none hr ht ha
          refine window_none lo hi t u W hN h1 h2 ⟨ht, h3.2⟩ ⟨hu, h4.2⟩ hr ha ?_
          by_cases hut : u < t
          · exact .inl hut
          · exact .inr ⟨by omega, hasS_not (by omega)⟩
        · obtain ⟨l0, l1, rfl, l2, l3⟩ := atS_some ha
          refine window_some lo hi t u (t + lo) y _ W hN h1 h2 ⟨ht, h3.2⟩ ⟨hu, h4.2⟩ hr ha rfl ((okS_iff _ _).2 (by omega)) (by omega) ?_
          by_cases hut : u < t
          · exact .inl ⟨hut, hasS_not (by omega)⟩
          · refine .inr ⟨by omega, ?_⟩
            rw [Bool.eq_iff_iff, hasS_iff, hasS_iff]
            omega
    · exact window_out lo hi t u W hN (.inr (.inl ⟨ht, by omega⟩))
  · exact window_out lo hi t u W hN (.inl (by omega))
end Go.Proofs.YtfnhlajcdlfbhaaDoor
