/-
  The walk of the law SatSpans, case c.
-/
import Derived.Test.YtfnhlajcdlfbhaaDoorSpansKit
namespace Go.Proofs.YtfnhlajcdlfbhaaDoor
open Go.RowKit
set_option linter.unusedVariables false

set_option maxRecDepth 100000 in
set_option maxHeartbeats 4000000 in
theorem spans_c (a b c d t k x y u v : Int) (p r q : Bool) (z : ByteArray) (W : World) (hN : NoneIs W) (hT : Pows W) (h1 : -9223372036854775808 ≤ a ∧ a ≤ 9223372036854775807) (h2 : -9223372036854775808 ≤ b ∧ b ≤ 9223372036854775807) (h3 : -9223372036854775808 ≤ t ∧ t ≤ 9223372036854775807)
    (hr : okS a b = q) (ha : atS a b t = ((x, y), p)) (hm : meetS a b c d = ((u, v), r)) (hz : mkB (textS a b) = z) (k1 : a ≤ k) (k2 : decide (k ≤ b) = false) (hs : hasS a b k = false) :
    Calls Tryd.prog 5 #[.agg #[.int .i64 a, .int .i64 b], .agg #[.int .i64 c, .int .i64 d], .int .i64 t, .int .i64 k] W fun e w' => e = .returned (.bool true) ∧ Below W.heap.size W w' := by
  have HB := Lib.hid (bmore (bmore (bself W) (.cells #[.int .i64 a, .int .i64 b] 31)) (.cells #[.int .i64 c, .int .i64 d] 31))
  have HN := Lib.hid (hN.below HB.out hN.lt)
  have S0 := (Pair.new W a b 31).alloc (.cells #[.int .i64 c, .int .i64 d] 31)
  have O0 := Pair.new (W.alloc (.cells #[.int .i64 a, .int .i64 b] 31)) c d 31
  rw [World.size_alloc] at O0
  have HL := Lib.hid hN.lt
  have HN0 := Lib.hid hN
  have H1 := Lib.hid h1
  have H2 := Lib.hid h2
  have H3 := Lib.hid h3
  have HT := Lib.hid hT
  have HR := Lib.hid hr
  have HA := Lib.hid ha
  have HM := Lib.hid hm
  have HZ := Lib.hid hz
  have HS := Lib.hid hs
  clear hN hT h1 h2 h3 hr ha hm hz hs
  go_enter Tryd.func5, Tryd.ntmps5
  go_wp2_with (first
    | (go_at_call 9; refine (awake2_any _ HN.out).mono ?_; rintro e w1 ⟨rfl, hb1⟩; have HB1 := Lib.hid (bmore (bmore (bstep HB.out hb1) (.cells #[.int .i64 a, .int .i64 b] 32)) (.cells #[.int .i64 c, .int .i64 d] 32)); have S1 := ((S0.keep hb1).alloc (.cells #[.int .i64 a, .int .i64 b] 32)).alloc (.cells #[.int .i64 c, .int .i64 d] 32); have O1 := ((O0.keep hb1).alloc (.cells #[.int .i64 a, .int .i64 b] 32)).alloc (.cells #[.int .i64 c, .int .i64 d] 32); have A1 := (Pair.new w1 a b 32).alloc (.cells #[.int .i64 c, .int .i64 d] 32); have B1 := Pair.new (w1.alloc (.cells #[.int .i64 a, .int .i64 b] 32)) c d 32; rw [World.size_alloc] at B1; have l1 := (S0.keep hb1).lt; have l2 := (O0.keep hb1).lt; obtain ⟨s1, s2⟩ := S0.keep hb1; obtain ⟨o1, o2⟩ := O0.keep hb1; clear hb1 S0 O0)
    | (go_at_call 16; ((with_reducible refine (sat_at a b t _ (HN0.out.below HB1.out HL.out) H1.out H2.out H3.out HA.out).mono ?_); rintro e w2 ⟨rfl, hb2⟩; have HB2 := Lib.hid (bmore (bstep HB1.out hb2) (.cells #[.int .i64 x, .int .i64 y] 31)); clear s1 s2 o1 o2 l1 l2; have S2 := (S1.keep hb2).alloc (.cells #[.int .i64 x, .int .i64 y] 31); have lS := (S1.keep hb2).lt; obtain ⟨s1, s2⟩ := S1.keep hb2; have O2 := (O1.keep hb2).alloc (.cells #[.int .i64 x, .int .i64 y] 31); have lO := (O1.keep hb2).lt; obtain ⟨o1, o2⟩ := O1.keep hb2; have A2 := (A1.keep hb2).alloc (.cells #[.int .i64 x, .int .i64 y] 31); have lA := (A1.keep hb2).lt; obtain ⟨a1, a2⟩ := A1.keep hb2; have B2 := (B1.keep hb2).alloc (.cells #[.int .i64 x, .int .i64 y] 31); have lB := (B1.keep hb2).lt; obtain ⟨b1, b2⟩ := B1.keep hb2; have X2 := Pair.new w2 x y 31; clear hb2 S1 O1 A1 B1))
    | (go_at_call 17; ((with_reducible refine (rat_at a b t _ H1.out H2.out H3.out HA.out).mono ?_); rintro e w3 ⟨rfl, hb3⟩; have HB3 := Lib.hid (bmore (bstep HB2.out hb3) (.cells #[.int .i64 x, .int .i64 y] 32)); clear s1 s2 o1 o2 a1 a2 b1 b2 lS lO lA lB; have S3 := (S2.keep hb3).alloc (.cells #[.int .i64 x, .int .i64 y] 32); have lS := (S2.keep hb3).lt; obtain ⟨s1, s2⟩ := S2.keep hb3; have O3 := (O2.keep hb3).alloc (.cells #[.int .i64 x, .int .i64 y] 32); have lO := (O2.keep hb3).lt; obtain ⟨o1, o2⟩ := O2.keep hb3; have A3 := (A2.keep hb3).alloc (.cells #[.int .i64 x, .int .i64 y] 32); have lA := (A2.keep hb3).lt; obtain ⟨a1, a2⟩ := A2.keep hb3; have B3 := (B2.keep hb3).alloc (.cells #[.int .i64 x, .int .i64 y] 32); have lB := (B2.keep hb3).lt; obtain ⟨b1, b2⟩ := B2.keep hb3; have X3 := (X2.keep hb3).alloc (.cells #[.int .i64 x, .int .i64 y] 32); have lX := (X2.keep hb3).lt; obtain ⟨x1, x2⟩ := X2.keep hb3; have Y3 := Pair.new w3 x y 32; clear hb3 S2 O2 A2 B2 X2))
    | (go_at_call 18; ((with_reducible refine (smeet_at a b c d _ (HN0.out.below HB3.out HL.out) HM.out).mono ?_); rintro e w4 ⟨rfl, hb4⟩; have HB4 := Lib.hid (bmore (bstep HB3.out hb4) (.cells #[.int .i64 u, .int .i64 v] 31)); clear s1 s2 o1 o2 a1 a2 b1 b2 x1 x2 lS lO lA lB lX; have S4 := (S3.keep hb4).alloc (.cells #[.int .i64 u, .int .i64 v] 31); have lS := (S3.keep hb4).lt; obtain ⟨s1, s2⟩ := S3.keep hb4; have O4 := (O3.keep hb4).alloc (.cells #[.int .i64 u, .int .i64 v] 31); have lO := (O3.keep hb4).lt; obtain ⟨o1, o2⟩ := O3.keep hb4; have A4 := (A3.keep hb4).alloc (.cells #[.int .i64 u, .int .i64 v] 31); have lA := (A3.keep hb4).lt; obtain ⟨a1, a2⟩ := A3.keep hb4; have B4 := (B3.keep hb4).alloc (.cells #[.int .i64 u, .int .i64 v] 31); have lB := (B3.keep hb4).lt; obtain ⟨b1, b2⟩ := B3.keep hb4; have X4 := (X3.keep hb4).alloc (.cells #[.int .i64 u, .int .i64 v] 31); have lX := (X3.keep hb4).lt; obtain ⟨x1, x2⟩ := X3.keep hb4; have Y4 := (Y3.keep hb4).alloc (.cells #[.int .i64 u, .int .i64 v] 31); have lY := (Y3.keep hb4).lt; obtain ⟨y1, y2⟩ := Y3.keep hb4; have U4 := Pair.new w4 u v 31; clear hb4 S3 O3 A3 B3 X3 Y3))
    | (go_at_call 19; ((with_reducible refine (rmeet_at a b c d _ HM.out).mono ?_); rintro e w5 ⟨rfl, hb5⟩; have HB5 := Lib.hid (bmore (bstep HB4.out hb5) (.cells #[.int .i64 u, .int .i64 v] 32)); clear s1 s2 o1 o2 a1 a2 b1 b2 x1 x2 y1 y2 lS lO lA lB lX lY; have S5 := (S4.keep hb5).alloc (.cells #[.int .i64 u, .int .i64 v] 32); have lS := (S4.keep hb5).lt; obtain ⟨s1, s2⟩ := S4.keep hb5; have O5 := (O4.keep hb5).alloc (.cells #[.int .i64 u, .int .i64 v] 32); have lO := (O4.keep hb5).lt; obtain ⟨o1, o2⟩ := O4.keep hb5; have A5 := (A4.keep hb5).alloc (.cells #[.int .i64 u, .int .i64 v] 32); have lA := (A4.keep hb5).lt; obtain ⟨a1, a2⟩ := A4.keep hb5; have B5 := (B4.keep hb5).alloc (.cells #[.int .i64 u, .int .i64 v] 32); have lB := (B4.keep hb5).lt; obtain ⟨b1, b2⟩ := B4.keep hb5; have X5 := (X4.keep hb5).alloc (.cells #[.int .i64 u, .int .i64 v] 32); have lX := (X4.keep hb5).lt; obtain ⟨x1, x2⟩ := X4.keep hb5; have Y5 := (Y4.keep hb5).alloc (.cells #[.int .i64 u, .int .i64 v] 32); have lY := (Y4.keep hb5).lt; obtain ⟨y1, y2⟩ := Y4.keep hb5; have U5 := (U4.keep hb5).alloc (.cells #[.int .i64 u, .int .i64 v] 32); have lU := (U4.keep hb5).lt; obtain ⟨u1, u2⟩ := U4.keep hb5; have V5 := Pair.new w5 u v 32; clear hb5 S4 O4 A4 B4 X4 Y4 U4)))
  have HX : SixS W _ _ _ _ _ _ a b x y u v _ := SixS.mk_ S5 A5 X5 Y5 U5 V5 HB5.out
  clear S5 O5 A5 B5 X5 Y5 U5 V5 HB HB1 HB2 HB3 HB4 HB5 HN HL HN0 HA HM H3 s1 s2 o1 o2 a1 a2 b1 b2 x1 x2 y1 y2 u1 u2 lS lO lA lB lX lY lU
  generalize W.heap.size = g0 at HX ⊢
  generalize w1.heap.size = g1 at HX ⊢
  generalize w2.heap.size = g2 at HX ⊢
  generalize w3.heap.size = g3 at HX ⊢
  generalize w4.heap.size = g4 at HX ⊢
  generalize w5.heap.size = g5 at HX ⊢
  generalize w5.alloc (.cells #[.int .i64 u, .int .i64 v] 32) = wx at HX ⊢
  clear w5 w4 w3 w2 w1
  have K1 : ∀ w', SixS W g0 g1 g2 g3 g4 g5 a b x y u v w' → Calls Tryd.prog 23 #[.agg #[.int .i64 a, .int .i64 b]] w' (fun e w'' => e = .returned (.string z) ∧ Below w'.heap.size w' w'') := fun w' h => stext_at W HT.out a b _ h.far H1.out H2.out HZ.out
  have K2 : ∀ w', Calls Tryd.prog 24 #[.agg #[.int .i64 a, .int .i64 b]] w' (fun e w'' => e = .returned (.string z) ∧ Below w'.heap.size w' w'') := fun w' => rtext_at a b _ H1.out H2.out HZ.out
  simp only [List.append_eq, List.cons_append, List.nil_append]
  have q := HX
  obtain ⟨c0, d0, c1, d1, c2, d2, c3, d3, c4, d4, c5, d5, hh⟩ := q
  go_region_held3 (fun w' => w'.cell? ⟨g0, 0, none⟩ = some (.int .i64 a) ∧ w'.cell? ⟨g0, 1, none⟩ = some (.int .i64 b) ∧ w'.cell? ⟨g1, 0, none⟩ = some (.int .i64 a) ∧ w'.cell? ⟨g1, 1, none⟩ = some (.int .i64 b) ∧ w'.cell? ⟨g2, 0, none⟩ = some (.int .i64 x) ∧ w'.cell? ⟨g2, 1, none⟩ = some (.int .i64 y) ∧ w'.cell? ⟨g3, 0, none⟩ = some (.int .i64 x) ∧ w'.cell? ⟨g3, 1, none⟩ = some (.int .i64 y) ∧ w'.cell? ⟨g4, 0, none⟩ = some (.int .i64 u) ∧ w'.cell? ⟨g4, 1, none⟩ = some (.int .i64 v) ∧ w'.cell? ⟨g5, 0, none⟩ = some (.int .i64 u) ∧ w'.cell? ⟨g5, 1, none⟩ = some (.int .i64 v) ∧ Hid (g0 < w'.heap.size ∧ g1 < w'.heap.size ∧ g2 < w'.heap.size ∧ g3 < w'.heap.size ∧ g4 < w'.heap.size ∧ g5 < w'.heap.size ∧ Below W.heap.size W w'))
    (first | assumption | exact SixS.drew (by assumption))
    (first
      | (go_at_call 20; ((with_reducible refine (sright_at a b _ HR.out).mono ?_); rintro e w1 ⟨rfl, hb1⟩; have hs1 := SixS.keep (W := W) (g0 := g0) (g1 := g1) (g2 := g2) (g3 := g3) (g4 := g4) (g5 := g5) (a := a) (b := b) (x := x) (y := y) (u := u) (v := v) (by assumption) hb1))
      | (go_at_call 21; ((with_reducible refine (rright_at a b _ HR.out).mono ?_); rintro e w1 ⟨rfl, hb1⟩; have hs1 := SixS.keep (W := W) (g0 := g0) (g1 := g1) (g2 := g2) (g3 := g3) (g4 := g4) (g5 := g5) (a := a) (b := b) (x := x) (y := y) (u := u) (v := v) (by assumption) hb1))
      | (go_at_call 22; ((with_reducible refine (shas_at a b k _ HS.out).mono ?_); rintro e w1 ⟨rfl, hb1⟩; have hs1 := SixS.keep (W := W) (g0 := g0) (g1 := g1) (g2 := g2) (g3 := g3) (g4 := g4) (g5 := g5) (a := a) (b := b) (x := x) (y := y) (u := u) (v := v) (by assumption) hb1))
      | (go_at_call 23; ((with_reducible refine Calls.mono (K1 _ ?_) ?_); (first | assumption); rintro e w1 ⟨rfl, hb1⟩; have hs1 := SixS.keep (W := W) (g0 := g0) (g1 := g1) (g2 := g2) (g3 := g3) (g4 := g4) (g5 := g5) (a := a) (b := b) (x := x) (y := y) (u := u) (v := v) (by assumption) hb1))
      | (go_at_call 24; ((with_reducible refine (K2 _).mono ?_); rintro e w1 ⟨rfl, hb1⟩; have hs1 := SixS.keep (W := W) (g0 := g0) (g1 := g1) (g2 := g2) (g3 := g3) (g4 := g4) (g5 := g5) (a := a) (b := b) (x := x) (y := y) (u := u) (v := v) (by assumption) hb1)))
  have H := SixS.far (W := W) (g0 := g0) (g1 := g1) (g2 := g2) (g3 := g3) (g4 := g4) (g5 := g5) (a := a) (b := b) (x := x) (y := y) (u := u) (v := v) (by assumption)
  go_wp2
  go_ret
  exact ⟨rfl, H⟩
end Go.Proofs.YtfnhlajcdlfbhaaDoor
