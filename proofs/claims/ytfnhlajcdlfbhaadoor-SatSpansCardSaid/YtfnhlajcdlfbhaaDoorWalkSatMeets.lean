/-
  The walk of the law SatMeets.
-/
import Derived.Test.YtfnhlajcdlfbhaaDoorWalkSatWindow
namespace Go.Proofs.YtfnhlajcdlfbhaaDoor
open Go.RowKit
set_option linter.unusedVariables false

theorem smeet_at (a b c d : Int) (w : World) (hN : NoneIs w) {x y : Int} {p : Bool} (h : meetS a b c d = ((x, y), p)) :
    Calls Tryd.prog 18 #[.agg #[.int .i64 a, .int .i64 b], .agg #[.int .i64 c, .int .i64 d]] w fun e w' => e = .returned (.tuple #[.agg #[.int .i64 x, .int .i64 y], .bool p]) ∧ Below w.heap.size w w' := by
  have k := smeet_any a b c d w hN
  rw [h] at k
  exact k

set_option maxRecDepth 100000 in
set_option maxHeartbeats 1000000 in
theorem meets_0a (a b c d k : Int)  (W : World) (hN : NoneIs W) (hm : meetS a b c d = ((0, 0), false)) (hn : meetS c d a b = ((0, 0), false)) (hs : hasS a b k = false) :
    Calls Tryd.prog 8 #[.agg #[.int .i64 a, .int .i64 b], .agg #[.int .i64 c, .int .i64 d], .int .i64 k] W fun e w' => e = .returned (.bool true) ∧ Below W.heap.size W w' := by
  have HB := Lib.hid (bmore (bmore (bself W) (.cells #[.int .i64 a, .int .i64 b] 31)) (.cells #[.int .i64 c, .int .i64 d] 31))
  have HN := Lib.hid (hN.below HB.out hN.lt)
  have S0 := (Pair.new W a b 31).alloc (.cells #[.int .i64 c, .int .i64 d] 31)
  have O0 := Pair.new (W.alloc (.cells #[.int .i64 a, .int .i64 b] 31)) c d 31
  rw [World.size_alloc] at O0
  have HL := Lib.hid hN.lt
  have HN0 := Lib.hid hN
  have HM := Lib.hid hm
  have HM2 := Lib.hid hn
  have HS := Lib.hid hs
  clear hN hm hn hs
  go_enter Tryd.func8, Tryd.ntmps8
  go_wp2_with (first
    | (go_at_call 9; refine (awake2_any _ HN.out).mono ?_; rintro e w1 ⟨rfl, hb1⟩; have HB1 := Lib.hid (bstep HB.out hb1); have S1 := S0.keep hb1; have O1 := O0.keep hb1; obtain ⟨s1, s2⟩ := S0.keep hb1; obtain ⟨o1, o2⟩ := O0.keep hb1; clear hb1 S0 O0)
    | (go_at_call 18; ((with_reducible refine (smeet_at a b c d _ (HN0.out.below HB1.out HL.out) HM.out).mono ?_); rintro e w2 ⟨rfl, hb2⟩; have HB2 := Lib.hid (bmore (bstep HB1.out hb2) (.cells #[.int .i64 0, .int .i64 0] 31)); have S2 := (S1.keep hb2).alloc (.cells #[.int .i64 0, .int .i64 0] 31); have O2 := (O1.keep hb2).alloc (.cells #[.int .i64 0, .int .i64 0] 31); have M2 := Pair.new w2 0 0 31; have l1 := (S1.keep hb2).lt; have l2 := (O1.keep hb2).lt; obtain ⟨s1, s2⟩ := S1.keep hb2; obtain ⟨o1, o2⟩ := O1.keep hb2; clear hb2 S1 O1))
    | (go_at_call 18; ((with_reducible refine (smeet_at c d a b _ (HN0.out.below HB2.out HL.out) HM2.out).mono ?_); rintro e w3 ⟨rfl, hb3⟩; have HB3 := Lib.hid (bmore (bstep HB2.out hb3) (.cells #[.int .i64 0, .int .i64 0] 31)); have S3 := (S2.keep hb3).alloc (.cells #[.int .i64 0, .int .i64 0] 31); have O3 := (O2.keep hb3).alloc (.cells #[.int .i64 0, .int .i64 0] 31); have M3 := (M2.keep hb3).alloc (.cells #[.int .i64 0, .int .i64 0] 31); have N3 := Pair.new w3 0 0 31; have l3 := (S2.keep hb3).lt; have l4 := (O2.keep hb3).lt; have l5 := (M2.keep hb3).lt; obtain ⟨s1, s2⟩ := S2.keep hb3; obtain ⟨o1, o2⟩ := O2.keep hb3; obtain ⟨m1, m2⟩ := M2.keep hb3; clear hb3 S2 O2 M2 l1 l2))
    | (go_at_call 22; ((with_reducible refine (shas_at a b k _ HS.out).mono ?_); rintro e w4 ⟨rfl, hb4⟩; have HB4 := Lib.hid (bstep HB3.out hb4); have S4 := S3.keep hb4; obtain ⟨s1, s2⟩ := S3.keep hb4; have O4 := O3.keep hb4; obtain ⟨o1, o2⟩ := O3.keep hb4; have M4 := M3.keep hb4; obtain ⟨m1, m2⟩ := M3.keep hb4; have N4 := N3.keep hb4; obtain ⟨n1, n2⟩ := N3.keep hb4; clear hb4 S3 O3 M3 N3)))
  go_ret
  exact ⟨rfl, HB4.out⟩
set_option maxRecDepth 100000 in
set_option maxHeartbeats 1000000 in
theorem meets_0b (a b c d k : Int)  (W : World) (hN : NoneIs W) (hm : meetS a b c d = ((0, 0), false)) (hn : meetS c d a b = ((0, 0), false)) (hs : hasS a b k = true) (ho : hasS c d k = false) :
    Calls Tryd.prog 8 #[.agg #[.int .i64 a, .int .i64 b], .agg #[.int .i64 c, .int .i64 d], .int .i64 k] W fun e w' => e = .returned (.bool true) ∧ Below W.heap.size W w' := by
  have HB := Lib.hid (bmore (bmore (bself W) (.cells #[.int .i64 a, .int .i64 b] 31)) (.cells #[.int .i64 c, .int .i64 d] 31))
  have HN := Lib.hid (hN.below HB.out hN.lt)
  have S0 := (Pair.new W a b 31).alloc (.cells #[.int .i64 c, .int .i64 d] 31)
  have O0 := Pair.new (W.alloc (.cells #[.int .i64 a, .int .i64 b] 31)) c d 31
  rw [World.size_alloc] at O0
  have HL := Lib.hid hN.lt
  have HN0 := Lib.hid hN
  have HM := Lib.hid hm
  have HM2 := Lib.hid hn
  have HS := Lib.hid hs
  have HO := Lib.hid ho
  clear hN hm hn hs ho
  go_enter Tryd.func8, Tryd.ntmps8
  go_wp2_with (first
    | (go_at_call 9; refine (awake2_any _ HN.out).mono ?_; rintro e w1 ⟨rfl, hb1⟩; have HB1 := Lib.hid (bstep HB.out hb1); have S1 := S0.keep hb1; have O1 := O0.keep hb1; obtain ⟨s1, s2⟩ := S0.keep hb1; obtain ⟨o1, o2⟩ := O0.keep hb1; clear hb1 S0 O0)
    | (go_at_call 18; ((with_reducible refine (smeet_at a b c d _ (HN0.out.below HB1.out HL.out) HM.out).mono ?_); rintro e w2 ⟨rfl, hb2⟩; have HB2 := Lib.hid (bmore (bstep HB1.out hb2) (.cells #[.int .i64 0, .int .i64 0] 31)); have S2 := (S1.keep hb2).alloc (.cells #[.int .i64 0, .int .i64 0] 31); have O2 := (O1.keep hb2).alloc (.cells #[.int .i64 0, .int .i64 0] 31); have M2 := Pair.new w2 0 0 31; have l1 := (S1.keep hb2).lt; have l2 := (O1.keep hb2).lt; obtain ⟨s1, s2⟩ := S1.keep hb2; obtain ⟨o1, o2⟩ := O1.keep hb2; clear hb2 S1 O1))
    | (go_at_call 18; ((with_reducible refine (smeet_at c d a b _ (HN0.out.below HB2.out HL.out) HM2.out).mono ?_); rintro e w3 ⟨rfl, hb3⟩; have HB3 := Lib.hid (bmore (bstep HB2.out hb3) (.cells #[.int .i64 0, .int .i64 0] 31)); have S3 := (S2.keep hb3).alloc (.cells #[.int .i64 0, .int .i64 0] 31); have O3 := (O2.keep hb3).alloc (.cells #[.int .i64 0, .int .i64 0] 31); have M3 := (M2.keep hb3).alloc (.cells #[.int .i64 0, .int .i64 0] 31); have N3 := Pair.new w3 0 0 31; have l3 := (S2.keep hb3).lt; have l4 := (O2.keep hb3).lt; have l5 := (M2.keep hb3).lt; obtain ⟨s1, s2⟩ := S2.keep hb3; obtain ⟨o1, o2⟩ := O2.keep hb3; obtain ⟨m1, m2⟩ := M2.keep hb3; clear hb3 S2 O2 M2 l1 l2))
    | (go_at_call 22; ((with_reducible refine (shas_at a b k _ HS.out).mono ?_); rintro e w4 ⟨rfl, hb4⟩; have HB4 := Lib.hid (bstep HB3.out hb4); have S4 := S3.keep hb4; obtain ⟨s1, s2⟩ := S3.keep hb4; have O4 := O3.keep hb4; obtain ⟨o1, o2⟩ := O3.keep hb4; have M4 := M3.keep hb4; obtain ⟨m1, m2⟩ := M3.keep hb4; have N4 := N3.keep hb4; obtain ⟨n1, n2⟩ := N3.keep hb4; clear hb4 S3 O3 M3 N3))
    | (go_at_call 22; ((with_reducible refine (shas_at c d k _ HO.out).mono ?_); rintro e w5 ⟨rfl, hb5⟩; have HB5 := Lib.hid (bstep HB4.out hb5); have S5 := S4.keep hb5; obtain ⟨s1, s2⟩ := S4.keep hb5; have O5 := O4.keep hb5; obtain ⟨o1, o2⟩ := O4.keep hb5; have M5 := M4.keep hb5; obtain ⟨m1, m2⟩ := M4.keep hb5; have N5 := N4.keep hb5; obtain ⟨n1, n2⟩ := N4.keep hb5; clear hb5 S4 O4 M4 N4)))
  go_ret
  exact ⟨rfl, HB5.out⟩
set_option maxRecDepth 100000 in
set_option maxHeartbeats 1000000 in
theorem meets_1a (a b c d k : Int) (x y : Int) (W : World) (hN : NoneIs W) (hm : meetS a b c d = ((x, y), true)) (hn : meetS c d a b = ((x, y), true)) (hq : hasS x y k = true) (hxy : x ≤ y) (hs : hasS a b k = true) (ho : hasS c d k = true) :
    Calls Tryd.prog 8 #[.agg #[.int .i64 a, .int .i64 b], .agg #[.int .i64 c, .int .i64 d], .int .i64 k] W fun e w' => e = .returned (.bool true) ∧ Below W.heap.size W w' := by
  have HB := Lib.hid (bmore (bmore (bself W) (.cells #[.int .i64 a, .int .i64 b] 31)) (.cells #[.int .i64 c, .int .i64 d] 31))
  have HN := Lib.hid (hN.below HB.out hN.lt)
  have S0 := (Pair.new W a b 31).alloc (.cells #[.int .i64 c, .int .i64 d] 31)
  have O0 := Pair.new (W.alloc (.cells #[.int .i64 a, .int .i64 b] 31)) c d 31
  rw [World.size_alloc] at O0
  have HL := Lib.hid hN.lt
  have HN0 := Lib.hid hN
  have HM := Lib.hid hm
  have HM2 := Lib.hid hn
  have HS := Lib.hid hs
  have HQ := Lib.hid hq
  have HO := Lib.hid ho
  clear hN hm hn hs hq ho
  go_enter Tryd.func8, Tryd.ntmps8
  go_wp2_with (first
    | (go_at_call 9; refine (awake2_any _ HN.out).mono ?_; rintro e w1 ⟨rfl, hb1⟩; have HB1 := Lib.hid (bstep HB.out hb1); have S1 := S0.keep hb1; have O1 := O0.keep hb1; obtain ⟨s1, s2⟩ := S0.keep hb1; obtain ⟨o1, o2⟩ := O0.keep hb1; clear hb1 S0 O0)
    | (go_at_call 18; ((with_reducible refine (smeet_at a b c d _ (HN0.out.below HB1.out HL.out) HM.out).mono ?_); rintro e w2 ⟨rfl, hb2⟩; have HB2 := Lib.hid (bmore (bstep HB1.out hb2) (.cells #[.int .i64 x, .int .i64 y] 31)); have S2 := (S1.keep hb2).alloc (.cells #[.int .i64 x, .int .i64 y] 31); have O2 := (O1.keep hb2).alloc (.cells #[.int .i64 x, .int .i64 y] 31); have M2 := Pair.new w2 x y 31; have l1 := (S1.keep hb2).lt; have l2 := (O1.keep hb2).lt; obtain ⟨s1, s2⟩ := S1.keep hb2; obtain ⟨o1, o2⟩ := O1.keep hb2; clear hb2 S1 O1))
    | (go_at_call 18; ((with_reducible refine (smeet_at c d a b _ (HN0.out.below HB2.out HL.out) HM2.out).mono ?_); rintro e w3 ⟨rfl, hb3⟩; have HB3 := Lib.hid (bmore (bstep HB2.out hb3) (.cells #[.int .i64 x, .int .i64 y] 31)); have S3 := (S2.keep hb3).alloc (.cells #[.int .i64 x, .int .i64 y] 31); have O3 := (O2.keep hb3).alloc (.cells #[.int .i64 x, .int .i64 y] 31); have M3 := (M2.keep hb3).alloc (.cells #[.int .i64 x, .int .i64 y] 31); have N3 := Pair.new w3 x y 31; have l3 := (S2.keep hb3).lt; have l4 := (O2.keep hb3).lt; have l5 := (M2.keep hb3).lt; obtain ⟨s1, s2⟩ := S2.keep hb3; obtain ⟨o1, o2⟩ := O2.keep hb3; obtain ⟨m1, m2⟩ := M2.keep hb3; clear hb3 S2 O2 M2 l1 l2))
    | (go_at_call 22; ((with_reducible refine (shas_at x y k _ HQ.out).mono ?_); rintro e w4 ⟨rfl, hb4⟩; have HB4 := Lib.hid (bstep HB3.out hb4); have S4 := S3.keep hb4; obtain ⟨s1, s2⟩ := S3.keep hb4; have O4 := O3.keep hb4; obtain ⟨o1, o2⟩ := O3.keep hb4; have M4 := M3.keep hb4; obtain ⟨m1, m2⟩ := M3.keep hb4; have N4 := N3.keep hb4; obtain ⟨n1, n2⟩ := N3.keep hb4; clear hb4 S3 O3 M3 N3))
    | (go_at_call 22; ((with_reducible refine (shas_at a b k _ HS.out).mono ?_); rintro e w5 ⟨rfl, hb5⟩; have HB5 := Lib.hid (bstep HB4.out hb5); have S5 := S4.keep hb5; obtain ⟨s1, s2⟩ := S4.keep hb5; have O5 := O4.keep hb5; obtain ⟨o1, o2⟩ := O4.keep hb5; have M5 := M4.keep hb5; obtain ⟨m1, m2⟩ := M4.keep hb5; have N5 := N4.keep hb5; obtain ⟨n1, n2⟩ := N4.keep hb5; clear hb5 S4 O4 M4 N4))
    | (go_at_call 22; ((with_reducible refine (shas_at c d k _ HO.out).mono ?_); rintro e w6 ⟨rfl, hb6⟩; have HB6 := Lib.hid (bstep HB5.out hb6); have S6 := S5.keep hb6; obtain ⟨s1, s2⟩ := S5.keep hb6; have O6 := O5.keep hb6; obtain ⟨o1, o2⟩ := O5.keep hb6; have M6 := M5.keep hb6; obtain ⟨m1, m2⟩ := M5.keep hb6; have N6 := N5.keep hb6; obtain ⟨n1, n2⟩ := N5.keep hb6; clear hb6 S5 O5 M5 N5)))
  go_ret
  exact ⟨rfl, HB6.out⟩
set_option maxRecDepth 100000 in
set_option maxHeartbeats 1000000 in
theorem meets_1b (a b c d k : Int) (x y : Int) (W : World) (hN : NoneIs W) (hm : meetS a b c d = ((x, y), true)) (hn : meetS c d a b = ((x, y), true)) (hq : hasS x y k = false) (hxy : x ≤ y) (hs : hasS a b k = false) :
    Calls Tryd.prog 8 #[.agg #[.int .i64 a, .int .i64 b], .agg #[.int .i64 c, .int .i64 d], .int .i64 k] W fun e w' => e = .returned (.bool true) ∧ Below W.heap.size W w' := by
  have HB := Lib.hid (bmore (bmore (bself W) (.cells #[.int .i64 a, .int .i64 b] 31)) (.cells #[.int .i64 c, .int .i64 d] 31))
  have HN := Lib.hid (hN.below HB.out hN.lt)
  have S0 := (Pair.new W a b 31).alloc (.cells #[.int .i64 c, .int .i64 d] 31)
  have O0 := Pair.new (W.alloc (.cells #[.int .i64 a, .int .i64 b] 31)) c d 31
  rw [World.size_alloc] at O0
  have HL := Lib.hid hN.lt
  have HN0 := Lib.hid hN
  have HM := Lib.hid hm
  have HM2 := Lib.hid hn
  have HS := Lib.hid hs
  have HQ := Lib.hid hq
  clear hN hm hn hs hq
  go_enter Tryd.func8, Tryd.ntmps8
  go_wp2_with (first
    | (go_at_call 9; refine (awake2_any _ HN.out).mono ?_; rintro e w1 ⟨rfl, hb1⟩; have HB1 := Lib.hid (bstep HB.out hb1); have S1 := S0.keep hb1; have O1 := O0.keep hb1; obtain ⟨s1, s2⟩ := S0.keep hb1; obtain ⟨o1, o2⟩ := O0.keep hb1; clear hb1 S0 O0)
    | (go_at_call 18; ((with_reducible refine (smeet_at a b c d _ (HN0.out.below HB1.out HL.out) HM.out).mono ?_); rintro e w2 ⟨rfl, hb2⟩; have HB2 := Lib.hid (bmore (bstep HB1.out hb2) (.cells #[.int .i64 x, .int .i64 y] 31)); have S2 := (S1.keep hb2).alloc (.cells #[.int .i64 x, .int .i64 y] 31); have O2 := (O1.keep hb2).alloc (.cells #[.int .i64 x, .int .i64 y] 31); have M2 := Pair.new w2 x y 31; have l1 := (S1.keep hb2).lt; have l2 := (O1.keep hb2).lt; obtain ⟨s1, s2⟩ := S1.keep hb2; obtain ⟨o1, o2⟩ := O1.keep hb2; clear hb2 S1 O1))
    | (go_at_call 18; ((with_reducible refine (smeet_at c d a b _ (HN0.out.below HB2.out HL.out) HM2.out).mono ?_); rintro e w3 ⟨rfl, hb3⟩; have HB3 := Lib.hid (bmore (bstep HB2.out hb3) (.cells #[.int .i64 x, .int .i64 y] 31)); have S3 := (S2.keep hb3).alloc (.cells #[.int .i64 x, .int .i64 y] 31); have O3 := (O2.keep hb3).alloc (.cells #[.int .i64 x, .int .i64 y] 31); have M3 := (M2.keep hb3).alloc (.cells #[.int .i64 x, .int .i64 y] 31); have N3 := Pair.new w3 x y 31; have l3 := (S2.keep hb3).lt; have l4 := (O2.keep hb3).lt; have l5 := (M2.keep hb3).lt; obtain ⟨s1, s2⟩ := S2.keep hb3; obtain ⟨o1, o2⟩ := O2.keep hb3; obtain ⟨m1, m2⟩ := M2.keep hb3; clear hb3 S2 O2 M2 l1 l2))
    | (go_at_call 22; ((with_reducible refine (shas_at x y k _ HQ.out).mono ?_); rintro e w4 ⟨rfl, hb4⟩; have HB4 := Lib.hid (bstep HB3.out hb4); have S4 := S3.keep hb4; obtain ⟨s1, s2⟩ := S3.keep hb4; have O4 := O3.keep hb4; obtain ⟨o1, o2⟩ := O3.keep hb4; have M4 := M3.keep hb4; obtain ⟨m1, m2⟩ := M3.keep hb4; have N4 := N3.keep hb4; obtain ⟨n1, n2⟩ := N3.keep hb4; clear hb4 S3 O3 M3 N3))
    | (go_at_call 22; ((with_reducible refine (shas_at a b k _ HS.out).mono ?_); rintro e w5 ⟨rfl, hb5⟩; have HB5 := Lib.hid (bstep HB4.out hb5); have S5 := S4.keep hb5; obtain ⟨s1, s2⟩ := S4.keep hb5; have O5 := O4.keep hb5; obtain ⟨o1, o2⟩ := O4.keep hb5; have M5 := M4.keep hb5; obtain ⟨m1, m2⟩ := M4.keep hb5; have N5 := N4.keep hb5; obtain ⟨n1, n2⟩ := N4.keep hb5; clear hb5 S4 O4 M4 N4)))
  go_ret
  exact ⟨rfl, HB5.out⟩
set_option maxRecDepth 100000 in
set_option maxHeartbeats 1000000 in
theorem meets_1c (a b c d k : Int) (x y : Int) (W : World) (hN : NoneIs W) (hm : meetS a b c d = ((x, y), true)) (hn : meetS c d a b = ((x, y), true)) (hq : hasS x y k = false) (hxy : x ≤ y) (hs : hasS a b k = true) (ho : hasS c d k = false) :
    Calls Tryd.prog 8 #[.agg #[.int .i64 a, .int .i64 b], .agg #[.int .i64 c, .int .i64 d], .int .i64 k] W fun e w' => e = .returned (.bool true) ∧ Below W.heap.size W w' := by
  have HB := Lib.hid (bmore (bmore (bself W) (.cells #[.int .i64 a, .int .i64 b] 31)) (.cells #[.int .i64 c, .int .i64 d] 31))
  have HN := Lib.hid (hN.below HB.out hN.lt)
  have S0 := (Pair.new W a b 31).alloc (.cells #[.int .i64 c, .int .i64 d] 31)
  have O0 := Pair.new (W.alloc (.cells #[.int .i64 a, .int .i64 b] 31)) c d 31
  rw [World.size_alloc] at O0
  have HL := Lib.hid hN.lt
  have HN0 := Lib.hid hN
  have HM := Lib.hid hm
  have HM2 := Lib.hid hn
  have HS := Lib.hid hs
  have HQ := Lib.hid hq
  have HO := Lib.hid ho
  clear hN hm hn hs hq ho
  go_enter Tryd.func8, Tryd.ntmps8
  go_wp2_with (first
    | (go_at_call 9; refine (awake2_any _ HN.out).mono ?_; rintro e w1 ⟨rfl, hb1⟩; have HB1 := Lib.hid (bstep HB.out hb1); have S1 := S0.keep hb1; have O1 := O0.keep hb1; obtain ⟨s1, s2⟩ := S0.keep hb1; obtain ⟨o1, o2⟩ := O0.keep hb1; clear hb1 S0 O0)
    | (go_at_call 18; ((with_reducible refine (smeet_at a b c d _ (HN0.out.below HB1.out HL.out) HM.out).mono ?_); rintro e w2 ⟨rfl, hb2⟩; have HB2 := Lib.hid (bmore (bstep HB1.out hb2) (.cells #[.int .i64 x, .int .i64 y] 31)); have S2 := (S1.keep hb2).alloc (.cells #[.int .i64 x, .int .i64 y] 31); have O2 := (O1.keep hb2).alloc (.cells #[.int .i64 x, .int .i64 y] 31); have M2 := Pair.new w2 x y 31; have l1 := (S1.keep hb2).lt; have l2 := (O1.keep hb2).lt; obtain ⟨s1, s2⟩ := S1.keep hb2; obtain ⟨o1, o2⟩ := O1.keep hb2; clear hb2 S1 O1))
    | (go_at_call 18; ((with_reducible refine (smeet_at c d a b _ (HN0.out.below HB2.out HL.out) HM2.out).mono ?_); rintro e w3 ⟨rfl, hb3⟩; have HB3 := Lib.hid (bmore (bstep HB2.out hb3) (.cells #[.int .i64 x, .int .i64 y] 31)); have S3 := (S2.keep hb3).alloc (.cells #[.int .i64 x, .int .i64 y] 31); have O3 := (O2.keep hb3).alloc (.cells #[.int .i64 x, .int .i64 y] 31); have M3 := (M2.keep hb3).alloc (.cells #[.int .i64 x, .int .i64 y] 31); have N3 := Pair.new w3 x y 31; have l3 := (S2.keep hb3).lt; have l4 := (O2.keep hb3).lt; have l5 := (M2.keep hb3).lt; obtain ⟨s1, s2⟩ := S2.keep hb3; obtain ⟨o1, o2⟩ := O2.keep hb3; obtain ⟨m1, m2⟩ := M2.keep hb3; clear hb3 S2 O2 M2 l1 l2))
    | (go_at_call 22; ((with_reducible refine (shas_at x y k _ HQ.out).mono ?_); rintro e w4 ⟨rfl, hb4⟩; have HB4 := Lib.hid (bstep HB3.out hb4); have S4 := S3.keep hb4; obtain ⟨s1, s2⟩ := S3.keep hb4; have O4 := O3.keep hb4; obtain ⟨o1, o2⟩ := O3.keep hb4; have M4 := M3.keep hb4; obtain ⟨m1, m2⟩ := M3.keep hb4; have N4 := N3.keep hb4; obtain ⟨n1, n2⟩ := N3.keep hb4; clear hb4 S3 O3 M3 N3))
    | (go_at_call 22; ((with_reducible refine (shas_at a b k _ HS.out).mono ?_); rintro e w5 ⟨rfl, hb5⟩; have HB5 := Lib.hid (bstep HB4.out hb5); have S5 := S4.keep hb5; obtain ⟨s1, s2⟩ := S4.keep hb5; have O5 := O4.keep hb5; obtain ⟨o1, o2⟩ := O4.keep hb5; have M5 := M4.keep hb5; obtain ⟨m1, m2⟩ := M4.keep hb5; have N5 := N4.keep hb5; obtain ⟨n1, n2⟩ := N4.keep hb5; clear hb5 S4 O4 M4 N4))
    | (go_at_call 22; ((with_reducible refine (shas_at c d k _ HO.out).mono ?_); rintro e w6 ⟨rfl, hb6⟩; have HB6 := Lib.hid (bstep HB5.out hb6); have S6 := S5.keep hb6; obtain ⟨s1, s2⟩ := S5.keep hb6; have O6 := O5.keep hb6; obtain ⟨o1, o2⟩ := O5.keep hb6; have M6 := M5.keep hb6; obtain ⟨m1, m2⟩ := M5.keep hb6; have N6 := N5.keep hb6; obtain ⟨n1, n2⟩ := N5.keep hb6; clear hb6 S5 O5 M5 N5)))
  go_ret
  exact ⟨rfl, HB6.out⟩

theorem meetS_comm (a b c d : Int) : meetS c d a b = meetS a b c d := by
  unfold meetS
  rw [Int.max_comm c a, Int.min_comm d b]
theorem satMeets_walk (a b c d k : Int) (W : World) (hN : NoneIs W) (g1 : (Lit.int .i64 a).wf = true) (g2 : (Lit.int .i64 b).wf = true) (g3 : (Lit.int .i64 c).wf = true) (g4 : (Lit.int .i64 d).wf = true) (g5 : (Lit.int .i64 k).wf = true) :
    Calls Tryd.prog 8 #[.agg #[.int .i64 a, .int .i64 b], .agg #[.int .i64 c, .int .i64 d], .int .i64 k] W fun e w' => e = .returned (.bool true) ∧ Below W.heap.size W w' := by
  by_cases hv : max a c ≤ min b d
  · have hm : meetS a b c d = ((max a c, min b d), true) := by unfold meetS; rw [if_pos hv]
    have hn : meetS c d a b = ((max a c, min b d), true) := by rw [meetS_comm, hm]
    by_cases h1 : a ≤ k ∧ k ≤ b
    · by_cases h2 : c ≤ k ∧ k ≤ d
      · exact meets_1a a b c d k _ _ W hN hm hn ((hasS_iff _ _ _).2 (by omega)) hv ((hasS_iff _ _ _).2 h1) ((hasS_iff _ _ _).2 h2)
      · exact meets_1c a b c d k _ _ W hN hm hn (hasS_not (by omega)) hv ((hasS_iff _ _ _).2 h1) (hasS_not h2)
    · exact meets_1b a b c d k _ _ W hN hm hn (hasS_not (by omega)) hv (hasS_not h1)
  · have hm : meetS a b c d = ((0, 0), false) := by unfold meetS; rw [if_neg hv]
    have hn : meetS c d a b = ((0, 0), false) := by rw [meetS_comm, hm]
    by_cases h1 : a ≤ k ∧ k ≤ b
    · exact meets_0b a b c d k W hN hm hn ((hasS_iff _ _ _).2 h1) (hasS_not (by omega))
    · exact meets_0a a b c d k W hN hm hn (hasS_not h1)
end Go.Proofs.YtfnhlajcdlfbhaaDoor
