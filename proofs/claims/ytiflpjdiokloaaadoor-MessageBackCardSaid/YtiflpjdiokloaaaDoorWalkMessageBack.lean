/-
  The walk of the law MessageBack.
-/
import Derived.Test.YtiflpjdiokloaaaDoorPackQ
import Derived.Test.YtiflpjdiokloaaaDoorPackI
namespace Go.Proofs.YtiflpjdiokloaaaDoor
open Go.RowKit
set_option linter.unusedVariables false

theorem conv_of2 {w : World} {A : Option Addr} {c n : Nat} {b : List UInt8} (hn : b.length = n) (h : LiesB w w.heap.size (.slice A n c) b) : (convert 31 9 (.slice A n c)).run Tryd.prog w = .ok (.string (mkB b)) w := by
  subst hn; exact conv_of h
set_option maxRecDepth 100000 in
set_option maxHeartbeats 2000000 in
theorem messageBack_any (k q : Nat) (a : Int) (A : Option Addr) (n c : Nat) (l : List Pr) (t : Nat) (Ab : Option Addr) (nb cb : Nat) (b : List UInt8) (W : World) (hT : Tabs W) (hk : k < 256) (hq : q ≤ 18446744073709551615) (ha : -9223372036854775808 ≤ a ∧ a ≤ 9223372036854775807) (hl : Props W W.heap.size (.slice A n c) l) (hf : ∀ p ∈ l, -9223372036854775808 ≤ p.val ∧ p.val ≤ 9223372036854775807) (ht : t < 256) (hn : b.length = nb) (hb : LiesB W W.heap.size (.slice Ab nb cb) b) :
    Calls Tryd.prog 5 #[.agg #[.int .u8 (k : Int), .int .u64 (q : Int), .int .i64 a, .slice A n c], .int .u8 (t : Int), .slice Ab nb cb] W fun e w' => e = .returned (.bool true) ∧ Below W.heap.size W w' := by
  have HV := Lib.hid hl
  have HD := Lib.hid hb
  have HN := Lib.hid hn
  have HA := Lib.hid (awake6_any (W.alloc (.cells #[.int .u8 (k : Int), .int .u64 (q : Int), .int .i64 a, .slice A n c] 25)) (hT.over (bmore (bself W) _)))
  obtain ⟨f, hff⟩ : ∃ f, few6L l = f := ⟨_, rfl⟩
  have HF := Lib.hid (fun w (h : Props w w.heap.size (.slice A n c) l) => few6_any k q a A n c l w h hff)
  cases f with
  | false =>
    clear hl hT hff hf ha hq hk ht hb hn
    go_enter Tryd.func5, Tryd.ntmps5
    go_wp2_with (first
      | (go_at_call 8; (with_reducible refine HA.out.mono ?_); rintro e w1 ⟨rfl, hb⟩; obtain ⟨hx, hB, hz⟩ := one_block hb; have HB := Lib.hid hB; have HG := Lib.hid (show W.heap.size < _ from hz); obtain ⟨m0, m1, m2, m3, _, _, _, _⟩ := blk4 hx; have HPp := Lib.hid (HV.out.over (Nat.le_refl _) hB); clear hb hx hB hz)
      | (go_at_call 9; (with_reducible refine (HF.out _ HPp.out).mono ?_); rintro e w2 ⟨rfl, hb⟩; have m0 := (hb.cell HG.out).trans m0; have m1 := (hb.cell HG.out).trans m1; have m2 := (hb.cell HG.out).trans m2; have m3 := (hb.cell HG.out).trans m3; have HB := Lib.hid (bstep HB.out hb); have HPp := Lib.hid (HPp.out.over (Nat.le_refl _) hb); have HG := Lib.hid (Nat.lt_of_lt_of_le HG.out hb.size); clear hb))
    go_ret
    exact ⟨rfl, HB.out⟩
  | true =>
    by_cases h6 : nb ≤ 600
    · have q6 : ¬ (600 : Int) < (nb : Int) := by omega
      obtain ⟨f1, f2⟩ := few6_len hff
      have hfit : FitsL l := fun p hp => ⟨by have := f2 p hp; omega, hf p hp⟩
      have HLEN := Lib.hid f1
      rcases hy : takeM t b with ⟨⟨yk, yq, ya, yp⟩, x2⟩
      have HY := Lib.hid hy
      have HT2 := Lib.hid (fun w (h : LiesB w w.heap.size (.slice Ab nb cb) b) => mtake_any t _ b w ht h (by omega))
      rw [hy] at HT2
      cases hr : mayL ⟨k, q, a, l⟩ with
      | false =>
        have hpr : PutR ⟨k, q, a, l⟩ = ([], 1) := by unfold PutR; rw [hr]; rfl
        have HPU := Lib.hid (fun w (h : Props w w.heap.size (.slice A n c) l) => mput_any k q a A n c l w hq ha.2 h (by omega) hfit hpr)
        clear hl hT hff hf ha hq hk ht hb hn f1 f2 hfit hr hpr hy h6
        go_enter Tryd.func5, Tryd.ntmps5
        go_upto_region 12 with (first
          | (go_at_call 8; (with_reducible refine HA.out.mono ?_); rintro e w1 ⟨rfl, hb⟩; obtain ⟨hx, hB, hz⟩ := one_block hb; have HB := Lib.hid hB; have HG := Lib.hid (show W.heap.size < _ from hz); obtain ⟨m0, m1, m2, m3, _, _, _, _⟩ := blk4 hx; have HPp := Lib.hid (HV.out.over (Nat.le_refl _) hB); clear hb hx hB hz)
          | (go_at_call 9; (with_reducible refine (HF.out _ HPp.out).mono ?_); rintro e w2 ⟨rfl, hb⟩; have m0 := (hb.cell HG.out).trans m0; have m1 := (hb.cell HG.out).trans m1; have m2 := (hb.cell HG.out).trans m2; have m3 := (hb.cell HG.out).trans m3; have HB := Lib.hid (bstep HB.out hb); have HPp := Lib.hid (HPp.out.over (Nat.le_refl _) hb); have HG := Lib.hid (Nat.lt_of_lt_of_le HG.out hb.size); clear hb)
          | (go_at_call 12; (with_reducible refine (HPU.out _ HPp.out).mono ?_); rintro e w3 ⟨G3, z3, rfl, hlb, hb⟩; have HL3 := Lib.hid hlb; clear hlb; have m0 := (hb.cell HG.out).trans m0; have m1 := (hb.cell HG.out).trans m1; have m2 := (hb.cell HG.out).trans m2; have m3 := (hb.cell HG.out).trans m3; have HB := Lib.hid (bstep HB.out hb); have HPp := Lib.hid (HPp.out.over (Nat.le_refl _) hb); have HG := Lib.hid (Nat.lt_of_lt_of_le HG.out hb.size); clear hb))
        have HBt := HB
        clear m0 m1 m2 m3 HG HPp
        go_upto_region 13 with (go_at_call 17; (with_reducible refine (HT2.out _ (HD.out.over (Nat.le_refl _) HBt.out)).mono ?_); rintro e w6 ⟨A6, n6, c6, rfl, hp, hb⟩; have HP6 := Lib.hid hp; have HB6 := Lib.hid (bstep HBt.out hb); clear hp hb)
        by_cases hx2 : x2 = 0
        · subst hx2
          obtain ⟨hyk, hym, hyp, hyw⟩ := take_put HY.out
          have hyf : FitsL yp := fun p hp => ⟨by have := (name_len (right_names ((may_iff _).1 hym).2.2.1 p hp)).2; omega, hyw.2.2 p hp⟩
          have hyl : yp.length ≤ 8 := ((may_iff _).1 hym).2.1
          have hyr : PutR ⟨yk, yq, ya, yp⟩ = (b, 0) := by unfold PutR; rw [hym, hyp]; rfl
          have HPY := Lib.hid (fun w (h : Props w w.heap.size (.slice A6 n6 c6) yp) => mput_any yk yq ya A6 n6 c6 yp w hyw.1 hyw.2.1 h (by omega) hyf hyr)
          have HMY := Lib.hid (fun w (h : Props w w.heap.size (.slice A6 n6 c6) yp) => mmay_any yk yq ya A6 n6 c6 yp w h (by omega) hym)
          have hkk : ((yk : Int) == (t : Int)) = true := by have h : yk = t := hyk; rw [h]; simp
          clear hyk hym hyp hyw hyf hyl hyr
          have hb7 := bmore (bself w6) (.cells #[.int .u8 (yk : Int), .int .u64 (yq : Int), .int .i64 ya, .slice A6 n6 c6] 25)
          obtain ⟨y0, y1, y2, y3, _, _, _, _⟩ := blk4 (heap_alloc_new w6 (.cells #[.int .u8 (yk : Int), .int .u64 (yq : Int), .int .i64 ya, .slice A6 n6 c6] 25))
          have HP7 := Lib.hid (HP6.out.over (Nat.le_refl _) hb7)
          have HG7 := Lib.hid (show w6.heap.size < (w6.alloc (.cells #[.int .u8 (yk : Int), .int .u64 (yq : Int), .int .i64 ya, .slice A6 n6 c6] 25)).heap.size by simp)
          have HB7 := Lib.hid (bstep HB6.out hb7)
          go_upto_region 15 with (fail)
          obtain ⟨g, hg⟩ : ∃ g, g = w6.heap.size := ⟨_, rfl⟩
          rw [← hg] at y0 y1 y2 y3 HG7 ⊢
          generalize w6.alloc (Obj.cells #[Value.int IntKind.u8 (yk : Int), Value.int IntKind.u64 (yq : Int), Value.int IntKind.i64 ya, Value.slice A6 n6 c6] 25) = w7 at y0 y1 y2 y3 HP7 HG7 HB7 ⊢
          clear hg hb7 HP6 HB6
          have hn := HN.out
          go_upto_region 16 with (go_at_call 12; (with_reducible refine (HPY.out _ HP7.out).mono ?_); rintro e w8 ⟨G8, z8, rfl, hlb, hb⟩; have y0 := (hb.cell HG7.out).trans y0; have y1 := (hb.cell HG7.out).trans y1; have y2 := (hb.cell HG7.out).trans y2; have y3 := (hb.cell HG7.out).trans y3; have HP8 := Lib.hid (HP7.out.over (Nat.le_refl _) hb); have HB8 := Lib.hid (bstep HB7.out hb); have HL8 := Lib.hid hlb; clear hb hlb)
          have hc1 := conv_of HL8.out
          have hc2 := conv_of2 hn (HD.out.over (Nat.le_refl _) HB8.out)
          rw [hn] at hc1
          have hbb : ((mkB b).toList == (mkB b).toList) = true := by simp
          clear hn
          go_wp2_with (go_at_call 13; (with_reducible refine (HMY.out _ HP8.out).mono ?_); rintro e w9 ⟨rfl, hb⟩; have HB9 := Lib.hid (bstep HB8.out hb); clear hb)
          go_ret
          exact ⟨rfl, HB9.out⟩
        · have hx3 : (x2 != 0) = true := by simp [hx2]
          clear hx2
          have hb7 := Lib.hid (bmore HB6.out (.cells #[.int .u8 (yk : Int), .int .u64 (yq : Int), .int .i64 ya, .slice A6 n6 c6] 25))
          go_wp2
          go_ret
          exact ⟨rfl, hb7.out⟩
      | true =>
        have hw : Msg.Wf ⟨k, q, a, l⟩ := ⟨hq, ha.2, hf⟩
        obtain ⟨pb, hpb⟩ : ∃ pb, putM ⟨k, q, a, l⟩ = pb := ⟨_, rfl⟩
        have hpr : PutR ⟨k, q, a, l⟩ = (pb, 0) := by unfold PutR; rw [hr, hpb]; rfl
        have htk : takeM k pb = (⟨k, q, a, l⟩, 0) := by rw [← hpb]; exact put_take hw hr
        have hlen : pb.length ≤ 203 := by rw [← hpb]; exact put_len6 hw hr
        have HPU := Lib.hid (fun w (h : Props w w.heap.size (.slice A n c) l) => mput_any k q a A n c l w hq ha.2 h (by omega) hfit hpr)
        have HT1 := Lib.hid (fun v w (h : LiesB w w.heap.size v pb) => mtake_any k v pb w hk h (by omega))
        rw [htk] at HT1
        clear hl hT hff hf ha hq hk ht hb hn f1 f2 hfit hr hpr hy h6 hw hpb htk hlen
        go_enter Tryd.func5, Tryd.ntmps5
        go_upto_region 10 with (first
          | (go_at_call 8; (with_reducible refine HA.out.mono ?_); rintro e w1 ⟨rfl, hb⟩; obtain ⟨hx, hB, hz⟩ := one_block hb; have HB := Lib.hid hB; have HG := Lib.hid (show W.heap.size < _ from hz); obtain ⟨m0, m1, m2, m3, _, _, _, _⟩ := blk4 hx; have HPp := Lib.hid (HV.out.over (Nat.le_refl _) hB); clear hb hx hB hz)
          | (go_at_call 9; (with_reducible refine (HF.out _ HPp.out).mono ?_); rintro e w2 ⟨rfl, hb⟩; have m0 := (hb.cell HG.out).trans m0; have m1 := (hb.cell HG.out).trans m1; have m2 := (hb.cell HG.out).trans m2; have m3 := (hb.cell HG.out).trans m3; have HB := Lib.hid (bstep HB.out hb); have HPp := Lib.hid (HPp.out.over (Nat.le_refl _) hb); have HG := Lib.hid (Nat.lt_of_lt_of_le HG.out hb.size); clear hb)
          | (go_at_call 12; (with_reducible refine (HPU.out _ HPp.out).mono ?_); rintro e w3 ⟨G3, z3, rfl, hlb, hb⟩; have HL3 := Lib.hid hlb; clear hlb; have m0 := (hb.cell HG.out).trans m0; have m1 := (hb.cell HG.out).trans m1; have m2 := (hb.cell HG.out).trans m2; have m3 := (hb.cell HG.out).trans m3; have HB := Lib.hid (bstep HB.out hb); have HPp := Lib.hid (HPp.out.over (Nat.le_refl _) hb); have HG := Lib.hid (Nat.lt_of_lt_of_le HG.out hb.size); clear hb)
          | (go_at_call 17; (with_reducible refine (HT1.out _ _ HL3.out).mono ?_); rintro e w4 ⟨A4, n4, c4, rfl, hp, hb⟩; have HP4 := Lib.hid hp; clear hp; have m0 := (hb.cell HG.out).trans m0; have m1 := (hb.cell HG.out).trans m1; have m2 := (hb.cell HG.out).trans m2; have m3 := (hb.cell HG.out).trans m3; have HB := Lib.hid (bstep HB.out hb); have HPp := Lib.hid (HPp.out.over (Nat.le_refl _) hb); have HG := Lib.hid (Nat.lt_of_lt_of_le HG.out hb.size); clear hb))
        have hb5 := bmore (bself w4) (.cells #[.int .u8 (k : Int), .int .u64 (q : Int), .int .i64 a, .slice A4 n4 c4] 25)
        have HP5 := Lib.hid (And.intro (HP4.out.over (Nat.le_refl _) hb5) (HPp.out.over (Nat.le_refl _) hb5))
        obtain ⟨g, hg⟩ : ∃ g, g = w4.heap.size := ⟨_, rfl⟩
        obtain ⟨h, hh⟩ : ∃ h, h = W.heap.size := ⟨_, rfl⟩
        have hS : TwinS W g h k q a (.slice A4 n4 c4) (.slice A n c) l (w4.alloc (.cells #[.int .u8 (k : Int), .int .u64 (q : Int), .int .i64 a, .slice A4 n4 c4] 25)) := by
          obtain ⟨r0, r1, r2, r3, _, _, _, _⟩ := blk4 (heap_alloc_new w4 (.cells #[.int .u8 (k : Int), .int .u64 (q : Int), .int .i64 a, .slice A4 n4 c4] 25))
          rw [hg, hh]
          exact ⟨r0, r1, r2, r3, (hb5.cell HG.out).trans m0, (hb5.cell HG.out).trans m1, (hb5.cell HG.out).trans m2, (hb5.cell HG.out).trans m3, Lib.hid ⟨by simp, Nat.lt_of_lt_of_le HG.out hb5.size, bstep HB.out hb5, HP5.out.1, HP5.out.2⟩⟩
        rw [← hg, ← hh]
        generalize w4.alloc (Obj.cells #[Value.int IntKind.u8 (k : Int), Value.int IntKind.u64 (q : Int), Value.int IntKind.i64 a, Value.slice A4 n4 c4] 25) = w5 at hS ⊢
        clear hg hh hb5 HP4 HP5 m0 m1 m2 m3 HG HB HPp
        unfold TwinS at hS
        go_region_held3 (fun w' => w'.cell? ⟨g, 0, none⟩ = some (.int .u8 (k : Int)) ∧ w'.cell? ⟨g, 1, none⟩ = some (.int .u64 (q : Int)) ∧ w'.cell? ⟨g, 2, none⟩ = some (.int .i64 a) ∧ w'.cell? ⟨g, 3, none⟩ = some (.slice A4 n4 c4) ∧ w'.cell? ⟨h, 0, none⟩ = some (.int .u8 (k : Int)) ∧ w'.cell? ⟨h, 1, none⟩ = some (.int .u64 (q : Int)) ∧ w'.cell? ⟨h, 2, none⟩ = some (.int .i64 a) ∧ w'.cell? ⟨h, 3, none⟩ = some (.slice A n c) ∧ Hid (g < w'.heap.size ∧ h < w'.heap.size ∧ Below W.heap.size W w' ∧ Props w' w'.heap.size (.slice A4 n4 c4) l ∧ Props w' w'.heap.size (.slice A n c) l))
          (first | assumption | exact twinS_drew (by assumption))
          (first
            | (go_at_call 10; ((with_reducible refine Calls.mono (plain6_any k q a _ _ _ _) ?_); rintro e w5 ⟨rfl, hb⟩; have hs1 := twinS_over (by assumption) hb; clear hb))
            | (go_at_call 19; ((with_reducible refine Calls.mono (rsamem_any k q a A4 n4 c4 l k q a A n c l _ ?_ ?_ (by have := HLEN.out; omega) (same_refl6 _)) ?_); (exact (TwinS.hid (W := W) (g := g) (h := h) (mk := k) (mq := q) (ma := a) (v2 := .slice A4 n4 c4) (v3 := .slice A n c) (mp := l) (by assumption)).2.2.2.1); (exact (TwinS.hid (W := W) (g := g) (h := h) (mk := k) (mq := q) (ma := a) (v2 := .slice A4 n4 c4) (v3 := .slice A n c) (mp := l) (by assumption)).2.2.2.2); rintro e w6 ⟨rfl, hb⟩; have hs1 := twinS_over (by assumption) hb; clear hb)))
        have HBt := Lib.hid (TwinS.hid (W := W) (g := g) (h := h) (mk := k) (mq := q) (ma := a) (v2 := .slice A4 n4 c4) (v3 := .slice A n c) (mp := l) hs1).2.2.1
        clear hs1
        go_upto_region 13 with (go_at_call 17; (with_reducible refine (HT2.out _ (HD.out.over (Nat.le_refl _) HBt.out)).mono ?_); rintro e w6 ⟨A6, n6, c6, rfl, hp, hb⟩; have HP6 := Lib.hid hp; have HB6 := Lib.hid (bstep HBt.out hb); clear hp hb)
        by_cases hx2 : x2 = 0
        · subst hx2
          obtain ⟨hyk, hym, hyp, hyw⟩ := take_put HY.out
          have hyf : FitsL yp := fun p hp => ⟨by have := (name_len (right_names ((may_iff _).1 hym).2.2.1 p hp)).2; omega, hyw.2.2 p hp⟩
          have hyl : yp.length ≤ 8 := ((may_iff _).1 hym).2.1
          have hyr : PutR ⟨yk, yq, ya, yp⟩ = (b, 0) := by unfold PutR; rw [hym, hyp]; rfl
          have HPY := Lib.hid (fun w (h : Props w w.heap.size (.slice A6 n6 c6) yp) => mput_any yk yq ya A6 n6 c6 yp w hyw.1 hyw.2.1 h (by omega) hyf hyr)
          have HMY := Lib.hid (fun w (h : Props w w.heap.size (.slice A6 n6 c6) yp) => mmay_any yk yq ya A6 n6 c6 yp w h (by omega) hym)
          have hkk : ((yk : Int) == (t : Int)) = true := by have h : yk = t := hyk; rw [h]; simp
          clear hyk hym hyp hyw hyf hyl hyr
          have hb7 := bmore (bself w6) (.cells #[.int .u8 (yk : Int), .int .u64 (yq : Int), .int .i64 ya, .slice A6 n6 c6] 25)
          obtain ⟨y0, y1, y2, y3, _, _, _, _⟩ := blk4 (heap_alloc_new w6 (.cells #[.int .u8 (yk : Int), .int .u64 (yq : Int), .int .i64 ya, .slice A6 n6 c6] 25))
          have HP7 := Lib.hid (HP6.out.over (Nat.le_refl _) hb7)
          have HG7 := Lib.hid (show w6.heap.size < (w6.alloc (.cells #[.int .u8 (yk : Int), .int .u64 (yq : Int), .int .i64 ya, .slice A6 n6 c6] 25)).heap.size by simp)
          have HB7 := Lib.hid (bstep HB6.out hb7)
          go_upto_region 15 with (fail)
          obtain ⟨g, hg⟩ : ∃ g, g = w6.heap.size := ⟨_, rfl⟩
          rw [← hg] at y0 y1 y2 y3 HG7 ⊢
          generalize w6.alloc (Obj.cells #[Value.int IntKind.u8 (yk : Int), Value.int IntKind.u64 (yq : Int), Value.int IntKind.i64 ya, Value.slice A6 n6 c6] 25) = w7 at y0 y1 y2 y3 HP7 HG7 HB7 ⊢
          clear hg hb7 HP6 HB6
          have hn := HN.out
          go_upto_region 16 with (go_at_call 12; (with_reducible refine (HPY.out _ HP7.out).mono ?_); rintro e w8 ⟨G8, z8, rfl, hlb, hb⟩; have y0 := (hb.cell HG7.out).trans y0; have y1 := (hb.cell HG7.out).trans y1; have y2 := (hb.cell HG7.out).trans y2; have y3 := (hb.cell HG7.out).trans y3; have HP8 := Lib.hid (HP7.out.over (Nat.le_refl _) hb); have HB8 := Lib.hid (bstep HB7.out hb); have HL8 := Lib.hid hlb; clear hb hlb)
          have hc1 := conv_of HL8.out
          have hc2 := conv_of2 hn (HD.out.over (Nat.le_refl _) HB8.out)
          rw [hn] at hc1
          have hbb : ((mkB b).toList == (mkB b).toList) = true := by simp
          clear hn
          go_wp2_with (go_at_call 13; (with_reducible refine (HMY.out _ HP8.out).mono ?_); rintro e w9 ⟨rfl, hb⟩; have HB9 := Lib.hid (bstep HB8.out hb); clear hb)
          go_ret
          exact ⟨rfl, HB9.out⟩
        · have hx3 : (x2 != 0) = true := by simp [hx2]
          clear hx2
          have hb7 := Lib.hid (bmore HB6.out (.cells #[.int .u8 (yk : Int), .int .u64 (yq : Int), .int .i64 ya, .slice A6 n6 c6] 25))
          go_wp2
          go_ret
          exact ⟨rfl, hb7.out⟩
    · have q6 : (600 : Int) < (nb : Int) := by omega
      clear hl hT hff hf ha hq hk ht hb hn h6
      go_enter Tryd.func5, Tryd.ntmps5
      go_wp2_with (first
        | (go_at_call 8; (with_reducible refine HA.out.mono ?_); rintro e w1 ⟨rfl, hb⟩; obtain ⟨hx, hB, hz⟩ := one_block hb; have HB := Lib.hid hB; have HG := Lib.hid (show W.heap.size < _ from hz); obtain ⟨m0, m1, m2, m3, _, _, _, _⟩ := blk4 hx; have HPp := Lib.hid (HV.out.over (Nat.le_refl _) hB); clear hb hx hB hz)
        | (go_at_call 9; (with_reducible refine (HF.out _ HPp.out).mono ?_); rintro e w2 ⟨rfl, hb⟩; have m0 := (hb.cell HG.out).trans m0; have m1 := (hb.cell HG.out).trans m1; have m2 := (hb.cell HG.out).trans m2; have m3 := (hb.cell HG.out).trans m3; have HB := Lib.hid (bstep HB.out hb); have HPp := Lib.hid (HPp.out.over (Nat.le_refl _) hb); have HG := Lib.hid (Nat.lt_of_lt_of_le HG.out hb.size); clear hb))
      go_ret
      exact ⟨rfl, HB.out⟩
theorem messageBack_row (m : Msg) (A : Option Addr) (n c : Nat) (t : UInt8) (Ab : Option Addr) (cb : Nat) (b : List UInt8) (W : World) (hT : Tabs W) (hin : m.In) (hp : Props W W.heap.size (.slice A n c) m.props) (hb : LiesB W W.heap.size (.slice Ab b.length cb) b) :
    Calls Tryd.prog 5 #[.agg #[.int .u8 (m.kind : Int), .int .u64 (m.seq : Int), .int .i64 m.at_, .slice A n c], .int .u8 (t.toNat : Int), .slice Ab b.length cb] W fun e w' => e = .returned (.bool true) ∧ Below W.heap.size W w' :=
  messageBack_any m.kind m.seq m.at_ A n c m.props t.toNat Ab b.length cb b W hT hin.1 hin.2.1 hin.2.2.1 hp hin.2.2.2 t.toNat_lt rfl hb
end Go.Proofs.YtiflpjdiokloaaaDoor
