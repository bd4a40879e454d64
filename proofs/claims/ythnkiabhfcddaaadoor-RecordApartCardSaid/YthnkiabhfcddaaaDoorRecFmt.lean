/-
  Layer 7, the landed code: fieldShow, Show.
-/
import Derived.Test.YthnkiabhfcddaaaDoorPackR
import Derived.Test.YthnkiabhfcddaaaDoorFmtUint
import Derived.Lib.ItoaLen
namespace Go.Proofs.YthnkiabhfcddaaaDoor
open Go.RowKit
set_option linter.unusedVariables false

/-- A blank and a field as a text. -/
def tokC (r : Rec) (f : Nat) : List UInt8 := if f = 0 then [] else 32 :: (if f = 7 then r.text else if f = 6 then (if r.yes = true then [121, 101, 115] else [110, 111]) else Lib.decDigits (numC r f))
theorem dec_len20' (u : Nat) (h : u ≤ 18446744073709551615) : (Lib.decDigits u).length ≤ 20 := by
  rw [Lib.decDigits_length]; exact Lib.nDigits_le20 u (by omega)
set_option maxRecDepth 100000 in
set_option maxHeartbeats 1000000 in
theorem fieldShow_any (W : World) (hP : Pows W) (r : Rec) (f : Nat) (w : World) (hW : Below W.heap.size W w) (hf : f ≤ 7) (hq : r.seq ≤ 18446744073709551615) (ht : r.text.length ≤ 1000000) {b : List UInt8} (hb : tokC r f = b) :
    Calls Tryd.prog 28 #[.agg #[.int .u8 (r.kind : Int), .int .i64 r.src, .int .u64 (r.seq : Int), .int .i64 r.at_, .int .i64 r.num, .int .i64 r.code, .bool r.yes, .string (mkB r.text)], .int .i64 (f : Int)] w fun e w' => e = .returned (.string (mkB b)) ∧ Below w.heap.size w w' := by
  have HB0 := Lib.hid (bmore (bself w) (recB r 24))
  obtain ⟨m0, m1, m2, m3, m4, m5, m6, m7⟩ := recAt_blk (heap_alloc_new w (recB r 24))
  unfold recB at m0 m1 m2 m3 m4 m5 m6 m7 HB0
  by_cases h0 : f = 0
  · subst h0
    obtain rfl : [] = b := hb
    clear m0 m1 m2 m3 m4 m5 m6 m7 hP hW hq ht
    go_enter Tryd.func28, Tryd.ntmps28
    go_wp2
    go_ret
    exact ⟨rfl, HB0.out⟩
  by_cases h7 : f = 7
  · subst h7
    obtain rfl : [32] ++ r.text = b := hb
    have hadd : ∀ W, (Op.stringOp .add ⟨#[32]⟩ (mkB r.text)).run Tryd.prog W = .ok (.string (mkB ([32] ++ r.text))) W := fun W => run_add W [32] r.text (by simp only [List.length_cons, List.length_nil]; omega)
    generalize [32] ++ r.text = b at hadd
    clear m0 m1 m2 m3 m4 m5 m6 h0 hP hW hq ht
    go_enter Tryd.func28, Tryd.ntmps28
    go_wp2
    go_ret
    exact ⟨rfl, HB0.out⟩
  by_cases h6 : f = 6
  · subst h6
    cases hy : r.yes with
    | true =>
      obtain rfl : [32, 121, 101, 115] = b := by rw [← hb]; unfold tokC; rw [hy]; rfl
      rw [hy] at m0 m1 m2 m3 m4 m5 m6 m7 HB0
      clear h0 h7 hP hW hq ht hy hb
      go_enter Tryd.func28, Tryd.ntmps28
      go_wp2
      go_ret
      exact ⟨rfl, HB0.out⟩
    | false =>
      obtain rfl : [32, 110, 111] = b := by rw [← hb]; unfold tokC; rw [hy]; rfl
      rw [hy] at m0 m1 m2 m3 m4 m5 m6 m7 HB0
      clear h0 h7 hP hW hq ht hy hb
      go_enter Tryd.func28, Tryd.ntmps28
      go_wp2
      go_ret
      exact ⟨rfl, HB0.out⟩
  · obtain ⟨u, hu⟩ : ∃ u, numC r f = u := ⟨_, rfl⟩
    have hu8 : u ≤ 18446744073709551615 := by rw [← hu]; exact numC_le r f hq
    have HNU := Lib.hid (fun w => number_any r f w hq hu)
    have HFU := Lib.hid (fun w1 (hb : Below w.heap.size w w1) => fmtu_any W hP u hu8 w1 (hW.trans (hb.mono hW.size)))
    have hdl := dec_len20' u hu8
    obtain rfl : [32] ++ Lib.decDigits u = b := by rw [← hb, ← hu]; unfold tokC; rw [if_neg h0, if_neg h7, if_neg h6]; rfl
    have hadd : ∀ W, (Op.stringOp .add ⟨#[32]⟩ (mkB (Lib.decDigits u))).run Tryd.prog W = .ok (.string (mkB ([32] ++ Lib.decDigits u))) W := fun W => run_add W [32] _ (by simp only [List.length_cons, List.length_nil]; omega)
    clear hdl
    generalize Lib.decDigits u = t at hadd HFU
    generalize [32] ++ t = b at hadd
    have e0 : ((f : Int) == 0) = false := by rw [beq_eq_false_iff_ne]; omega
    have e7 : ((f : Int) == 7) = false := by rw [beq_eq_false_iff_ne]; omega
    have e6 : ((f : Int) == 6) = false := by rw [beq_eq_false_iff_ne]; omega
    clear hu hu8 h0 h7 h6 hb hP hW hq ht
    go_enter Tryd.func28, Tryd.ntmps28
    go_wp2_with (first
      | (go_at_call 49; (with_reducible refine (HNU.out _).mono ?_); rintro e w1 ⟨rfl, hb⟩; have HB1 := Lib.hid (bstep HB0.out hb); clear hb m0 m1 m2 m3 m4 m5 m6 m7)
      | (go_at_call 58; (with_reducible refine (HFU.out _ HB1.out).mono ?_); rintro e w2 ⟨rfl, hb⟩; have HB2 := Lib.hid (bstep HB1.out hb); clear hb))
    go_ret
    exact ⟨rfl, HB2.out⟩

/-- The text up to a field. -/
def showAt (r : Rec) : Nat → List UInt8
  | 0 => wordR r.kind
  | j + 1 => showAt r j ++ tokC r (padR r.kind j)
theorem tokC_may {r : Rec} (h : mayR r = true) (hin : r.In) (f : Nat) (hf : 1 ≤ f ∧ f ≤ 7) : tokC r f = 32 :: tokR r f := by
  unfold tokC tokR
  rw [if_neg (by omega)]
  by_cases h7 : f = 7
  · rw [if_pos h7, if_pos h7]
  · rw [if_neg h7, if_neg h7]
    by_cases h6 : f = 6
    · rw [if_pos h6, if_pos h6]
    · rw [if_neg h6, if_neg h6, numC_may h hin f (by omega)]
theorem showAt_may {r : Rec} (h : mayR r = true) (hin : r.In) : showAt r 4 = showR r := by
  have hk := ((mayR_iff r).1 h).1
  have e : ∀ f, (1 ≤ f ∧ f ≤ 7) → tokC r f = 32 :: tokR r f := tokC_may h hin
  have e0 : tokC r 0 = [] := rfl
  have e1 := e 1 (by omega)
  have e2 := e 2 (by omega)
  have e3 := e 3 (by omega)
  have e4 := e 4 (by omega)
  have e5 := e 5 (by omega)
  have e6 := e 6 (by omega)
  have e7 := e 7 (by omega)
  unfold showR
  rw [if_pos h]
  unfold showAt showAt showAt showAt showAt
  rcases kinds_cases hk with h | h | h | h | h | h | h | h | h | h | h | h | h | h | h | h <;> rw [h] <;>
  simp [pad_17, pad_18, pad_19, pad_20, pad_21, pad_22, pad_23, pad_24, pad_25, pad_26, pad_27, pad_28, pad_29, pad_30, pad_31, pad_32, order_17, order_18, order_19, order_20, order_21, order_22, order_23, order_24, order_25, order_26, order_27, order_28, order_29, order_30, order_31, order_32, e0, e1, e2, e3, e4, e5, e6, e7]
theorem tokC_len (r : Rec) (f : Nat) (hq : r.seq ≤ 18446744073709551615) (ht : r.text.length ≤ 1000) : (tokC r f).length ≤ 1001 := by
  unfold tokC
  split
  · simp
  · rw [List.length_cons]
    split
    · omega
    · split
      · split <;> simp
      · have := dec_len20' (numC r f) (numC_le r f hq)
        omega
theorem word_len' (k : Nat) : (wordR k).length ≤ 11 := by
  by_cases h : 17 ≤ k ∧ k ≤ 32
  · rcases kinds_cases h with rfl | rfl | rfl | rfl | rfl | rfl | rfl | rfl | rfl | rfl | rfl | rfl | rfl | rfl | rfl | rfl <;> decide
  · unfold wordR
    rw [if_neg (by omega), if_neg (by omega), if_neg (by omega), if_neg (by omega), if_neg (by omega), if_neg (by omega), if_neg (by omega), if_neg (by omega), if_neg (by omega), if_neg (by omega), if_neg (by omega), if_neg (by omega), if_neg (by omega), if_neg (by omega), if_neg (by omega)]
    decide
theorem showAt_len (r : Rec) (hq : r.seq ≤ 18446744073709551615) (ht : r.text.length ≤ 1000) : ∀ j, (showAt r j).length ≤ 11 + 1001 * j
  | 0 => word_len' _
  | j + 1 => by
    have h1 := showAt_len r hq ht j
    have h2 := tokC_len r (padR r.kind j) hq ht
    unfold showAt
    rw [List.length_append]; omega

set_option maxRecDepth 100000 in
set_option maxHeartbeats 2000000 in
theorem cshow_no (r : Rec) (w : World) (HM : Hid (∀ w1, Below w.heap.size w w1 → Calls Tryd.prog 11 #[.agg #[.int .u8 (r.kind : Int), .int .i64 r.src, .int .u64 (r.seq : Int), .int .i64 r.at_, .int .i64 r.num, .int .i64 r.code, .bool r.yes, .string (mkB r.text)]] w1 fun e w' => e = .returned (.bool false) ∧ Below w1.heap.size w1 w')) :
    Calls Tryd.prog 15 #[.agg #[.int .u8 (r.kind : Int), .int .i64 r.src, .int .u64 (r.seq : Int), .int .i64 r.at_, .int .i64 r.num, .int .i64 r.code, .bool r.yes, .string (mkB r.text)]] w fun e w' => e = .returned (.string (mkB [])) ∧ Below w.heap.size w w' := by
  have HB0 := Lib.hid (bmore (bself w) (recB r 24))
  obtain ⟨m0, m1, m2, m3, m4, m5, m6, m7⟩ := recAt_blk (heap_alloc_new w (recB r 24))
  unfold recB at m0 m1 m2 m3 m4 m5 m6 m7 HB0
  go_enter Tryd.func15, Tryd.ntmps15
  go_wp2_with (go_at_call 11; (with_reducible refine (HM.out _ HB0.out).mono ?_); rintro e w1 ⟨rfl, hb⟩; have HB1 := Lib.hid (bstep HB0.out hb); clear hb m0 m1 m2 m3 m4 m5 m6 m7)
  go_ret
  exact ⟨rfl, HB1.out⟩
/-- Where Show's loop stands. -/
structure ShowSt (w wr : World) (g : Nat) (r : Rec) : Prop where
  hr : wr.heap[g]? = some (recB r 24)
  hb : Below w.heap.size w wr
theorem ShowSt.over {w wr w' : World} {g : Nat} {r : Rec} (h : ShowSt w wr g r) (hb : Below wr.heap.size wr w') : ShowSt w w' g r :=
  ⟨(hb.block g (heap_lt h.hr)).trans h.hr, bstep h.hb hb⟩
set_option maxRecDepth 100000 in
set_option maxHeartbeats 4000000 in
theorem cshow_yes (W : World) (hS : Shaps W) (hP : Pows W) (r : Rec) (w : World) (hW : Below W.heap.size W w) (hin : r.In) (hm : mayR r = true) :
    Calls Tryd.prog 15 #[.agg #[.int .u8 (r.kind : Int), .int .i64 r.src, .int .u64 (r.seq : Int), .int .i64 r.at_, .int .i64 r.num, .int .i64 r.code, .bool r.yes, .string (mkB r.text)]] w fun e w' => e = .returned (.string (mkB (showR r))) ∧ Below w.heap.size w w' := by
  have hk := ((mayR_iff r).1 hm).1
  have htl : r.text.length ≤ 240 := ((mayR_iff r).1 hm).2.2.2.2.2.1
  have HMY := Lib.hid (fun w1 (hb : Below w.heap.size w w1) => cmay_yes r w1 hk (hS.over (hW.trans (hb.mono hW.size))) hin hm)
  have HSH := Lib.hid (fun w1 (hb : Below w.heap.size w w1) => shape_yes r.kind w1 hk (hS.over (hW.trans (hb.mono hW.size))))
  have HFP := Lib.hid (fun f w1 (hb : Below w.heap.size w w1) (hf : f ≤ 7) => fieldShow_any W hP r f w1 (hW.trans (hb.mono hW.size)) hf hin.2.2.1 (by omega) rfl)
  have HLN := Lib.hid (And.intro (showAt_len r hin.2.2.1 (by omega)) (fun f => tokC_len r f hin.2.2.1 (by omega)))
  have HBM := Lib.hid (showAt_may hm hin)
  have HIX := Lib.hid (run_padIx r.kind)
  have HP7 := Lib.hid (padR_7 r.kind)
  unfold shapV at HSH
  have HB0 := Lib.hid (bmore (bself w) (recB r 24))
  have HR0 := Lib.hid (heap_alloc_new w (recB r 24))
  obtain ⟨m0, m1, m2, m3, m4, m5, m6, m7⟩ := recAt_blk (heap_alloc_new w (recB r 24))
  unfold recB at m0 m1 m2 m3 m4 m5 m6 m7 HB0 HR0
  clear hk htl hS hP hW hin hm
  go_enter Tryd.func15, Tryd.ntmps15
  go_upto_region 4 with (first
    | (go_at_call 11; (with_reducible refine (HMY.out _ HB0.out).mono ?_); rintro e w1 ⟨rfl, hb⟩; have HB1 := Lib.hid (bstep HB0.out hb); have HR1 := Lib.hid ((hb.block w.heap.size (heap_lt HR0.out)).trans HR0.out); clear hb m0 m1 m2 m3 m4 m5 m6 m7; obtain ⟨m0, m1, m2, m3, m4, m5, m6, m7⟩ := recAt_blk (r := r) HR1.out)
    | (go_at_call 21; (with_reducible refine (HSH.out _ HB1.out).mono ?_); rintro e w2 ⟨rfl, hb⟩; have HB2 := Lib.hid (bstep HB1.out hb); have HR2 := Lib.hid ((hb.block w.heap.size (heap_lt HR1.out)).trans HR1.out); clear hb m0 m1 m2 m3 m4 m5 m6 m7))
  have HP : Hid (ShowSt w (w2.alloc (.cells #[.string (mkB (wordR r.kind)), .int .i64 (padR r.kind 0 : Nat), .int .i64 (padR r.kind 1 : Nat), .int .i64 (padR r.kind 2 : Nat), .int .i64 (padR r.kind 3 : Nat)] 52)) w.heap.size r ∧ (w2.alloc (.cells #[.string (mkB (wordR r.kind)), .int .i64 (padR r.kind 0 : Nat), .int .i64 (padR r.kind 1 : Nat), .int .i64 (padR r.kind 2 : Nat), .int .i64 (padR r.kind 3 : Nat)] 52)).heap[w2.heap.size]? = some (.cells #[.string (mkB (wordR r.kind)), .int .i64 (padR r.kind 0 : Nat), .int .i64 (padR r.kind 1 : Nat), .int .i64 (padR r.kind 2 : Nat), .int .i64 (padR r.kind 3 : Nat)] 52)) := Lib.hid (by
    have hb := bmore (bself w2) (.cells #[.string (mkB (wordR r.kind)), .int .i64 (padR r.kind 0 : Nat), .int .i64 (padR r.kind 1 : Nat), .int .i64 (padR r.kind 2 : Nat), .int .i64 (padR r.kind 3 : Nat)] 52)
    exact ⟨⟨(hb.block _ (heap_lt HR2.out)).trans HR2.out, bstep HB2.out hb⟩, heap_alloc_new w2 _⟩)
  generalize w2.alloc (.cells #[.string (mkB (wordR r.kind)), .int .i64 (padR r.kind 0 : Nat), .int .i64 (padR r.kind 1 : Nat), .int .i64 (padR r.kind 2 : Nat), .int .i64 (padR r.kind 3 : Nat)] 52) = w3 at HP ⊢
  generalize w2.heap.size = z at HP ⊢
  obtain ⟨s0, s1, s2, s3, s4⟩ := shap_blk HP.out.2
  generalize w.heap.size = g at HP ⊢
  clear HB0 HB1 HB2 HR0 HR1 HR2 HMY HSH
  go_wp2
  go_loopw [5, 21] (fun b i wr => ∃ j : Nat, j ≤ 4 ∧ i = .int .i64 (j : Int) ∧ b = .string (mkB (showAt r j)) ∧ Hid (ShowSt w wr g r)) (fun _ i _ => 4 - (intOf i).toNat)
  case atStart => exact ⟨0, by omega, rfl, rfl, Lib.hid HP.out.1⟩
  case round =>
    clear s0 s1 s2 s3 s4 HP
    obtain ⟨j, hj, rfl, rfl, HJ⟩ := hrel
    by_cases hlt : j < 4
    · have hlt2 : (j : Int) < 4 := by omega
      have hix := HIX.out j hlt
      obtain ⟨m0, m1, m2, m3, m4, m5, m6, m7⟩ := recAt_blk HJ.out.hr
      have h7 := HP7.out j
      have HE : Hid (showAt r (j + 1) = showAt r j ++ tokC r (padR r.kind j)) := Lib.hid rfl
      have hl1 := HLN.out.1 j
      have hl2 := HLN.out.2 (padR r.kind j)
      obtain ⟨f, hf⟩ : ∃ f, padR r.kind j = f := ⟨_, rfl⟩
      rw [hf] at hix h7 HE hl2
      have HFF := Lib.hid (fun w1 hb => HFP.out f w1 hb h7)
      obtain ⟨l, hl⟩ : ∃ l, showAt r j = l := ⟨_, rfl⟩
      obtain ⟨b, hb⟩ : ∃ b, tokC r f = b := ⟨_, rfl⟩
      rw [hl] at HE hl1 ⊢
      rw [hb] at HE HFF hl2
      have hadd : ∀ W, (Op.stringOp .add (mkB l) (mkB b)).run Tryd.prog W = .ok (.string (mkB (l ++ b))) W := fun W => run_add W l b (by omega)
      clear hf hl hb h7 hl1 hl2
      go_wp2_with (go_at_call 28; (with_reducible refine (HFF.out _ HJ.out.hb).mono ?_); rintro e w4 ⟨rfl, hb4⟩; have HN := Lib.hid (HJ.out.over hb4); clear hb4)
      go_roundw
      case rel => exact ⟨j + 1, by omega, by go_num, by rw [HE.out], HN⟩
      case measure => simp [intOf]; omega
    · obtain rfl : j = 4 := by omega
      rw [HBM.out]
      go_wp2
      go_ret
      exact ⟨rfl, HJ.out.hb⟩
theorem cshow7_of (W : World) (hS : Shaps W) (hP : Pows W) (r : Rec) (w : World) (hW : Below W.heap.size W w) (hin : r.In) {b : List UInt8} (h : showR r = b) :
    Calls Tryd.prog 15 #[.agg #[.int .u8 (r.kind : Int), .int .i64 r.src, .int .u64 (r.seq : Int), .int .i64 r.at_, .int .i64 r.num, .int .i64 r.code, .bool r.yes, .string (mkB r.text)]] w fun e w' => e = .returned (.string (mkB b)) ∧ Below w.heap.size w w' := by
  cases hm : mayR r with
  | false =>
    obtain rfl : [] = b := by rw [← h]; unfold showR; rw [hm]; rfl
    exact cshow_no r w (Lib.hid fun w1 hb => cmay7_of W hS r w1 (hW.trans (hb.mono hW.size)) hin hm)
  | true =>
    subst h
    exact cshow_yes W hS hP r w hW hin hm
end Go.Proofs.YthnkiabhfcddaaaDoor
