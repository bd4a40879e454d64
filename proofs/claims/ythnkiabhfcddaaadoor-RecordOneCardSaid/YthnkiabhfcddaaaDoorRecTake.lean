/-
  Layer 7, the landed code: Take.
-/
import Derived.Test.YthnkiabhfcddaaaDoorRecMay
import Derived.Test.YthnkiabhfcddaaaDoorReaderD
namespace Go.Proofs.YthnkiabhfcddaaaDoor
open Go.RowKit
set_option linter.unusedVariables false

/-- One field is read, 0: none. -/
def stepC (s : Rec × List UInt8 × Int × Bool) (f : Nat) : Rec × List UInt8 × Int × Bool := if f = 0 then s else stepR s f
def readAt (k : Nat) (b : List UInt8) : Nat → Rec × List UInt8 × Int × Bool
  | 0 => ({ noRec with kind := k }, b, 0, true)
  | j + 1 => stepC (readAt k b j) (padR k j)
theorem readAt_all (k : Nat) (b : List UInt8) (hk : 17 ≤ k ∧ k ≤ 32) : readAt k b 4 = readR k b := by
  unfold readR
  rcases kinds_cases hk with rfl | rfl | rfl | rfl | rfl | rfl | rfl | rfl | rfl | rfl | rfl | rfl | rfl | rfl | rfl | rfl <;>
  simp [readAt, stepC, pad_17, pad_18, pad_19, pad_20, pad_21, pad_22, pad_23, pad_24, pad_25, pad_26, pad_27, pad_28, pad_29, pad_30, pad_31, pad_32, order_17, order_18, order_19, order_20, order_21, order_22, order_23, order_24, order_25, order_26, order_27, order_28, order_29, order_30, order_31, order_32]
theorem RdrD.mono {w : World} {D D' : Nat → Prop} {g : Nat} {l : List UInt8} {e : Int} (h : RdrD w D g l e) (hD : ∀ k, D k → D' k) : RdrD w D' g l e := by
  obtain ⟨v, hh, hl, hm⟩ := h
  exact ⟨v, hh, hl.mono fun k hk => ⟨hD k hk.1, hk.2⟩, hm⟩
/-- Where Take stands: the blocks of the answer, of the record so far, of the reader. -/
structure TakSt (w wr : World) (g gx gr : Nat) (r : Rec) (l : List UInt8) (e : Int) : Prop where
  hg : g = w.heap.size
  hR : wr.heap[g]? = some (recB noRec 24)
  hx : wr.heap[gx]? = some (recB r 24)
  hr : RdrD wr (fun k => gx < k) gr l e
  hlt : g < gx ∧ gx < gr
  hb : Below w.heap.size w wr
section
variable {w wr w' : World} {g gx gr : Nat} {r x : Rec} {l l' : List UInt8} {e e' : Int}
theorem TakSt.over (h : TakSt w wr g gx gr r l e) (hb : Below wr.heap.size wr w') : TakSt w w' g gx gr r l e :=
  ⟨h.hg, (hb.block g (heap_lt h.hR)).trans h.hR, (hb.block gx (heap_lt h.hx)).trans h.hx, h.hr.keep (hb.block gr h.hr.lt) fun k _ hk => hb.block k (Nat.lt_trans hk h.hr.lt), h.hlt, bstep h.hb hb⟩
theorem TakSt.read (h : TakSt w wr g gx gr r l e) (hr : RdrD w' (fun k => gx < k) gr l' e') (hg : wr.grownBy w' (some gr)) : TakSt w w' g gx gr r l' e' := by
  have h1 := h.hlt
  have hgw := h.hg
  have hs := h.hb.size
  have far : ∀ k, k < wr.heap.size → k ≠ gr → w'.heap[k]? = wr.heap[k]? := fun k hk hne => hg.block k hk fun q => hne (by injection q)
  have hl := h.hr.lt
  exact ⟨h.hg, (far g (heap_lt h.hR) (by omega)).trans h.hR, (far gx (heap_lt h.hx) (by omega)).trans h.hx, hr, h.hlt, h.hb.trans ⟨hg.os, hg.tape, hg.output, hg.size, fun k hk => far k (by omega) (by omega)⟩⟩
theorem TakSt.write (h : TakSt w wr g gx gr r l e) (hx : w'.heap[gx]? = some (recB x 24)) (hg : wr.grownBy w' (some gx)) : TakSt w w' g gx gr x l e := by
  have h1 := h.hlt
  have hgw := h.hg
  have hs := h.hb.size
  have hl := h.hr.lt
  have far : ∀ k, k < wr.heap.size → k ≠ gx → w'.heap[k]? = wr.heap[k]? := fun k hk hne => hg.block k hk fun q => hne (by injection q)
  exact ⟨h.hg, (far g (heap_lt h.hR) (by omega)).trans h.hR, hx, h.hr.keep (far gr hl (by omega)) (fun k hk hk2 => far k (by omega) (by omega)), h.hlt, h.hb.trans ⟨hg.os, hg.tape, hg.output, hg.size, fun k hk => far k (by omega) (by omega)⟩⟩
theorem TakSt.text (h : TakSt w wr g gx gr r l e) (t : List UInt8) : TakSt w (wr.setCell ⟨gx, 7, none⟩ (.string (mkB t))) g gx gr { r with text := t } l e := by
  refine h.write ?_ (turn_set (World.grownBy.refl _ _) 7 _)
  have := h.hx
  unfold recB at this ⊢
  exact (heap_set this 7 _).trans (by simp)
end
set_option maxRecDepth 100000 in
set_option maxHeartbeats 2000000 in
theorem ctake_no (k : Nat) (v : Value) (w : World) (hk : k < 17 ∨ 32 < k) :
    Calls Tryd.prog 17 #[.int .u8 (k : Int), v] w fun e w' => e = .returned (.tuple #[.agg #[.int .u8 0, .int .i64 0, .int .u64 0, .int .i64 0, .int .i64 0, .int .i64 0, .bool false, .string ⟨#[]⟩], .int .i64 1]) ∧ Below w.heap.size w w' := by
  have HS := Lib.hid (fun w => shape_no k w hk)
  unfold noShap at HS
  have HR0 := Lib.hid (show (w.alloc (.cells #[.int .u8 0, .int .i64 0, .int .u64 0, .int .i64 0, .int .i64 0, .int .i64 0, .bool false, .string ⟨#[]⟩] 24)).heap[w.heap.size]? = some (recB noRec 24) from heap_alloc_new w _)
  have HB0 := Lib.hid (bmore (bself w) (.cells #[.int .u8 0, .int .i64 0, .int .u64 0, .int .i64 0, .int .i64 0, .int .i64 0, .bool false, .string ⟨#[]⟩] 24))
  clear hk
  go_enter Tryd.func17, Tryd.ntmps17
  go_upto_region 2 with (go_at_call 21; (with_reducible refine (HS.out _).mono ?_); rintro e w1 ⟨rfl, hb⟩; have HB1 := Lib.hid (bstep HB0.out hb); have HR1 := Lib.hid ((hb.block w.heap.size (heap_lt HR0.out)).trans HR0.out); clear hb)
  have HP : Hid ((w1.alloc (.cells #[.string (mkB []), .int .i64 0, .int .i64 0, .int .i64 0, .int .i64 0] 52)).heap[w.heap.size]? = some (recB noRec 24) ∧ Below w.heap.size w (w1.alloc (.cells #[.string (mkB []), .int .i64 0, .int .i64 0, .int .i64 0, .int .i64 0] 52))) := Lib.hid (by
    have hb := bmore (bself w1) (.cells #[.string (mkB []), .int .i64 0, .int .i64 0, .int .i64 0, .int .i64 0] 52)
    exact ⟨(hb.block _ (heap_lt HR1.out)).trans HR1.out, bstep HB1.out hb⟩)
  generalize w1.alloc (.cells #[.string (mkB []), .int .i64 0, .int .i64 0, .int .i64 0, .int .i64 0] 52) = w2 at HP ⊢
  have hg2 := HP.out.1
  obtain ⟨f0, f1, f2, f3, f4, f5, f6, f7⟩ := recFz_blk HP.out.1
  obtain ⟨n0, n1, n2, n3, n4, n5, n6, n7⟩ := noRec_cells HP.out.1
  go_wp2
  generalize hE : ((((((((w2.setCell { block := w.heap.size, off := 0 } (Value.int IntKind.u8 0)).setCell { block := w.heap.size, off := 1 } (Value.int IntKind.i64 0)).setCell { block := w.heap.size, off := 2 } (Value.int IntKind.u64 0)).setCell { block := w.heap.size, off := 3 } (Value.int IntKind.i64 0)).setCell { block := w.heap.size, off := 4 } (Value.int IntKind.i64 0)).setCell { block := w.heap.size, off := 5 } (Value.int IntKind.i64 0)).setCell { block := w.heap.size, off := 6 } (Value.bool false)).setCell { block := w.heap.size, off := 7 } (Value.string { data := #[] })) = wv
  have HZ : Hid (wv.heap[w.heap.size]? = some (recB noRec 24) ∧ Below w.heap.size w wv) := Lib.hid (by rw [← hE]; exact ⟨setRec_heap (x := noRec) HP.out.1, setRec_below HP.out.2 (Nat.le_of_eq (by first | rfl | exact HG.out)) noRec⟩)
  clear hE f0 f1 f2 f3 f4 f5 f6 f7 n0 n1 n2 n3 n4 n5 n6 n7
  obtain ⟨m0, m1, m2, m3, m4, m5, m6, m7⟩ := noRec_cells HZ.out.1
  refine bodyPost_ret (v := .tuple #[.agg #[.int .u8 0, .int .i64 0, .int .u64 0, .int .i64 0, .int .i64 0, .int .i64 0, .bool false, .string (mkB [])], .int .i64 1]) (by simp [results, Tryd.results17, go_sem, m0, m1, m2, m3, m4, m5, m6, m7]) rfl ?_
  exact ⟨rfl, HZ.out.2⟩
set_option maxRecDepth 100000 in
set_option maxHeartbeats 8000000 in
theorem ctake_yes (W : World) (hS : Shaps W) (k : Nat) (A : Option Addr) (c : Nat) (b : List UInt8) (w : World) (hW : Below W.heap.size W w) (hk : 17 ≤ k ∧ k ≤ 32) (hb : LiesB w w.heap.size (.slice A b.length c) b) (hl : b.length ≤ 100000) {r : Rec} {x : Int} (h : finR (readR k b) = (r, x)) :
    Calls Tryd.prog 17 #[.int .u8 (k : Int), .slice A b.length c] w fun e w' => e = .returned (.tuple #[.agg #[.int .u8 (r.kind : Int), .int .i64 r.src, .int .u64 (r.seq : Int), .int .i64 r.at_, .int .i64 r.num, .int .i64 r.code, .bool r.yes, .string (mkB r.text)], .int .i64 x]) ∧ Below w.heap.size w w' := by
  have HSH := Lib.hid (fun w1 (hb : Below w.heap.size w w1) => shape_yes k w1 hk (hS.over (hW.trans (hb.mono hW.size))))
  have HOP := Lib.hid (fun w1 (h1 : Below w.heap.size w w1) => show Calls Tryd.prog 33 #[.slice A b.length c] w1 (OpenedD b w1) from by
    obtain ⟨q1, q2, q3, _⟩ := liesB_slice (hb.over (Nat.le_refl _) h1)
    exact openD_arg A c b w1 q1 q3 q2 (Fits.of (by omega)))
  have HIX := Lib.hid (run_padIx k)
  have HP7 := Lib.hid (padR_7 k)
  have HFIN : Hid (finR (readAt k b 4) = (r, x)) := Lib.hid (by rw [readAt_all k b hk]; exact h)
  have HR0 := Lib.hid (show (w.alloc (.cells #[.int .u8 0, .int .i64 0, .int .u64 0, .int .i64 0, .int .i64 0, .int .i64 0, .bool false, .string ⟨#[]⟩] 24)).heap[w.heap.size]? = some (recB noRec 24) from heap_alloc_new w _)
  have HB0 := Lib.hid (bmore (bself w) (.cells #[.int .u8 0, .int .i64 0, .int .u64 0, .int .i64 0, .int .i64 0, .int .i64 0, .bool false, .string ⟨#[]⟩] 24))
  unfold shapV at HSH
  clear hS hW hk hb hl h
  go_enter Tryd.func17, Tryd.ntmps17
  go_upto_region 4 with (go_at_call 21; (with_reducible refine (HSH.out _ HB0.out).mono ?_); rintro e w1 ⟨rfl, hb⟩; have HB1 := Lib.hid (bstep HB0.out hb); have HR1 := Lib.hid ((hb.block w.heap.size (heap_lt HR0.out)).trans HR0.out); clear hb)
  have HP : Hid (((w1.alloc (.cells #[.string (mkB (wordR k)), .int .i64 (padR k 0 : Nat), .int .i64 (padR k 1 : Nat), .int .i64 (padR k 2 : Nat), .int .i64 (padR k 3 : Nat)] 52)).heap[w.heap.size]? = some (recB noRec 24) ∧ Below w.heap.size w (w1.alloc (.cells #[.string (mkB (wordR k)), .int .i64 (padR k 0 : Nat), .int .i64 (padR k 1 : Nat), .int .i64 (padR k 2 : Nat), .int .i64 (padR k 3 : Nat)] 52))) ∧ (w1.alloc (.cells #[.string (mkB (wordR k)), .int .i64 (padR k 0 : Nat), .int .i64 (padR k 1 : Nat), .int .i64 (padR k 2 : Nat), .int .i64 (padR k 3 : Nat)] 52)).heap[w1.heap.size]? = some (.cells #[.string (mkB (wordR k)), .int .i64 (padR k 0 : Nat), .int .i64 (padR k 1 : Nat), .int .i64 (padR k 2 : Nat), .int .i64 (padR k 3 : Nat)] 52)) := Lib.hid (by
    have hb := bmore (bself w1) (.cells #[.string (mkB (wordR k)), .int .i64 (padR k 0 : Nat), .int .i64 (padR k 1 : Nat), .int .i64 (padR k 2 : Nat), .int .i64 (padR k 3 : Nat)] 52)
    exact ⟨⟨(hb.block _ (heap_lt HR1.out)).trans HR1.out, bstep HB1.out hb⟩, heap_alloc_new w1 _⟩)
  have HZW := Lib.hid HB1.out.size
  generalize w1.alloc (.cells #[.string (mkB (wordR k)), .int .i64 (padR k 0 : Nat), .int .i64 (padR k 1 : Nat), .int .i64 (padR k 2 : Nat), .int .i64 (padR k 3 : Nat)] 52) = w2 at HP ⊢
  generalize w1.heap.size = z at HP HZW ⊢
  have HQ : Hid (((w2.alloc (.cells #[.int .u8 (k : Int), .int .i64 0, .int .u64 0, .int .i64 0, .int .i64 0, .int .i64 0, .bool false, .string ⟨#[]⟩] 24)).heap[w.heap.size]? = some (recB noRec 24) ∧ Below w.heap.size w (w2.alloc (.cells #[.int .u8 (k : Int), .int .i64 0, .int .u64 0, .int .i64 0, .int .i64 0, .int .i64 0, .bool false, .string ⟨#[]⟩] 24))) ∧ (w2.alloc (.cells #[.int .u8 (k : Int), .int .i64 0, .int .u64 0, .int .i64 0, .int .i64 0, .int .i64 0, .bool false, .string ⟨#[]⟩] 24)).heap[z]? = some (.cells #[.string (mkB (wordR k)), .int .i64 (padR k 0 : Nat), .int .i64 (padR k 1 : Nat), .int .i64 (padR k 2 : Nat), .int .i64 (padR k 3 : Nat)] 52) ∧ (w2.alloc (.cells #[.int .u8 (k : Int), .int .i64 0, .int .u64 0, .int .i64 0, .int .i64 0, .int .i64 0, .bool false, .string ⟨#[]⟩] 24)).heap[w2.heap.size]? = some (recB { noRec with kind := k } 24) ∧ w2.heap.size < (w2.alloc (.cells #[.int .u8 (k : Int), .int .i64 0, .int .u64 0, .int .i64 0, .int .i64 0, .int .i64 0, .bool false, .string ⟨#[]⟩] 24)).heap.size ∧ z < w2.heap.size ∧ w.heap.size < w2.heap.size) := Lib.hid (by
    have hb := bmore (bself w2) (.cells #[.int .u8 (k : Int), .int .i64 0, .int .u64 0, .int .i64 0, .int .i64 0, .int .i64 0, .bool false, .string ⟨#[]⟩] 24)
    exact ⟨⟨(hb.block _ (heap_lt HP.out.1.1)).trans HP.out.1.1, bstep HP.out.1.2 hb⟩, (hb.block _ (heap_lt HP.out.2)).trans HP.out.2, heap_alloc_new w2 _, by simp, heap_lt HP.out.2, heap_lt HP.out.1.1⟩)
  clear HP HB1 HR1 HB0 HR0 HSH
  go_upto_region 5 with (fail)
  generalize w2.alloc (.cells #[.int .u8 (k : Int), .int .i64 0, .int .u64 0, .int .i64 0, .int .i64 0, .int .i64 0, .bool false, .string ⟨#[]⟩] 24) = w3 at HQ ⊢
  generalize w2.heap.size = gx at HQ ⊢
  go_upto_region 7 with (go_at_call 33; (with_reducible refine (HOP.out _ HQ.out.1.2).mono ?_); rintro e w4 ⟨gr, rfl, hge, hr, hb⟩; have HT : Hid (TakSt w w4 w.heap.size gx gr { noRec with kind := k } b 0 ∧ w4.heap[z]? = some (.cells #[.string (mkB (wordR k)), .int .i64 (padR k 0 : Nat), .int .i64 (padR k 1 : Nat), .int .i64 (padR k 2 : Nat), .int .i64 (padR k 3 : Nat)] 52)) := Lib.hid ⟨⟨rfl, (hb.block _ (heap_lt HQ.out.1.1)).trans HQ.out.1.1, (hb.block _ HQ.out.2.2.2.1).trans HQ.out.2.2.1, hr.mono fun k hk => Nat.lt_of_lt_of_le HQ.out.2.2.2.1 hk, ⟨HQ.out.2.2.2.2.2, Nat.lt_of_lt_of_le HQ.out.2.2.2.1 hge⟩, bstep HQ.out.1.2 hb⟩, (hb.block _ (heap_lt HQ.out.2.1)).trans HQ.out.2.1⟩; clear hge hr hb)
  obtain ⟨s0, s1, s2, s3, s4⟩ := shap_blk HT.out.2
  generalize w.heap.size = g at HT ⊢
  clear HQ HOP
  go_wp2
  go_loopw [9, 28] (fun m i wr => ∃ j : Nat, j ≤ 4 ∧ i = .int .i64 (j : Int) ∧ ∃ ok, m = .bool ok ∧ Hid (∃ r l e, readAt k b j = (r, l, e, ok) ∧ TakSt w wr g gx gr r l e)) (fun _ i _ => 4 - (intOf i).toNat)
  case atStart => exact ⟨0, by omega, rfl, true, rfl, Lib.hid ⟨_, _, _, rfl, HT.out.1⟩⟩
  case round =>
    clear s0 s1 s2 s3 s4 HT
    obtain ⟨j, hj, rfl, ok, rfl, HE⟩ := hrel
    obtain ⟨y, l, e, hy, ht⟩ := HE.out
    have HJ := Lib.hid ht
    clear HE ht
    by_cases hlt : j < 4
    · have hlt2 : (j : Int) < 4 := by omega
      have hix := HIX.out j hlt
      have h7 := HP7.out j
      have HN : Hid (readAt k b (j + 1) = stepC (y, l, e, ok) (padR k j)) := Lib.hid (by rw [← hy]; rfl)
      obtain ⟨f, hf⟩ : ∃ f, padR k j = f := ⟨_, rfl⟩
      rw [hf] at hix h7 HN
      clear hf hy
      by_cases h0 : f = 0
      · have e0 : ((f : Int) == 0) = true := by rw [h0]; rfl
        have HR : Hid (∃ r l e, readAt k b (j + 1) = (r, l, e, ok) ∧ TakSt w wr g gx gr r l e) := Lib.hid ⟨_, _, _, HN.out.trans (by unfold stepC; rw [if_pos h0]), HJ.out⟩
        clear h0 h7
        go_wp2
        go_roundw
        case rel => exact ⟨j + 1, by omega, by go_num, ok, rfl, HR⟩
        case measure => simp [intOf]; omega
      · have e0 : ((f : Int) == 0) = false := by rw [beq_eq_false_iff_ne]; omega
        by_cases hf7 : f = 7
        · have e7 : ((f : Int) == 7) = true := by rw [hf7]; rfl
          rcases hd : rdText l e 240 with ⟨t, l1, e1⟩
          have HS : Hid (readAt k b (j + 1) = ({ y with text := t }, l1, e1, ok)) := Lib.hid (HN.out.trans (by unfold stepC stepR; rw [if_neg h0, if_pos hf7]; dsimp only; rw [hd]))
          have HTX := Lib.hid (fun w1 (h : RdrD w1 (fun k => gx < k) gr l e) => show Calls Tryd.prog 34 #[.pointer (some ⟨gr, 0, none⟩), .int .i64 240] w1 (DidD (fun k => gx < k) gr (.string (mkB t)) (l1, e1) w1) from by
            have q := text_anyD (fun k => gx < k) gr l e 240 w1 h (by decide) (by decide)
            rw [hd] at q
            exact q)
          clear h0 hf7 h7 hd
          go_wp2_with (go_at_call 34; (with_reducible refine (HTX.out _ HJ.out.hr).mono ?_); rintro e2 w5 ⟨rfl, hr5, hg5⟩; have HJ5 := Lib.hid (HJ.out.read hr5 hg5); have fz := heap_frozen HJ5.out.hx 7; have y7 := (recAt_blk HJ5.out.hx).c7; clear hr5 hg5)
          have HR : Hid (∃ r l e, readAt k b (j + 1) = (r, l, e, ok) ∧ TakSt w (w5.setCell ⟨gx, 7, none⟩ (.string (mkB t))) g gx gr r l e) := Lib.hid ⟨_, _, _, HS.out, HJ5.out.text t⟩
          clear fz y7
          go_roundw
          case rel => exact ⟨j + 1, by omega, by go_num, ok, rfl, HR⟩
          case measure => simp [intOf]; omega
        · have e7 : ((f : Int) == 7) = false := by rw [beq_eq_false_iff_ne]; omega
          have h16 : 1 ≤ f ∧ f ≤ 6 := by omega
          rcases hd : rdNum l e with ⟨u, l1, e1⟩
          have hu8 : u ≤ 18446744073709551615 := by have := rdNum_lt l e; rw [hd] at this; exact this
          have HNM := Lib.hid (fun w1 (h : RdrD w1 (fun k => gx < k) gr l e) => num_atD (fun k => gx < k) gr l e w1 h hd)
          by_cases hm : u ≤ mostR f
          · have HS : Hid (readAt k b (j + 1) = (withR y f u, l1, e1, ok)) := Lib.hid (HN.out.trans (by unfold stepC stepR; rw [if_neg h0, if_neg hf7]; dsimp only; rw [hd]; dsimp only; rw [if_neg (by omega)]))
            have HST := Lib.hid (fun w1 (h : w1.heap[gx]? = some (recB y 24)) => set_any gx y 24 f u w1 h16 h hu8 (x := withR y f u) (by unfold setC; rw [if_pos hm]) (y := true) (by unfold okC; exact decide_eq_true hm))
            clear h0 hf7 h7 hd hm hu8 h16
            go_wp2_with (first
              | (go_at_call 36; (with_reducible refine (HNM.out _ HJ.out.hr).mono ?_); rintro e2 w5 ⟨rfl, hr5, hg5⟩; have HJ5 := Lib.hid (HJ.out.read hr5 hg5); clear hr5 hg5)
              | (go_at_call 35; (with_reducible refine (HST.out _ HJ5.out.hx).mono ?_); rintro e2 w6 ⟨rfl, hx6, hg6⟩; have HJ6 := Lib.hid (HJ5.out.write hx6 hg6); clear hx6 hg6))
            have HR : Hid (∃ r l e, readAt k b (j + 1) = (r, l, e, ok) ∧ TakSt w w6 g gx gr r l e) := Lib.hid ⟨_, _, _, HS.out, HJ6.out⟩
            go_roundw
            case rel => exact ⟨j + 1, by omega, by go_num, ok, rfl, HR⟩
            case measure => simp [intOf]; omega
          · have HS : Hid (readAt k b (j + 1) = (y, l1, e1, false)) := Lib.hid (HN.out.trans (by unfold stepC stepR; rw [if_neg h0, if_neg hf7]; dsimp only; rw [hd]; dsimp only; rw [if_pos (by omega)]))
            have HST := Lib.hid (fun w1 (h : w1.heap[gx]? = some (recB y 24)) => set_any gx y 24 f u w1 h16 h hu8 (x := y) (by unfold setC; rw [if_neg hm]) (y := false) (by unfold okC; exact decide_eq_false hm))
            clear h0 hf7 h7 hd hm hu8 h16
            go_wp2_with (first
              | (go_at_call 36; (with_reducible refine (HNM.out _ HJ.out.hr).mono ?_); rintro e2 w5 ⟨rfl, hr5, hg5⟩; have HJ5 := Lib.hid (HJ.out.read hr5 hg5); clear hr5 hg5)
              | (go_at_call 35; (with_reducible refine (HST.out _ HJ5.out.hx).mono ?_); rintro e2 w6 ⟨rfl, hx6, hg6⟩; have HJ6 := Lib.hid (HJ5.out.write hx6 hg6); clear hx6 hg6))
            have HR : Hid (∃ r l e, readAt k b (j + 1) = (r, l, e, false) ∧ TakSt w w6 g gx gr r l e) := Lib.hid ⟨_, _, _, HS.out, HJ6.out⟩
            go_roundw
            case rel => exact ⟨j + 1, by omega, by go_num, false, rfl, HR⟩
            case measure => simp [intOf]; omega
    · obtain rfl : j = 4 := by omega
      have HF := Lib.hid (show finR (y, l, e, ok) = (r, x) by rw [← hy]; exact HFIN.out)
      have HEn := Lib.hid (end_anyD (fun k => gx < k) gr l e wr HJ.out.hr)
      have HG := Lib.hid HJ.out.hg.symm
      obtain ⟨en, hen⟩ : ∃ en, rdEnd l e = en := ⟨_, rfl⟩
      rw [hen] at HEn
      have HX8 := Lib.hid HJ.out.hx
      clear hy
      by_cases hen0 : en = 0
      · subst hen0
        cases ok with
        | true =>
          have HRX : Hid (r = y ∧ x = 0) := Lib.hid (by have q := HF.out; unfold finR at q; dsimp only at q; rw [if_pos hen, if_pos rfl] at q; injection q with q1 q2; exact ⟨q1.symm, q2.symm⟩)
          clear hen
          go_upto_region 19 with (go_at_call 37; (with_reducible refine HEn.out.mono ?_); rintro e2 w7 ⟨rfl, rfl⟩)
          obtain ⟨f0, f1, f2, f3, f4, f5, f6, f7⟩ := recFz_blk HJ.out.hR
          obtain ⟨n0, n1, n2, n3, n4, n5, n6, n7⟩ := noRec_cells HJ.out.hR
          obtain ⟨m0, m1, m2, m3, m4, m5, m6, m7⟩ := recAt_blk HX8.out
          go_wp2
          generalize hE : ((((((((wr.setCell { block := g, off := 0 } (Value.int IntKind.u8 (y.kind : Int))).setCell { block := g, off := 1 } (Value.int IntKind.i64 y.src)).setCell { block := g, off := 2 } (Value.int IntKind.u64 (y.seq : Int))).setCell { block := g, off := 3 } (Value.int IntKind.i64 y.at_)).setCell { block := g, off := 4 } (Value.int IntKind.i64 y.num)).setCell { block := g, off := 5 } (Value.int IntKind.i64 y.code)).setCell { block := g, off := 6 } (Value.bool y.yes)).setCell { block := g, off := 7 } (Value.string (mkB y.text))) = wv
          have HZ : Hid (wv.heap[g]? = some (recB y 24) ∧ Below w.heap.size w wv) := Lib.hid (by rw [← hE]; exact ⟨setRec_heap (x := y) HJ.out.hR, setRec_below HJ.out.hb (Nat.le_of_eq (by first | rfl | exact HG.out)) y⟩)
          clear hE f0 f1 f2 f3 f4 f5 f6 f7 n0 n1 n2 n3 n4 n5 n6 n7 m0 m1 m2 m3 m4 m5 m6 m7
          obtain ⟨m0, m1, m2, m3, m4, m5, m6, m7⟩ := recAt_blk HZ.out.1
          refine bodyPost_ret (v := .tuple #[.agg #[.int .u8 (y.kind : Int), .int .i64 y.src, .int .u64 (y.seq : Int), .int .i64 y.at_, .int .i64 y.num, .int .i64 y.code, .bool y.yes, .string (mkB y.text)], .int .i64 0]) (by simp [results, Tryd.results17, go_sem, m0, m1, m2, m3, m4, m5, m6, m7]) rfl ?_
          obtain ⟨rfl, rfl⟩ := HRX.out
          exact ⟨rfl, HZ.out.2⟩
        | false =>
          have HRX : Hid (r = noRec ∧ x = 11) := Lib.hid (by have q := HF.out; unfold finR at q; dsimp only at q; rw [if_pos hen, if_neg (by decide)] at q; injection q with q1 q2; exact ⟨q1.symm, q2.symm⟩)
          clear hen
          go_upto_region 19 with (go_at_call 37; (with_reducible refine HEn.out.mono ?_); rintro e2 w7 ⟨rfl, rfl⟩)
          obtain ⟨f0, f1, f2, f3, f4, f5, f6, f7⟩ := recFz_blk HJ.out.hR
          obtain ⟨n0, n1, n2, n3, n4, n5, n6, n7⟩ := noRec_cells HJ.out.hR
          go_wp2
          generalize hE : ((((((((wr.setCell { block := g, off := 0 } (Value.int IntKind.u8 0)).setCell { block := g, off := 1 } (Value.int IntKind.i64 0)).setCell { block := g, off := 2 } (Value.int IntKind.u64 0)).setCell { block := g, off := 3 } (Value.int IntKind.i64 0)).setCell { block := g, off := 4 } (Value.int IntKind.i64 0)).setCell { block := g, off := 5 } (Value.int IntKind.i64 0)).setCell { block := g, off := 6 } (Value.bool false)).setCell { block := g, off := 7 } (Value.string { data := #[] })) = wv
          have HZ : Hid (wv.heap[g]? = some (recB noRec 24) ∧ Below w.heap.size w wv) := Lib.hid (by rw [← hE]; exact ⟨setRec_heap (x := noRec) HJ.out.hR, setRec_below HJ.out.hb (Nat.le_of_eq (by first | rfl | exact HG.out)) noRec⟩)
          clear hE f0 f1 f2 f3 f4 f5 f6 f7 n0 n1 n2 n3 n4 n5 n6 n7
          obtain ⟨m0, m1, m2, m3, m4, m5, m6, m7⟩ := noRec_cells HZ.out.1
          refine bodyPost_ret (v := .tuple #[.agg #[.int .u8 0, .int .i64 0, .int .u64 0, .int .i64 0, .int .i64 0, .int .i64 0, .bool false, .string (mkB [])], .int .i64 11]) (by simp [results, Tryd.results17, go_sem, m0, m1, m2, m3, m4, m5, m6, m7]) rfl ?_
          obtain ⟨rfl, rfl⟩ := HRX.out
          exact ⟨rfl, HZ.out.2⟩
      · have HRX : Hid (r = noRec ∧ x = en) := Lib.hid (by have q := HF.out; unfold finR at q; dsimp only at q; rw [hen, if_neg hen0] at q; injection q with q1 q2; exact ⟨q1.symm, q2.symm⟩)
        have henb : (en != 0) = true := by simp [hen0]
        clear hen hen0
        go_upto_region 18 with (go_at_call 37; (with_reducible refine HEn.out.mono ?_); rintro e2 w7 ⟨rfl, rfl⟩)
        obtain ⟨f0, f1, f2, f3, f4, f5, f6, f7⟩ := recFz_blk HJ.out.hR
        obtain ⟨n0, n1, n2, n3, n4, n5, n6, n7⟩ := noRec_cells HJ.out.hR
        go_wp2
        generalize hE : ((((((((wr.setCell { block := g, off := 0 } (Value.int IntKind.u8 0)).setCell { block := g, off := 1 } (Value.int IntKind.i64 0)).setCell { block := g, off := 2 } (Value.int IntKind.u64 0)).setCell { block := g, off := 3 } (Value.int IntKind.i64 0)).setCell { block := g, off := 4 } (Value.int IntKind.i64 0)).setCell { block := g, off := 5 } (Value.int IntKind.i64 0)).setCell { block := g, off := 6 } (Value.bool false)).setCell { block := g, off := 7 } (Value.string { data := #[] })) = wv
        have HZ : Hid (wv.heap[g]? = some (recB noRec 24) ∧ Below w.heap.size w wv) := Lib.hid (by rw [← hE]; exact ⟨setRec_heap (x := noRec) HJ.out.hR, setRec_below HJ.out.hb (Nat.le_of_eq (by first | rfl | exact HG.out)) noRec⟩)
        clear hE f0 f1 f2 f3 f4 f5 f6 f7 n0 n1 n2 n3 n4 n5 n6 n7
        obtain ⟨m0, m1, m2, m3, m4, m5, m6, m7⟩ := noRec_cells HZ.out.1
        refine bodyPost_ret (v := .tuple #[.agg #[.int .u8 0, .int .i64 0, .int .u64 0, .int .i64 0, .int .i64 0, .int .i64 0, .bool false, .string (mkB [])], .int .i64 en]) (by simp [results, Tryd.results17, go_sem, m0, m1, m2, m3, m4, m5, m6, m7]) rfl ?_
        obtain ⟨rfl, rfl⟩ := HRX.out
        exact ⟨rfl, HZ.out.2⟩
theorem ctake7_of (W : World) (hS : Shaps W) (k : Nat) (v : Value) (b : List UInt8) (w : World) (hW : Below W.heap.size W w) (hb : LiesB w w.heap.size v b) (hl : b.length ≤ 100000) {r : Rec} {x : Int} (h : takeR k b = (r, x)) :
    Calls Tryd.prog 17 #[.int .u8 (k : Int), v] w fun e w' => e = .returned (.tuple #[.agg #[.int .u8 (r.kind : Int), .int .i64 r.src, .int .u64 (r.seq : Int), .int .i64 r.at_, .int .i64 r.num, .int .i64 r.code, .bool r.yes, .string (mkB r.text)], .int .i64 x]) ∧ Below w.heap.size w w' := by
  by_cases hk : 17 ≤ k ∧ k ≤ 32
  · obtain ⟨A, c, rfl, _⟩ := liesB_row hb
    exact ctake_yes W hS k A c b w hW hk hb hl (by rw [← h]; unfold takeR; rw [if_neg (by omega)])
  · have e : (noRec, (1 : Int)) = (r, x) := by rw [← h]; unfold takeR; rw [if_pos (by omega)]
    injection e with e1 e2
    subst e1 e2
    exact ctake_no k v w (by omega)
end Go.Proofs.YthnkiabhfcddaaaDoor
