/-
  Layer 7, the landed code: allowed, May.
-/
import Derived.Test.YthnkiabhfcddaaaDoorPackG
import Derived.Test.YthnkiabhfcddaaaDoorPackK
import Derived.Deep.Cut
import Derived.Deep.RegionHeld3
import Derived.Deep.QuietTactic
import Derived.BigQuiet
namespace Go.Proofs.YthnkiabhfcddaaaDoor
open Go.RowKit
set_option linter.unusedVariables false

/-- One of a kind's four fields. -/
theorem run_padIx (k j : Nat) (hj : j < 4) (W : World) : (Instr.index 50 (.agg #[.int .i64 (padR k 0 : Nat), .int .i64 (padR k 1 : Nat), .int .i64 (padR k 2 : Nat), .int .i64 (padR k 3 : Nat)]) (.int .i64 (j : Int))).run Tryd.prog W = .ok (.int .i64 (padR k j : Nat)) W := by
  have h := Tryd.underlying50
  rcases (show j = 0 ∨ j = 1 ∨ j = 2 ∨ j = 3 by omega) with rfl | rfl | rfl | rfl <;> simp [Instr.index, run_underlying h, asIntOf, go_sem]
theorem four_blocks {w w1 : World} {o1 o2 o3 o4 : Obj} (hb : Below ((((w.alloc o1).alloc o2).alloc o3).alloc o4).heap.size ((((w.alloc o1).alloc o2).alloc o3).alloc o4) w1) :
    w1.heap[w.heap.size]? = some o1 ∧ w1.heap[w.heap.size + 1]? = some o2 ∧ w1.heap[w.heap.size + 1 + 1]? = some o3 ∧ w1.heap[w.heap.size + 1 + 1 + 1]? = some o4 ∧ Below w.heap.size w w1 ∧ w.heap.size + 4 ≤ w1.heap.size := by
  obtain ⟨q2, q3, q4, q5, q6⟩ := three_blocks (w := w.alloc o1) (o1 := o2) (o2 := o3) (o3 := o4) hb
  obtain ⟨q1, q7, _⟩ := one_block (w := w) (o1 := o1) q5
  have e : (w.alloc o1).heap.size = w.heap.size + 1 := by simp
  rw [e] at q2 q3 q4 q6
  exact ⟨q1, q2, q3, q4, q7, by omega⟩
theorem shap_blk {w : World} {g : Nat} {a b c d e : Value} {t : TypeId} (h : w.heap[g]? = some (.cells #[a, b, c, d, e] t (0, 0))) : w.cell? ⟨g, 0, none⟩ = some a ∧ w.cell? ⟨g, 1, none⟩ = some b ∧ w.cell? ⟨g, 2, none⟩ = some c ∧ w.cell? ⟨g, 3, none⟩ = some d ∧ w.cell? ⟨g, 4, none⟩ = some e :=
  ⟨by rw [heap_cell h]; rfl, by rw [heap_cell h]; rfl, by rw [heap_cell h]; rfl, by rw [heap_cell h]; rfl, by rw [heap_cell h]; rfl⟩
/-- Where allowed stands: the blocks of the record, of the shape, of the answer, of what is allowed so far. -/
structure AlwSt (w wr : World) (g : Nat) (r : Rec) (j : Nat) : Prop where
  hg : g = w.heap.size
  hr : wr.heap[g]? = some (recB r 24)
  ha : wr.heap[g + 1 + 1]? = some (recB noRec 24)
  hx : wr.heap[g + 1 + 1 + 1]? = some (recB (alwAt r j) 24)
  hb : Below w.heap.size w wr
  hz : g + 4 ≤ wr.heap.size
section
variable {w wr w' : World} {g : Nat} {r : Rec} {j : Nat}
theorem AlwSt.over (h : AlwSt w wr g r j) (hb : Below wr.heap.size wr w') : AlwSt w w' g r j := by
  have hz := h.hz
  exact ⟨h.hg, (hb.block g (by omega)).trans h.hr, (hb.block (g + 1 + 1) (by omega)).trans h.ha, (hb.block (g + 1 + 1 + 1) (by omega)).trans h.hx, bstep h.hb hb, Nat.le_trans hz hb.size⟩
theorem AlwSt.next (h : AlwSt w wr g r j) (hx : w'.heap[g + 1 + 1 + 1]? = some (recB (alwR r (alwAt r j) (padR r.kind j)) 24)) (hg : wr.grownBy w' (some (g + 1 + 1 + 1))) : AlwSt w w' g r (j + 1) := by
  have hz := h.hz
  have far : ∀ k, k < wr.heap.size → k ≠ g + 1 + 1 + 1 → w'.heap[k]? = wr.heap[k]? := fun k hk hne => hg.block k hk fun e => hne (by injection e)
  have hs : wr.heap.size ≤ w'.heap.size := hg.size
  have hgw := h.hg
  have hbs := h.hb.size
  refine ⟨h.hg, (far g (by omega) (by omega)).trans h.hr, (far (g + 1 + 1) (by omega) (by omega)).trans h.ha, hx, h.hb.trans ⟨hg.os, hg.tape, hg.output, hs, fun k hk => far k (by omega) (by omega)⟩, by omega⟩
theorem AlwSt.same (h : AlwSt w wr g r j) (hf : padR r.kind j = 0) : AlwSt w wr g r (j + 1) := h.next (by rw [hf]; exact h.hx) (World.grownBy.refl _ _)
theorem AlwSt.long (h : AlwSt w wr g r j) (hf : padR r.kind j = 7) (hl : ¬ r.text.length ≤ 240) : AlwSt w wr g r (j + 1) := h.next (by rw [hf]; unfold alwR; rw [if_neg (by decide), if_pos rfl, if_neg hl]; exact h.hx) (World.grownBy.refl _ _)
theorem AlwSt.text (h : AlwSt w wr g r j) (hf : padR r.kind j = 7) (hl : r.text.length ≤ 240) : AlwSt w (wr.setCell ⟨g + 1 + 1 + 1, 7, none⟩ (.string (mkB r.text))) g r (j + 1) := by
  refine h.next ?_ (turn_set (World.grownBy.refl _ _) 7 _)
  rw [hf]
  unfold alwR
  rw [if_neg (by decide), if_pos rfl, if_pos hl]
  have := h.hx
  unfold recB at this ⊢
  exact (heap_set this 7 _).trans (by simp)
end
set_option maxRecDepth 100000 in
set_option maxHeartbeats 2000000 in
theorem allowed_any (r : Rec) (w : World) (hq : r.seq ≤ 18446744073709551615) :
    Calls Tryd.prog 22 #[.agg #[.int .u8 (r.kind : Int), .int .i64 r.src, .int .u64 (r.seq : Int), .int .i64 r.at_, .int .i64 r.num, .int .i64 r.code, .bool r.yes, .string (mkB r.text)], shapV r.kind] w fun e w' => e = .returned (recV (alwAt r 4)) ∧ Below w.heap.size w w' := by
  unfold shapV
  have HIX := Lib.hid (run_padIx r.kind)
  have HQ := Lib.hid hq
  clear hq
  obtain ⟨m0, m1, m2, m3, m4, m5, m6, m7⟩ := recAt_blk (heap_alloc_new w (recB r 24))
  go_enter Tryd.func22, Tryd.ntmps22
  go_upto_region 2 with (fail)
  have HA : Hid (AlwSt w ((((w.alloc (.cells #[.int .u8 (r.kind : Int), .int .i64 r.src, .int .u64 (r.seq : Int), .int .i64 r.at_, .int .i64 r.num, .int .i64 r.code, .bool r.yes, .string (mkB r.text)] 24)).alloc (.cells #[.string (mkB (wordR r.kind)), .int .i64 (padR r.kind 0 : Nat), .int .i64 (padR r.kind 1 : Nat), .int .i64 (padR r.kind 2 : Nat), .int .i64 (padR r.kind 3 : Nat)] 52)).alloc (.cells #[.int .u8 0, .int .i64 0, .int .u64 0, .int .i64 0, .int .i64 0, .int .i64 0, .bool false, .string ⟨#[]⟩] 24)).alloc (.cells #[.int .u8 (r.kind : Int), .int .i64 0, .int .u64 0, .int .i64 0, .int .i64 0, .int .i64 0, .bool false, .string ⟨#[]⟩] 24)) w.heap.size r 0 ∧ ((((w.alloc (.cells #[.int .u8 (r.kind : Int), .int .i64 r.src, .int .u64 (r.seq : Int), .int .i64 r.at_, .int .i64 r.num, .int .i64 r.code, .bool r.yes, .string (mkB r.text)] 24)).alloc (.cells #[.string (mkB (wordR r.kind)), .int .i64 (padR r.kind 0 : Nat), .int .i64 (padR r.kind 1 : Nat), .int .i64 (padR r.kind 2 : Nat), .int .i64 (padR r.kind 3 : Nat)] 52)).alloc (.cells #[.int .u8 0, .int .i64 0, .int .u64 0, .int .i64 0, .int .i64 0, .int .i64 0, .bool false, .string ⟨#[]⟩] 24)).alloc (.cells #[.int .u8 (r.kind : Int), .int .i64 0, .int .u64 0, .int .i64 0, .int .i64 0, .int .i64 0, .bool false, .string ⟨#[]⟩] 24)).heap[w.heap.size + 1]? = some (.cells #[.string (mkB (wordR r.kind)), .int .i64 (padR r.kind 0 : Nat), .int .i64 (padR r.kind 1 : Nat), .int .i64 (padR r.kind 2 : Nat), .int .i64 (padR r.kind 3 : Nat)] 52)) := Lib.hid (by
    obtain ⟨q1, q2, q3, q4, q5, q6⟩ := four_blocks (w := w) (o1 := recB r 24) (o2 := .cells #[.string (mkB (wordR r.kind)), .int .i64 (padR r.kind 0 : Nat), .int .i64 (padR r.kind 1 : Nat), .int .i64 (padR r.kind 2 : Nat), .int .i64 (padR r.kind 3 : Nat)] 52) (o3 := recB noRec 24) (o4 := recB { noRec with kind := r.kind } 24) (Below.refl _ _)
    exact ⟨⟨rfl, q1, q3, q4, q5, q6⟩, q2⟩)
  generalize ((((w.alloc (.cells #[.int .u8 (r.kind : Int), .int .i64 r.src, .int .u64 (r.seq : Int), .int .i64 r.at_, .int .i64 r.num, .int .i64 r.code, .bool r.yes, .string (mkB r.text)] 24)).alloc (.cells #[.string (mkB (wordR r.kind)), .int .i64 (padR r.kind 0 : Nat), .int .i64 (padR r.kind 1 : Nat), .int .i64 (padR r.kind 2 : Nat), .int .i64 (padR r.kind 3 : Nat)] 52)).alloc (.cells #[.int .u8 0, .int .i64 0, .int .u64 0, .int .i64 0, .int .i64 0, .int .i64 0, .bool false, .string ⟨#[]⟩] 24)).alloc (.cells #[.int .u8 (r.kind : Int), .int .i64 0, .int .u64 0, .int .i64 0, .int .i64 0, .int .i64 0, .bool false, .string ⟨#[]⟩] 24)) = wr at HA ⊢
  generalize w.heap.size = g at HA ⊢
  obtain ⟨s0, s1, s2, s3, s4⟩ := shap_blk HA.out.2
  have hx : 0 < 4 := by decide
  clear m0 m1 m2 m3 m4 m5 m6 m7
  go_wp2
  go_loopw [13] (fun i wr => ∃ j : Nat, j ≤ 4 ∧ i = .int .i64 (j : Int) ∧ Hid (AlwSt w wr g r j)) (fun i _ => 4 - (intOf i).toNat)
  case atStart => exact ⟨0, by omega, rfl, Lib.hid HA.out.1⟩
  case round =>
    clear s0 s1 s2 s3 s4 HA
    obtain ⟨j, hj, rfl, HJ⟩ := hrel
    by_cases hlt : j < 4
    · have hlt2 : (j : Int) < 4 := by omega
      have hix := HIX.out j hlt
      obtain ⟨m0, m1, m2, m3, m4, m5, m6, m7⟩ := recAt_blk HJ.out.hr
      have fz := heap_frozen HJ.out.hx 7
      have y7 := (recAt_blk HJ.out.hx).c7
      have h7 := padR_7 r.kind j
      obtain ⟨f, hf⟩ : ∃ f, padR r.kind j = f := ⟨_, rfl⟩
      rw [hf] at hix h7
      have HF := Lib.hid hf
      clear hf
      by_cases h0 : f = 0
      · have e0 : ((f : Int) == 0) = true := by rw [h0]; rfl
        have HN := Lib.hid (HJ.out.same (HF.out.trans h0))
        clear h0 h7
        go_wp2
        go_roundw
        case rel => exact ⟨j + 1, by omega, by go_num, HN⟩
        case measure => simp [intOf]; omega
      · have e0 : ((f : Int) == 0) = false := by rw [beq_eq_false_iff_ne]; omega
        by_cases hf7 : f = 7
        · have e7 : ((f : Int) == 7) = true := by rw [hf7]; rfl
          have hsz := mkB_size r.text
          have HF7 := Lib.hid (HF.out.trans hf7)
          by_cases hl : r.text.length ≤ 240
          · have HN := Lib.hid (HJ.out.text HF7.out hl)
            generalize r.text.length = tl at hsz hl
            have hl2 : (tl : Int) ≤ 240 := by omega
            clear h0 hf7 h7 hl
            go_wp2
            go_roundw
            case rel => exact ⟨j + 1, by omega, by go_num, HN⟩
            case measure => simp [intOf]; omega
          · have HN := Lib.hid (HJ.out.long HF7.out hl)
            generalize r.text.length = tl at hsz hl
            have hl2 : ¬ (tl : Int) ≤ 240 := by omega
            clear h0 hf7 h7 hl
            go_wp2
            go_roundw
            case rel => exact ⟨j + 1, by omega, by go_num, HN⟩
            case measure => simp [intOf]; omega
        · have e7 : ((f : Int) == 7) = false := by rw [beq_eq_false_iff_ne]; omega
          have HFN : Hid (alwR r (alwAt r j) f = setC (alwAt r j) f (numC r f)) := Lib.hid (by unfold alwR; rw [if_neg h0, if_neg hf7])
          have h16 : 1 ≤ f ∧ f ≤ 6 := by omega
          obtain ⟨u, hu⟩ : ∃ u, numC r f = u := ⟨_, rfl⟩
          have hu8 : u ≤ 18446744073709551615 := by rw [← hu]; exact numC_le r f HQ.out
          have HNU := Lib.hid (fun w => number_any r f w HQ.out hu)
          obtain ⟨b, hb⟩ : ∃ b, okC f u = b := ⟨_, rfl⟩
          obtain ⟨x, hx⟩ : ∃ x, alwAt r j = x := ⟨_, rfl⟩
          have HST := Lib.hid (fun w1 (h : w1.heap[g + 1 + 1 + 1]? = some (recB x 24)) => set_any (g + 1 + 1 + 1) x 24 f u w1 h16 h hu8 rfl hb)
          rw [hu, hx] at HFN
          have HX := Lib.hid hx
          clear h0 hf7 h7 h16 hu hu8 hb hx y7 fz
          go_wp2_with (first
            | (go_at_call 49; (with_reducible refine (HNU.out _).mono ?_); rintro e w2 ⟨rfl, hb2⟩; have HJ2 := Lib.hid (HJ.out.over hb2); clear hb2)
            | (go_at_call 35; (with_reducible refine (HST.out _ (by rw [← HX.out]; exact HJ2.out.hx)).mono ?_); rintro e w3 ⟨rfl, hx3, hg3⟩; have HN := Lib.hid (HJ2.out.next (by rw [HF.out, HX.out, HFN.out]; exact hx3) hg3); clear hx3 hg3))
          go_roundw
          case rel => exact ⟨j + 1, by omega, by go_num, HN⟩
          case measure => simp [intOf]; omega
    · obtain rfl : j = 4 := by omega
      obtain ⟨x, hx⟩ : ∃ x, alwAt r 4 = x := ⟨_, rfl⟩
      have hxx := HJ.out.hx
      have haa := HJ.out.ha
      rw [hx] at hxx
      obtain ⟨m0, m1, m2, m3, m4, m5, m6, m7⟩ := recAt_blk hxx
      obtain ⟨f0, f1, f2, f3, f4, f5, f6, f7⟩ := recFz_blk haa
      obtain ⟨n0, n1, n2, n3, n4, n5, n6, n7⟩ := noRec_cells haa
      have HX := Lib.hid hx
      have HZ : Hid ((setRec wr (g + 1 + 1) x).heap[g + 1 + 1]? = some (recB x 24) ∧ Below w.heap.size w (setRec wr (g + 1 + 1) x)) := Lib.hid ⟨setRec_heap haa, setRec_below HJ.out.hb (by have := HJ.out.hg; omega) x⟩
      clear hx haa hxx
      go_wp2
      unfold setRec at HZ
      generalize ((((((((wr.setCell { block := g + 1 + 1, off := 0 } (Value.int IntKind.u8 (x.kind : Int))).setCell { block := g + 1 + 1, off := 1 } (Value.int IntKind.i64 x.src)).setCell { block := g + 1 + 1, off := 2 } (Value.int IntKind.u64 (x.seq : Int))).setCell { block := g + 1 + 1, off := 3 } (Value.int IntKind.i64 x.at_)).setCell { block := g + 1 + 1, off := 4 } (Value.int IntKind.i64 x.num)).setCell { block := g + 1 + 1, off := 5 } (Value.int IntKind.i64 x.code)).setCell { block := g + 1 + 1, off := 6 } (Value.bool x.yes)).setCell { block := g + 1 + 1, off := 7 } (Value.string (mkB x.text))) = wv at HZ ⊢
      clear f0 f1 f2 f3 f4 f5 f6 f7 n0 n1 n2 n3 n4 n5 n6 n7 m0 m1 m2 m3 m4 m5 m6 m7
      obtain ⟨m0, m1, m2, m3, m4, m5, m6, m7⟩ := recAt_blk HZ.out.1
      refine bodyPost_ret (v := recV x) (by simp [results, Tryd.results22, go_sem, recV, m0, m1, m2, m3, m4, m5, m6, m7]) rfl ?_
      exact ⟨by rw [HX.out], HZ.out.2⟩

theorem below_drewM {B : Nat} {a w : World} (h : Below B a w) (n : Nat) : Below B a (w.drewN n) := ⟨h.os, h.tape, h.output, h.size, h.block⟩
/-- What May's drawn region reads. -/
abbrev MayS (w : World) (g z : Nat) (r : Rec) (wd : List UInt8) (f0 f1 f2 f3 : Nat) (w' : World) : Prop :=
  w'.cell? ⟨g, 0, none⟩ = some (.int .u8 (r.kind : Int)) ∧ w'.cell? ⟨g, 1, none⟩ = some (.int .i64 r.src) ∧ w'.cell? ⟨g, 2, none⟩ = some (.int .u64 (r.seq : Int)) ∧ w'.cell? ⟨g, 3, none⟩ = some (.int .i64 r.at_) ∧ w'.cell? ⟨g, 4, none⟩ = some (.int .i64 r.num) ∧ w'.cell? ⟨g, 5, none⟩ = some (.int .i64 r.code) ∧ w'.cell? ⟨g, 6, none⟩ = some (.bool r.yes) ∧ w'.cell? ⟨g, 7, none⟩ = some (.string (mkB r.text)) ∧ w'.cell? ⟨z, 0, none⟩ = some (.string (mkB wd)) ∧ w'.cell? ⟨z, 1, none⟩ = some (.int .i64 (f0 : Nat)) ∧ w'.cell? ⟨z, 2, none⟩ = some (.int .i64 (f1 : Nat)) ∧ w'.cell? ⟨z, 3, none⟩ = some (.int .i64 (f2 : Nat)) ∧ w'.cell? ⟨z, 4, none⟩ = some (.int .i64 (f3 : Nat)) ∧ Hid (g < w'.heap.size ∧ z < w'.heap.size ∧ Below w.heap.size w w')
theorem mayS_over {w : World} {g z : Nat} {r : Rec} {wd : List UInt8} {f0 f1 f2 f3 : Nat} {w1 w2 : World} (h : MayS w g z r wd f0 f1 f2 f3 w1) (hb : Below w1.heap.size w1 w2) : MayS w g z r wd f0 f1 f2 f3 w2 := by
  obtain ⟨h0, h1, h2, h3, h4, h5, h6, h7, h8, h9, h10, h11, h12, h13⟩ := h
  have hg := h13.out.1
  have hz := h13.out.2.1
  exact ⟨(hb.cell (p := ⟨g, 0, none⟩) hg).trans h0, (hb.cell (p := ⟨g, 1, none⟩) hg).trans h1, (hb.cell (p := ⟨g, 2, none⟩) hg).trans h2, (hb.cell (p := ⟨g, 3, none⟩) hg).trans h3, (hb.cell (p := ⟨g, 4, none⟩) hg).trans h4, (hb.cell (p := ⟨g, 5, none⟩) hg).trans h5, (hb.cell (p := ⟨g, 6, none⟩) hg).trans h6, (hb.cell (p := ⟨g, 7, none⟩) hg).trans h7, (hb.cell (p := ⟨z, 0, none⟩) hz).trans h8, (hb.cell (p := ⟨z, 1, none⟩) hz).trans h9, (hb.cell (p := ⟨z, 2, none⟩) hz).trans h10, (hb.cell (p := ⟨z, 3, none⟩) hz).trans h11, (hb.cell (p := ⟨z, 4, none⟩) hz).trans h12, Lib.hid ⟨Nat.lt_of_lt_of_le hg hb.size, Nat.lt_of_lt_of_le hz hb.size, bstep h13.out.2.2 hb⟩⟩
theorem mayS_drew {w : World} {g z : Nat} {r : Rec} {wd : List UInt8} {f0 f1 f2 f3 : Nat} {w1 : World} (h : MayS w g z r wd f0 f1 f2 f3 w1) : MayS w g z r wd f0 f1 f2 f3 w1.drew := mayS_over h (bself w1).drew
theorem MayS.hid {w : World} {g z : Nat} {r : Rec} {wd : List UInt8} {f0 f1 f2 f3 : Nat} {w1 : World} (h : MayS w g z r wd f0 f1 f2 f3 w1) : Below w.heap.size w w1 := h.2.2.2.2.2.2.2.2.2.2.2.2.2.out.2.2
set_option maxRecDepth 100000 in
set_option maxHeartbeats 2000000 in
theorem cmay_no (r : Rec) (w : World) (hk : r.kind < 17 ∨ 32 < r.kind) :
    Calls Tryd.prog 11 #[.agg #[.int .u8 (r.kind : Int), .int .i64 r.src, .int .u64 (r.seq : Int), .int .i64 r.at_, .int .i64 r.num, .int .i64 r.code, .bool r.yes, .string (mkB r.text)]] w fun e w' => e = .returned (.bool false) ∧ Below w.heap.size w w' := by
  have HS := Lib.hid (fun w => shape_no r.kind w hk)
  unfold noShap at HS
  obtain ⟨m0, m1, m2, m3, m4, m5, m6, m7⟩ := recAt_blk (heap_alloc_new w (recB r 24))
  unfold recB at m0
  have HR := Lib.hid (heap_alloc_new w (recB r 24))
  have HB0 := Lib.hid (bmore (bself w) (recB r 24))
  unfold recB at HR HB0
  clear m1 m2 m3 m4 m5 m6 m7
  go_enter Tryd.func11, Tryd.ntmps11
  go_upto_region 2 with (go_at_call 21; (with_reducible refine (HS.out _).mono ?_); rintro e w1 ⟨rfl, hb⟩; have HB1 := Lib.hid (bstep HB0.out hb); clear hb m0)
  have HB2 := Lib.hid (HB1.out.alloc HB1.out.size (.cells #[.string (mkB []), .int .i64 0, .int .i64 0, .int .i64 0, .int .i64 0] 52))
  clear HR HB0 HS
  go_quiet (fail)
  go_wp2
  go_ret
  exact ⟨rfl, below_drewM HB2.out _⟩

set_option maxRecDepth 100000 in
set_option maxHeartbeats 4000000 in
theorem cmay_yes (r : Rec) (w : World) (hk : 17 ≤ r.kind ∧ r.kind ≤ 32) (hT : Shaps w) (hin : r.In) {x : Bool} (hx : mayR r = x) :
    Calls Tryd.prog 11 #[.agg #[.int .u8 (r.kind : Int), .int .i64 r.src, .int .u64 (r.seq : Int), .int .i64 r.at_, .int .i64 r.num, .int .i64 r.code, .bool r.yes, .string (mkB r.text)]] w fun e w' => e = .returned (.bool x) ∧ Below w.heap.size w w' := by
  have HS := Lib.hid (fun w (h : Shaps w) => shape_yes r.kind w hk h)
  have HAL := Lib.hid (fun w => allowed_any r w hin.2.2.1)
  have HE : Hid (decide (r = alwAt r 4) = x) := Lib.hid ((may_alw r hin hk).symm.trans hx)
  generalize alwAt r 4 = al at HAL HE
  have HEQ := fun w => run_eq_r7 w r al
  have HE2 := HE.out
  rw [HE2] at HEQ
  unfold shapV at HS HAL
  unfold recV at HAL
  generalize wordR r.kind = wd at HS HAL
  generalize padR r.kind 0 = f0 at HS HAL
  generalize padR r.kind 1 = f1 at HS HAL
  generalize padR r.kind 2 = f2 at HS HAL
  generalize padR r.kind 3 = f3 at HS HAL
  have HR := Lib.hid (heap_alloc_new w (recB r 24))
  obtain ⟨m0, m1, m2, m3, m4, m5, m6, m7⟩ := recAt_blk (heap_alloc_new w (recB r 24))
  have HB0 := Lib.hid (bmore (bself w) (recB r 24))
  have HT0 := Lib.hid (hT.over HB0.out)
  unfold recB at m0 HB0 HT0 HR
  clear m1 m2 m3 m4 m5 m6 m7 hT hin hx HE2
  go_enter Tryd.func11, Tryd.ntmps11
  go_upto_region 2 with (go_at_call 21; (with_reducible refine (HS.out _ HT0.out).mono ?_); rintro e w1 ⟨rfl, hb⟩; have HB1 := Lib.hid (bstep HB0.out hb); have HR1 := Lib.hid ((hb.block w.heap.size (heap_lt HR.out)).trans HR.out); clear hb m0)
  have HM : MayS w w.heap.size w1.heap.size r wd f0 f1 f2 f3 (w1.alloc (.cells #[.string (mkB wd), .int .i64 (f0 : Nat), .int .i64 (f1 : Nat), .int .i64 (f2 : Nat), .int .i64 (f3 : Nat)] 52)) := by
    have hb := bmore (bself w1) (.cells #[.string (mkB wd), .int .i64 (f0 : Nat), .int .i64 (f1 : Nat), .int .i64 (f2 : Nat), .int .i64 (f3 : Nat)] 52)
    have hr := (hb.block w.heap.size (heap_lt HR1.out)).trans HR1.out
    obtain ⟨m0, m1, m2, m3, m4, m5, m6, m7⟩ := recAt_blk hr
    obtain ⟨s0, s1, s2, s3, s4⟩ := shap_blk (heap_alloc_new w1 (.cells #[.string (mkB wd), .int .i64 (f0 : Nat), .int .i64 (f1 : Nat), .int .i64 (f2 : Nat), .int .i64 (f3 : Nat)] 52))
    exact ⟨m0, m1, m2, m3, m4, m5, m6, m7, s0, s1, s2, s3, s4, Lib.hid ⟨heap_lt hr, by simp, bstep HB1.out hb⟩⟩
  generalize w1.alloc (.cells #[.string (mkB wd), .int .i64 (f0 : Nat), .int .i64 (f1 : Nat), .int .i64 (f2 : Nat), .int .i64 (f3 : Nat)] 52) = w2 at HM ⊢
  generalize w1.heap.size = z at HM ⊢
  unfold MayS at HM
  go_region_held3 (fun w' => w'.cell? ⟨w.heap.size, 0, none⟩ = some (.int .u8 (r.kind : Int)) ∧ w'.cell? ⟨w.heap.size, 1, none⟩ = some (.int .i64 r.src) ∧ w'.cell? ⟨w.heap.size, 2, none⟩ = some (.int .u64 (r.seq : Int)) ∧ w'.cell? ⟨w.heap.size, 3, none⟩ = some (.int .i64 r.at_) ∧ w'.cell? ⟨w.heap.size, 4, none⟩ = some (.int .i64 r.num) ∧ w'.cell? ⟨w.heap.size, 5, none⟩ = some (.int .i64 r.code) ∧ w'.cell? ⟨w.heap.size, 6, none⟩ = some (.bool r.yes) ∧ w'.cell? ⟨w.heap.size, 7, none⟩ = some (.string (mkB r.text)) ∧ w'.cell? ⟨z, 0, none⟩ = some (.string (mkB wd)) ∧ w'.cell? ⟨z, 1, none⟩ = some (.int .i64 (f0 : Nat)) ∧ w'.cell? ⟨z, 2, none⟩ = some (.int .i64 (f1 : Nat)) ∧ w'.cell? ⟨z, 3, none⟩ = some (.int .i64 (f2 : Nat)) ∧ w'.cell? ⟨z, 4, none⟩ = some (.int .i64 (f3 : Nat)) ∧ Hid (w.heap.size < w'.heap.size ∧ z < w'.heap.size ∧ Below w.heap.size w w'))
    (first | assumption | (with_reducible exact mayS_drew (by assumption)))
    (first | (go_at_call 22; ((with_reducible refine Calls.mono (HAL.out _) ?_); rintro e w3 ⟨rfl, hb⟩; have hs1 := mayS_over (by assumption) hb; clear hb)))
  go_wp2
  go_ret
  exact ⟨rfl, hs1.hid⟩
end Go.Proofs.YthnkiabhfcddaaaDoor
