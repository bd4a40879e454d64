/-
  Contracts of layer 7's reference: Body.
-/
import Derived.Test.YthnkiabhfcddaaaDoorPackH
import Derived.Test.YthnkiabhfcddaaaDoorRefOrder
import Derived.Test.YthnkiabhfcddaaaDoorPackE
import Derived.Deep.RegionHeld3
namespace Go.Proofs.YthnkiabhfcddaaaDoor
open Go.RowKit
set_option linter.unusedVariables false

/-- A field's number may be told. -/
def Tells (r : Rec) : Prop := 0 ≤ r.src ∧ 0 ≤ r.at_ ∧ 0 ≤ r.num ∧ 0 ≤ r.code
theorem may_tells {r : Rec} (h : mayR r = true) : Tells r := by
  obtain ⟨_, ⟨h1, _⟩, h2, h3, ⟨h4, _⟩, _⟩ := (mayR_iff r).1 h
  exact ⟨h1, h2, h3, h4⟩
theorem rnumber_any (k : Nat) (s : Int) (q : Nat) (a n c : Int) (y : Bool) (t : List UInt8) (f : Nat) (w : World) (hf : 1 ≤ f ∧ f ≤ 6) (hin : Rec.In ⟨k, s, q, a, n, c, y, t⟩) (ht : Tells ⟨k, s, q, a, n, c, y, t⟩) :
    Calls Tryd.prog 32 #[.agg #[.int .u8 (k : Int), .int .i64 s, .int .u64 (q : Int), .int .i64 a, .int .i64 n, .int .i64 c, .bool y, .string (mkB t)], .int .i64 (f : Int)] w fun e w' => e = .returned (.int .u64 (numR ⟨k, s, q, a, n, c, y, t⟩ f : Nat)) ∧ Below w.heap.size w w' := by
  obtain ⟨t1, t2, t3, t4⟩ := ht
  obtain ⟨_, i1, i2, i3, i4, i5⟩ := hin
  dsimp only at *
  rcases (show f = 1 ∨ f = 2 ∨ f = 3 ∨ f = 4 ∨ f = 5 ∨ f = 6 by omega) with rfl | rfl | rfl | rfl | rfl | rfl
  · refine (rnumber_1 k s q a n c y t w t1 i1.2).mono fun e w' h => ⟨?_, h.2⟩
    rw [h.1, show numR ⟨k, s, q, a, n, c, y, t⟩ 1 = s.toNat from rfl, Int.toNat_of_nonneg t1]
  · exact (rnumber_2 k s q a n c y t w (by omega))
  · refine (rnumber_3 k s q a n c y t w t2 i3.2).mono fun e w' h => ⟨?_, h.2⟩
    rw [h.1, show numR ⟨k, s, q, a, n, c, y, t⟩ 3 = a.toNat from rfl, Int.toNat_of_nonneg t2]
  · refine (rnumber_4 k s q a n c y t w t3 i4.2).mono fun e w' h => ⟨?_, h.2⟩
    rw [h.1, show numR ⟨k, s, q, a, n, c, y, t⟩ 4 = n.toNat from rfl, Int.toNat_of_nonneg t3]
  · refine (rnumber_5 k s q a n c y t w t4 i5.2).mono fun e w' h => ⟨?_, h.2⟩
    rw [h.1, show numR ⟨k, s, q, a, n, c, y, t⟩ 5 = c.toNat from rfl, Int.toNat_of_nonneg t4]
  · refine (rnumber_6 k s q a n c y t w).mono fun e w' h => ⟨?_, h.2⟩
    rw [h.1]
    cases y <;> rfl
/-- What a round of a loop over a record's fields reads. -/
abbrev BodS (W : World) (g bb o k : Nat) (s : Int) (q : Nat) (a n c : Int) (y : Bool) (t : List UInt8) (f : Nat) (w' : World) : Prop :=
  w'.cell? ⟨g, 0, none⟩ = some (.int .u8 (k : Int)) ∧ w'.cell? ⟨g, 1, none⟩ = some (.int .i64 s) ∧ w'.cell? ⟨g, 2, none⟩ = some (.int .u64 (q : Int)) ∧ w'.cell? ⟨g, 3, none⟩ = some (.int .i64 a) ∧ w'.cell? ⟨g, 4, none⟩ = some (.int .i64 n) ∧ w'.cell? ⟨g, 5, none⟩ = some (.int .i64 c) ∧ w'.cell? ⟨g, 6, none⟩ = some (.bool y) ∧ w'.cell? ⟨g, 7, none⟩ = some (.string (mkB t)) ∧ w'.cell? ⟨bb, o, none⟩ = some (.int .i64 (f : Int)) ∧ Hid (g < w'.heap.size ∧ bb < w'.heap.size ∧ Below W.heap.size W w')
theorem bodS_over {W : World} {g bb o k : Nat} {s : Int} {q : Nat} {a n c : Int} {y : Bool} {t : List UInt8} {f : Nat} {w1 w2 : World} (h : BodS W g bb o k s q a n c y t f w1) (hb : Below w1.heap.size w1 w2) : BodS W g bb o k s q a n c y t f w2 := by
  obtain ⟨h0, h1, h2, h3, h4, h5, h6, h7, h8, h9⟩ := h
  have hg := h9.out.1
  have hbb := h9.out.2.1
  exact ⟨(hb.cell (p := ⟨g, 0, none⟩) hg).trans h0, (hb.cell (p := ⟨g, 1, none⟩) hg).trans h1, (hb.cell (p := ⟨g, 2, none⟩) hg).trans h2, (hb.cell (p := ⟨g, 3, none⟩) hg).trans h3, (hb.cell (p := ⟨g, 4, none⟩) hg).trans h4, (hb.cell (p := ⟨g, 5, none⟩) hg).trans h5, (hb.cell (p := ⟨g, 6, none⟩) hg).trans h6, (hb.cell (p := ⟨g, 7, none⟩) hg).trans h7, (hb.cell (p := ⟨bb, o, none⟩) hbb).trans h8, Lib.hid ⟨Nat.lt_of_lt_of_le hg hb.size, Nat.lt_of_lt_of_le hbb hb.size, bstep h9.out.2.2 hb⟩⟩
theorem bodS_drew {W : World} {g bb o k : Nat} {s : Int} {q : Nat} {a n c : Int} {y : Bool} {t : List UInt8} {f : Nat} {w1 : World} (h : BodS W g bb o k s q a n c y t f w1) : BodS W g bb o k s q a n c y t f w1.drew := bodS_over h (bself w1).drew
theorem BodS.hid {W : World} {g bb o k : Nat} {s : Int} {q : Nat} {a n c : Int} {y : Bool} {t : List UInt8} {f : Nat} {w1 : World} (h : BodS W g bb o k s q a n c y t f w1) : Below W.heap.size W w1 := h.2.2.2.2.2.2.2.2.2.out.2.2
/-- Where such a loop stands: the record's box, the list of fields. -/
structure BodAt (W wr : World) (g : Nat) (r : Rec) (v : Value) (fs : List Nat) : Prop where
  hr : RecAt wr g 0 r
  hg : g < wr.heap.size
  hv : NumsIn wr v fs
  hW : Below W.heap.size W wr
theorem BodAt.over {W wr w' : World} {g : Nat} {r : Rec} {v : Value} {fs : List Nat} (h : BodAt W wr g r v fs) (hb : Below wr.heap.size wr w') : BodAt W w' g r v fs :=
  ⟨h.hr.over h.hg hb, Nat.lt_of_lt_of_le h.hg hb.size, h.hv.over hb, bstep h.hW hb⟩
theorem body_take (r : Rec) (fs : List Nat) (i : Nat) (hi : i < fs.length) : (fs.take (i + 1)).flatMap (fieldR r) = (fs.take i).flatMap (fieldR r) ++ fieldR r fs[i] := by
  rw [List.take_succ_eq_append_getElem hi, List.flatMap_append]; simp
theorem body_part {r : Rec} (h : mayR r = true) (hin : r.In) (i : Nat) : (((orderR r.kind).take i).flatMap (fieldR r)).length ≤ 249 := by
  have h1 := body_len h hin
  unfold bodyR at h1
  have e := List.take_append_drop i (orderR r.kind)
  rw [← e, List.flatMap_append, List.length_append] at h1
  omega
set_option maxRecDepth 100000 in
set_option maxHeartbeats 2000000 in
theorem rbody7_any (k : Nat) (s : Int) (q : Nat) (a n c : Int) (y : Bool) (t : List UInt8) (w : World) (hin : Rec.In ⟨k, s, q, a, n, c, y, t⟩) (hm : mayR ⟨k, s, q, a, n, c, y, t⟩ = true) :
    Calls Tryd.prog 27 #[.agg #[.int .u8 (k : Int), .int .i64 s, .int .u64 (q : Int), .int .i64 a, .int .i64 n, .int .i64 c, .bool y, .string (mkB t)]] w fun e w' => e = .returned (.string (mkB (bodyR ⟨k, s, q, a, n, c, y, t⟩))) ∧ Below w.heap.size w w' := by
  have HP := Lib.hid (body_part hm hin)
  have HNU := Lib.hid (fun f w (hf : 1 ≤ f ∧ f ≤ 6) => rnumber_any k s q a n c y t f w hf hin (may_tells hm))
  have HTL := Lib.hid ((mayR_iff _).1 hm).2.2.2.2.2.1
  have HNM := Lib.hid (may_nums hm hin)
  have HR : Hid (RecAt (w.alloc (recB ⟨k, s, q, a, n, c, y, t⟩ 26)) w.heap.size 0 ⟨k, s, q, a, n, c, y, t⟩) := Lib.hid (recAt_blk (heap_alloc_new w _))
  have HB0 := Lib.hid (bmore (bself w) (recB ⟨k, s, q, a, n, c, y, t⟩ 26))
  have HG0 := Lib.hid (show w.heap.size < (w.alloc (recB ⟨k, s, q, a, n, c, y, t⟩ 26)).heap.size by simp)
  obtain ⟨m0, m1, m2, m3, m4, m5, m6, m7⟩ := HR.out
  unfold recB at m0 HR HB0 HG0
  dsimp only at m0
  clear m1 m2 m3 m4 m5 m6 m7 hin hm
  go_enter Tryd.func27, Tryd.ntmps27
  go_upto_region 3 with (go_at_call 30; (with_reducible refine (rorder_any k _).mono ?_); rintro e w1 ⟨A1, c1, rfl, hv, hb, -⟩; have HBA : Hid (BodAt w w1 w.heap.size ⟨k, s, q, a, n, c, y, t⟩ (.slice A1 (orderR k).length c1) (orderR k)) := Lib.hid ⟨HR.out.over HG0.out hb, Nat.lt_of_lt_of_le HG0.out hb.size, hv, bstep HB0.out hb⟩; clear hv hb m0)
  obtain ⟨g, hg⟩ : ∃ g, g = w.heap.size := ⟨_, rfl⟩
  rw [← hg] at HBA ⊢
  obtain ⟨r, hr⟩ : ∃ r, r = (⟨k, s, q, a, n, c, y, t⟩ : Rec) := ⟨_, rfl⟩
  obtain ⟨fs, hfs⟩ : ∃ fs, fs = orderR k := ⟨_, rfl⟩
  have HFI := Lib.hid (orderR_in k)
  have HBD : Hid (bodyR ⟨k, s, q, a, n, c, y, t⟩ = fs.flatMap (fieldR r)) := Lib.hid (by rw [hfs, hr]; rfl)
  have HFL : Hid (fs.length ≤ 7) := Lib.hid (by rw [hfs]; unfold orderR; split <;> first | simp | exact Nat.le_trans (List.length_filter_le _ _) (by simp))
  rw [← hfs] at HBA HFI ⊢
  have HP : Hid (∀ i, ((fs.take i).flatMap (fieldR r)).length ≤ 249) := Lib.hid (by rw [hfs, hr]; exact HP.out)
  rw [← hr] at HBA HNM HNU
  have HRR := Lib.hid hr
  clear hfs HR HB0 HG0 hg
  obtain ⟨m, hm⟩ : ∃ m, fs.length = m := ⟨_, rfl⟩
  rw [hm] at HBA HFL ⊢
  have HM := Lib.hid hm
  have hm9 : (m : Int) ≤ 7 := by have := HFL.out; omega
  clear hm hr
  go_wp2
  go_loopw [3, 5] (fun sv i wr => ∃ (j : Nat), j ≤ m ∧ i = .int .i64 j ∧ sv = .string (mkB ((fs.take j).flatMap (fieldR r))) ∧ Hid (BodAt w wr g r (.slice A1 m c1) fs)) (fun _ i _ => m - (intOf i).toNat)
  case atStart => exact ⟨0, Nat.zero_le _, rfl, rfl, HBA⟩
  case round =>
    obtain ⟨j, hj, rfl, rfl, HA⟩ := hrel
    by_cases hlt : j < m
    · have hjl : j < fs.length := by have := HM.out; omega
      have hlt2 : (j : Int) < (m : Int) := by omega
      obtain ⟨bb, off, c2, e2, hbb, hcell⟩ := HA.out.hv.at_ j hjl
      simp only [Value.slice.injEq] at e2
      obtain ⟨rfl, hmm, rfl⟩ := e2
      clear hmm
      have HST := Lib.hid (body_take r fs j hjl)
      have HF := Lib.hid (HFI.out _ (List.getElem_mem hjl))
      have HL1 := Lib.hid (HP.out j)
      have HL2 := Lib.hid (HP.out (j + 1))
      generalize fs[j] = f at hcell HST HF
      obtain ⟨sj, hsj⟩ : ∃ sj, (fs.take j).flatMap (fieldR r) = sj := ⟨_, rfl⟩
      rw [hsj] at HST HL1 ⊢
      rw [HST.out] at HL2
      clear hsj hjl
      have hra := HA.out.hr
      rw [HRR.out] at hra
      obtain ⟨m0, m1, m2, m3, m4, m5, m6, m7⟩ := hra
      dsimp only [Nat.zero_add] at m0 m1 m2 m3 m4 m5 m6 m7
      by_cases h7 : f = 7
      · have e7 : ((f : Int) == 7) = true := by simp [h7]
        have hfd : fieldR r f = enc t.length ++ t := by rw [h7, HRR.out]; rfl
        have HTX := Lib.hid (fun w => rtext_any (mkB t) w (by rw [mkB_size]; have := HTL.out; omega))
        have hte : enc (mkB t).size ++ (mkB t).data.toList = enc t.length ++ t := by rw [mkB_size]; rfl
        rw [hte] at HTX
        rw [hfd] at HST HL2
        have hadd : ∀ W, (Op.stringOp .add (mkB sj) (mkB (enc t.length ++ t))).run Tryd.prog W = .ok (.string (mkB (sj ++ (enc t.length ++ t)))) W := fun W => run_add W _ _ (by have := HL2.out; rw [List.length_append] at this; omega)
        clear h7 hfd hte
        go_wp2_with (go_at_call 56; (with_reducible refine (HTX.out _).mono ?_); rintro e w2 ⟨rfl, hb⟩; have HA2 := Lib.hid (HA.out.over hb); clear hb)
        go_roundw
        case rel => exact ⟨j + 1, by omega, by go_num, by rw [HST.out], HA2⟩
        case measure => simp [intOf]; omega
      · have e7 : ((f : Int) == 7) = false := by rw [beq_eq_false_iff_ne]; omega
        have hf6 : 1 ≤ f ∧ f ≤ 6 := by have := HF.out; omega
        have hfd : fieldR r f = enc (numR r f) := by unfold fieldR; rw [if_neg h7]
        have hnm := Nat.le_trans (HNM.out f hf6.2) (mostR_le f)
        have HNF := Lib.hid (fun w => HNU.out f w hf6)
        rw [hfd] at HST HL2
        obtain ⟨u, hu⟩ : ∃ u, numR r f = u := ⟨_, rfl⟩
        rw [hu] at hnm HST HL2 HNF
        have HNB := Lib.hid (fun w => rnum_any u w hnm)
        have hadd : ∀ W, (Op.stringOp .add (mkB sj) (mkB (enc u))).run Tryd.prog W = .ok (.string (mkB (sj ++ enc u))) W := fun W => run_add W _ _ (by have := HL2.out; rw [List.length_append] at this; omega)
        have hS : BodS w g bb (off + j) k s q a n c y t f wr := ⟨m0, m1, m2, m3, m4, m5, m6, m7, hcell, Lib.hid ⟨HA.out.hg, hbb, HA.out.hW⟩⟩
        unfold BodS at hS
        have HA0 := Lib.hid HA.out
        clear h7 hfd hnm hf6 hu m0 m1 m2 m3 m4 m5 m6 m7 hcell hbb
        go_wp2
        go_region_held3 (fun w' => w'.cell? ⟨g, 0, none⟩ = some (.int .u8 (k : Int)) ∧ w'.cell? ⟨g, 1, none⟩ = some (.int .i64 s) ∧ w'.cell? ⟨g, 2, none⟩ = some (.int .u64 (q : Int)) ∧ w'.cell? ⟨g, 3, none⟩ = some (.int .i64 a) ∧ w'.cell? ⟨g, 4, none⟩ = some (.int .i64 n) ∧ w'.cell? ⟨g, 5, none⟩ = some (.int .i64 c) ∧ w'.cell? ⟨g, 6, none⟩ = some (.bool y) ∧ w'.cell? ⟨g, 7, none⟩ = some (.string (mkB t)) ∧ w'.cell? ⟨bb, off + j, none⟩ = some (.int .i64 (f : Int)) ∧ Hid (g < w'.heap.size ∧ bb < w'.heap.size ∧ Below w.heap.size w w'))
          (first | assumption | (with_reducible exact bodS_drew (by assumption)))
          (first
            | (go_at_call 32; ((with_reducible refine Calls.mono (HNF.out _) ?_); rintro e w2 ⟨rfl, hb⟩; have hs1 := bodS_over (by assumption) hb; have HB2 := Lib.hid hb; clear hb))
            | (go_at_call 57; ((with_reducible refine Calls.mono (HNB.out _) ?_); rintro e w3 ⟨rfl, hb⟩; have hs2 := bodS_over (by assumption) hb; have HB3 := Lib.hid hb; clear hb)))
        have HA3 := Lib.hid ((HA0.out.over (bself wr).drew).over (HB2.out.trans (HB3.out.mono HB2.out.size)))
        clear hs1 hs2
        go_wp2
        go_roundw
        case rel => exact ⟨j + 1, by omega, by go_num, by rw [HST.out], HA3⟩
        case measure => simp [intOf]; omega
    · have hlt2 : ¬ (j : Int) < (m : Int) := by omega
      obtain rfl : j = m := by omega
      go_wp2
      go_ret
      exact ⟨by rw [HBD.out, ← HM.out, List.take_length]; rfl, HA.out.hW⟩
end Go.Proofs.YthnkiabhfcddaaaDoor
