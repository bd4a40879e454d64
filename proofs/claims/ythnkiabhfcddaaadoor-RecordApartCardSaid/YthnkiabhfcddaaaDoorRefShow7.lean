/-
  Contract of layer 7's reference: Show.
-/
import Derived.Test.YthnkiabhfcddaaaDoorRefPut7
import Derived.Test.YthnkiabhfcddaaaDoorRefDig7
namespace Go.Proofs.YthnkiabhfcddaaaDoor
open Go.RowKit
set_option linter.unusedVariables false

theorem show_take (r : Rec) (wd : List UInt8) (fs : List Nat) (i : Nat) (hi : i < fs.length) : wd ++ (fs.take (i + 1)).flatMap (fun f => 32 :: tokR r f) = (wd ++ (fs.take i).flatMap (fun f => 32 :: tokR r f)) ++ (32 :: tokR r fs[i]) := by
  rw [List.take_succ_eq_append_getElem hi, List.flatMap_append]; simp
theorem tok_len {r : Rec} (h : mayR r = true) (hin : r.In) (f : Nat) (hf : f ≤ 7) : (tokR r f).length ≤ 240 := by
  have ht := ((mayR_iff r).1 h).2.2.2.2.2.1
  unfold tokR
  split
  · exact ht
  · split
    · split <;> simp
    · have := dec_len20 (numR r f) (Nat.le_trans (may_nums h hin f (by omega)) (mostR_le f))
      omega
theorem toks_len {r : Rec} (h : mayR r = true) (hin : r.In) : ∀ fs : List Nat, (∀ f ∈ fs, 1 ≤ f ∧ f ≤ 7) → (fs.flatMap (fun f => 32 :: tokR r f)).length ≤ 241 * fs.length
  | [], _ => by simp
  | f :: fs, hf => by
    have h1 := tok_len h hin f (hf f (by simp)).2
    have h2 := toks_len h hin fs fun g hg => hf g (by simp [hg])
    rw [List.flatMap_cons, List.length_append, List.length_cons, List.length_cons]
    omega
theorem order_len (k : Nat) : (orderR k).length ≤ 7 := by
  unfold orderR
  split
  · simp
  · exact Nat.le_trans (List.length_filter_le _ _) (by simp)
theorem word_len {k : Nat} (hk : 17 ≤ k ∧ k ≤ 32) : (wordR k).length ≤ 11 := by
  rcases kinds_cases hk with rfl | rfl | rfl | rfl | rfl | rfl | rfl | rfl | rfl | rfl | rfl | rfl | rfl | rfl | rfl | rfl <;> decide
theorem show_part {r : Rec} (h : mayR r = true) (hin : r.In) (i : Nat) : (wordR r.kind ++ ((orderR r.kind).take i).flatMap (fun f => 32 :: tokR r f)).length ≤ 3000 := by
  have h1 := toks_len h hin ((orderR r.kind).take i) fun f hf => orderR_in _ f (List.mem_of_mem_take hf)
  have h2 := word_len ((mayR_iff r).1 h).1
  have h3 := order_len r.kind
  rw [List.length_take] at h1
  rw [List.length_append]
  omega
set_option maxRecDepth 100000 in
set_option maxHeartbeats 2000000 in
theorem rshow7_any (k : Nat) (s : Int) (q : Nat) (a n c : Int) (y : Bool) (t : List UInt8) (w : World) (hin : Rec.In ⟨k, s, q, a, n, c, y, t⟩) {b : List UInt8} (hb : showR ⟨k, s, q, a, n, c, y, t⟩ = b) :
    Calls Tryd.prog 16 #[.agg #[.int .u8 (k : Int), .int .i64 s, .int .u64 (q : Int), .int .i64 a, .int .i64 n, .int .i64 c, .bool y, .string (mkB t)]] w fun e w' => e = .returned (.string (mkB b)) ∧ Below w.heap.size w w' := by
  obtain ⟨m0, m1, m2, m3, m4, m5, m6, m7, m8⟩ := boxS_new w k s q a n c y t 26
  have HS0 := Lib.hid (boxS_new w k s q a n c y t 26)
  cases hm : mayR ⟨k, s, q, a, n, c, y, t⟩ with
  | false =>
    have HM := Lib.hid (fun w => rmay7_any k s q a n c y t w hm)
    obtain rfl : [] = b := by rw [← hb]; unfold showR; rw [hm]; rfl
    clear hb hm hin m8
    go_enter Tryd.func16, Tryd.ntmps16
    go_wp2_with (go_at_call 12; (with_reducible refine (HM.out _).mono ?_); rintro e w1 ⟨rfl, hb⟩; have HB := Lib.hid (boxS_over HS0.out hb).hid.2; clear hb)
    go_ret
    exact ⟨rfl, HB.out⟩
  | true =>
  have HM := Lib.hid (fun w => rmay7_any k s q a n c y t w hm)
  have HP := Lib.hid (show_part hm hin)
  have HNU := Lib.hid (fun f w (hf : 1 ≤ f ∧ f ≤ 6) => rnumber_any k s q a n c y t f w hf hin (may_tells hm))
  have HTL := Lib.hid ((mayR_iff _).1 hm).2.2.2.2.2.1
  have HNM := Lib.hid (may_nums hm hin)
  have HW := Lib.hid (fun w => rword_any k w ((mayR_iff _).1 hm).1)
  have HE : Hid (b = wordR k ++ (orderR k).flatMap (fun f => 32 :: tokR ⟨k, s, q, a, n, c, y, t⟩ f)) := Lib.hid (by rw [← hb]; unfold showR; rw [hm, if_pos rfl])
  clear hin hm m8 hb
  go_enter Tryd.func16, Tryd.ntmps16
  go_upto_region 5 with (first
    | (go_at_call 12; (with_reducible refine (HM.out _).mono ?_); rintro e w1 ⟨rfl, hb⟩; have HS1 := Lib.hid (boxS_over HS0.out hb); clear hb m0 m1 m2 m3 m4 m5 m6 m7; obtain ⟨m0, m1, m2, m3, m4, m5, m6, m7, _⟩ := id HS1.out)
    | (go_at_call 29; (with_reducible refine (HW.out _).mono ?_); rintro e w' ⟨rfl, rfl⟩)
    | (go_at_call 30; (with_reducible refine (rorder_any k _).mono ?_); rintro e w2 ⟨A1, c1, rfl, hv, hb, -⟩; have HS2 := Lib.hid (boxS_over HS1.out hb); have HV2 := Lib.hid hv; clear hv hb m0 m1 m2 m3 m4 m5 m6 m7))
  obtain ⟨g, hg⟩ : ∃ g, g = w.heap.size := ⟨_, rfl⟩
  rw [← hg] at HS2 ⊢
  obtain ⟨r, hr⟩ : ∃ r, r = (⟨k, s, q, a, n, c, y, t⟩ : Rec) := ⟨_, rfl⟩
  obtain ⟨fs, hfs⟩ : ∃ fs, fs = orderR k := ⟨_, rfl⟩
  obtain ⟨wd, hwd⟩ : ∃ wd, wd = wordR k := ⟨_, rfl⟩
  have HFI := Lib.hid (orderR_in k)
  have HFL : Hid (fs.length ≤ 7) := Lib.hid (by rw [hfs]; exact order_len k)
  have HBA : Hid (BodAt w w2 g r (.slice A1 fs.length c1) fs) := Lib.hid (by
    obtain ⟨m0, m1, m2, m3, m4, m5, m6, m7, m8⟩ := HS2.out
    rw [hr, hfs]
    exact ⟨⟨m0, m1, m2, m3, m4, m5, m6, m7⟩, m8.out.1, HV2.out, m8.out.2⟩)
  have HP : Hid (∀ i, (wd ++ (fs.take i).flatMap (fun f => 32 :: tokR r f)).length ≤ 3000) := Lib.hid (by rw [hfs, hr, hwd]; exact HP.out)
  rw [← hfs, ← hr, ← hwd] at HE
  rw [← hr] at HNM HNU
  rw [← hfs] at HFI
  rw [← hwd, ← hfs]
  have HRR := Lib.hid hr
  clear hfs HS2 HV2 HS1 HS0 hg hwd
  obtain ⟨m, hm⟩ : ∃ m, fs.length = m := ⟨_, rfl⟩
  rw [hm] at HBA HFL ⊢
  have HMm := Lib.hid hm
  have hm9 : (m : Int) ≤ 7 := by have := HFL.out; omega
  clear hm hr
  go_wp2
  go_loopw [3, 5] (fun sv i wr => ∃ (j : Nat), j ≤ m ∧ i = .int .i64 j ∧ sv = .string (mkB (wd ++ (fs.take j).flatMap (fun f => 32 :: tokR r f))) ∧ Hid (BodAt w wr g r (.slice A1 m c1) fs)) (fun _ i _ => m - (intOf i).toNat)
  case atStart => exact ⟨0, Nat.zero_le _, rfl, by simp, HBA⟩
  case round =>
    obtain ⟨j, hj, rfl, rfl, HA⟩ := hrel
    by_cases hlt : j < m
    · have hjl : j < fs.length := by have := HMm.out; omega
      have hlt2 : (j : Int) < (m : Int) := by omega
      obtain ⟨bb, off, c2, e2, hbb, hcell⟩ := HA.out.hv.at_ j hjl
      simp only [Value.slice.injEq] at e2
      obtain ⟨rfl, hmm, rfl⟩ := e2
      clear hmm
      have HST := Lib.hid (show_take r wd fs j hjl)
      have HF := Lib.hid (HFI.out _ (List.getElem_mem hjl))
      have HL2 := Lib.hid (HP.out (j + 1))
      generalize fs[j] = f at hcell HST HF
      obtain ⟨sj, hsj⟩ : ∃ sj, wd ++ (fs.take j).flatMap (fun f => 32 :: tokR r f) = sj := ⟨_, rfl⟩
      rw [hsj] at HST ⊢
      rw [HST.out] at HL2
      obtain ⟨tk, htk⟩ : ∃ tk, tokR r f = tk := ⟨_, rfl⟩
      rw [htk] at HST HL2
      clear hsj hjl
      have hra := HA.out.hr
      rw [HRR.out] at hra
      obtain ⟨m0, m1, m2, m3, m4, m5, m6, m7⟩ := hra
      dsimp only [Nat.zero_add] at m0 m1 m2 m3 m4 m5 m6 m7
      have hadd : ∀ W, (Op.stringOp .add (mkB sj) (mkB (32 :: tk))).run Tryd.prog W = .ok (.string (mkB (sj ++ 32 :: tk))) W := fun W => run_add W _ _ (by have := HL2.out; rw [List.length_append] at this; omega)
      have hadd1 : ∀ W, (Op.stringOp .add ⟨#[32]⟩ (mkB tk)).run Tryd.prog W = .ok (.string (mkB (32 :: tk))) W := fun W => run_add W [32] tk (by have := HL2.out; rw [List.length_append, List.length_cons] at this; simp; omega)
      have HA2 := Lib.hid HA.out
      by_cases h7 : f = 7
      · have e7 : ((f : Int) == 7) = true := by simp [h7]
        obtain rfl : t = tk := by rw [← htk, h7, HRR.out]; rfl
        clear h7 htk
        go_wp2
        go_roundw
        case rel => exact ⟨j + 1, by omega, by go_num, by rw [HST.out], HA2⟩
        case measure => simp [intOf]; omega
      have e7 : ((f : Int) == 7) = false := by rw [beq_eq_false_iff_ne]; omega
      by_cases h6 : f = 6
      · have e6 : ((f : Int) == 6) = true := by simp [h6]
        cases y with
        | true =>
          obtain rfl : [121, 101, 115] = tk := by rw [← htk, h6, HRR.out]; rfl
          clear h7 h6 htk hadd1
          have hadd2 : ∀ W, (Op.stringOp .add (mkB sj) ⟨#[32, 121, 101, 115]⟩).run Tryd.prog W = .ok (.string (mkB (sj ++ 32 :: [121, 101, 115]))) W := hadd
          clear hadd
          go_wp2
          go_roundw
          case rel => exact ⟨j + 1, by omega, by go_num, by rw [HST.out], HA2⟩
          case measure => simp [intOf]; omega
        | false =>
          obtain rfl : [110, 111] = tk := by rw [← htk, h6, HRR.out]; rfl
          clear h7 h6 htk hadd1
          have hadd2 : ∀ W, (Op.stringOp .add (mkB sj) ⟨#[32, 110, 111]⟩).run Tryd.prog W = .ok (.string (mkB (sj ++ 32 :: [110, 111]))) W := hadd
          clear hadd
          go_wp2
          go_roundw
          case rel => exact ⟨j + 1, by omega, by go_num, by rw [HST.out], HA2⟩
          case measure => simp [intOf]; omega
      · have e6 : ((f : Int) == 6) = false := by rw [beq_eq_false_iff_ne]; omega
        have hf6 : 1 ≤ f ∧ f ≤ 6 := by have := HF.out; omega
        have hnm := Nat.le_trans (HNM.out f hf6.2) (mostR_le f)
        have HNF := Lib.hid (fun w => HNU.out f w hf6)
        have hfd : tokR r f = Lib.decDigits (numR r f) := by unfold tokR; rw [if_neg h7, if_neg h6]
        rw [hfd] at htk
        obtain ⟨u, hu⟩ : ∃ u, numR r f = u := ⟨_, rfl⟩
        rw [hu] at hnm htk HNF
        have HNB := Lib.hid (fun w => rdig7_any u w hnm)
        rw [htk] at HNB
        have hS : BodS w g bb (off + j) k s q a n c y t f wr := ⟨m0, m1, m2, m3, m4, m5, m6, m7, hcell, Lib.hid ⟨HA.out.hg, hbb, HA.out.hW⟩⟩
        unfold BodS at hS
        clear h7 h6 hfd hnm hf6 hu htk m0 m1 m2 m3 m4 m5 m6 m7 hcell hbb HA2
        go_wp2
        go_region_held3 (fun w' => w'.cell? ⟨g, 0, none⟩ = some (.int .u8 (k : Int)) ∧ w'.cell? ⟨g, 1, none⟩ = some (.int .i64 s) ∧ w'.cell? ⟨g, 2, none⟩ = some (.int .u64 (q : Int)) ∧ w'.cell? ⟨g, 3, none⟩ = some (.int .i64 a) ∧ w'.cell? ⟨g, 4, none⟩ = some (.int .i64 n) ∧ w'.cell? ⟨g, 5, none⟩ = some (.int .i64 c) ∧ w'.cell? ⟨g, 6, none⟩ = some (.bool y) ∧ w'.cell? ⟨g, 7, none⟩ = some (.string (mkB t)) ∧ w'.cell? ⟨bb, off + j, none⟩ = some (.int .i64 (f : Int)) ∧ Hid (g < w'.heap.size ∧ bb < w'.heap.size ∧ Below w.heap.size w w'))
          (first | assumption | (with_reducible exact bodS_drew (by assumption)))
          (first
            | (go_at_call 32; ((with_reducible refine Calls.mono (HNF.out _) ?_); rintro e w2 ⟨rfl, hb⟩; have hs1 := bodS_over (by assumption) hb; have HB2 := Lib.hid hb; clear hb))
            | (go_at_call 31; ((with_reducible refine Calls.mono (HNB.out _) ?_); rintro e w3 ⟨rfl, hb⟩; have hs2 := bodS_over (by assumption) hb; have HB3 := Lib.hid hb; clear hb)))
        have HA2 := Lib.hid ((HA.out.over (bself wr).drew).over (HB2.out.trans (HB3.out.mono HB2.out.size)))
        clear hs1 hs2
        go_wp2
        go_roundw
        case rel => exact ⟨j + 1, by omega, by go_num, by rw [HST.out], HA2⟩
        case measure => simp [intOf]; omega
    · have hlt2 : ¬ (j : Int) < (m : Int) := by omega
      obtain rfl : j = m := by omega
      go_wp2
      go_ret
      exact ⟨by rw [HE.out, ← HMm.out, List.take_length]; rfl, HA.out.hW⟩
end Go.Proofs.YthnkiabhfcddaaaDoor
