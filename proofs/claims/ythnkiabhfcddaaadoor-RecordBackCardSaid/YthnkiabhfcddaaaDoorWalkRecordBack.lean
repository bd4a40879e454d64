/-
  The walk of the law RecordBack.
-/
import Derived.Test.YthnkiabhfcddaaaDoorPackT
import Derived.Deep.RegionHeld3
namespace Go.Proofs.YthnkiabhfcddaaaDoor
open Go.RowKit
set_option linter.unusedVariables false

theorem keep_yes7 {rs : List Rec} {j : Nat} (hj : j < rs.length) (h : mayR rs[j] = true) : (rs.take (j + 1)).filter mayR = (rs.take j).filter mayR ++ [rs[j]] := by
  rw [List.take_succ_eq_append_getElem hj, List.filter_append, List.filter_cons_of_pos h]; rfl
theorem keep_no7 {rs : List Rec} {j : Nat} (hj : j < rs.length) (h : mayR rs[j] = false) : (rs.take (j + 1)).filter mayR = (rs.take j).filter mayR := by
  rw [List.take_succ_eq_append_getElem hj, List.filter_append, List.filter_cons_of_neg (by rw [h]; decide)]; simp
theorem keep_at7 {rs : List Rec} {j : Nat} (hj : j < rs.length) (h : mayR rs[j] = true) : ∃ hk : ((rs.take j).filter mayR).length < (rs.filter mayR).length, (rs.filter mayR)[((rs.take j).filter mayR).length] = rs[j] := by
  have e : rs.filter mayR = (rs.take j).filter mayR ++ rs[j] :: (rs.drop (j + 1)).filter mayR := by
    rw [← List.filter_cons_of_pos h, ← List.filter_append, ← List.drop_eq_getElem_cons hj, List.take_append_drop]
  refine ⟨by rw [e, List.length_append, List.length_cons]; omega, ?_⟩
  simp only [e, List.getElem_append_right (Nat.le_refl _), Nat.sub_self, List.getElem_cons_zero]
theorem run_neq_r7 (w : World) (a : Rec) : (binOp .neq 24 (.agg #[.int .u8 (a.kind : Int), .int .i64 a.src, .int .u64 (a.seq : Int), .int .i64 a.at_, .int .i64 a.num, .int .i64 a.code, .bool a.yes, .string (mkB a.text)]) (.agg #[.int .u8 (a.kind : Int), .int .i64 a.src, .int .u64 (a.seq : Int), .int .i64 a.at_, .int .i64 a.num, .int .i64 a.code, .bool a.yes, .string (mkB a.text)])).run Tryd.prog w = .ok (.bool false) w := by
  have h := run_eq_r7 w a a
  rw [run_eql_struct] at h
  rw [run_neq_struct]
  revert h
  cases (Op.equalIn 10000 24 (.agg #[.int .u8 (a.kind : Int), .int .i64 a.src, .int .u64 (a.seq : Int), .int .i64 a.at_, .int .i64 a.num, .int .i64 a.code, .bool a.yes, .string (mkB a.text)]) (.agg #[.int .u8 (a.kind : Int), .int .i64 a.src, .int .u64 (a.seq : Int), .int .i64 a.at_, .int .i64 a.num, .int .i64 a.code, .bool a.yes, .string (mkB a.text)])).run Tryd.prog w with
  | ok v w2 =>
    intro h
    simp only [Result.andThen_ok, Result.ok.injEq, Value.bool.injEq, decide_true] at h ⊢
    obtain ⟨rfl, rfl⟩ := h
    exact ⟨rfl, rfl⟩
  | _ => intro h; cases h
def putsR7 (rs : List Rec) (j : Nat) : List UInt8 := ((rs.take j).map putR).flatten
theorem putsR7_succ (rs : List Rec) (j : Nat) (hj : j < rs.length) : putsR7 rs (j + 1) = putsR7 rs j ++ putR rs[j] := by
  unfold putsR7
  rw [List.take_succ_eq_append_getElem hj, List.map_append, List.flatten_append]; simp
theorem putR_len7 {r : Rec} (h : r.In) : (putR r).length ≤ 256 := by
  unfold putR
  split
  · rename_i hm
    have := body_len hm h
    rw [putF_length]; omega
  · simp
theorem putsR7_len (rs : List Rec) (h : ∀ r ∈ rs, r.In) : ∀ j, j ≤ rs.length → (putsR7 rs j).length ≤ 256 * j
  | 0, _ => by simp [putsR7]
  | j + 1, hj => by
    have h1 := putsR7_len rs h j (by omega)
    have h2 := putR_len7 (h rs[j] (List.getElem_mem (by omega)))
    rw [putsR7_succ rs j (by omega), List.length_append]
    omega
set_option maxRecDepth 100000 in
set_option maxHeartbeats 4000000 in
theorem recordBack_any (A : Option Addr) (n c : Nat) (rs : List Rec) (W : World) (hT : TbR W) (hl : RecsIn W (.slice A n c) rs) (hn : rs.length = n) (hin : ∀ r ∈ rs, r.In) (htx : ∀ r ∈ rs, r.text.length ≤ 9223372036854775807) :
    Calls Tryd.prog 6 #[.slice A n c] W fun e w' => e = .returned (.bool true) ∧ Below W.heap.size W w' := by
  have HA := Lib.hid (awake7_any W hT)
  have HL := Lib.hid hl
  have HN := Lib.hid hn
  have HI := Lib.hid hin
  by_cases h6 : n ≤ 30
  · have q6 : ¬ (30 : Int) < (n : Int) := by omega
    have n9 : (n : Int) ≤ 30 := by omega
    have HTX := Lib.hid htx
    have HPL := Lib.hid (putsR7_len rs hin)
    have HP := Lib.hid (fun r w hW hr => cput7_any W hT r w hW hr rfl)
    have HM := Lib.hid (fun r w hW hr => cmay7_any W hT r w hW hr rfl)
    have hall : allR (allI (putsR7 rs n)) [] = (rs.filter mayR, 0) := by
      unfold putsR7
      rw [← hn, List.take_length]
      exact all_frsR rs hin
    have HAL := Lib.hid (fun v w hW hb => call7_any W hT v (putsR7 rs n) w hW hb (by have := putsR7_len rs hin n (by omega); omega) hall)
    clear hl hn hin hT htx hall h6
    go_enter Tryd.func6, Tryd.ntmps6
    go_upto_region 6 with (go_at_call 9; (with_reducible refine HA.out.mono ?_); rintro e w1 ⟨rfl, hb⟩; have HB1 := Lib.hid hb; clear hb)
    clear q6
    have HS1 := Lib.hid (HL.out.over (Nat.le_refl _) HB1.out)
    go_wp2
    go_loopw [4, 5] (fun v i wr => ∃ (j : Nat), j ≤ n ∧ i = .int .i64 j ∧ Hid (Owns wr w1.heap.size v (putsR7 rs j) ∧ RecsIn wr (.slice A n c) rs ∧ Below w1.heap.size w1 wr)) (fun _ i _ => n - (intOf i).toNat)
    case atStart => exact ⟨0, Nat.zero_le _, rfl, Lib.hid ⟨Owns.none_ _ _, HS1.out, bself w1⟩⟩
    case round =>
      obtain ⟨j, hj, rfl, HQ⟩ := hrel
      have HO := Lib.hid HQ.out.1
      have HS := Lib.hid HQ.out.2.1
      have HB := Lib.hid HQ.out.2.2
      obtain ⟨A4, c4, rfl, -⟩ := lies_row HQ.out.1.lies
      clear HQ
      by_cases hlt : j < n
      · have hlt2 : (j : Int) < (n : Int) := by omega
        have hjl : j < rs.length := by have := HN.out; omega
        obtain ⟨-, q, oq, rfl, hq, hqr⟩ := RecsIn.at_ HS.out j hjl
        have HSU := Lib.hid (putsR7_succ rs j hjl)
        have HRI := Lib.hid (HI.out _ (List.getElem_mem hjl))
        have HTI := HTX.out _ (List.getElem_mem hjl)
        generalize rs[j] = r at hqr HSU HRI HTI
        obtain ⟨m0, m1, m2, m3, m4, m5, m6, m7⟩ := hqr
        have hlr : (mkB r.text).size = r.text.length := mkB_size _
        by_cases h4 : r.text.length ≤ 400
        · have q4 : ¬ (400 : Int) < (r.text.length : Int) := by omega
          have HPR := Lib.hid (putR_len7 HRI.out)
          have HPJ := Lib.hid (HPL.out j (by omega))
          clear hjl hq h4 HTI
          go_wp2_with (first
            | (go_at_call 13; (with_reducible refine (HP.out r _ (bstep HB1.out HB.out) HRI.out).mono ?_); rintro e w2 ⟨G2, z2, rfl, hlb, hb⟩; have HL2 := Lib.hid hlb; have HB2 := Lib.hid (HB.out.trans (hb.mono HB.out.size)); have HO2 := Lib.hid (HO.out.over hb); have HS2 := Lib.hid (HS.out.over (Nat.le_refl _) hb); clear hlb hb m0 m1 m2 m3 m4 m5 m6 m7)
            | (at_builtin; refine wp_app_any rfl (.tmp 29) (.tmp 34) rfl w1.heap.size w2.heap.size _ (putsR7 rs j) (putR r) G2 z2 rfl HO2.out rfl (liesB_slice HL2.out).2.2.1 (liesB_slice HL2.out).1 (Fits.of (by have := HPR.out; have := HPJ.out; omega)) HB2.out.size ?_; intro v3 w3 ho hb; have HO3 := Lib.hid (show Owns w3 w1.heap.size v3 (putsR7 rs (j + 1)) by rw [HSU.out]; exact ho); have HB3 := Lib.hid (HB2.out.trans hb); obtain ⟨A5, c5, rfl, -⟩ := lies_row ho.lies; clear ho hb))
          have HS3 := Lib.hid (HS1.out.over (Nat.le_refl _) HB3.out)
          go_roundw
          case rel => exact ⟨j + 1, by omega, by go_num, Lib.hid ⟨by have h := HO3.out; rw [List.length_append] at h; exact h, HS3.out, HB3.out⟩⟩
          case measure => simp [intOf]; omega
        · have q4 : (400 : Int) < (r.text.length : Int) := by omega
          go_wp2
          go_ret
          exact ⟨rfl, bstep HB1.out HB.out⟩
      · have hlt2 : ¬ (j : Int) < (n : Int) := by omega
        obtain rfl : j = n := by omega
        have HLB := Lib.hid (show LiesB wr wr.heap.size (.slice A4 (putsR7 rs j).length c4) (putsR7 rs j) from HO.out.lies.in_)
        have HBr := Lib.hid (bstep HB1.out HB.out)
        go_upto_region 14 with (go_at_call 19; (with_reducible refine (HAL.out _ _ HBr.out HLB.out).mono ?_); rintro e w5 ⟨A6, c6, rfl, hs, hb⟩; have HX := Lib.hid hs; have HS5 := Lib.hid (HS.out.over (Nat.le_refl _) hb); have HB5 := Lib.hid (bstep HBr.out hb); clear hs hb)
        clear hlt2 hlt HO HS HB HLB HBr
        obtain ⟨m, hm⟩ : ∃ m, (rs.filter mayR).length = m := ⟨_, rfl⟩
        rw [hm] at HX ⊢
        have HME := Lib.hid hm
        have hm9 : (m : Int) ≤ 30 := by have h := List.length_filter_le mayR rs; have := HN.out; omega
        clear hm
        go_wp2
        go_loopw [8, 9] (fun kv iv wr => ∃ (t k : Nat), t ≤ j ∧ k ≤ m ∧ iv = .int .i64 t ∧ kv = .int .i64 k ∧ Hid (k = ((rs.take t).filter mayR).length) ∧ Hid (SeqR wr wr.heap.size (.slice A6 m c6) (rs.filter mayR) ∧ RecsIn wr (.slice A j c) rs ∧ Below W.heap.size W wr)) (fun _ iv _ => j - (intOf iv).toNat)
        case atStart => exact ⟨0, 0, Nat.zero_le _, Nat.zero_le _, rfl, rfl, Lib.hid (by simp), Lib.hid ⟨HX.out, HS5.out, HB5.out⟩⟩
        case round =>
          obtain ⟨t, k, ht, hkm, rfl, rfl, HK, HQ⟩ := hrel
          by_cases hlt : t < j
          · have hlt2 : (t : Int) < (j : Int) := by omega
            have htl : t < rs.length := by have := HN.out; omega
            obtain ⟨-, q, oq, rfl, hq, hqr⟩ := RecsIn.at_ HQ.out.2.1 t htl
            have HRI := Lib.hid (HI.out _ (List.getElem_mem htl))
            have HMY := Lib.hid (fun w hW => HM.out rs[t] w hW HRI.out)
            cases hmr : mayR rs[t] with
            | false =>
              have HK2 := Lib.hid (show k = ((rs.take (t + 1)).filter mayR).length by rw [keep_no7 htl hmr]; exact HK.out)
              rw [hmr] at HMY
              generalize rs[t] = r at hqr HMY HRI
              obtain ⟨m0, m1, m2, m3, m4, m5, m6, m7⟩ := hqr
              clear hmr htl hq
              go_wp2_with (go_at_call 11; (with_reducible refine (HMY.out _ HQ.out.2.2).mono ?_); rintro e w6 ⟨rfl, hb⟩; have HQ6 := Lib.hid (And.intro (HQ.out.1.over (Nat.le_refl _) hb) (And.intro (HQ.out.2.1.over (Nat.le_refl _) hb) (bstep HQ.out.2.2 hb))); clear hb)
              go_roundw
              case rel => exact ⟨t + 1, k, by omega, hkm, by go_num, rfl, HK2, HQ6⟩
              case measure => simp [intOf]; omega
            | true =>
              have HK2 := Lib.hid (show k + 1 = ((rs.take (t + 1)).filter mayR).length by rw [keep_yes7 htl hmr, List.length_append, ← HK.out]; rfl)
              obtain ⟨hk1, hk2⟩ := keep_at7 htl hmr
              have hkl : k < (rs.filter mayR).length := by rw [HK.out]; exact hk1
              have hke : (rs.filter mayR)[k] = rs[t] := by rw [← hk2]; congr 1
              obtain ⟨-, p, op, rfl, hp, hpr⟩ := SeqR.at_ HQ.out.1 k hkl
              rw [hke] at hpr
              have hkm2 : k < m := by rw [← HME.out]; exact hkl
              have hkm3 : ¬ (m : Int) ≤ (k : Int) := by omega
              have hkm4 : (k : Int) < (m : Int) := by omega
              have hkm5 : decide ((m : Int) ≤ (k : Int)) = false := decide_eq_false hkm3
              have hkm6 : decide ((k : Int) < (m : Int)) = true := decide_eq_true hkm4
              have hkm7 : decide (m ≤ k) = false := decide_eq_false (by omega)
              rw [hmr] at HMY
              have hS0 : TwinO W p (op + k * 8) q (oq + t * 8) rs[t] wr := twinO_of hpr hqr ⟨hp, hq, HQ.out.2.2⟩
              generalize rs[t] = r at hqr HMY hS0 HRI
              have heq : ∀ w, (binOp .neq 24 (.agg #[.int .u8 (r.kind : Int), .int .i64 r.src, .int .u64 (r.seq : Int), .int .i64 r.at_, .int .i64 r.num, .int .i64 r.code, .bool r.yes, .string (mkB r.text)]) (.agg #[.int .u8 (r.kind : Int), .int .i64 r.src, .int .u64 (r.seq : Int), .int .i64 r.at_, .int .i64 r.num, .int .i64 r.code, .bool r.yes, .string (mkB r.text)])).run Tryd.prog w = .ok (.bool false) w := fun w => run_neq_r7 w r
              have HS0 := Lib.hid hS0
              obtain ⟨m0, m1, m2, m3, m4, m5, m6, m7⟩ := hqr
              clear hmr htl hq hp hk1 hk2 hkl hke hpr hS0
              go_upto_region 19 with (go_at_call 11; (with_reducible refine (HMY.out _ HQ.out.2.2).mono ?_); rintro e w6 ⟨rfl, hb⟩; have HS6 := Lib.hid (twinO_over HS0.out hb); have HQ6 := Lib.hid (And.intro (HQ.out.1.over (Nat.le_refl _) hb) (And.intro (HQ.out.2.1.over (Nat.le_refl _) hb) (bstep HQ.out.2.2 hb))); clear hb m0 m1 m2 m3 m4 m5 m6 m7)
              have hS := HS6.out
              unfold TwinO at hS
              have HQ7 := Lib.hid (And.intro (HQ6.out.1.over (Nat.le_refl _) (bself w6).drew) (And.intro (HQ6.out.2.1.over (Nat.le_refl _) (bself w6).drew) (bstep HQ6.out.2.2 (bself w6).drew)))
              clear HS0 HS6
              go_region_held3 (fun w' => w'.cell? ⟨p, op + k * 8, none⟩ = some (.int .u8 (r.kind : Int)) ∧ w'.cell? ⟨p, op + k * 8 + 1, none⟩ = some (.int .i64 r.src) ∧ w'.cell? ⟨p, op + k * 8 + 2, none⟩ = some (.int .u64 (r.seq : Int)) ∧ w'.cell? ⟨p, op + k * 8 + 3, none⟩ = some (.int .i64 r.at_) ∧ w'.cell? ⟨p, op + k * 8 + 4, none⟩ = some (.int .i64 r.num) ∧ w'.cell? ⟨p, op + k * 8 + 5, none⟩ = some (.int .i64 r.code) ∧ w'.cell? ⟨p, op + k * 8 + 6, none⟩ = some (.bool r.yes) ∧ w'.cell? ⟨p, op + k * 8 + 7, none⟩ = some (.string (mkB r.text)) ∧ w'.cell? ⟨q, oq + t * 8, none⟩ = some (.int .u8 (r.kind : Int)) ∧ w'.cell? ⟨q, oq + t * 8 + 1, none⟩ = some (.int .i64 r.src) ∧ w'.cell? ⟨q, oq + t * 8 + 2, none⟩ = some (.int .u64 (r.seq : Int)) ∧ w'.cell? ⟨q, oq + t * 8 + 3, none⟩ = some (.int .i64 r.at_) ∧ w'.cell? ⟨q, oq + t * 8 + 4, none⟩ = some (.int .i64 r.num) ∧ w'.cell? ⟨q, oq + t * 8 + 5, none⟩ = some (.int .i64 r.code) ∧ w'.cell? ⟨q, oq + t * 8 + 6, none⟩ = some (.bool r.yes) ∧ w'.cell? ⟨q, oq + t * 8 + 7, none⟩ = some (.string (mkB r.text)) ∧ Hid (p < w'.heap.size ∧ q < w'.heap.size ∧ Below W.heap.size W w'))
                (first | (with_reducible assumption) | (with_reducible exact twinO_drew (by assumption)))
                (fail)
              clear hS
              go_wp2
              go_roundw
              case rel => exact ⟨t + 1, k + 1, by omega, by omega, by go_num, by go_num, HK2, HQ7⟩
              case measure => simp [intOf]; omega
          · have hlt2 : ¬ (t : Int) < (j : Int) := by omega
            have hkm2 : ((k : Int) == (m : Int)) = true := by
              have h : k = m := by rw [HK.out, ← HME.out, show t = rs.length by have := HN.out; omega, List.take_length]
              rw [h]; simp
            go_wp2
            go_ret
            exact ⟨rfl, HQ.out.2.2⟩
  · have q6 : (30 : Int) < (n : Int) := by omega
    go_enter Tryd.func6, Tryd.ntmps6
    go_wp2_with (go_at_call 9; (with_reducible refine HA.out.mono ?_); rintro e w1 ⟨rfl, hb⟩; have HB1 := Lib.hid hb; clear hb)
    go_ret
    exact ⟨rfl, HB1.out⟩
theorem recordBack_row (A : Option Addr) (c : Nat) (l : List Rec) (W : World) (hT : TbR W) (hv : RecsIn W (.slice A l.length c) l) (hin : ∀ m ∈ l, m.In) (ht : ∀ m ∈ l, m.text.length ≤ 9223372036854775807) :
    Calls Tryd.prog 6 #[.slice A l.length c] W fun e w' => e = .returned (.bool true) ∧ Below W.heap.size W w' := recordBack_any A _ c l W hT hv rfl hin ht
end Go.Proofs.YthnkiabhfcddaaaDoor
