/-
  The walk of the law FramePieces.
-/
import Derived.Test.YtpgainalimmecaaDoorAwakeFour
import Derived.Test.YtpgainalimmecaaDoorAllAny
import Derived.Test.YtpgainalimmecaaDoorSame
import Derived.Test.YtpgainalimmecaaDoorFew
namespace Go.Proofs.YtpgainalimmecaaDoor
open Go.RowKit
set_option linter.unusedVariables false

set_option maxRecDepth 100000 in
set_option maxHeartbeats 2000000 in
theorem framePieces_walk (v : Value) (ls : List (List UInt8)) (W : World) (hT : Tabs W) (hl : ls.length ≤ 4611686018427387904) (hv : Blobs W W.heap.size v ls) :
    Calls Tryd.prog 6 #[v] W fun e w' => e = .returned (.bool true) ∧ Below W.heap.size W w' := by
  obtain ⟨A, c, rfl, _⟩ := hv.open_
  have HT := Lib.hid hT
  have HV := Lib.hid hv
  have HL := Lib.hid hl
  clear hT hv hl
  have HCA := Lib.hid (awake4_any W HT.out)
  cases hf : fewB ls with
  | false =>
    have HF := Lib.hid hf
    clear hf
    go_enter Tryd.func6, Tryd.ntmps6
    go_wp2_with (first
      | (go_at_call 11; ((with_reducible refine HCA.out.mono ?_); rintro e w1 ⟨rfl, hb⟩; have HB := Lib.hid hb; have HCF := few_any (.slice A ls.length c) ls w1.heap.size w1 (HV.out.over (Nat.le_refl _) hb) HL.out; rw [HF.out] at HCF; have HCF := Lib.hid HCF; clear hb))
      | (go_at_call 23; ((with_reducible refine HCF.out.mono ?_); rintro e w2 ⟨rfl, rfl⟩)))
    go_ret
    exact ⟨rfl, HB.out⟩
  | true =>
    have HF := Lib.hid hf
    have HN := Lib.hid ((fewB_iff ls).1 hf)
    clear hf
    go_enter Tryd.func6, Tryd.ntmps6
    go_wp2_with (first
      | (go_at_call 11; ((with_reducible refine HCA.out.mono ?_); rintro e w1 ⟨rfl, hb⟩; have HB := Lib.hid hb; have HCF := few_any (.slice A ls.length c) ls w1.heap.size w1 (HV.out.over (Nat.le_refl _) hb) HL.out; rw [HF.out] at HCF; have HCF := Lib.hid HCF; clear hb))
      | (go_at_call 23; ((with_reducible refine HCF.out.mono ?_); rintro e w2 ⟨rfl, rfl⟩)))
    have HV1 := Lib.hid (HV.out.over (Nat.le_refl _) HB.out)
    go_loopw [5, 6] (fun o i wr => ∃ k : Nat, k ≤ ls.length ∧ i = .int .i64 k ∧ Hid (OutAt w1 wr o (ls.take k).flatten)) (fun _ i _ => ls.length - (intOf i).toNat)
    case atStart => exact ⟨0, Nat.zero_le _, rfl, Lib.hid (OutAt.new w1)⟩
    case round =>
      obtain ⟨k, hk, rfl, HP⟩ := hrel
      have hkl : (k : Int) ≤ 60 := by have := HN.out; omega
      by_cases hlt : k < ls.length
      · obtain ⟨b, off, c', A', m, e, hS⟩ := HV1.out.in_ k hlt
        simp only [Value.slice.injEq] at e
        obtain ⟨rfl, _, rfl⟩ := e
        have HS := Lib.hid (hS wr HP.out.b)
        have HY := Lib.hid (flatten_take ls k hlt)
        have HM := Lib.hid (show (ls.take k).flatten.length + ls[k].length ≤ 3000 by rw [lenB_flatten]; have := lenB_le ls k; have := lenB_mem ls ls[k] (List.getElem_mem hlt); have := HN.out; omega)
        generalize ls[k] = x at HS HY HM
        clear hS
        have s0 := HS.out.1
        go_wp2_with (at_builtin; refine wp_app_any rfl (.tmp 20) (.tmp 24) rfl w1.heap.size w1.heap.size u5 (ls.take k).flatten x A' m rfl HP.out.o rfl HS.out.2.2.2.2 HS.out.2.2.1 (Fits.of (by have := HM.out; omega)) HP.out.b.size ?_; intro v2 w2 ho hb2; have HP2 := Lib.hid (show OutAt w1 w2 v2 (ls.take (k + 1)).flatten from ⟨by rw [HY.out]; exact ho, HP.out.b.trans hb2⟩); clear ho hb2 s0)
        go_roundw
        case rel => exact ⟨k + 1, by omega, by go_num, HP2⟩
        case measure => simp [intOf]; omega
      · obtain rfl : k = ls.length := by omega
        rw [List.take_length] at HP
        obtain ⟨fl, HFL⟩ : ∃ fl, Hid (ls.flatten = fl) := ⟨_, Lib.hid rfl⟩
        rw [HFL.out] at HP
        obtain ⟨Ab, cb, rfl, hrb, _, _⟩ := lies_row HP.out.o.lies
        have HNB := Lib.hid (show lenB ls ≤ 20000 ∧ ls.length ≤ 100000 ∧ (allI fl).length ≤ 100000 ∧ lenB [fl] ≤ 20000 from (by have h0 := HN.out; have h1 := all_len fl; have h2 : fl.length = lenB ls := (by rw [← HFL.out, lenB_flatten]); have h3 : lenB [fl] = fl.length := rfl; exact ⟨by omega, by omega, by omega, by omega⟩))
        have hC1 := (all_any W HT.out _ ls wr (HB.out.trans (HP.out.b.mono HB.out.size)) (HV1.out.over (Nat.le_refl _) HP.out.b) HNB.out.1 HNB.out.2.1)
        rw [HFL.out] at hC1
        have HC1 := Lib.hid hC1
        clear hC1
        have HLB := Lib.hid (show LiesB wr wr.heap.size (.slice Ab fl.length cb) fl from HP.out.o.lies.in_)
        have HBR := Lib.hid (HB.out.trans (HP.out.b.mono HB.out.size))
        go_wp2_with fail
        refine HC1.out.mono ?_
        rintro e w2 ⟨A1, c1, rfl, hs1, hc1, hb1⟩
        have HS1 := Lib.hid hs1
        have HB2 := Lib.hid (bstep HBR.out hb1)
        have hlb := HLB.out.over (Nat.le_refl _) hb1
        have hC2 := all_any W HT.out _ [fl] (w2.alloc (.cells #[.slice Ab fl.length cb] 22)) (bmore HB2.out _) (blobs_one hlb _) HNB.out.2.2.2 (by simp)
        rw [List.flatten_singleton] at hC2
        have HC2 := Lib.hid hC2
        clear hs1 hc1 hb1 hlb hC2
        go_wp2_with fail
        refine HC2.out.mono ?_
        rintro e w3 ⟨A2, c2, rfl, hs2, hc2, hb2⟩
        have hb3 := (bmore (bself w2) (.cells #[.slice Ab fl.length cb] 22)).trans (hb2.mono (by simp))
        have HC3 := Lib.hid (same_yes _ _ _ _ _ w3 (HS1.out.over (Nat.le_refl _) hb3) hs2 (Nat.le_refl _) (Nat.le_refl _) HNB.out.2.2.1)
        have HB3 := Lib.hid (bstep HB2.out hb3)
        clear hs2 hc2 hb2 hb3
        go_wp2_with fail
        refine HC3.out.mono ?_
        rintro e w4 ⟨rfl, hb4⟩
        have HB4 := Lib.hid (bstep HB3.out hb4)
        clear hb4
        go_wp2
        go_ret
        exact ⟨rfl, HB4.out⟩
end Go.Proofs.YtpgainalimmecaaDoor
