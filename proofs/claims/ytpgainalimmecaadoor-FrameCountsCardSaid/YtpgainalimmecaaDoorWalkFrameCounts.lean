/-
  The walk of the law FrameCounts.
-/
import Derived.Test.YtpgainalimmecaaDoorAwakeFour
import Derived.Test.YtpgainalimmecaaDoorAllAny
import Derived.Test.YtpgainalimmecaaDoorFew
namespace Go.Proofs.YtpgainalimmecaaDoor
open Go.RowKit
set_option linter.unusedVariables false

theorem noTwo_at : ∀ (l : List It) (i : Nat) (h : i + 1 < l.length), noTwo l = true → 0 < l[i + 1].skip → l[i].skip = 0
  | x :: y :: l, 0, _, hn, hp => by
    simp only [noTwo, Bool.and_eq_true, Bool.not_eq_true', Bool.and_eq_false_iff, decide_eq_false_iff_not] at hn
    rcases hn.1 with h | h
    · show x.skip = 0; omega
    · exact absurd hp h
  | x :: y :: l, i + 1, h, hn, hp => by
    simp only [noTwo, Bool.and_eq_true] at hn
    exact noTwo_at (y :: l) i (by simpa using h) hn.2 hp
  | [_], _, h, _, _ => by simp at h
  | [], _, h, _, _ => by simp at h
theorem sumI_take (l : List It) (k : Nat) (h : k < l.length) : sumI (l.take (k + 1)) = sumI (l.take k) + wtI l[k] := by
  rw [List.take_succ_eq_append_getElem h, sumI_append]
  simp [sumI]
theorem sumI_le (l : List It) (k : Nat) : sumI (l.take k) ≤ sumI l := by
  conv => rhs; rw [← List.take_append_drop k l, sumI_append]
  omega
theorem held_small (ls : List (List UInt8)) : (giveAll ls).wait.length ≤ 262 ∧ (giveAll ls).wait.length ≤ lenB ls := by
  refine ⟨?_, (giveAll_small ls).1⟩
  rw [giveAll_eq _ ls rfl]
  exact pass_held _ _ _ (Nat.le_refl _)

set_option maxRecDepth 100000 in
set_option maxHeartbeats 4000000 in
theorem frameCounts_walk (v : Value) (ls : List (List UInt8)) (W : World) (hT : Tabs W) (hl : ls.length ≤ 4611686018427387904) (hv : Blobs W W.heap.size v ls) :
    Calls Tryd.prog 9 #[v] W fun e w' => e = .returned (.bool true) ∧ Below W.heap.size W w' := by
  obtain ⟨A, c, rfl, _⟩ := hv.open_
  have HT := Lib.hid hT
  have HV := Lib.hid hv
  have HL := Lib.hid hl
  clear hT hv hl
  have HCA := Lib.hid (awake4_any W HT.out)
  cases hf : fewB ls with
  | false =>
    have HF := Lib.hid hf
    clear hf
    go_enter Tryd.func9, Tryd.ntmps9
    go_wp2_with (first
      | (go_at_call 11; ((with_reducible refine HCA.out.mono ?_); rintro e w1 ⟨rfl, hb⟩; have HB := Lib.hid hb; have HCF := few_any (.slice A ls.length c) ls w1.heap.size w1 (HV.out.over (Nat.le_refl _) hb) HL.out; rw [HF.out] at HCF; have HCF := Lib.hid HCF; clear hb))
      | (go_at_call 23; ((with_reducible refine HCF.out.mono ?_); rintro e w2 ⟨rfl, rfl⟩)))
    go_ret
    exact ⟨rfl, HB.out⟩
  | true =>
    have HF := Lib.hid hf
    have HN := Lib.hid ((fewB_iff ls).1 hf)
    clear hf
    go_enter Tryd.func9, Tryd.ntmps9
    go_wp2_with (first
      | (go_at_call 11; ((with_reducible refine HCA.out.mono ?_); rintro e w1 ⟨rfl, hb⟩; have HB := Lib.hid hb; have HCF := few_any (.slice A ls.length c) ls w1.heap.size w1 (HV.out.over (Nat.le_refl _) hb) HL.out; rw [HF.out] at HCF; have HCF := Lib.hid HCF; clear hb))
      | (go_at_call 23; ((with_reducible refine HCF.out.mono ?_); rintro e w2 ⟨rfl, rfl⟩))
      | (go_at_call 14; ((with_reducible refine (new_any w1).mono ?_); rintro e w0 ⟨p, F, rfl, hd, hF, hb⟩; have HG := Lib.hid (show GaveAt w1 w0 p [] F from ⟨hd, hF, hb⟩); clear hd hF hb)))
    have HV1 := Lib.hid (HV.out.over (Nat.le_refl _) HB.out)
    go_loopw [6, 7] (fun n i wr => ∃ k : Nat, k ≤ ls.length ∧ i = .int .i64 k ∧ n = .int .i64 (lenB (ls.take k) : Nat) ∧ ∃ F, Hid (GaveAt w1 wr p (ls.take k) F)) (fun _ i _ => ls.length - (intOf i).toNat)
    case atStart => exact ⟨0, Nat.zero_le _, rfl, rfl, F, HG⟩
    case round =>
      obtain ⟨k, hk, rfl, rfl, F, HG⟩ := hrel
      have hkl : (k : Int) ≤ 60 := by have := HN.out; omega
      have hlen : (lenB (ls.take k) : Int) ≤ 1500 := by have := HN.out; have := lenB_le ls k; omega
      by_cases hlt : k < ls.length
      · obtain ⟨b, off, c', A', m, e, hS⟩ := HV1.out.in_ k hlt
        simp only [Value.slice.injEq] at e
        obtain ⟨rfl, _, rfl⟩ := e
        have HS := Lib.hid hS
        have HX := Lib.hid (lenB_take ls k hlt)
        have HY := Lib.hid (show ls.take (k + 1) = ls.take k ++ [ls[k]] from List.take_succ_eq_append_getElem hlt)
        have HZ := Lib.hid (show (giveAll (ls.take k)).wait.length + ls[k].length ≤ 100000 ∧ (giveAll (ls.take k)).skip ≤ 100000 ∧ (giveAll (ls.take k)).items.length ≤ 100000 by have := giveAll_small (ls.take k); have := lenB_mem ls ls[k] (List.getElem_mem hlt); have := HN.out; omega)
        have HM := Lib.hid (lenB_mem ls ls[k] (List.getElem_mem hlt))
        have HH := Lib.hid (held_small (ls.take (k + 1)))
        generalize ls[k] = x at HS HX HY HZ HM
        clear hS
        have hx : (x.length : Int) ≤ 1500 := by have := HM.out; have := HN.out; omega
        obtain ⟨s0, _⟩ := HS.out wr HG.out.b
        have HC := Lib.hid (give_any W HT.out p (giveAll (ls.take k)) F A' m x wr (bstep HB.out HG.out.b) (fun k hk => Nat.le_trans HB.out.size (HG.out.f k hk)) HG.out.d (fun k => k < w1.heap.size) (HS.out wr HG.out.b).2.1 (fun k hk => ⟨Nat.lt_of_lt_of_le hk HG.out.b.size, fun f => Nat.lt_irrefl _ (Nat.lt_of_lt_of_le hk (HG.out.f k f))⟩) HZ.out)
        obtain ⟨h, hh⟩ : ∃ h, (giveAll (ls.take (k + 1))).wait.length = h := ⟨_, rfl⟩
        have HHH := Lib.hid hh
        have h1 : ¬ (262 : Int) < (h : Int) := by have := HH.out; omega
        have h2 : ¬ ((lenB (ls.take k) : Nat) : Int) + (x.length : Int) < (h : Int) := by have := HH.out; have := HX.out; omega
        clear hh
        go_wp2_with (first
          | (go_at_call 15; ((with_reducible refine HC.out.mono ?_); rintro e w2 ⟨F1, rfl, hm⟩; have HG1 := Lib.hid (HG.out.step hm HY.out); clear hm s0; obtain ⟨s0, _⟩ := HS.out w2 HG1.out.b; have hch := held_any p _ F1 w2 HG1.out.d; rw [HHH.out] at hch; have HCH := Lib.hid hch; clear hch))
          | (go_at_call 21; ((with_reducible refine HCH.out.mono ?_); rintro e w3 ⟨rfl, rfl⟩)))
        go_roundw
        case rel => exact ⟨k + 1, by omega, by go_num, by rw [HX.out]; go_num, F1, HG1⟩
        case measure => simp [intOf]; omega
      · obtain rfl : k = ls.length := by omega
        rw [List.take_length] at HG hlen
        have HVR := Lib.hid (HV1.out.over (Nat.le_refl _) HG.out.b)
        have HC1 := all_any W HT.out (.slice A ls.length c) ls wr (bstep HB.out HG.out.b) HVR.out (by have := HN.out; omega) (by have := HN.out; omega)
        have HSUM := Lib.hid (show sumI (allI ls.flatten) = lenB ls by rw [all_sum, lenB_flatten])
        have HNT := Lib.hid (all_noTwo ls.flatten)
        have HLL := Lib.hid (show (allI ls.flatten).length ≤ lenB ls by rw [← lenB_flatten]; exact all_len _)
        generalize allI ls.flatten = L at HC1 HSUM HNT HLL
        have HC1 := Lib.hid HC1
        go_wp2_with (go_at_call 25; ((with_reducible refine HC1.out.mono ?_); rintro e w2 ⟨A2, c2, rfl, hs2, hc2, hb2⟩; have HS2 := Lib.hid hs2; have HB2 := Lib.hid (bstep (bstep HB.out HG.out.b) hb2); clear hs2 hc2 hb2))
        go_loop [9, 10] (fun s i => ∃ k : Nat, k ≤ L.length ∧ i = .int .i64 k ∧ s = .int .i64 (sumI (L.take k) : Nat)) (fun _ i => L.length - (intOf i).toNat)
        case atStart => exact ⟨0, Nat.zero_le _, rfl, rfl⟩
        case round =>
          obtain ⟨k, hk, rfl, rfl⟩ := hrel
          have hkl : (k : Int) ≤ 1500 := by have := HN.out; have := HLL.out; omega
          have hsk : (sumI (L.take k) : Int) ≤ 1500 := by have := HN.out; have := HSUM.out; have := sumI_le L k; omega
          by_cases hlt : k < L.length
          · obtain ⟨b, off, c', A', m, e, hb, x0, x1, x2, _⟩ := HS2.out.at_ k hlt
            simp only [Value.slice.injEq] at e
            obtain ⟨rfl, _, rfl⟩ := e
            have HX := Lib.hid (sumI_take L k hlt)
            have HW := Lib.hid (show sumI (L.take k) + wtI L[k] ≤ 1500 by have := HN.out; have := HSUM.out; have := sumI_le L (k + 1); rw [sumI_take L k hlt] at this; omega)
            by_cases hs : 0 < L[k].skip
            · have HWT := Lib.hid (show wtI L[k] = L[k].skip by unfold wtI; rw [if_pos hs])
              rw [HWT.out] at HX HW
              have hs1 : (0 : Int) < (L[k].skip : Int) := by omega
              have hs2 : (sumI (L.take k) : Int) + (L[k].skip : Int) ≤ 1500 := by have := HW.out; omega
              cases k with
              | zero =>
                have s0 : w2.cell? ⟨b, off, none⟩ = some (.int .i64 (L[0].skip : Int)) := by simpa using x0
                clear x0 x1 x2 hs HWT
                generalize L[0].skip = sk at s0 hs1 hs2 HX HW
                generalize sumI (L.take 0) = sm at hsk hs2 HX HW
                go_wp2
                go_round
                case rel => exact ⟨1, by omega, by go_num, by rw [HX.out]; go_num⟩
                case measure => simp [intOf]; omega
              | succ j =>
                have hz := noTwo_at L j hlt HNT.out hs
                obtain ⟨b', off', c'', A'', m'', e, _, y0, _, _, _⟩ := HS2.out.at_ j (by omega)
                simp only [Value.slice.injEq, Option.some.injEq, Addr.mk.injEq] at e
                obtain ⟨⟨rfl, rfl, _⟩, _, _⟩ := e
                rw [hz] at y0
                have y0 : w2.cell? ⟨b, off + j * 3, none⟩ = some (.int .i64 0) := y0
                clear x1 x2 hs HWT hz
                generalize L[j + 1].skip = sk at x0 hs1 hs2 HX HW
                generalize sumI (L.take (j + 1)) = sm at hsk hs2 HX HW
                go_wp2
                go_round
                case rel => exact ⟨j + 2, by omega, by go_num, by rw [HX.out]; go_num⟩
                case measure => simp [intOf]; omega
            · have HWT := Lib.hid (show wtI L[k] = L[k].body.length + 7 by unfold wtI; rw [if_neg hs])
              rw [HWT.out] at HX HW
              have hs0 : L[k].skip = 0 := by omega
              rw [hs0] at x0
              have x0 : w2.cell? ⟨b, off + k * 3, none⟩ = some (.int .i64 0) := x0
              have hs2 : (sumI (L.take k) : Int) + ((L[k].body.length : Int) + 7) ≤ 1500 := by have := HW.out; omega
              clear x1 hs HWT hs0
              generalize L[k].body.length = bl at x2 hs2 HX HW
              generalize sumI (L.take k) = sm at hsk hs2 HX HW
              go_wp2
              go_round
              case rel => exact ⟨k + 1, by omega, by go_num, by rw [HX.out]; go_num⟩
              case measure => simp [intOf]; omega
          · obtain rfl : k = L.length := by omega
            have hq : ((sumI L : Nat) : Int) = ((lenB ls : Nat) : Int) := by rw [HSUM.out]
            have HQ := Lib.hid hq
            clear hq
            go_wp2
            go_ret
            exact ⟨by rw [HQ.out]; simp, HB2.out⟩
end Go.Proofs.YtpgainalimmecaaDoor
