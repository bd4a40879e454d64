/-
  The walk of the law FrameAfter.
-/
import Derived.Test.YtpgainalimmecaaDoorAwakeFour
import Derived.Test.YtpgainalimmecaaDoorAllAny
import Derived.Test.YtpgainalimmecaaDoorSame
import Derived.Test.YtpgainalimmecaaDoorPuts
namespace Go.Proofs.YtpgainalimmecaaDoor
open Go.RowKit
set_option linter.unusedVariables false

theorem noise_snoc {l : List UInt8} {x : UInt8} (h : ∀ y ∈ l, y ≠ 165) (hx : x ≠ 165) : ∀ y ∈ l ++ [x], y ≠ 165 := by
  intro y hy
  rcases List.mem_append.1 hy with hy | hy
  · exact h y hy
  · simp at hy; subst hy; exact hx

set_option maxRecDepth 100000 in
set_option maxHeartbeats 4000000 in
theorem frameAfter_core (A0 : Option Addr) (c0 : Nat) (z : List UInt8) (v : Value) (fs : List (UInt8 × List UInt8)) (W : World) (hT : Tabs W) (hz : LiesB W W.heap.size (.slice A0 z.length c0) z) (hv : SeqP W W.heap.size v fs) (hl : fs.length ≤ 12) (hzl : z.length ≤ 300) :
    Calls Tryd.prog 8 #[.slice A0 z.length c0, v] W fun e w' => e = .returned (.bool true) ∧ Below W.heap.size W w' := by
  obtain ⟨A, c, rfl, _⟩ := hv.open_
  have HT := Lib.hid hT
  have HV := Lib.hid hv
  have HZ := Lib.hid hz
  have HL := Lib.hid (And.intro hl hzl)
  have hl1 : ¬ (12 : Int) < (fs.length : Int) := by omega
  have hl2 : ¬ (300 : Int) < (z.length : Int) := by omega
  clear hT hv hz hl hzl
  have HCA := Lib.hid (awake4_any W HT.out)
  go_enter Tryd.func8, Tryd.ntmps8
  go_wp2_with fail
  refine HCA.out.mono ?_
  rintro e w1 ⟨rfl, hb⟩
  have HB := Lib.hid hb
  have HV1 := Lib.hid (HV.out.over (Nat.le_refl _) hb)
  have HZ1 := Lib.hid (HZ.out.over (Nat.le_refl _) hb)
  have HC1 := Lib.hid (puts_any W HT.out (.slice A fs.length c) fs w1 hb HV1.out (by have := HL.out; omega))
  clear hb
  go_wp2
  clear hl1 hl2
  go_loop [6] (fun i => ∃ k : Nat, k ≤ z.length ∧ i = .int .i64 k ∧ Hid (∀ x ∈ z.take k, x ≠ 165)) (fun i => z.length - (intOf i).toNat)
  case atStart => exact ⟨0, Nat.zero_le _, rfl, Lib.hid (by simp)⟩
  case round =>
    obtain ⟨k, hk, rfl, HN⟩ := hrel
    have hkl : (k : Int) ≤ 300 := by have := HL.out; omega
    by_cases hlt : k < z.length
    · obtain ⟨b, off, hb, hc⟩ : ∃ b off, A0 = some ⟨b, off, none⟩ ∧ w1.cell? ⟨b, off + k, none⟩ = some (.int .u8 (z[k].toNat : Int)) := by
        rcases HZ1.out with ⟨h, _⟩ | ⟨b, off, c', e, _, _, hc⟩
        · rw [h] at hlt; simp at hlt
        · simp only [Value.slice.injEq] at e
          exact ⟨b, off, e.1, hc k hlt⟩
      subst hb
      have HT2 := Lib.hid (show z.take (k + 1) = z.take k ++ [z[k]] from List.take_succ_eq_append_getElem hlt)
      by_cases hx : z[k] = 165
      · have hx2 : (z[k].toNat : Int) = 165 := by rw [hx]; rfl
        generalize z[k] = x at hc hx2 HT2
        clear hx
        go_wp2
        go_ret
        exact ⟨rfl, HB.out⟩
      · have hx2 : ¬ (z[k].toNat : Int) = 165 := fun h => hx (UInt8.toNat_inj.1 (by show z[k].toNat = 165; omega))
        have HX := Lib.hid hx
        generalize z[k] = x at hc hx2 HT2 HX
        clear hx
        go_wp2
        go_round
        case rel => exact ⟨k + 1, by omega, by go_num, Lib.hid (by rw [HT2.out]; exact noise_snoc HN.out HX.out)⟩
        case measure => simp [intOf]; omega
    · obtain rfl : k = z.length := by omega
      rw [List.take_length] at HN
      clear hk hkl hlt
      go_wp2_with fail
      refine HC1.out.mono ?_
      rintro e w2 (⟨hs, A2, c2, rfl, hlies, hb2⟩ | ⟨_, rfl, hb2⟩)
      · have HS := Lib.hid ((smallF_iff fs).1 hs)
        have HB2 := Lib.hid (bstep HB.out hb2)
        have HZ2 := Lib.hid (HZ1.out.over (Nat.le_refl _) hb2)
        have HLN := Lib.hid (putsF_len fs HS.out)
        have HAA := Lib.hid (all_after z fs HN.out HS.out)
        have HAL := Lib.hid (all_len (putsF fs))
        generalize putsF fs = pf at hlies HLN HAA HAL ⊢
        have HLI := Lib.hid hlies
        have HNB := Lib.hid (show lenB [z, pf] ≤ 20000 ∧ lenB [pf] ≤ 20000 ∧ (allI pf).length ≤ 100000 from (by have h1 := HLN.out; have h2 := HL.out; have h3 := HAL.out; have h4 : lenB [z, pf] = z.length + (pf.length + 0) := rfl; have h5 : lenB [pf] = pf.length + 0 := rfl; omega))
        have hc2 := all_any W HT.out _ [z, pf] (w2.alloc (.cells #[.slice A0 z.length c0, .slice A2 pf.length c2] 22)) (bmore HB2.out _) (blobs_two HZ2.out hlies _) HNB.out.1 (by simp)
        rw [show [z, pf].flatten = z ++ pf by simp, HAA.out] at hc2
        have HC2 := Lib.hid hc2
        clear hs hb2 hc2 hlies
        go_wp2_with fail
        refine HC2.out.mono ?_
        rintro e w3 ⟨A3, c3, rfl, hs3, hc3, hb3⟩
        obtain ⟨xl, hxl⟩ : ∃ xl, skipI z.length ++ allI pf = xl := ⟨_, rfl⟩
        rw [hxl] at hs3 hc3 ⊢
        have HXL := Lib.hid hxl
        clear hxl
        have hb4 := (bmore (bself w2) (.cells #[.slice A0 z.length c0, .slice A2 pf.length c2] 22)).trans (hb3.mono (by simp))
        have HB3 := Lib.hid (bstep HB2.out hb4)
        have HS3 := Lib.hid hs3
        have hlies3 := HLI.out.over (Nat.le_refl _) hb4
        have hc4 := all_any W HT.out _ [pf] (w3.alloc (.cells #[.slice A2 pf.length c2] 22)) (bmore HB3.out _) (blobs_one hlies3 _) HNB.out.2.1 (by simp)
        rw [List.flatten_singleton] at hc4
        have HC4 := Lib.hid hc4
        have HY := Lib.hid hc3
        clear hs3 hc3 hb3 hb4 hc4 hlies3
        go_wp2_with fail
        refine HC4.out.mono ?_
        rintro e w4 ⟨A4, c4, rfl, hs4, hc5, hb5⟩
        have hb6 := (bmore (bself w3) (.cells #[.slice A2 pf.length c2] 22)).trans (hb5.mono (by simp))
        have HB4 := Lib.hid (bstep HB3.out hb6)
        have HS4 := Lib.hid hs4
        have HS34 := Lib.hid (HS3.out.over (Nat.le_refl _) hb6)
        clear hs4 hc5 hb5 hb6 HS3
        obtain ⟨y, hy⟩ : ∃ y, allI pf = y := ⟨_, rfl⟩
        rw [hy] at HS4 HXL HNB ⊢
        clear hy HAL HC2 HC4 HAA
        by_cases hz0 : z.length = 0
        · obtain rfl : xl = y := by rw [← HXL.out, hz0]; rfl
          have hz1 : ((z.length : Int) == 0) = true := by rw [beq_iff_eq]; omega
          have HC5 := Lib.hid (same_yes _ _ _ _ _ w4 HS34.out HS4.out (Nat.le_refl _) (Nat.le_refl _) HNB.out.2.2)
          clear hz0
          go_wp2_with (go_at_call 24; ((with_reducible refine HC5.out.mono ?_); rintro e w5 ⟨rfl, hb7⟩; have HB5 := Lib.hid (bstep HB4.out hb7); clear hb7))
          go_ret
          exact ⟨rfl, HB5.out⟩
        · have hz1 : ((z.length : Int) == 0) = false := by rw [beq_eq_false_iff_ne]; omega
          have hxl : xl = ⟨z.length, 0, []⟩ :: y := by rw [← HXL.out]; unfold skipI; rw [if_pos (by omega)]; rfl
          have hnx1 : xl.length = y.length + 1 := by rw [hxl]; rfl
          have HSX := HS34.out
          rw [hxl] at HSX
          obtain ⟨b, off, c3', A9, m9, e, hb, x0, x1, x2, x3⟩ := HSX.at_ 0 (by simp)
          simp only [Value.slice.injEq] at e
          obtain ⟨rfl, _, rfl⟩ := e
          have s0 : w4.cell? ⟨b, off, none⟩ = some (.int .i64 (z.length : Int)) := x0
          obtain ⟨ny, hny⟩ : ∃ n, y.length = n := ⟨_, rfl⟩
          obtain ⟨nx, hnx⟩ : ∃ n, xl.length = n := ⟨_, rfl⟩
          have hxy : nx = ny + 1 := by rw [← hnx, ← hny]; exact hnx1
          have hyb : ny ≤ 100000 := by rw [← hny]; exact HNB.out.2.2
          obtain ⟨o2, ho, hif⟩ : ∃ o2, (o2 = off + 3 ∨ c3 = 1 ∧ o2 = off) ∧ (if c3 = 1 then (some ⟨b, off, none⟩ : Option Addr) else some ⟨b, off + 3, none⟩) = some ⟨b, o2, none⟩ := by
            by_cases h1 : c3 = 1
            · exact ⟨off, .inr ⟨h1, rfl⟩, if_pos h1⟩
            · exact ⟨off + 3, .inl rfl, if_neg h1⟩
          have hcx : nx ≤ c3 := by rw [← hnx]; exact HY.out
          have hst := SeqF.tail (n := nx) (by have h := HSX; rw [← hxl, hnx, hxl] at h; exact h) o2 ho
          rw [hnx]
          rw [hny] at HS4 ⊢
          have HC5 := Lib.hid (same_yes _ _ _ _ _ w4 hst HS4.out (Nat.le_refl _) (Nat.le_refl _) HNB.out.2.2)
          have q1 : ((nx : Int) == (ny : Int) + 1) = true := by rw [beq_iff_eq]; omega
          have q2 : (ny : Int) ≤ 100000 := by omega
          have q3 : 0 < nx := by omega
          have q4 : (1 : Int) ≤ (nx : Int) := by omega
          have q5 : (nx : Int) ≤ (c3 : Int) := by omega
          have q6 : 1 ≤ nx := by omega
          clear hz0 hxl x0 x1 x2 x3 hnx hny hxy hyb ho hst HS34 HSX hnx1 HXL
          go_wp2_with (go_at_call 24; ((with_reducible refine HC5.out.mono ?_); rintro e w5 ⟨rfl, hb7⟩; have HB5 := Lib.hid (bstep HB4.out hb7); clear hb7))
          go_ret
          exact ⟨rfl, HB5.out⟩
      · have HB2 := Lib.hid (bstep HB.out hb2)
        clear hb2
        go_wp2
        go_ret
        exact ⟨rfl, HB2.out⟩
set_option maxRecDepth 100000 in
theorem frameAfter_any (A0 : Option Addr) (c0 : Nat) (z : List UInt8) (v : Value) (fs : List (UInt8 × List UInt8)) (W : World) (hT : Tabs W) (hz : LiesB W W.heap.size (.slice A0 z.length c0) z) (hv : SeqP W W.heap.size v fs) :
    Calls Tryd.prog 8 #[.slice A0 z.length c0, v] W fun e w' => e = .returned (.bool true) ∧ Below W.heap.size W w' := by
  by_cases hl : fs.length ≤ 12
  · by_cases hzl : z.length ≤ 300
    · exact frameAfter_core A0 c0 z v fs W hT hz hv hl hzl
    · obtain ⟨A, c, rfl, _⟩ := hv.open_
      have HCA := Lib.hid (awake4_any W hT)
      have hl1 : ¬ (12 : Int) < (fs.length : Int) := by omega
      have hl2 : (300 : Int) < (z.length : Int) := by omega
      clear hT hv hz hl hzl
      go_enter Tryd.func8, Tryd.ntmps8
      go_wp2_with (go_at_call 11; ((with_reducible refine HCA.out.mono ?_); rintro e w1 ⟨rfl, hb⟩; have HB := Lib.hid hb; clear hb))
      go_ret
      exact ⟨rfl, HB.out⟩
  · obtain ⟨A, c, rfl, _⟩ := hv.open_
    have HCA := Lib.hid (awake4_any W hT)
    have hl1 : (12 : Int) < (fs.length : Int) := by omega
    clear hT hv hz hl
    go_enter Tryd.func8, Tryd.ntmps8
    go_wp2_with (go_at_call 11; ((with_reducible refine HCA.out.mono ?_); rintro e w1 ⟨rfl, hb⟩; have HB := Lib.hid hb; clear hb))
    go_ret
    exact ⟨rfl, HB.out⟩
end Go.Proofs.YtpgainalimmecaaDoor
