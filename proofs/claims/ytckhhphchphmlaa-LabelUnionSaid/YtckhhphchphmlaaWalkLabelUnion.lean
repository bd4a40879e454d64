/-
  The walk of the law LabelUnion.
-/
import Derived.Test.YtckhhphchphmlaaWalkLabelOf
namespace Go.Proofs.Ytckhhphchphmlaa
open Go.RowKit
set_option linter.unusedVariables false

set_option maxRecDepth 100000 in
set_option maxHeartbeats 2000000 in
theorem labelUnion_any (va : Value) (a : List Pr) (vb : Value) (b : List Pr) (vc : Value) (c : List Pr) (W : World) (hma : a.length ≤ 4611686018427387904) (ha : Props W W.heap.size va a) (hmb : b.length ≤ 4611686018427387904) (hb : Props W W.heap.size vb b) (hmc : c.length ≤ 4611686018427387904) (hc : Props W W.heap.size vc c) :
    Calls Try.prog 6 #[va, vb, vc] W fun e w' => e = .returned (.bool true) ∧ Below W.heap.size W w' := by
  obtain ⟨Aa, ca, rfl, _⟩ := ha.open_
  obtain ⟨Ab, cb, rfl, _⟩ := hb.open_
  obtain ⟨Ac, cc, rfl, _⟩ := hc.open_
  obtain ⟨na, hna⟩ : ∃ n, n = a.length := ⟨_, rfl⟩
  obtain ⟨nb, hnb⟩ : ∃ n, n = b.length := ⟨_, rfl⟩
  obtain ⟨nc, hnc⟩ : ∃ n, n = c.length := ⟨_, rfl⟩
  rw [← hna] at ha ⊢
  rw [← hnb] at hb ⊢
  rw [← hnc] at hc ⊢
  obtain ⟨fa, hfa⟩ : ∃ f, fewL a = f := ⟨_, rfl⟩
  obtain ⟨fb, hfb⟩ : ∃ f, fewL b = f := ⟨_, rfl⟩
  obtain ⟨fc, hfc⟩ : ∃ f, fewL c = f := ⟨_, rfl⟩
  obtain ⟨ab, hab⟩ : ∃ o, unionL a b = o := ⟨_, rfl⟩
  obtain ⟨cb2, hcb⟩ : ∃ o, unionL c b = o := ⟨_, rfl⟩
  obtain ⟨x, hx⟩ : ∃ o, unionL ab c = o := ⟨_, rfl⟩
  obtain ⟨z, hz⟩ : ∃ o, ofL a = o := ⟨_, rfl⟩
  have hy : unionL a cb2 = x := by rw [← hx, ← hab, ← hcb]; exact (union_assoc a b c).symm
  have hzz : unionL a a = z := by rw [← hz]; exact union_self a
  have hzn : unionL [] a = z := by rw [← hz]; exact union_nil a
  have HA := Lib.hid (awake5_any W)
  have HFa := Lib.hid (fun w (h : Props w w.heap.size (.slice Aa na ca) a) => few5_any Aa na ca a w h hma hfa)
  have HFb := Lib.hid (fun w (h : Props w w.heap.size (.slice Ab nb cb) b) => few5_any Ab nb cb b w h hmb hfb)
  have HFc := Lib.hid (fun w (h : Props w w.heap.size (.slice Ac nc cc) c) => few5_any Ac nc cc c w h hmc hfc)
  have HL : Hid (fa = true → fb = true → fc = true → a.length ≤ 40 ∧ b.length ≤ 40 ∧ c.length ≤ 40 ∧ ab.length ≤ 1000 ∧ cb2.length ≤ 1000 ∧ x.length ≤ 1000 ∧ z.length ≤ 1000) := Lib.hid fun e1 e2 e3 => by
    have h1 := few_len (hfa.trans e1)
    have h2 := few_len (hfb.trans e2)
    have h3 := few_len (hfc.trans e3)
    have h4 := union_len a b
    have h5 := union_len c b
    have h6 := union_len ab c
    have h7 := of_len a
    rw [hab] at h4
    rw [hcb] at h5
    rw [hx] at h6
    rw [hz] at h7
    omega
  have HV := Lib.hid (And.intro ha (And.intro hb hc))
  have HE := Lib.hid (And.intro hab (And.intro hcb (And.intro hx (And.intro hy (And.intro hzz (And.intro hzn hz))))))
  clear hma hmb hmc ha hb hc hfa hfb hfc hna hnb hnc hab hcb hx hy hzz hzn hz
  cases fa with
  | false =>
    go_enter Try.func6, Try.ntmps6
    go_wp2_with (first
      | (go_at_call 9; (with_reducible refine HA.out.mono ?_); rintro e w1 ⟨rfl, hb⟩; have HB := Lib.hid hb; clear hb)
      | (go_at_call 12; (with_reducible refine (HFa.out _ (HV.out.1.over (Nat.le_refl _) HB.out)).mono ?_); rintro e w2 ⟨rfl, rfl⟩))
    go_ret
    exact ⟨rfl, HB.out⟩
  | true =>
    cases fb with
    | false =>
      go_enter Try.func6, Try.ntmps6
      go_wp2_with (first
        | (go_at_call 9; (with_reducible refine HA.out.mono ?_); rintro e w1 ⟨rfl, hb⟩; have HB := Lib.hid hb; clear hb)
        | (go_at_call 12; (with_reducible refine (HFa.out _ (HV.out.1.over (Nat.le_refl _) HB.out)).mono ?_); rintro e w2 ⟨rfl, hw⟩; subst hw)
        | (go_at_call 12; (with_reducible refine (HFb.out _ (HV.out.2.1.over (Nat.le_refl _) HB.out)).mono ?_); rintro e w3 ⟨rfl, hw⟩; subst hw))
      go_ret
      exact ⟨rfl, HB.out⟩
    | true =>
      cases fc with
      | false =>
        go_enter Try.func6, Try.ntmps6
        go_wp2_with (first
          | (go_at_call 9; (with_reducible refine HA.out.mono ?_); rintro e w1 ⟨rfl, hb⟩; have HB := Lib.hid hb; clear hb)
          | (go_at_call 12; (with_reducible refine (HFa.out _ (HV.out.1.over (Nat.le_refl _) HB.out)).mono ?_); rintro e w2 ⟨rfl, hw⟩; subst hw)
          | (go_at_call 12; (with_reducible refine (HFb.out _ (HV.out.2.1.over (Nat.le_refl _) HB.out)).mono ?_); rintro e w3 ⟨rfl, hw⟩; subst hw)
          | (go_at_call 12; (with_reducible refine (HFc.out _ (HV.out.2.2.over (Nat.le_refl _) HB.out)).mono ?_); rintro e w4 ⟨rfl, hw⟩; subst hw))
        go_ret
        exact ⟨rfl, HB.out⟩
      | true =>
        have HN := Lib.hid (HL.out rfl rfl rfl)
        clear HL
        go_enter Try.func6, Try.ntmps6
        go_wp2_with (first
          | (go_at_call 9; (with_reducible refine HA.out.mono ?_); rintro e w1 ⟨rfl, hb⟩; have HB := Lib.hid hb; clear hb)
          | (go_at_call 12; (with_reducible refine (HFa.out _ (HV.out.1.over (Nat.le_refl _) HB.out)).mono ?_); rintro e w2 ⟨rfl, hw⟩; subst hw)
          | (go_at_call 12; (with_reducible refine (HFb.out _ (HV.out.2.1.over (Nat.le_refl _) HB.out)).mono ?_); rintro e w3 ⟨rfl, hw⟩; subst hw)
          | (go_at_call 12; (with_reducible refine (HFc.out _ (HV.out.2.2.over (Nat.le_refl _) HB.out)).mono ?_); rintro e w4 ⟨rfl, hw⟩; subst hw)
          | (go_at_call 16; (with_reducible refine Calls.mono (lunion_any Aa na ca a Ab nb cb b _ (HV.out.1.over (Nat.le_refl _) HB.out) (HV.out.2.1.over (Nat.le_refl _) HB.out) (by have := HN.out; omega) HE.out.1) ?_); rintro e w5 ⟨A5, n5, c5, rfl, hp, hb⟩; have HP5 := Lib.hid hp; have HB5 := Lib.hid (bstep HB.out hb); clear hp hb)
          | (go_at_call 16; (with_reducible refine Calls.mono (lunion_any A5 n5 c5 ab Ac nc cc c _ HP5.out (HV.out.2.2.over (Nat.le_refl _) HB5.out) (by have := HN.out; omega) HE.out.2.2.1) ?_); rintro e w6 ⟨A6, n6, c6, rfl, hp, hb⟩; have HP6 := Lib.hid hp; have HB6 := Lib.hid (bstep HB5.out hb); clear hp hb)
          | (go_at_call 16; (with_reducible refine Calls.mono (lunion_any Ac nc cc c Ab nb cb b _ (HV.out.2.2.over (Nat.le_refl _) HB6.out) (HV.out.2.1.over (Nat.le_refl _) HB6.out) (by have := HN.out; omega) HE.out.2.1) ?_); rintro e w7 ⟨A7, n7, c7, rfl, hp, hb⟩; have HP7 := Lib.hid (And.intro hp (HP6.out.over (Nat.le_refl _) hb)); have HB7 := Lib.hid (bstep HB6.out hb); clear hp hb)
          | (go_at_call 16; (with_reducible refine Calls.mono (lunion_any Aa na ca a A7 n7 c7 cb2 _ (HV.out.1.over (Nat.le_refl _) HB7.out) HP7.out.1 (by have := HN.out; omega) HE.out.2.2.2.1) ?_); rintro e w8 ⟨A8, n8, c8, rfl, hp, hb⟩; have HP8 := Lib.hid (And.intro hp (HP7.out.2.over (Nat.le_refl _) hb)); have HB8 := Lib.hid (bstep HB7.out hb); clear hp hb)
          | (go_at_call 16; (with_reducible refine Calls.mono (lunion_any Aa na ca a Aa na ca a _ (HV.out.1.over (Nat.le_refl _) HB8.out) (HV.out.1.over (Nat.le_refl _) HB8.out) (by have := HN.out; omega) HE.out.2.2.2.2.1) ?_); rintro e w9 ⟨A9, n9, c9, rfl, hp, hb⟩; have HP9 := Lib.hid (And.intro hp (And.intro (HP8.out.1.over (Nat.le_refl _) hb) (HP8.out.2.over (Nat.le_refl _) hb))); have HB9 := Lib.hid (bstep HB8.out hb); clear hp hb)
          | (go_at_call 16; (with_reducible refine Calls.mono (lunion_any none 0 0 [] Aa na ca a _ (props_nil _ _) (HV.out.1.over (Nat.le_refl _) HB9.out) (by have := HN.out; simp; omega) HE.out.2.2.2.2.2.1) ?_); rintro e w10 ⟨A10, n10, c10, rfl, hp, hb⟩; have HP10 := Lib.hid (And.intro hp (And.intro (HP9.out.1.over (Nat.le_refl _) hb) (And.intro (HP9.out.2.1.over (Nat.le_refl _) hb) (HP9.out.2.2.over (Nat.le_refl _) hb)))); have HB10 := Lib.hid (bstep HB9.out hb); clear hp hb)
          | (go_at_call 13; (with_reducible refine (same_self A6 n6 c6 A8 n8 c8 x _ HP10.out.2.2.2 HP10.out.2.2.1 HN.out.2.2.2.2.2.1).mono ?_); rintro e w11 ⟨rfl, hb⟩; have HP11 := Lib.hid (And.intro (HP10.out.1.over (Nat.le_refl _) hb) (HP10.out.2.1.over (Nat.le_refl _) hb)); have HB11 := Lib.hid (bstep HB10.out hb); clear hb)
          | (go_at_call 14; (with_reducible refine Calls.mono (lof_any Aa na ca a _ (HV.out.1.over (Nat.le_refl _) HB11.out) (by have := HN.out; omega) HE.out.2.2.2.2.2.2) ?_); rintro e w12 ⟨A12, n12, c12, rfl, hp, hb⟩; have HP12 := Lib.hid (And.intro hp (And.intro (HP11.out.1.over (Nat.le_refl _) hb) (HP11.out.2.over (Nat.le_refl _) hb))); have HB12 := Lib.hid (bstep HB11.out hb); clear hp hb)
          | (go_at_call 13; (with_reducible refine (same_self A9 n9 c9 A12 n12 c12 z _ HP12.out.2.2 HP12.out.1 HN.out.2.2.2.2.2.2).mono ?_); rintro e w13 ⟨rfl, hb⟩; have HP13 := Lib.hid (And.intro (HP12.out.2.1.over (Nat.le_refl _) hb) (HP12.out.2.2.over (Nat.le_refl _) hb)); have HB13 := Lib.hid (bstep HB12.out hb); clear hb)
          | (go_at_call 13; (with_reducible refine (same_self A10 n10 c10 A9 n9 c9 z _ HP13.out.1 HP13.out.2 HN.out.2.2.2.2.2.2).mono ?_); rintro e w14 ⟨rfl, hb⟩; have HB14 := Lib.hid (bstep HB13.out hb); clear hb))
        go_ret
        exact ⟨rfl, HB14.out⟩
end Go.Proofs.Ytckhhphchphmlaa
