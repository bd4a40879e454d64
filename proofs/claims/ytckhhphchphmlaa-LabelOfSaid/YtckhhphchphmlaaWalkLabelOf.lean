/-
  The walk of the law LabelOf.
-/
import Derived.Test.YtckhhphchphmlaaAwakeFive
import Derived.Test.YtckhhphchphmlaaFewFive
import Derived.Test.YtckhhphchphmlaaRefSame
import Derived.Test.YtckhhphchphmlaaRefOf
import Derived.Test.YtckhhphchphmlaaRefName
namespace Go.Proofs.Ytckhhphchphmlaa
open Go.RowKit
set_option linter.unusedVariables false

theorem same_self (A0 : Option Addr) (n0 c0 : Nat) (A : Option Addr) (n c : Nat) (a : List Pr) (w : World) (h1 : Props w w.heap.size (.slice A0 n0 c0) a) (h2 : Props w w.heap.size (.slice A n c) a) (hm : a.length ≤ 1000) :
    Calls Try.prog 13 #[.slice A0 n0 c0, .slice A n c] w fun e w' => e = .returned (.bool true) ∧ Below w.heap.size w w' :=
  rsame_any A0 n0 c0 a A n c a w h1 h2 (by omega) (by simp)
set_option maxRecDepth 100000 in
set_option maxHeartbeats 1000000 in
theorem labelOf_any (va : Value) (a : List Pr) (vb : Value) (b : List Pr) (W : World) (hma : a.length ≤ 4611686018427387904) (ha : Props W W.heap.size va a) (hmb : b.length ≤ 4611686018427387904) (hb : Props W W.heap.size vb b) :
    Calls Try.prog 4 #[va, vb] W fun e w' => e = .returned (.bool true) ∧ Below W.heap.size W w' := by
  obtain ⟨Aa, ca, rfl, _⟩ := ha.open_
  obtain ⟨Ab, cb, rfl, _⟩ := hb.open_
  obtain ⟨na, hna⟩ : ∃ n, n = a.length := ⟨_, rfl⟩
  obtain ⟨nb, hnb⟩ : ∃ n, n = b.length := ⟨_, rfl⟩
  rw [← hna] at ha ⊢
  rw [← hnb] at hb ⊢
  obtain ⟨fa, hfa⟩ : ∃ f, fewL a = f := ⟨_, rfl⟩
  obtain ⟨fb, hfb⟩ : ∃ f, fewL b = f := ⟨_, rfl⟩
  obtain ⟨o, ho⟩ : ∃ o, ofL a = o := ⟨_, rfl⟩
  obtain ⟨u, hu⟩ : ∃ u, unionL a b = u := ⟨_, rfl⟩
  obtain ⟨q, hq⟩ : ∃ q, rightL a = q := ⟨_, rfl⟩
  have HA := Lib.hid (awake5_any W)
  have HFa := Lib.hid (fun w (h : Props w w.heap.size (.slice Aa na ca) a) => few5_any Aa na ca a w h hma hfa)
  have HFb := Lib.hid (fun w (h : Props w w.heap.size (.slice Ab nb cb) b) => few5_any Ab nb cb b w h hmb hfb)
  have HL : Hid (fa = true → fb = true → a.length ≤ 40 ∧ b.length ≤ 40 ∧ o.length ≤ 1000 ∧ u.length ≤ 1000) := Lib.hid fun e1 e2 => by
    have h1 := few_len (hfa.trans e1)
    have h2 := few_len (hfb.trans e2)
    have h3 := of_len a
    have h4 := union_len a b
    rw [ho] at h3
    rw [hu] at h4
    omega
  have HV := Lib.hid (And.intro ha hb)
  have HE := Lib.hid (And.intro ho (And.intro hu hq))
  clear hma hmb ha hb hfa hfb hna hnb ho hu hq
  cases fa with
  | false =>
    go_enter Try.func4, Try.ntmps4
    go_wp2_with (first
      | (go_at_call 9; (with_reducible refine HA.out.mono ?_); rintro e w1 ⟨rfl, hb⟩; have HB := Lib.hid hb; clear hb)
      | (go_at_call 12; (with_reducible refine (HFa.out _ (HV.out.1.over (Nat.le_refl _) HB.out)).mono ?_); rintro e w2 ⟨rfl, rfl⟩))
    go_ret
    exact ⟨rfl, HB.out⟩
  | true =>
    cases fb with
    | false =>
      go_enter Try.func4, Try.ntmps4
      go_wp2_with (first
        | (go_at_call 9; (with_reducible refine HA.out.mono ?_); rintro e w1 ⟨rfl, hb⟩; have HB := Lib.hid hb; clear hb)
        | (go_at_call 12; (with_reducible refine (HFa.out _ (HV.out.1.over (Nat.le_refl _) HB.out)).mono ?_); rintro e w2 ⟨rfl, hw⟩; subst hw)
        | (go_at_call 12; (with_reducible refine (HFb.out _ (HV.out.2.over (Nat.le_refl _) HB.out)).mono ?_); rintro e w3 ⟨rfl, hw⟩; subst hw))
      go_ret
      exact ⟨rfl, HB.out⟩
    | true =>
      have HLN := Lib.hid (HL.out rfl rfl)
      clear HL
      cases q
      all_goals
        go_enter Try.func4, Try.ntmps4
        go_wp2_with (first
          | (go_at_call 9; (with_reducible refine HA.out.mono ?_); rintro e w1 ⟨rfl, hb⟩; have HB := Lib.hid hb; clear hb)
          | (go_at_call 12; (with_reducible refine (HFa.out _ (HV.out.1.over (Nat.le_refl _) HB.out)).mono ?_); rintro e w2 ⟨rfl, hw⟩; subst hw)
          | (go_at_call 12; (with_reducible refine (HFb.out _ (HV.out.2.over (Nat.le_refl _) HB.out)).mono ?_); rintro e w3 ⟨rfl, hw⟩; subst hw)
          | (go_at_call 14; (with_reducible refine Calls.mono (lof_any _ _ _ a _ (HV.out.1.over (Nat.le_refl _) HB.out) (by have := HLN.out; omega) HE.out.1) ?_); rintro e w4 ⟨A4, n4, c4, rfl, hp, hb⟩; have HP4 := Lib.hid hp; have HB4 := Lib.hid (bstep HB.out hb); clear hp hb)
          | (go_at_call 15; (with_reducible refine Calls.mono (rof_to _ _ _ a _ (HV.out.1.over (Nat.le_refl _) HB4.out) (by have := HLN.out; omega) HE.out.1) ?_); rintro e w5 ⟨A5, n5, c5, rfl, hp, hb⟩; have HP5 := Lib.hid (And.intro (HP4.out.over (Nat.le_refl _) hb) (OwnsP.props hp)); have HB5 := Lib.hid (bstep HB4.out hb); clear hp hb)
          | (go_at_call 13; (with_reducible refine (same_self A4 n4 c4 A5 n5 c5 o _ HP5.out.1 HP5.out.2 HLN.out.2.2.1).mono ?_); rintro e w6 ⟨rfl, hb⟩; have HB6 := Lib.hid (bstep HB5.out hb); clear hb)
          | (go_at_call 16; (with_reducible refine Calls.mono (lunion_any _ _ _ a _ _ _ b _ (HV.out.1.over (Nat.le_refl _) HB6.out) (HV.out.2.over (Nat.le_refl _) HB6.out) (by have := HLN.out; omega) HE.out.2.1) ?_); rintro e w7 ⟨A7, n7, c7, rfl, hp, hb⟩; have HP7 := Lib.hid hp; have HB7 := Lib.hid (bstep HB6.out hb); clear hp hb)
          | (go_at_call 17; (with_reducible refine Calls.mono (runion_any _ _ _ a _ _ _ b _ (HV.out.1.over (Nat.le_refl _) HB7.out) (HV.out.2.over (Nat.le_refl _) HB7.out) (by have := HLN.out; omega)) ?_); rintro e w8 ⟨A8, n8, c8, rfl, hp, hb⟩; rw [HE.out.2.1] at hp; have HP8 := Lib.hid (And.intro (HP7.out.over (Nat.le_refl _) hb) (OwnsP.props hp)); have HB8 := Lib.hid (bstep HB7.out hb); clear hp hb)
          | (go_at_call 13; (with_reducible refine (same_self A7 n7 c7 A8 n8 c8 u _ HP8.out.1 HP8.out.2 HLN.out.2.2.2).mono ?_); rintro e w9 ⟨rfl, hb⟩; have HB9 := Lib.hid (bstep HB8.out hb); clear hb)
          | (go_at_call 18; (with_reducible refine (lright_any _ _ _ a _ (HV.out.1.over (Nat.le_refl _) HB9.out) (by have := HLN.out; omega) HE.out.2.2).mono ?_); rintro e w10 ⟨rfl, hb⟩; have HB10 := Lib.hid (bstep HB9.out hb); clear hb)
          | (go_at_call 19; (with_reducible refine (rright_any _ _ _ a _ (HV.out.1.over (Nat.le_refl _) HB10.out) (by have := HLN.out; omega) HE.out.2.2).mono ?_); rintro e w11 ⟨rfl, hb⟩; have HB11 := Lib.hid (bstep HB10.out hb); clear hb))
        go_ret
        exact ⟨rfl, HB11.out⟩
end Go.Proofs.Ytckhhphchphmlaa
