/-
  The walk of the law LabelGrows.
-/
import Derived.Test.YtckhhphchphmlaaWalkLabelOf
namespace Go.Proofs.Ytckhhphchphmlaa
open Go.RowKit
set_option linter.unusedVariables false

/-- What the calls read: the atom's box, the two lists. -/
def GrowS (W : World) (g : Nat) (s : ByteArray) (op u : Int) (va : Value) (a : List Pr) (vb : Value) (b : List Pr) (w' : World) : Prop :=
  w'.cell? ⟨g, 0, none⟩ = some (.string s) ∧ w'.cell? ⟨g, 1, none⟩ = some (.int .i64 op) ∧ w'.cell? ⟨g, 2, none⟩ = some (.int .i64 u) ∧ Hid (g < w'.heap.size ∧ Below W.heap.size W w' ∧ Props w' w'.heap.size va a ∧ Props w' w'.heap.size vb b)
theorem growS_over {W w1 w2 : World} {g : Nat} {s : ByteArray} {op u : Int} {va vb : Value} {a b : List Pr} (h : GrowS W g s op u va a vb b w1) (hb : Below w1.heap.size w1 w2) : GrowS W g s op u va a vb b w2 := by
  obtain ⟨h1, h2, h3, h4⟩ := h
  have hg := h4.out.1
  exact ⟨(hb.cell (p := ⟨g, 0, none⟩) hg).trans h1, (hb.cell (p := ⟨g, 1, none⟩) hg).trans h2, (hb.cell (p := ⟨g, 2, none⟩) hg).trans h3, Lib.hid ⟨Nat.lt_of_lt_of_le hg hb.size, bstep h4.out.2.1 hb, h4.out.2.2.1.over (Nat.le_refl _) hb, h4.out.2.2.2.over (Nat.le_refl _) hb⟩⟩
theorem growS_drew {W w1 : World} {g : Nat} {s : ByteArray} {op u : Int} {va vb : Value} {a b : List Pr} (h : GrowS W g s op u va a vb b w1) : GrowS W g s op u va a vb b w1.drew := growS_over h (bself w1).drew

set_option maxRecDepth 100000 in
set_option maxHeartbeats 2000000 in
theorem labelGrows_any (va : Value) (a : List Pr) (vb : Value) (b : List Pr) (nm : List UInt8) (op u : Int) (W : World) (hma : a.length ≤ 4611686018427387904) (ha : Props W W.heap.size va a) (hmb : b.length ≤ 4611686018427387904) (hb : Props W W.heap.size vb b) :
    Calls Try.prog 7 #[va, vb, .agg #[.string (mkB nm), .int .i64 op, .int .i64 u]] W fun e w' => e = .returned (.bool true) ∧ Below W.heap.size W w' := by
  obtain ⟨Aa, ca, rfl, _⟩ := ha.open_
  obtain ⟨Ab, cb, rfl, _⟩ := hb.open_
  obtain ⟨na, hna⟩ : ∃ n, n = a.length := ⟨_, rfl⟩
  obtain ⟨nb, hnb⟩ : ∃ n, n = b.length := ⟨_, rfl⟩
  rw [← hna] at ha ⊢
  rw [← hnb] at hb ⊢
  obtain ⟨fa, hfa⟩ : ∃ f, fewL a = f := ⟨_, rfl⟩
  obtain ⟨fb, hfb⟩ : ∃ f, fewL b = f := ⟨_, rfl⟩
  obtain ⟨un, hun⟩ : ∃ o, unionL a b = o := ⟨_, rfl⟩
  obtain ⟨o, ho⟩ : ∃ o, ofL a = o := ⟨_, rfl⟩
  obtain ⟨p, hp⟩ : ∃ p, holdsL a nm op u = p := ⟨_, rfl⟩
  obtain ⟨q, hq⟩ : ∃ q, holdsL b nm op u = q := ⟨_, rfl⟩
  obtain ⟨s, hs⟩ : ∃ s, s = mkB nm := ⟨_, rfl⟩
  have hpq : holdsL un nm op u = (p || q) := by rw [← hun, holds_union, hp, hq]
  have hpo : holdsL o nm op u = p := by rw [← ho, holds_of, hp]
  rw [← hs]
  have HA := Lib.hid (awake5_any (W.alloc (.cells #[.string s, .int .i64 op, .int .i64 u] 31)))
  have HFa := Lib.hid (fun w (h : Props w w.heap.size (.slice Aa na ca) a) => few5_any Aa na ca a w h hma hfa)
  have HFb := Lib.hid (fun w (h : Props w w.heap.size (.slice Ab nb cb) b) => few5_any Ab nb cb b w h hmb hfb)
  have HL : Hid (fa = true → fb = true → a.length ≤ 40 ∧ b.length ≤ 40 ∧ un.length ≤ 1000 ∧ o.length ≤ 1000) := Lib.hid fun e1 e2 => by
    have h1 := few_len (hfa.trans e1)
    have h2 := few_len (hfb.trans e2)
    have h3 := of_len a
    have h4 := union_len a b
    rw [ho] at h3
    rw [hun] at h4
    omega
  have H1 := Lib.hid (fun w (hlen : a.length ≤ 1000) (h : Props w w.heap.size (.slice Aa na ca) a) => lholds_s Aa na ca a s nm op u w hs h hlen hp)
  have H2 := Lib.hid (fun w (hlen : b.length ≤ 1000) (h : Props w w.heap.size (.slice Ab nb cb) b) => lholds_s Ab nb cb b s nm op u w hs h hlen hq)
  have HV := Lib.hid (And.intro ha hb)
  have HE := Lib.hid (And.intro hun (And.intro ho (And.intro hpq (And.intro hpo hs))))
  clear hma hmb ha hb hfa hfb hna hnb hun ho hp hq hs hpq hpo
  cases fa with
  | false =>
    go_enter Try.func7, Try.ntmps7
    go_wp2_with (first
      | (go_at_call 9; (with_reducible refine HA.out.mono ?_); rintro e w1 ⟨rfl, hb⟩; have HB := Lib.hid (bstep (bmore (bself W) _) hb); obtain ⟨h0, _, hz⟩ := one_block hb; have HX := Lib.hid (And.intro h0 hz); obtain ⟨b0, b1, b2, _, _, _⟩ := blk3 HX.out.1; clear hb h0 hz)
      | (go_at_call 12; (with_reducible refine (HFa.out _ (HV.out.1.over (Nat.le_refl _) HB.out)).mono ?_); rintro e w2 ⟨rfl, hw⟩; subst hw))
    go_ret
    exact ⟨rfl, HB.out⟩
  | true =>
    cases fb with
    | false =>
      go_enter Try.func7, Try.ntmps7
      go_wp2_with (first
        | (go_at_call 9; (with_reducible refine HA.out.mono ?_); rintro e w1 ⟨rfl, hb⟩; have HB := Lib.hid (bstep (bmore (bself W) _) hb); obtain ⟨h0, _, hz⟩ := one_block hb; have HX := Lib.hid (And.intro h0 hz); obtain ⟨b0, b1, b2, _, _, _⟩ := blk3 HX.out.1; clear hb h0 hz)
        | (go_at_call 12; (with_reducible refine (HFa.out _ (HV.out.1.over (Nat.le_refl _) HB.out)).mono ?_); rintro e w2 ⟨rfl, hw⟩; subst hw)
        | (go_at_call 12; (with_reducible refine (HFb.out _ (HV.out.2.over (Nat.le_refl _) HB.out)).mono ?_); rintro e w3 ⟨rfl, hw⟩; subst hw))
      go_ret
      exact ⟨rfl, HB.out⟩
    | true =>
      have HN := Lib.hid (HL.out rfl rfl)
      clear HL
      cases p with
      | false =>
        go_enter Try.func7, Try.ntmps7
        go_wp2_with (first
          | (go_at_call 9; (with_reducible refine HA.out.mono ?_); rintro e w1 ⟨rfl, hb⟩; have HB := Lib.hid (bstep (bmore (bself W) _) hb); obtain ⟨h0, _, hz⟩ := one_block hb; have HX := Lib.hid (And.intro h0 hz); obtain ⟨b0, b1, b2, _, _, _⟩ := blk3 HX.out.1; clear hb h0 hz)
          | (go_at_call 12; (with_reducible refine (HFa.out _ (HV.out.1.over (Nat.le_refl _) HB.out)).mono ?_); rintro e w2 ⟨rfl, hw⟩; subst hw)
          | (go_at_call 12; (with_reducible refine (HFb.out _ (HV.out.2.over (Nat.le_refl _) HB.out)).mono ?_); rintro e w3 ⟨rfl, hw⟩; subst hw)
          | (go_at_call 20; (with_reducible refine (H1.out _ (by have := HN.out; omega) (HV.out.1.over (Nat.le_refl _) HB.out)).mono ?_); rintro e w3 ⟨rfl, hb⟩; have HB3 := Lib.hid (bstep HB.out hb); have HX3 := Lib.hid (And.intro ((hb.block _ (by have := HX.out.2; omega)).trans HX.out.1) (Nat.le_trans HX.out.2 hb.size)); clear hb b0 b1 b2; obtain ⟨b0, b1, b2, _, _, _⟩ := blk3 HX3.out.1)
          | (go_at_call 20; (with_reducible refine (H2.out _ (by have := HN.out; omega) (HV.out.2.over (Nat.le_refl _) HB3.out)).mono ?_); rintro e w4 ⟨rfl, hb⟩; have HB4 := Lib.hid (bstep HB3.out hb); have HX4 := Lib.hid (And.intro ((hb.block _ (by have := HX3.out.2; omega)).trans HX3.out.1) (Nat.le_trans HX3.out.2 hb.size)); clear hb b0 b1 b2; obtain ⟨b0, b1, b2, _, _, _⟩ := blk3 HX4.out.1))
        obtain ⟨g, hg⟩ : ∃ g, g = W.heap.size := ⟨_, rfl⟩
        have hS : GrowS W g s op u (.slice Aa na ca) a (.slice Ab nb cb) b w4 := by
          rw [hg]
          exact ⟨b0, b1, b2, Lib.hid ⟨by have := HX4.out.2; omega, HB4.out, HV.out.1.over (Nat.le_refl _) HB4.out, HV.out.2.over (Nat.le_refl _) HB4.out⟩⟩
        clear b0 b1 b2 HX HX3 HX4 HB HB3 HB4
        unfold GrowS at hS
        rw [← hg]
        clear hg
        refine wp_region_held_drew (S := fun w' => w'.cell? ⟨g, 0, none⟩ = some (.string s) ∧ w'.cell? ⟨g, 1, none⟩ = some (.int .i64 op) ∧ w'.cell? ⟨g, 2, none⟩ = some (.int .i64 u) ∧ Hid (g < w'.heap.size ∧ Below W.heap.size W w' ∧ Props w' w'.heap.size (.slice Aa na ca) a ∧ Props w' w'.heap.size (.slice Ab nb cb) b)) (by kernel_rfl) ?_ (fun hHeld => ?_)
        · (try dsimp only)
          (first | assumption | exact growS_drew (by assumption))
        refine wpAnyH_take (i := 0) (v := ?_) rfl (by kernel_rfl) (by kernel_rfl) (by kernel_rfl) (fun _ _ _ h => h) (Or.inl ⟨by rfl, ?_⟩) (by assumption) ?_
        rotate_left
        · intro w hSw
          (try dsimp only at hSw)
          go_simp
          try with_reducible rfl
        (try simp only [Act.put, List.getElem_toArray, List.getElem_cons_zero, List.setIfInBounds_toArray, List.set_cons_zero, List.set_cons_succ])
        refine wpAnyH_take (i := 1) (v := ?_) rfl (by kernel_rfl) (by kernel_rfl) (by kernel_rfl) (fun _ _ _ h => h) (Or.inl ⟨by rfl, ?_⟩) (by assumption) ?_
        rotate_left
        · intro w hSw
          (try dsimp only at hSw)
          go_simp
          try with_reducible rfl
        (try simp only [Act.put, List.getElem_toArray, List.getElem_cons_succ, List.getElem_cons_zero, List.setIfInBounds_toArray, List.set_cons_zero, List.set_cons_succ])
        refine wpAnyH_take (i := 3) (v := ?_) rfl (by kernel_rfl) (by kernel_rfl) (by kernel_rfl) (fun _ _ _ h => h) (Or.inl ⟨by rfl, ?_⟩) (by assumption) ?_
        rotate_left
        · intro w hSw
          (try dsimp only at hSw)
          go_simp
          try with_reducible rfl
        (try simp only [Act.put, List.getElem_toArray, List.getElem_cons_succ, List.getElem_cons_zero, List.setIfInBounds_toArray, List.set_cons_zero, List.set_cons_succ])
        refine wpAnyH_take (i := 5) (v := ?_) rfl (by kernel_rfl) (by kernel_rfl) (by kernel_rfl) (fun _ _ _ h => h) (Or.inl ⟨by rfl, ?_⟩) (by assumption) ?_
        rotate_left
        · intro w hSw
          (try dsimp only at hSw)
          go_simp
          try with_reducible rfl
        (try simp only [Act.put, List.getElem_toArray, List.getElem_cons_succ, List.getElem_cons_zero, List.setIfInBounds_toArray, List.set_cons_zero, List.set_cons_succ])
        refine wpAnyH_ready (rs := [2]) (by kernel_rfl) (by simp) ?_
        refine AllReadyH.cons rfl (fun K hK => ?_) AllReadyH.nil
        go_simp
        (go_at_call 16; ((with_reducible refine Calls.mono (lunion_any Aa na ca a Ab nb cb b _ hHeld.2.2.2.out.2.2.1 hHeld.2.2.2.out.2.2.2 (by have := HN.out; omega) HE.out.1) ?_); rintro e w5 ⟨A5, n5, c5, rfl, hp, hb⟩; have hs5 := growS_over hHeld hb; have HP5 := Lib.hid hp; clear hb hp))
        go_wp2_with fail
        refine hK.out _ _ ?_ (fun hHeld => ?_)
        · (try dsimp only)
          (first | assumption | exact growS_drew (by assumption))
        clear hK K
        (try simp only [Act.put, List.getElem_toArray, List.getElem_cons_succ, List.getElem_cons_zero, List.setIfInBounds_toArray, List.set_cons_zero, List.set_cons_succ])
        refine wpAnyH_ready (rs := [4]) (by kernel_rfl) (by simp) ?_
        refine AllReadyH.cons rfl (fun K hK => ?_) AllReadyH.nil
        go_simp
        (go_at_call 20; ((with_reducible refine Calls.mono (lholds_s _ _ _ un s nm op u _ HE.out.2.2.2.2 HP5.out (by have := HN.out; omega) HE.out.2.2.1) ?_); rintro e w6 ⟨rfl, hb⟩; have hs6 := growS_over hHeld hb; clear hb))
        go_wp2_with fail
        refine hK.out _ _ ?_ (fun hHeld => ?_)
        · (try dsimp only)
          (first | assumption | exact growS_drew (by assumption))
        clear hK K
        (try simp only [Act.put, List.getElem_toArray, List.getElem_cons_succ, List.getElem_cons_zero, List.setIfInBounds_toArray, List.set_cons_zero, List.set_cons_succ])
        refine wpAnyH_take (i := 6) (v := ?_) rfl (by kernel_rfl) (by kernel_rfl) (by kernel_rfl) (fun _ _ _ h => h) (Or.inl ⟨by rfl, ?_⟩) (by assumption) ?_
        rotate_left
        · intro w hSw
          (try dsimp only at hSw)
          go_simp
          try with_reducible rfl
        (try simp only [Act.put, List.getElem_toArray, List.getElem_cons_succ, List.getElem_cons_zero, List.setIfInBounds_toArray, List.set_cons_zero, List.set_cons_succ])
        refine wpAnyH_take (i := 7) (v := ?_) rfl (by kernel_rfl) (by kernel_rfl) (by kernel_rfl) (fun _ _ _ h => h) (Or.inl ⟨by rfl, ?_⟩) (by assumption) ?_
        rotate_left
        · intro w hSw
          (try dsimp only at hSw)
          go_simp
          try with_reducible rfl
        (try simp only [Act.put, List.getElem_toArray, List.getElem_cons_succ, List.getElem_cons_zero, List.setIfInBounds_toArray, List.set_cons_zero, List.set_cons_succ])
        refine wpAnyH_take (i := 8) (v := ?_) rfl (by kernel_rfl) (by kernel_rfl) (by kernel_rfl) (fun _ _ _ h => h) (Or.inl ⟨by rfl, ?_⟩) (by assumption) ?_
        rotate_left
        · intro w hSw
          (try dsimp only at hSw)
          go_simp
          try with_reducible rfl
        (try simp only [Act.put, List.getElem_toArray, List.getElem_cons_succ, List.getElem_cons_zero, List.setIfInBounds_toArray, List.set_cons_zero, List.set_cons_succ])
        refine wpAnyH_take (i := 9) (v := ?_) rfl (by kernel_rfl) (by kernel_rfl) (by kernel_rfl) (fun _ _ _ h => h) (Or.inl ⟨by rfl, ?_⟩) (by assumption) ?_
        rotate_left
        · intro w hSw
          (try dsimp only at hSw)
          go_simp
          try with_reducible rfl
        (try simp only [Act.put, List.getElem_toArray, List.getElem_cons_succ, List.getElem_cons_zero, List.setIfInBounds_toArray, List.set_cons_zero, List.set_cons_succ])
        refine wpAnyH_take (i := 10) (v := ?_) rfl (by kernel_rfl) (by kernel_rfl) (by kernel_rfl) (fun _ _ _ h => h) (Or.inl ⟨by rfl, ?_⟩) (by assumption) ?_
        rotate_left
        · intro w hSw
          (try dsimp only at hSw)
          go_simp
          try with_reducible rfl
        (try simp only [Act.put, List.getElem_toArray, List.getElem_cons_succ, List.getElem_cons_zero, List.setIfInBounds_toArray, List.set_cons_zero, List.set_cons_succ])
        refine wpAnyH_take (i := 11) (v := ?_) rfl (by kernel_rfl) (by kernel_rfl) (by kernel_rfl) (fun _ _ _ h => h) (Or.inl ⟨by rfl, ?_⟩) (by assumption) ?_
        rotate_left
        · intro w hSw
          (try dsimp only at hSw)
          go_simp
          try with_reducible rfl
        (try simp only [Act.put, List.getElem_toArray, List.getElem_cons_succ, List.getElem_cons_zero, List.setIfInBounds_toArray, List.set_cons_zero, List.set_cons_succ])
        refine wpAnyH_take (i := 13) (v := ?_) rfl (by kernel_rfl) (by kernel_rfl) (by kernel_rfl) (fun _ _ _ h => h) (Or.inl ⟨by rfl, ?_⟩) (by assumption) ?_
        rotate_left
        · intro w hSw
          (try dsimp only at hSw)
          go_simp
          try with_reducible rfl
        (try simp only [Act.put, List.getElem_toArray, List.getElem_cons_succ, List.getElem_cons_zero, List.setIfInBounds_toArray, List.set_cons_zero, List.set_cons_succ])
        refine wpAnyH_take (i := 15) (v := ?_) rfl (by kernel_rfl) (by kernel_rfl) (by kernel_rfl) (fun _ _ _ h => h) (Or.inl ⟨by rfl, ?_⟩) (by assumption) ?_
        rotate_left
        · intro w hSw
          (try dsimp only at hSw)
          go_simp
          try with_reducible rfl
        (try simp only [Act.put, List.getElem_toArray, List.getElem_cons_succ, List.getElem_cons_zero, List.setIfInBounds_toArray, List.set_cons_zero, List.set_cons_succ])
        refine wpAnyH_ready (rs := [12]) (by kernel_rfl) (by simp) ?_
        refine AllReadyH.cons rfl (fun K hK => ?_) AllReadyH.nil
        go_simp
        (go_at_call 14; ((with_reducible refine Calls.mono (lof_any Aa na ca a _ hHeld.2.2.2.out.2.2.1 (by have := HN.out; omega) HE.out.2.1) ?_); rintro e w7 ⟨A7, n7, c7, rfl, hp, hb⟩; have hs7 := growS_over hHeld hb; have HP7 := Lib.hid hp; clear hb hp))
        go_wp2_with fail
        refine hK.out _ _ ?_ (fun hHeld => ?_)
        · (try dsimp only)
          (first | assumption | exact growS_drew (by assumption))
        clear hK K
        (try simp only [Act.put, List.getElem_toArray, List.getElem_cons_succ, List.getElem_cons_zero, List.setIfInBounds_toArray, List.set_cons_zero, List.set_cons_succ])
        refine wpAnyH_ready (rs := [14]) (by kernel_rfl) (by simp) ?_
        refine AllReadyH.cons rfl (fun K hK => ?_) AllReadyH.nil
        go_simp
        (go_at_call 20; ((with_reducible refine Calls.mono (lholds_s _ _ _ o s nm op u _ HE.out.2.2.2.2 HP7.out (by have := HN.out; omega) HE.out.2.2.2.1) ?_); rintro e w8 ⟨rfl, hb⟩; have hs8 := growS_over hHeld hb; clear hb))
        go_wp2_with fail
        refine hK.out _ _ ?_ (fun hHeld => ?_)
        · (try dsimp only)
          (first | assumption | exact growS_drew (by assumption))
        clear hK K
        (try simp only [Act.put, List.getElem_toArray, List.getElem_cons_succ, List.getElem_cons_zero, List.setIfInBounds_toArray, List.set_cons_zero, List.set_cons_succ])
        refine wpAnyH_take (i := 16) (v := ?_) rfl (by kernel_rfl) (by kernel_rfl) (by kernel_rfl) (fun _ _ _ h => h) (Or.inl ⟨by rfl, ?_⟩) (by assumption) ?_
        rotate_left
        · intro w hSw
          (try dsimp only at hSw)
          go_simp
          try with_reducible rfl
        (try simp only [Act.put, List.getElem_toArray, List.getElem_cons_succ, List.getElem_cons_zero, List.setIfInBounds_toArray, List.set_cons_zero, List.set_cons_succ])
        refine wpAnyH_take (i := 17) (v := ?_) rfl (by kernel_rfl) (by kernel_rfl) (by kernel_rfl) (fun _ _ _ h => h) (Or.inl ⟨by rfl, ?_⟩) (by assumption) ?_
        rotate_left
        · intro w hSw
          (try dsimp only at hSw)
          go_simp
          try with_reducible rfl
        (try simp only [Act.put, List.getElem_toArray, List.getElem_cons_succ, List.getElem_cons_zero, List.setIfInBounds_toArray, List.set_cons_zero, List.set_cons_succ])
        refine wpAnyH_take (i := 18) (v := ?_) rfl (by kernel_rfl) (by kernel_rfl) (by kernel_rfl) (fun _ _ _ h => h) (Or.inl ⟨by rfl, ?_⟩) (by assumption) ?_
        rotate_left
        · intro w hSw
          (try dsimp only at hSw)
          go_simp
          try with_reducible rfl
        (try simp only [Act.put, List.getElem_toArray, List.getElem_cons_succ, List.getElem_cons_zero, List.setIfInBounds_toArray, List.set_cons_zero, List.set_cons_succ])
        refine wpAnyH_done (by kernel_rfl) ?_ _
        have HZ := Lib.hid hHeld.2.2.2.out.2.1
        go_wp2
        go_ret
        exact ⟨rfl, HZ.out⟩
      | true =>
        go_enter Try.func7, Try.ntmps7
        go_wp2_with (first
          | (go_at_call 9; (with_reducible refine HA.out.mono ?_); rintro e w1 ⟨rfl, hb⟩; have HB := Lib.hid (bstep (bmore (bself W) _) hb); obtain ⟨h0, _, hz⟩ := one_block hb; have HX := Lib.hid (And.intro h0 hz); obtain ⟨b0, b1, b2, _, _, _⟩ := blk3 HX.out.1; clear hb h0 hz)
          | (go_at_call 12; (with_reducible refine (HFa.out _ (HV.out.1.over (Nat.le_refl _) HB.out)).mono ?_); rintro e w2 ⟨rfl, hw⟩; subst hw)
          | (go_at_call 12; (with_reducible refine (HFb.out _ (HV.out.2.over (Nat.le_refl _) HB.out)).mono ?_); rintro e w3 ⟨rfl, hw⟩; subst hw)
          | (go_at_call 20; (with_reducible refine (H1.out _ (by have := HN.out; omega) (HV.out.1.over (Nat.le_refl _) HB.out)).mono ?_); rintro e w3 ⟨rfl, hb⟩; have HB3 := Lib.hid (bstep HB.out hb); have HX3 := Lib.hid (And.intro ((hb.block _ (by have := HX.out.2; omega)).trans HX.out.1) (Nat.le_trans HX.out.2 hb.size)); clear hb b0 b1 b2; obtain ⟨b0, b1, b2, _, _, _⟩ := blk3 HX3.out.1)
          | (go_at_call 20; (with_reducible refine (H2.out _ (by have := HN.out; omega) (HV.out.2.over (Nat.le_refl _) HB3.out)).mono ?_); rintro e w4 ⟨rfl, hb⟩; have HB4 := Lib.hid (bstep HB3.out hb); have HX4 := Lib.hid (And.intro ((hb.block _ (by have := HX3.out.2; omega)).trans HX3.out.1) (Nat.le_trans HX3.out.2 hb.size)); clear hb b0 b1 b2; obtain ⟨b0, b1, b2, _, _, _⟩ := blk3 HX4.out.1))
        obtain ⟨g, hg⟩ : ∃ g, g = W.heap.size := ⟨_, rfl⟩
        have hS : GrowS W g s op u (.slice Aa na ca) a (.slice Ab nb cb) b w4 := by
          rw [hg]
          exact ⟨b0, b1, b2, Lib.hid ⟨by have := HX4.out.2; omega, HB4.out, HV.out.1.over (Nat.le_refl _) HB4.out, HV.out.2.over (Nat.le_refl _) HB4.out⟩⟩
        clear b0 b1 b2 HX HX3 HX4 HB HB3 HB4
        unfold GrowS at hS
        rw [← hg]
        clear hg
        refine wp_region_held_drew (S := fun w' => w'.cell? ⟨g, 0, none⟩ = some (.string s) ∧ w'.cell? ⟨g, 1, none⟩ = some (.int .i64 op) ∧ w'.cell? ⟨g, 2, none⟩ = some (.int .i64 u) ∧ Hid (g < w'.heap.size ∧ Below W.heap.size W w' ∧ Props w' w'.heap.size (.slice Aa na ca) a ∧ Props w' w'.heap.size (.slice Ab nb cb) b)) (by kernel_rfl) ?_ (fun hHeld => ?_)
        · (try dsimp only)
          (first | assumption | exact growS_drew (by assumption))
        refine wpAnyH_take (i := 0) (v := ?_) rfl (by kernel_rfl) (by kernel_rfl) (by kernel_rfl) (fun _ _ _ h => h) (Or.inl ⟨by rfl, ?_⟩) (by assumption) ?_
        rotate_left
        · intro w hSw
          (try dsimp only at hSw)
          go_simp
          try with_reducible rfl
        (try simp only [Act.put, List.getElem_toArray, List.getElem_cons_zero, List.setIfInBounds_toArray, List.set_cons_zero, List.set_cons_succ])
        refine wpAnyH_take (i := 1) (v := ?_) rfl (by kernel_rfl) (by kernel_rfl) (by kernel_rfl) (fun _ _ _ h => h) (Or.inl ⟨by rfl, ?_⟩) (by assumption) ?_
        rotate_left
        · intro w hSw
          (try dsimp only at hSw)
          go_simp
          try with_reducible rfl
        (try simp only [Act.put, List.getElem_toArray, List.getElem_cons_succ, List.getElem_cons_zero, List.setIfInBounds_toArray, List.set_cons_zero, List.set_cons_succ])
        refine wpAnyH_take (i := 3) (v := ?_) rfl (by kernel_rfl) (by kernel_rfl) (by kernel_rfl) (fun _ _ _ h => h) (Or.inl ⟨by rfl, ?_⟩) (by assumption) ?_
        rotate_left
        · intro w hSw
          (try dsimp only at hSw)
          go_simp
          try with_reducible rfl
        (try simp only [Act.put, List.getElem_toArray, List.getElem_cons_succ, List.getElem_cons_zero, List.setIfInBounds_toArray, List.set_cons_zero, List.set_cons_succ])
        refine wpAnyH_take (i := 5) (v := ?_) rfl (by kernel_rfl) (by kernel_rfl) (by kernel_rfl) (fun _ _ _ h => h) (Or.inl ⟨by rfl, ?_⟩) (by assumption) ?_
        rotate_left
        · intro w hSw
          (try dsimp only at hSw)
          go_simp
          try with_reducible rfl
        (try simp only [Act.put, List.getElem_toArray, List.getElem_cons_succ, List.getElem_cons_zero, List.setIfInBounds_toArray, List.set_cons_zero, List.set_cons_succ])
        refine wpAnyH_ready (rs := [2]) (by kernel_rfl) (by simp) ?_
        refine AllReadyH.cons rfl (fun K hK => ?_) AllReadyH.nil
        go_simp
        (go_at_call 16; ((with_reducible refine Calls.mono (lunion_any Aa na ca a Ab nb cb b _ hHeld.2.2.2.out.2.2.1 hHeld.2.2.2.out.2.2.2 (by have := HN.out; omega) HE.out.1) ?_); rintro e w5 ⟨A5, n5, c5, rfl, hp, hb⟩; have hs5 := growS_over hHeld hb; have HP5 := Lib.hid hp; clear hb hp))
        go_wp2_with fail
        refine hK.out _ _ ?_ (fun hHeld => ?_)
        · (try dsimp only)
          (first | assumption | exact growS_drew (by assumption))
        clear hK K
        (try simp only [Act.put, List.getElem_toArray, List.getElem_cons_succ, List.getElem_cons_zero, List.setIfInBounds_toArray, List.set_cons_zero, List.set_cons_succ])
        refine wpAnyH_ready (rs := [4]) (by kernel_rfl) (by simp) ?_
        refine AllReadyH.cons rfl (fun K hK => ?_) AllReadyH.nil
        go_simp
        (go_at_call 20; ((with_reducible refine Calls.mono (lholds_s _ _ _ un s nm op u _ HE.out.2.2.2.2 HP5.out (by have := HN.out; omega) HE.out.2.2.1) ?_); rintro e w6 ⟨rfl, hb⟩; have hs6 := growS_over hHeld hb; clear hb))
        go_wp2_with fail
        refine hK.out _ _ ?_ (fun hHeld => ?_)
        · (try dsimp only)
          (first | assumption | exact growS_drew (by assumption))
        clear hK K
        (try simp only [Act.put, List.getElem_toArray, List.getElem_cons_succ, List.getElem_cons_zero, List.setIfInBounds_toArray, List.set_cons_zero, List.set_cons_succ])
        refine wpAnyH_take (i := 6) (v := ?_) rfl (by kernel_rfl) (by kernel_rfl) (by kernel_rfl) (fun _ _ _ h => h) (Or.inl ⟨by rfl, ?_⟩) (by assumption) ?_
        rotate_left
        · intro w hSw
          (try dsimp only at hSw)
          go_simp
          try with_reducible rfl
        (try simp only [Act.put, List.getElem_toArray, List.getElem_cons_succ, List.getElem_cons_zero, List.setIfInBounds_toArray, List.set_cons_zero, List.set_cons_succ])
        refine wpAnyH_take (i := 7) (v := undef) rfl (by kernel_rfl) (by kernel_rfl) (by kernel_rfl) (fun _ _ _ h => h) (Or.inr ⟨by rfl, rfl⟩) (by assumption) ?_
        (try simp only [Act.put, List.getElem_toArray, List.getElem_cons_succ, List.getElem_cons_zero, List.setIfInBounds_toArray, List.set_cons_zero, List.set_cons_succ])
        refine wpAnyH_take (i := 8) (v := ?_) rfl (by kernel_rfl) (by kernel_rfl) (by kernel_rfl) (fun _ _ _ h => h) (Or.inl ⟨by rfl, ?_⟩) (by assumption) ?_
        rotate_left
        · intro w hSw
          (try dsimp only at hSw)
          go_simp
          try with_reducible rfl
        (try simp only [Act.put, List.getElem_toArray, List.getElem_cons_succ, List.getElem_cons_zero, List.setIfInBounds_toArray, List.set_cons_zero, List.set_cons_succ])
        refine wpAnyH_take (i := 9) (v := ?_) rfl (by kernel_rfl) (by kernel_rfl) (by kernel_rfl) (fun _ _ _ h => h) (Or.inl ⟨by rfl, ?_⟩) (by assumption) ?_
        rotate_left
        · intro w hSw
          (try dsimp only at hSw)
          go_simp
          try with_reducible rfl
        (try simp only [Act.put, List.getElem_toArray, List.getElem_cons_succ, List.getElem_cons_zero, List.setIfInBounds_toArray, List.set_cons_zero, List.set_cons_succ])
        refine wpAnyH_take (i := 10) (v := ?_) rfl (by kernel_rfl) (by kernel_rfl) (by kernel_rfl) (fun _ _ _ h => h) (Or.inl ⟨by rfl, ?_⟩) (by assumption) ?_
        rotate_left
        · intro w hSw
          (try dsimp only at hSw)
          go_simp
          try with_reducible rfl
        (try simp only [Act.put, List.getElem_toArray, List.getElem_cons_succ, List.getElem_cons_zero, List.setIfInBounds_toArray, List.set_cons_zero, List.set_cons_succ])
        refine wpAnyH_take (i := 11) (v := ?_) rfl (by kernel_rfl) (by kernel_rfl) (by kernel_rfl) (fun _ _ _ h => h) (Or.inl ⟨by rfl, ?_⟩) (by assumption) ?_
        rotate_left
        · intro w hSw
          (try dsimp only at hSw)
          go_simp
          try with_reducible rfl
        (try simp only [Act.put, List.getElem_toArray, List.getElem_cons_succ, List.getElem_cons_zero, List.setIfInBounds_toArray, List.set_cons_zero, List.set_cons_succ])
        refine wpAnyH_take (i := 13) (v := ?_) rfl (by kernel_rfl) (by kernel_rfl) (by kernel_rfl) (fun _ _ _ h => h) (Or.inl ⟨by rfl, ?_⟩) (by assumption) ?_
        rotate_left
        · intro w hSw
          (try dsimp only at hSw)
          go_simp
          try with_reducible rfl
        (try simp only [Act.put, List.getElem_toArray, List.getElem_cons_succ, List.getElem_cons_zero, List.setIfInBounds_toArray, List.set_cons_zero, List.set_cons_succ])
        refine wpAnyH_take (i := 15) (v := ?_) rfl (by kernel_rfl) (by kernel_rfl) (by kernel_rfl) (fun _ _ _ h => h) (Or.inl ⟨by rfl, ?_⟩) (by assumption) ?_
        rotate_left
        · intro w hSw
          (try dsimp only at hSw)
          go_simp
          try with_reducible rfl
        (try simp only [Act.put, List.getElem_toArray, List.getElem_cons_succ, List.getElem_cons_zero, List.setIfInBounds_toArray, List.set_cons_zero, List.set_cons_succ])
        refine wpAnyH_ready (rs := [12]) (by kernel_rfl) (by simp) ?_
        refine AllReadyH.cons rfl (fun K hK => ?_) AllReadyH.nil
        go_simp
        (go_at_call 14; ((with_reducible refine Calls.mono (lof_any Aa na ca a _ hHeld.2.2.2.out.2.2.1 (by have := HN.out; omega) HE.out.2.1) ?_); rintro e w7 ⟨A7, n7, c7, rfl, hp, hb⟩; have hs7 := growS_over hHeld hb; have HP7 := Lib.hid hp; clear hb hp))
        go_wp2_with fail
        refine hK.out _ _ ?_ (fun hHeld => ?_)
        · (try dsimp only)
          (first | assumption | exact growS_drew (by assumption))
        clear hK K
        (try simp only [Act.put, List.getElem_toArray, List.getElem_cons_succ, List.getElem_cons_zero, List.setIfInBounds_toArray, List.set_cons_zero, List.set_cons_succ])
        refine wpAnyH_ready (rs := [14]) (by kernel_rfl) (by simp) ?_
        refine AllReadyH.cons rfl (fun K hK => ?_) AllReadyH.nil
        go_simp
        (go_at_call 20; ((with_reducible refine Calls.mono (lholds_s _ _ _ o s nm op u _ HE.out.2.2.2.2 HP7.out (by have := HN.out; omega) HE.out.2.2.2.1) ?_); rintro e w8 ⟨rfl, hb⟩; have hs8 := growS_over hHeld hb; clear hb))
        go_wp2_with fail
        refine hK.out _ _ ?_ (fun hHeld => ?_)
        · (try dsimp only)
          (first | assumption | exact growS_drew (by assumption))
        clear hK K
        (try simp only [Act.put, List.getElem_toArray, List.getElem_cons_succ, List.getElem_cons_zero, List.setIfInBounds_toArray, List.set_cons_zero, List.set_cons_succ])
        refine wpAnyH_take (i := 16) (v := ?_) rfl (by kernel_rfl) (by kernel_rfl) (by kernel_rfl) (fun _ _ _ h => h) (Or.inl ⟨by rfl, ?_⟩) (by assumption) ?_
        rotate_left
        · intro w hSw
          (try dsimp only at hSw)
          go_simp
          try with_reducible rfl
        (try simp only [Act.put, List.getElem_toArray, List.getElem_cons_succ, List.getElem_cons_zero, List.setIfInBounds_toArray, List.set_cons_zero, List.set_cons_succ])
        refine wpAnyH_take (i := 17) (v := ?_) rfl (by kernel_rfl) (by kernel_rfl) (by kernel_rfl) (fun _ _ _ h => h) (Or.inl ⟨by rfl, ?_⟩) (by assumption) ?_
        rotate_left
        · intro w hSw
          (try dsimp only at hSw)
          go_simp
          try with_reducible rfl
        (try simp only [Act.put, List.getElem_toArray, List.getElem_cons_succ, List.getElem_cons_zero, List.setIfInBounds_toArray, List.set_cons_zero, List.set_cons_succ])
        refine wpAnyH_take (i := 18) (v := ?_) rfl (by kernel_rfl) (by kernel_rfl) (by kernel_rfl) (fun _ _ _ h => h) (Or.inl ⟨by rfl, ?_⟩) (by assumption) ?_
        rotate_left
        · intro w hSw
          (try dsimp only at hSw)
          go_simp
          try with_reducible rfl
        (try simp only [Act.put, List.getElem_toArray, List.getElem_cons_succ, List.getElem_cons_zero, List.setIfInBounds_toArray, List.set_cons_zero, List.set_cons_succ])
        refine wpAnyH_done (by kernel_rfl) ?_ _
        have HZ := Lib.hid hHeld.2.2.2.out.2.1
        go_wp2
        go_ret
        exact ⟨rfl, HZ.out⟩
end Go.Proofs.Ytckhhphchphmlaa
