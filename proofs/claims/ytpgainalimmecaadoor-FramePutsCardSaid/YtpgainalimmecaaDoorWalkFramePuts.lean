/-
  The walk of the law FramePuts.
-/
import Derived.Test.YtpgainalimmecaaDoorAwakeFour
import Derived.Test.YtpgainalimmecaaDoorRefPutF
import Derived.Test.YtpgainalimmecaaDoorTouch
import Derived.Deep.RegionHeld3
namespace Go.Proofs.YtpgainalimmecaaDoor
open Go.RowKit
set_option linter.unusedVariables false

/-- What FramePuts' last test reads. -/
def PutsReads (W : World) (G : Option Addr) (n c2 : Nat) (pf : List UInt8) (A : Option Addr) (c : Nat) (body : List UInt8) (w' : World) : Prop :=
  (convert 22 9 (.slice G n c2)).run Tryd.prog w' = .ok (.string (mkB pf)) w' ∧ (convert 22 9 (.slice A body.length c)).run Tryd.prog w' = .ok (.string (mkB body)) w' ∧ Hid (Below W.heap.size W w')
theorem putsReads {W : World} {G : Option Addr} {n c2 : Nat} {pf : List UInt8} {A : Option Addr} {c : Nat} {body : List UInt8} (h1 : Row W W.heap.size G (bc pf)) (hn : pf.length = n) (h2 : Row W W.heap.size A (bc body)) (w' : World) (hb : Below W.heap.size W w') : PutsReads W G n c2 pf A c body w' := by
  subst hn
  exact ⟨run_str_any c2 (h1.below_ hb), run_str_any c (h2.below_ hb), Lib.hid hb⟩

set_option maxRecDepth 100000 in
set_option maxHeartbeats 4000000 in
theorem framePuts_any (kind : UInt8) (A : Option Addr) (c : Nat) (body : List UInt8) (W : World) (hT : Tabs W) (hb : LiesB W W.heap.size (.slice A body.length c) body) :
    Calls Tryd.prog 3 #[.int .u8 (kind.toNat : Int), .slice A body.length c] W fun e w' => e = .returned (.bool true) ∧ Below W.heap.size W w' := by
  have HT := Lib.hid hT
  have HBY := Lib.hid hb
  have HCA := Lib.hid (awake4_any W hT)
  have HROW : Hid (Row W W.heap.size A (bc body) ∧ body.length ≤ c ∧ (A = none → c = 0)) := Lib.hid (by
    obtain ⟨A', c', e, h0, h1, h2⟩ := liesB_row hb
    simp only [Value.slice.injEq] at e
    obtain ⟨rfl, _, rfl⟩ := e
    exact ⟨h0, h1, h2⟩)
  clear hT hb
  by_cases h6 : body.length ≤ 600
  · have q6 : ¬ (600 : Int) < (body.length : Int) := by omega
    by_cases h2 : body.length ≤ 256
    · have q2 : ¬ (256 : Int) < (body.length : Int) := by omega
      have HL := Lib.hid h2
      have HPL := Lib.hid (putF_length kind body)
      clear h6 h2
      go_enter Tryd.func3, Tryd.ntmps3
      go_wp2_with fail
      refine HCA.out.mono ?_
      rintro e w1 ⟨rfl, hb1⟩
      have HB1 := Lib.hid hb1
      have HC1 := Lib.hid (fput_any W HT.out kind A c body w1 hb1 ((HROW.out.1.below_ hb1).more hb1.size) HROW.out.2.1 HROW.out.2.2 HL.out)
      clear hb1 HCA
      go_wp2_with fail
      refine HC1.out.mono ?_
      rintro e w2 ⟨v, rfl, ⟨g, o2, c2, rfl, hc2, hg1, hg2, hcs⟩, hb2⟩
      have HB2 := Lib.hid (bstep HB1.out hb2)
      obtain ⟨pf, hpf⟩ : ∃ pf, putF kind body = pf := ⟨_, rfl⟩
      obtain ⟨n, hn⟩ : ∃ n, (putF kind body).length = n := ⟨_, rfl⟩
      have hr1 : Row w2 w2.heap.size (some ⟨g, o2, none⟩) (bc (putF kind body)) := Lies.row hg2 fun i hi => (hcs i hi).1
      rw [hpf] at hr1
      have HS : Hid (∀ w', Below w2.heap.size w2 w' → PutsReads w2 (some ⟨g, o2, none⟩) n c2 pf A c body w') := Lib.hid (fun w' hb => putsReads hr1 (by rw [← hpf]; exact hn) ((HROW.out.1.below_ HB2.out).more HB2.out.size) w' hb)
      have HC2 := Lib.hid (fun w' => rput4_any kind body w' (by have := HL.out; omega))
      rw [hpf] at HC2
      rw [hn]
      clear hn hpf hcs hb2 hg1 hg2 hc2 HC1 hr1
      go_wp2
      refine wp_region_held_drew (S := fun w' => PutsReads w2 (some ⟨g, o2, none⟩) n c2 pf A c body w') (by kernel_rfl) ?_ (fun hHeld => ?_)
      · (try dsimp only)
        exact HS.out _ (bself w2).drew
      refine wpAnyH_take (i := 0) (v := ?_) rfl (by kernel_rfl) (by kernel_rfl) (by kernel_rfl) (fun _ _ _ h => h) (Or.inl ⟨by rfl, ?_⟩) (by assumption) ?_
      rotate_left
      · intro w hSw
        (try dsimp only at hSw)
        unfold PutsReads at hSw
        obtain ⟨s0, s1, _⟩ := hSw
        go_simp
        try with_reducible rfl
      (try simp only [Act.put, List.getElem_toArray, List.getElem_cons_zero, List.setIfInBounds_toArray, List.set_cons_zero, List.set_cons_succ])
      refine wpAnyH_take (i := 1) (v := ?_) rfl (by kernel_rfl) (by kernel_rfl) (by kernel_rfl) (fun _ _ _ h => h) (Or.inl ⟨by rfl, ?_⟩) (by assumption) ?_
      rotate_left
      · intro w hSw
        (try dsimp only at hSw)
        unfold PutsReads at hSw
        obtain ⟨s0, s1, _⟩ := hSw
        go_simp
        try with_reducible rfl
      (try simp only [Act.put, List.getElem_toArray, List.getElem_cons_succ, List.getElem_cons_zero, List.setIfInBounds_toArray, List.set_cons_zero, List.set_cons_succ])
      refine wpAnyH_take (i := 2) (v := ?_) rfl (by kernel_rfl) (by kernel_rfl) (by kernel_rfl) (fun _ _ _ h => h) (Or.inl ⟨by rfl, ?_⟩) (by assumption) ?_
      rotate_left
      · intro w hSw
        (try dsimp only at hSw)
        unfold PutsReads at hSw
        obtain ⟨s0, s1, _⟩ := hSw
        go_simp
        try with_reducible rfl
      (try simp only [Act.put, List.getElem_toArray, List.getElem_cons_succ, List.getElem_cons_zero, List.setIfInBounds_toArray, List.set_cons_zero, List.set_cons_succ])
      refine wpAnyH_take (i := 3) (v := ?_) rfl (by kernel_rfl) (by kernel_rfl) (by kernel_rfl) (fun _ _ _ h => h) (Or.inl ⟨by rfl, ?_⟩) (by assumption) ?_
      rotate_left
      · intro w hSw
        (try dsimp only at hSw)
        unfold PutsReads at hSw
        obtain ⟨s0, s1, _⟩ := hSw
        go_simp
        try with_reducible rfl
      (try simp only [Act.put, List.getElem_toArray, List.getElem_cons_succ, List.getElem_cons_zero, List.setIfInBounds_toArray, List.set_cons_zero, List.set_cons_succ])
      refine wpAnyH_take (i := 4) (v := ?_) rfl (by kernel_rfl) (by kernel_rfl) (by kernel_rfl) (fun _ _ _ h => h) (Or.inl ⟨by rfl, ?_⟩) (by assumption) ?_
      rotate_left
      · intro w hSw
        (try dsimp only at hSw)
        unfold PutsReads at hSw
        obtain ⟨s0, s1, _⟩ := hSw
        go_simp
        try with_reducible rfl
      (try simp only [Act.put, List.getElem_toArray, List.getElem_cons_succ, List.getElem_cons_zero, List.setIfInBounds_toArray, List.set_cons_zero, List.set_cons_succ])
      refine wpAnyH_take (i := 5) (v := ?_) rfl (by kernel_rfl) (by kernel_rfl) (by kernel_rfl) (fun _ _ _ h => h) (Or.inl ⟨by rfl, ?_⟩) (by assumption) ?_
      rotate_left
      · intro w hSw
        (try dsimp only at hSw)
        unfold PutsReads at hSw
        obtain ⟨s0, s1, _⟩ := hSw
        go_simp
        try with_reducible rfl
      (try simp only [Act.put, List.getElem_toArray, List.getElem_cons_succ, List.getElem_cons_zero, List.setIfInBounds_toArray, List.set_cons_zero, List.set_cons_succ])
      refine wpAnyH_take (i := 6) (v := ?_) rfl (by kernel_rfl) (by kernel_rfl) (by kernel_rfl) (fun _ _ _ h => h) (Or.inl ⟨by rfl, ?_⟩) (by assumption) ?_
      rotate_left
      · intro w hSw
        (try dsimp only at hSw)
        unfold PutsReads at hSw
        obtain ⟨s0, s1, _⟩ := hSw
        go_simp
        try with_reducible rfl
      (try simp only [Act.put, List.getElem_toArray, List.getElem_cons_succ, List.getElem_cons_zero, List.setIfInBounds_toArray, List.set_cons_zero, List.set_cons_succ])
      refine wpAnyH_take (i := 7) (v := ?_) rfl (by kernel_rfl) (by kernel_rfl) (by kernel_rfl) (fun _ _ _ h => h) (Or.inl ⟨by rfl, ?_⟩) (by assumption) ?_
      rotate_left
      · intro w hSw
        (try dsimp only at hSw)
        unfold PutsReads at hSw
        obtain ⟨s0, s1, _⟩ := hSw
        go_simp
        try with_reducible rfl
      (try simp only [Act.put, List.getElem_toArray, List.getElem_cons_succ, List.getElem_cons_zero, List.setIfInBounds_toArray, List.set_cons_zero, List.set_cons_succ])
      refine wpAnyH_ready (rs := [8]) (by kernel_rfl) (by simp) ?_
      refine AllReadyH.cons rfl (fun K hK => ?_) AllReadyH.nil
      go_simp
      (go_at_call 13; ((with_reducible refine (HC2.out _).mono ?_); rintro e w3 ⟨rfl, hb3⟩; have hS := HS.out w3 (bstep hHeld.2.2.out hb3); have HB3 := Lib.hid (bstep hHeld.2.2.out hb3); clear hb3))
      go_wp2_with fail
      refine hK.out _ _ ?_ (fun hHeld => ?_)
      · (try dsimp only)
        (first | exact hS | exact HS.out _ (bself w2).drew)
      clear hK K
      (try simp only [Act.put, List.getElem_toArray, List.getElem_cons_succ, List.getElem_cons_zero, List.setIfInBounds_toArray, List.set_cons_zero, List.set_cons_succ])
      refine wpAnyH_take (i := 9) (v := ?_) rfl (by kernel_rfl) (by kernel_rfl) (by kernel_rfl) (fun _ _ _ h => h) (Or.inl ⟨by rfl, ?_⟩) (by assumption) ?_
      rotate_left
      · intro w hSw
        (try dsimp only at hSw)
        unfold PutsReads at hSw
        obtain ⟨s0, s1, _⟩ := hSw
        go_simp
        try with_reducible rfl
      (try simp only [Act.put, List.getElem_toArray, List.getElem_cons_succ, List.getElem_cons_zero, List.setIfInBounds_toArray, List.set_cons_zero, List.set_cons_succ])
      refine wpAnyH_take (i := 10) (v := ?_) rfl (by kernel_rfl) (by kernel_rfl) (by kernel_rfl) (fun _ _ _ h => h) (Or.inl ⟨by rfl, ?_⟩) (by assumption) ?_
      rotate_left
      · intro w hSw
        (try dsimp only at hSw)
        unfold PutsReads at hSw
        obtain ⟨s0, s1, _⟩ := hSw
        go_simp
        try with_reducible rfl
      (try simp only [Act.put, List.getElem_toArray, List.getElem_cons_succ, List.getElem_cons_zero, List.setIfInBounds_toArray, List.set_cons_zero, List.set_cons_succ])
      refine wpAnyH_take (i := 11) (v := ?_) rfl (by kernel_rfl) (by kernel_rfl) (by kernel_rfl) (fun _ _ _ h => h) (Or.inl ⟨by rfl, ?_⟩) (by assumption) ?_
      rotate_left
      · intro w hSw
        (try dsimp only at hSw)
        unfold PutsReads at hSw
        obtain ⟨s0, s1, _⟩ := hSw
        go_simp
        try with_reducible rfl
      (try simp only [Act.put, List.getElem_toArray, List.getElem_cons_succ, List.getElem_cons_zero, List.setIfInBounds_toArray, List.set_cons_zero, List.set_cons_succ])
      refine wpAnyH_done (by kernel_rfl) ?_ _
      go_wp2
      go_ret
      exact ⟨rfl, bstep HB2.out HB3.out⟩
    · have q2 : (256 : Int) < (body.length : Int) := by omega
      have HC1 := Lib.hid (fun w' : World => fput_long kind A c body.length w' (by omega))
      clear h6 h2
      go_enter Tryd.func3, Tryd.ntmps3
      go_wp2_with fail
      refine HCA.out.mono ?_
      rintro e w1 ⟨rfl, hb1⟩
      have HB1 := Lib.hid hb1
      clear hb1 HCA
      go_wp2_with fail
      refine (HC1.out w1).mono ?_
      rintro e w2 ⟨B2, m2, rfl, hb2⟩
      have HB2 := Lib.hid (bstep HB1.out hb2)
      clear hb2
      go_wp2
      go_ret
      exact ⟨rfl, HB2.out⟩
  · have q6 : (600 : Int) < (body.length : Int) := by omega
    clear h6
    go_enter Tryd.func3, Tryd.ntmps3
    go_wp2_with (go_at_call 11; ((with_reducible refine HCA.out.mono ?_); rintro e w1 ⟨rfl, hb⟩; have HB := Lib.hid hb; clear hb))
    go_ret
    exact ⟨rfl, HB.out⟩
end Go.Proofs.YtpgainalimmecaaDoor
