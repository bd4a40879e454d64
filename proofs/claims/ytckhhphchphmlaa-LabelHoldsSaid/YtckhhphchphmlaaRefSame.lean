/-
  Contracts of layer 5's reference: Same, Holds.
-/
import Derived.Test.YtckhhphchphmlaaRefAhead
namespace Go.Proofs.Ytckhhphchphmlaa
open Go.RowKit
set_option linter.unusedVariables false

theorem take_same {a b : List Pr} {k : Nat} (ha : k < a.length) (hb : k < b.length) (h : a.take k = b.take k) (e : a[k] = b[k]) : a.take (k + 1) = b.take (k + 1) := by
  rw [List.take_succ_eq_append_getElem ha, List.take_succ_eq_append_getElem hb, h, e]
set_option maxRecDepth 100000 in
theorem rsame_any (A0 : Option Addr) (n0 c0 : Nat) (a : List Pr) (A : Option Addr) (n c : Nat) (b : List Pr) (w : World) (ha : Props w w.heap.size (.slice A0 n0 c0) a) (hb : Props w w.heap.size (.slice A n c) b) (hm : a.length ≤ 100000 ∧ b.length ≤ 100000) {q : Bool} (hq : decide (a = b) = q) :
    Calls Try.prog 13 #[.slice A0 n0 c0, .slice A n c] w fun e w' => e = .returned (.bool q) ∧ Below w.heap.size w w' := by
  obtain ⟨hn0, _⟩ := ha.len
  obtain ⟨hn, _⟩ := hb.len
  have HA := Lib.hid ha
  have HB := Lib.hid hb
  have HN := Lib.hid (And.intro hn0 hn)
  have HQ := Lib.hid hq
  have hk9 : (n0 : Int) ≤ 100000 := by omega
  by_cases hne : n0 = n
  · subst hne
    have h1 : ((n0 : Int) != (n0 : Int)) = false := by simp
    clear ha hb hm hn hn0 hq
    go_enter Try.func13, Try.ntmps13
    go_wp2
    go_loopw [5] (fun i wr => ∃ (k : Nat), k ≤ n0 ∧ i = .int .i64 k ∧ Hid (Below w.heap.size w wr ∧ a.take k = b.take k)) (fun i _ => n0 - (intOf i).toNat)
    case atStart => exact ⟨0, Nat.zero_le _, rfl, Lib.hid ⟨bself w, by simp⟩⟩
    case round =>
      obtain ⟨k, hk, rfl, HP⟩ := hrel
      by_cases hlt : k < n0
      · have hka : k < a.length := by have := HN.out; omega
        have hkb : k < b.length := by have := HN.out; omega
        obtain ⟨ba, oa, rfl⟩ := HA.out.some_ (by omega)
        obtain ⟨bb, ob, rfl⟩ := HB.out.some_ (by omega)
        obtain ⟨hba, ca0, ca1⟩ := HA.out.cells k hka
        obtain ⟨hbb, cb0, cb1⟩ := HB.out.cells k hkb
        have e0 := (HP.out.1.cell (p := ⟨ba, oa + k * 2, none⟩) hba).trans ca0
        have e1 := (HP.out.1.cell (p := ⟨ba, oa + k * 2 + 1, none⟩) hba).trans ca1
        have g0 := (HP.out.1.cell (p := ⟨bb, ob + k * 2, none⟩) hbb).trans cb0
        have g1 := (HP.out.1.cell (p := ⟨bb, ob + k * 2 + 1, none⟩) hbb).trans cb1
        have hneq := fun w' => run_neq_pr w' a[k] b[k]
        have hlt2 : ((k : Nat) : Int) < (n0 : Int) := by omega
        have HK := Lib.hid (And.intro hka hkb)
        by_cases hab : a[k] = b[k]
        · have HAB := Lib.hid (take_same hka hkb HP.out.2 hab)
          rw [decide_eq_true hab] at hneq
          generalize a[k] = x at e0 e1 hneq
          generalize b[k] = y at g0 g1 hneq
          clear ca0 ca1 cb0 cb1 hab
          go_wp2
          go_quiet (fail)
          have HP2 := Lib.hid (And.intro (bstep HP.out.1 (below_dN wr nq)) HAB.out)
          go_wp2
          go_roundw
          case rel => exact ⟨k + 1, by omega, by go_num, HP2⟩
          case measure => simp [intOf]; omega
        · have HAB : Hid (a ≠ b) := Lib.hid fun e => hab (by subst e; rfl)
          rw [decide_eq_false hab] at hneq
          generalize a[k] = x at e0 e1 hneq
          generalize b[k] = y at g0 g1 hneq
          clear ca0 ca1 cb0 cb1 hab
          go_wp2
          go_quiet (fail)
          have HP2 := Lib.hid (bstep HP.out.1 (below_dN wr nq))
          go_wp2
          go_ret
          refine ⟨?_, HP2.out⟩
          rw [← HQ.out, decide_eq_false HAB.out]
          rfl
      · have hlt2 : ¬ ((k : Nat) : Int) < (n0 : Int) := by omega
        have HK := Lib.hid (show k = a.length ∧ k = b.length by have := HN.out; omega)
        go_wp2
        go_ret
        obtain ⟨h1, h2⟩ := HP.out
        refine ⟨?_, h1⟩
        have e : a = b := by
          have ea := List.take_length (l := a)
          have eb := List.take_length (l := b)
          rw [← HK.out.1] at ea
          rw [← HK.out.2] at eb
          rw [← ea, ← eb]
          exact h2
        rw [← HQ.out, decide_eq_true e]
        rfl
  · have h1 : ((n0 : Int) != (n : Int)) = true := by rw [bne_iff_ne]; omega
    have HNE : Hid (a ≠ b) := Lib.hid fun e => hne (by rw [hn0, hn, e])
    clear ha hb hm hn hn0 hq hne
    go_enter Try.func13, Try.ntmps13
    go_wp2
    go_ret
    refine ⟨?_, bself w⟩
    rw [← HQ.out, decide_eq_false HNE.out]
    rfl
end Go.Proofs.Ytckhhphchphmlaa
