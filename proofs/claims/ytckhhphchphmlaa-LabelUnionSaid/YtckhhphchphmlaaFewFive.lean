/-
  Contract of layer 5's law's 'few'.
-/
import Derived.Test.YtckhhphchphmlaaProps
namespace Go.Proofs.Ytckhhphchphmlaa
open Go.RowKit
set_option linter.unusedVariables false

def shortP (p : Pr) : Bool := decide (p.name.length ≤ 40)
def fewL (l : List Pr) : Bool := l.all shortP && decide (l.length ≤ 40)
theorem few_len {l : List Pr} (h : fewL l = true) : l.length ≤ 40 := by
  unfold fewL at h
  rw [Bool.and_eq_true, decide_eq_true_eq] at h
  exact h.2
theorem few_bad {l : List Pr} {k : Nat} (hk : k < l.length) (h : 40 < l[k].name.length) : fewL l = false := by
  unfold fewL
  have : l.all shortP = false := by
    rw [List.all_eq_false]
    exact ⟨l[k], List.getElem_mem hk, by unfold shortP; rw [decide_eq_true_eq]; omega⟩
  rw [this]
  rfl
theorem few_next {l : List Pr} {k : Nat} (hk : k < l.length) (h : (l.take k).all shortP = true) (h2 : ¬ 40 < l[k].name.length) : (l.take (k + 1)).all shortP = true := by
  rw [List.take_succ_eq_append_getElem hk, List.all_append, h]
  simp [shortP]
  omega
set_option maxRecDepth 100000 in
theorem few5_any (A : Option Addr) (n c : Nat) (l : List Pr) (w : World) (hl : Props w w.heap.size (.slice A n c) l) (hm : l.length ≤ 4611686018427387904) {q : Bool} (hq : fewL l = q) :
    Calls Try.prog 12 #[.slice A n c] w fun e w' => e = .returned (.bool q) ∧ w' = w := by
  obtain ⟨hn, _⟩ := hl.len
  have HL := Lib.hid hl
  have HN := Lib.hid hn
  have HQ := Lib.hid hq
  have hk9 : (n : Int) ≤ 4611686018427387904 := by omega
  clear hl hm hn hq
  go_enter Try.func12, Try.ntmps12
  go_wp2
  go_loop [3] (fun i => ∃ (k : Nat), k ≤ n ∧ i = .int .i64 k ∧ Hid ((l.take k).all shortP = true)) (fun i => n - (intOf i).toNat)
  case atStart => exact ⟨0, Nat.zero_le _, rfl, Lib.hid rfl⟩
  case round =>
    obtain ⟨k, hk, rfl, HP⟩ := hrel
    by_cases hlt : k < n
    · have hkl : k < l.length := by have := HN.out; omega
      obtain ⟨bb, off, rfl⟩ := HL.out.some_ (by omega)
      obtain ⟨hbb, e0, e1⟩ := HL.out.cells k hkl
      have hlt2 : ((k : Nat) : Int) < (n : Int) := by omega
      have hsz : (mkB l[k].name).size = l[k].name.length := mkB_size _
      by_cases hs : 40 < l[k].name.length
      · have HB := Lib.hid (few_bad hkl hs)
        generalize l[k] = x at e0 e1 hsz hs
        generalize x.name.length = z at hsz hs
        have hs2 : (40 : Int) < (z : Int) := by omega
        clear hs
        go_wp2
        go_ret
        exact ⟨by rw [← HQ.out, HB.out]; rfl, rfl⟩
      · have HB := Lib.hid (few_next hkl HP.out hs)
        generalize l[k] = x at e0 e1 hsz hs
        generalize x.name.length = z at hsz hs
        have hs2 : ¬ (40 : Int) < (z : Int) := by omega
        clear hs
        go_wp2
        go_round
        case rel => exact ⟨k + 1, by omega, by go_num, HB⟩
        case measure => simp [intOf]; omega
    · have hlt2 : ¬ ((k : Nat) : Int) < (n : Int) := by omega
      have HK := Lib.hid (show k = l.length by have := HN.out; omega)
      go_wp2
      go_ret
      refine ⟨?_, rfl⟩
      have h := HP.out
      rw [HK.out, List.take_length] at h
      have hn2 := HN.out
      rw [← HQ.out]
      unfold fewL
      rw [h]
      have e : decide (l.length ≤ 40) = decide ((n : Int) ≤ 40) := decide_eq_decide.2 (by omega)
      rw [e]
      rfl
end Go.Proofs.Ytckhhphchphmlaa
