/-
  Contract of layer 4's law's 'few'.
-/
import Derived.Test.YtpgainalimmecaaDoorTouch
namespace Go.Proofs.YtpgainalimmecaaDoor
open Go.RowKit
set_option linter.unusedVariables false

/-- Are bytes few? -/
def fewB (ls : List (List UInt8)) : Bool := decide (lenB ls ≤ 1500) && decide (ls.length ≤ 60)
theorem fewB_iff (ls : List (List UInt8)) : fewB ls = true ↔ lenB ls ≤ 1500 ∧ ls.length ≤ 60 := by simp [fewB]
theorem fewB_no (ls : List (List UInt8)) (h : ¬ lenB ls ≤ 1500) : fewB ls = false := by unfold fewB; rw [decide_eq_false h]; rfl

set_option maxRecDepth 100000 in
set_option maxHeartbeats 1000000 in
theorem few_any (v : Value) (ls : List (List UInt8)) (B : Nat) (w : World) (hv : Blobs w B v ls) (hl : ls.length ≤ 4611686018427387904) :
    Calls Tryd.prog 23 #[v] w fun e w' => e = .returned (.bool (fewB ls)) ∧ w = w' := by
  obtain ⟨A, c, rfl, hc⟩ := hv.open_
  have HV := Lib.hid hv
  have HL := Lib.hid hl
  clear hv hl hc
  go_enter Tryd.func23, Tryd.ntmps23
  go_wp2
  go_loop [3, 4] (fun n i => ∃ k : Nat, k ≤ ls.length ∧ i = .int .i64 k ∧ n = .int .i64 (lenB (ls.take k) : Nat) ∧ lenB (ls.take k) ≤ 1500) (fun _ i => ls.length - (intOf i).toNat)
  case atStart => exact ⟨0, Nat.zero_le _, rfl, rfl, Nat.zero_le _⟩
  case round =>
    obtain ⟨k, hk, rfl, rfl, hn⟩ := hrel
    by_cases hlt : k < ls.length
    · have hkl : (k : Int) ≤ 4611686018427387904 := by have := HL.out; omega
      obtain ⟨b, off, c', A', m, e, hb, hc, hr, hm, _⟩ := HV.out.at_ k hlt
      simp only [Value.slice.injEq] at e
      obtain ⟨rfl, _, rfl⟩ := e
      have HT := Lib.hid (lenB_take ls k hlt)
      have HE := Lib.hid (lenB_le ls (k + 1))
      generalize ls[k] = x at hc hr hm HT
      generalize lenB (ls.take k) = s at hn HT
      clear hr
      by_cases h1 : x.length ≤ 1500
      · by_cases h2 : s + x.length ≤ 1500
        · have hz : (x.length : Int) ≤ 1500 := by omega
          have hz2 : (s : Int) + (x.length : Int) ≤ 1500 := by omega
          go_wp2
          go_round
          case rel => exact ⟨k + 1, by omega, by go_num, by rw [HT.out]; go_num, by rw [HT.out]; omega⟩
          case measure => simp [intOf]; omega
        · have hz : (x.length : Int) ≤ 1500 := by omega
          have hz2 : (1500 : Int) < (s : Int) + (x.length : Int) := by omega
          have HF := Lib.hid (fewB_no ls (by have := HT.out; have := HE.out; omega))
          go_wp2
          go_ret
          exact ⟨by rw [HF.out]; rfl, rfl⟩
      · have hz : (1500 : Int) < (x.length : Int) := by omega
        have HF := Lib.hid (fewB_no ls (by have := HT.out; have := HE.out; omega))
        go_wp2
        go_ret
        exact ⟨by rw [HF.out]; rfl, rfl⟩
    · obtain rfl : k = ls.length := by omega
      have hf : fewB ls = decide (ls.length ≤ 60) := by
        unfold fewB
        rw [List.take_length] at hn
        rw [decide_eq_true hn]; rfl
      have HF := Lib.hid hf
      clear hf
      go_wp2
      go_ret
      exact ⟨by rw [HF.out]; simp; omega, rfl⟩
end Go.Proofs.YtpgainalimmecaaDoor
