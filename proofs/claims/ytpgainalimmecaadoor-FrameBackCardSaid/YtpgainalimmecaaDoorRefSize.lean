/-
  Contract of layer 4's reference size: what bytes begin with.
-/
import Derived.Test.YtpgainalimmecaaDoorRefCrcPut
import Derived.Test.YtpgainalimmecaaDoorFrameMath
import Derived.Test.YtpgainalimmecaaDoorPairs
import Derived.Deep.QuietTactic
import Derived.BigQuiet
import Derived.Laws.DeepStrings4
namespace Go.Proofs.YtpgainalimmecaaDoor
open Go.RowKit
set_option linter.unusedVariables false

/-- What size answers. -/
def szI : Sz → Int
  | .no => 0
  | .wait => -1
  | .frame n => (n : Int) + 7

theorem rfits_at (t : ByteArray) (w : World) (hl : t.size ≤ 1000000) {q : Bool} (h : fitsC t.data.toList = q) :
    Calls Tryd.prog 45 #[.string t] w fun e w' => e = .returned (.bool q) ∧ Below w.heap.size w w' := by
  subst h; exact rfits_any t w hl
theorem below_drewN {W w : World} (h : Below W.heap.size W w) (n : Nat) : Below W.heap.size W (w.drewN n) := ⟨h.os, h.tape, h.output, h.size, h.block⟩
theorem toList_get (t : ByteArray) (c : UInt8) (r : List UInt8) (h : t.data.toList = c :: r) (i : Nat) (hi : i < t.size) : t[i] = (c :: r).getD i 0 := by
  have e : t.data.toList.getD i 0 = t[i] := by
    have hi2 : i < t.data.toList.length := by rw [size_toList]; exact hi
    have hd : t.data[i]? = some t[i] := Array.getElem?_eq_getElem (show i < t.data.size from hi)
    simp [List.getD, hd]
  rw [← e, h]

theorem size_facts (n s : Nat) (hb : ¬ (256 : Int) < (n : Int)) (q5 : ¬ (s : Int) < (n : Int) + 7) :
    IntKind.i64.wrap ((n : Int) + 7) = (n : Int) + 7 ∧ (0 ≤ (n : Int) + 7 ∧ (n : Int) + 7 ≤ (s : Int)) ∧ ((0 : Int) ≤ 1 ∧ (1 : Int) ≤ (n : Int) + 7) ∧ ((n : Int) + 7).toNat = n + 7 :=
  ⟨IntWalk.i64_in _ (by omega), by omega, by omega, by omega⟩

set_option maxRecDepth 100000 in
theorem rsize_full (t : ByteArray) (n : Nat) (x2 x3 : Int) (v : Int) (q : Bool) (w : World) (hl : t.size ≤ 1000000) (g0 : 0 < t.size) (g2 : 2 < t.size) (g3 : 3 < t.size)
    (q0 : (t[0].toNat : Int) = 165) (hx2 : (t[2].toNat : Int) = x2) (hx3 : (t[3].toNat : Int) = x3)
    (d2 : 0 ≤ x2 ∧ x2 < 256) (d3 : 0 ≤ x3 ∧ x3 < 256) (q3 : x2 * 256 + x3 = (n : Int)) (hb : ¬ (256 : Int) < (n : Int)) (q5 : ¬ (t.size : Int) < (n : Int) + 7)
    (hf : fitsC (t.extract 1 (n + 7)).data.toList = q) (hv : (if q then (n : Int) + 7 else 0) = v) :
    Calls Tryd.prog 41 #[.string t] w fun e w' => e = .returned (.int .i64 v) ∧ Below w.heap.size w w' := by
  have HX := Lib.hid (show (t.extract 1 (n + 7)).size ≤ 1000000 by rw [ByteArray.size_extract]; omega)
  have HF := Lib.hid hf
  have HV := Lib.hid hv
  have k0 : wrap64 x2 = x2 := by unfold wrap64; omega
  have k1 : wrap64 x3 = x3 := by unfold wrap64; omega
  have k2 : wrap64 (x2 * 256) = x2 * 256 := by unfold wrap64; omega
  have k3 : wrap64 (n : Int) = (n : Int) := by unfold wrap64; omega
  have K := Lib.hid (size_facts n t.size hb q5)
  have M := Lib.hid (And.intro (show ¬ (t.size : Int) < 4 by omega) (And.intro hb (And.intro q5 (And.intro q3 k3))))
  clear d2 d3 hf hv hb q5 q3 k3
  have q4 := M.out.1
  go_enter Tryd.func41, Tryd.ntmps41
  go_wp2
  clear q4
  go_quiet (fail)
  obtain ⟨q4, hb, q5, q3, k3⟩ := M.out
  (try simp only [k0, k1, k2, q3, k3])
  clear k0 k1 k2 k3 q3 g0 g2 g3 q0 hx2 hx3 q4 M
  obtain ⟨k7, k8, k9, k10⟩ := K.out
  clear K
  go_wp2_with (go_at_call 45; (with_reducible refine (rfits_at _ _ HX.out HF.out).mono ?_); rintro e w1 ⟨rfl, hb1⟩)
  · rename_i h9
    go_ret
    have hq : q = false := by clear HX HF HV; revert h9; cases q <;> simp
    exact ⟨by rw [← HV.out, hq, if_neg (by decide)]; rfl, bstep (below_drewN (bself _) _) hb1⟩
  · rename_i h9
    go_ret
    have hq : q = true := by clear HX HF HV; revert h9; cases q <;> simp
    exact ⟨by rw [← HV.out, hq, if_pos rfl]; rfl, bstep (below_drewN (bself _) _) hb1⟩

set_option maxRecDepth 100000 in
theorem rsize_few (t : ByteArray) (n : Nat) (x2 x3 : Int) (v : Int) (w : World) (g0 : 0 < t.size) (g2 : 2 < t.size) (g3 : 3 < t.size)
    (q0 : (t[0].toNat : Int) = 165) (hx2 : (t[2].toNat : Int) = x2) (hx3 : (t[3].toNat : Int) = x3)
    (d2 : 0 ≤ x2 ∧ x2 < 256) (d3 : 0 ≤ x3 ∧ x3 < 256) (q3 : x2 * 256 + x3 = (n : Int)) (q4 : ¬ (t.size : Int) < 4)
    (hv : (256 : Int) < (n : Int) ∧ v = 0 ∨ ¬ (256 : Int) < (n : Int) ∧ (t.size : Int) < (n : Int) + 7 ∧ v = -1) :
    Calls Tryd.prog 41 #[.string t] w fun e w' => e = .returned (.int .i64 v) ∧ Below w.heap.size w w' := by
  have k0 : wrap64 x2 = x2 := by unfold wrap64; omega
  have k1 : wrap64 x3 = x3 := by unfold wrap64; omega
  have k2 : wrap64 (x2 * 256) = x2 * 256 := by unfold wrap64; omega
  have k3 : wrap64 (n : Int) = (n : Int) := by unfold wrap64; omega
  have k7 : ¬ (256 : Int) < (n : Int) → IntKind.i64.wrap ((n : Int) + 7) = (n : Int) + 7 := fun h => IntWalk.i64_in _ (by clear k0 k1 k2 k3 q3 hv; omega)
  have M := Lib.hid (And.intro hv (And.intro k7 (And.intro q3 k3)))
  clear d2 d3 q3 hv k3 k7
  go_enter Tryd.func41, Tryd.ntmps41
  go_wp2
  clear q4
  go_quiet (fail)
  obtain ⟨hv, k7, q3, k3⟩ := M.out
  (try simp only [k0, k1, k2, q3, k3])
  clear k0 k1 k2 k3 q3 g0 g2 g3 q0 hx2 hx3 M
  rcases hv with ⟨hb, hv⟩ | ⟨hb, q5, hv⟩
  · clear k7
    go_wp2
    go_ret
    exact ⟨by rw [hv]; rfl, below_drewN (bself _) _⟩
  · replace k7 := k7 hb
    go_wp2
    go_ret
    exact ⟨by rw [hv]; rfl, below_drewN (bself _) _⟩

set_option maxRecDepth 100000 in
set_option maxHeartbeats 1000000 in
theorem rsize_any (t : ByteArray) (c : UInt8) (r : List UInt8) (w : World) (ht : t.data.toList = c :: r) (hl : t.size ≤ 1000000) :
    Calls Tryd.prog 41 #[.string t] w fun e w' => e = .returned (.int .i64 (szI (szF (c :: r)))) ∧ Below w.heap.size w w' := by
  have hs : t.size = r.length + 1 := by rw [← size_toList, ht]; rfl
  have h0 : t[0]'(by omega) = c := toList_get t c r ht 0 (by omega)
  have hz : 0 < t.size := by omega
  by_cases hc : c = 165
  · by_cases h4 : r.length < 3
    · have HE := Lib.hid (show szF (c :: r) = .wait by rw [sz_cons, if_pos hc, if_pos h4])
      have q0 : (t[0].toNat : Int) = 165 := by rw [h0, hc]; rfl
      have q1 : (t.size : Int) < 4 := by omega
      clear h0 hs ht hc
      go_enter Tryd.func41, Tryd.ntmps41
      go_wp2
      go_ret
      exact ⟨by rw [HE.out]; rfl, Below.refl _ _⟩
    · obtain ⟨n, hn⟩ : ∃ n, n = lenF r := ⟨_, rfl⟩
      have q0 : (t[0].toNat : Int) = 165 := by rw [h0, hc]; rfl
      have q1 : ¬ (t.size : Int) < 4 := by omega
      have g2 : 2 < t.size := by omega
      have g3 : 3 < t.size := by omega
      have q2 : ((t[2].toNat : Int)) * 256 + (t[3].toNat : Int) = (n : Int) := by
        rw [toList_get t c r ht 2 g2, toList_get t c r ht 3 g3, hn]
        unfold lenF
        simp [List.getD]
      obtain ⟨x2, hx2⟩ : ∃ x2 : Int, (t[2].toNat : Int) = x2 := ⟨_, rfl⟩
      obtain ⟨x3, hx3⟩ : ∃ x3 : Int, (t[3].toNat : Int) = x3 := ⟨_, rfl⟩
      have d2 : 0 ≤ x2 ∧ x2 < 256 := by rw [← hx2]; have := t[2].toNat_lt; omega
      have d3 : 0 ≤ x3 ∧ x3 < 256 := by rw [← hx3]; have := t[3].toNat_lt; omega
      have q3 : x2 * 256 + x3 = (n : Int) := by rw [← hx2, ← hx3]; exact q2
      by_cases hb : 256 < n
      · have HE : szF (c :: r) = .no := by rw [sz_cons, if_pos hc, if_neg h4, ← hn, if_pos hb]
        rw [HE]
        exact rsize_few t n x2 x3 _ w hz g2 g3 q0 hx2 hx3 d2 d3 q3 q1 (Or.inl ⟨Int.ofNat_lt.2 hb, rfl⟩)
      · have hb2 : ¬ (256 : Int) < (n : Int) := fun h => hb (Int.ofNat_lt.1 h)
        by_cases hw : r.length < n + 6
        · have HE : szF (c :: r) = .wait := by rw [sz_cons, if_pos hc, if_neg h4, ← hn, if_neg hb, if_pos hw]
          rw [HE]
          exact rsize_few t n x2 x3 _ w hz g2 g3 q0 hx2 hx3 d2 d3 q3 q1 (Or.inr ⟨hb2, by rw [hs]; clear q3 q2 d2 d3; omega, rfl⟩)
        · have hex : (t.extract 1 (n + 7)).data.toList = r.take (n + 6) := by
            have := extract_toList t 1 (n + 7)
            rw [ByteArray.toList_eq, ht] at this
            rw [this]
            simp
          refine rsize_full t n x2 x3 _ (fitsC (r.take (n + 6))) w hl hz g2 g3 q0 hx2 hx3 d2 d3 q3 hb2 (by rw [hs]; clear q3 q2 d2 d3; omega) (by rw [hex]) ?_
          rw [sz_cons, if_pos hc, if_neg h4, ← hn, if_neg hb, if_neg hw]
          cases fitsC (r.take (n + 6)) <;> rfl
  · have HE := Lib.hid (show szF (c :: r) = .no by rw [sz_cons, if_neg hc])
    have q0 : ¬ (t[0].toNat : Int) = 165 := by rw [h0]; intro e; exact hc (UInt8.toNat_inj.1 (by show c.toNat = 165; omega))
    clear h0 hs ht hc
    go_enter Tryd.func41, Tryd.ntmps41
    go_wp2
    go_ret
    exact ⟨by rw [HE.out]; rfl, Below.refl _ _⟩
end Go.Proofs.YtpgainalimmecaaDoor
