/-
  Contract of frame's size: what bytes begin with.
-/
import Derived.Test.YthnkiabhfcddaaaDoorPackN
import Derived.Test.YthnkiabhfcddaaaDoorPackQ
import Derived.Laws.BitsLemmas
namespace Go.Proofs.YthnkiabhfcddaaaDoor
open Go.RowKit
set_option linter.unusedVariables false

/-- What size answers of bytes. -/
def SzDid (s : List UInt8) (z : Int) : Prop := match szF s with | .no => z = 0 | .wait => (s.length : Int) < z ∧ z ≤ 1000000 | .frame n => z = (n : Int) + 7

set_option maxRecDepth 100000 in
theorem fsize_far (X off c n : Nat) (x0 : Int) (w : World) (hn : n ≤ c) (h0 : 0 < n) (c0 : w.cell? ⟨X, off, none⟩ = some (.int .u8 x0)) (hx0 : ¬ x0 = 165) :
    Calls Tryd.prog 76 #[.slice (some ⟨X, off, none⟩) n c] w fun e w' => e = .returned (.int .i64 0) ∧ w = w' := by
  have h1 : (x0 != 165) = true := bne_iff_ne.2 hx0
  have h2 : (0 : Int) < (n : Int) := by omega
  go_enter Tryd.func76, Tryd.ntmps76
  go_wp2
  go_ret
  exact ⟨rfl, rfl⟩

set_option maxRecDepth 100000 in
theorem fsize_few (X off c n : Nat) (w : World) (hn : n ≤ c) (h0 : 0 < n) (c0 : w.cell? ⟨X, off, none⟩ = some (.int .u8 165)) (h4 : n < 4) :
    Calls Tryd.prog 76 #[.slice (some ⟨X, off, none⟩) n c] w fun e w' => e = .returned (.int .i64 4) ∧ w = w' := by
  have h2 : (0 : Int) < (n : Int) := by omega
  have h3 : (n : Int) < 4 := by omega
  go_enter Tryd.func76, Tryd.ntmps76
  go_wp2
  go_ret
  exact ⟨rfl, rfl⟩

theorem or_join (x2 x3 : Int) (m : Nat) (d2 : 0 ≤ x2 ∧ x2 < 256) (d3 : 0 ≤ x3 ∧ x3 < 256) (hm : x2 * 256 + x3 = (m : Int)) : Go.bits .or .i64 (x2 * 256) x3 = (m : Int) := by
  rw [← hm]
  exact bits_join .i64 16 (by decide) (fun n h0 h1 => IntWalk.i64_in n (by omega)) 8 (x2 * 256) x3 (by omega) (by omega) (by omega) d3.1 (by omega) (by omega)

set_option maxRecDepth 100000 in
theorem fsize_long (X off c n m : Nat) (x2 x3 : Int) (w : World) (hn : n ≤ c) (h4 : 4 ≤ n) (c0 : w.cell? ⟨X, off, none⟩ = some (.int .u8 165)) (c2 : w.cell? ⟨X, off + 2, none⟩ = some (.int .u8 x2)) (c3 : w.cell? ⟨X, off + 3, none⟩ = some (.int .u8 x3)) (d2 : 0 ≤ x2 ∧ x2 < 256) (d3 : 0 ≤ x3 ∧ x3 < 256) (hm : x2 * 256 + x3 = (m : Int)) (hb : 256 < m) :
    Calls Tryd.prog 76 #[.slice (some ⟨X, off, none⟩) n c] w fun e w' => e = .returned (.int .i64 0) ∧ Below w.heap.size w w' := by
  have h2 : (0 : Int) < (n : Int) := by omega
  have h3 : ¬ (n : Int) < 4 := by omega
  have h5 : (2 : Int) < (n : Int) := by omega
  have h6 : (3 : Int) < (n : Int) := by omega
  have h7 := or_join x2 x3 m d2 d3 hm
  have h8 : (256 : Int) < (m : Int) := by omega
  go_enter Tryd.func76, Tryd.ntmps76
  go_wp2
  go_region
  (try simp only [h7])
  go_wp2
  go_ret
  exact ⟨rfl, (bself _).drew⟩

set_option maxRecDepth 100000 in
theorem fsize_short (X off c n m : Nat) (x2 x3 : Int) (w : World) (hn : n ≤ c) (h4 : 4 ≤ n) (c0 : w.cell? ⟨X, off, none⟩ = some (.int .u8 165)) (c2 : w.cell? ⟨X, off + 2, none⟩ = some (.int .u8 x2)) (c3 : w.cell? ⟨X, off + 3, none⟩ = some (.int .u8 x3)) (d2 : 0 ≤ x2 ∧ x2 < 256) (d3 : 0 ≤ x3 ∧ x3 < 256) (hm : x2 * 256 + x3 = (m : Int)) (hb : m ≤ 256) (hnm : n < m + 7) :
    Calls Tryd.prog 76 #[.slice (some ⟨X, off, none⟩) n c] w fun e w' => e = .returned (.int .i64 ((m : Int) + 7)) ∧ Below w.heap.size w w' := by
  have h2 : (0 : Int) < (n : Int) := by omega
  have h3 : ¬ (n : Int) < 4 := by omega
  have h5 : (2 : Int) < (n : Int) := by omega
  have h6 : (3 : Int) < (n : Int) := by omega
  have h7 := or_join x2 x3 m d2 d3 hm
  have h8 : ¬ (256 : Int) < (m : Int) := by omega
  have HM := Lib.hid (show ¬ ((4 : Int) + (m : Int) + 3 ≤ (n : Int)) ∧ IntKind.i64.wrap (4 + (m : Int)) = 4 + (m : Int) ∧ IntKind.i64.wrap (4 + (m : Int) + 3) = 4 + (m : Int) + 3 from ⟨by omega, IntWalk.i64_in _ (by omega), IntWalk.i64_in _ (by omega)⟩)
  clear hb hnm
  go_enter Tryd.func76, Tryd.ntmps76
  go_wp2
  go_region
  (try simp only [h7])
  clear h7 hm d2 d3
  obtain ⟨k1, k2, k3⟩ := HM.out
  go_wp2
  go_ret
  exact ⟨by rw [show (m : Int) + 7 = 4 + (m : Int) + 3 by omega]; rfl, (bself _).drew⟩

set_option maxRecDepth 100000 in
theorem fsize_full (W : World) (hT : Tabs W) (X off c n m : Nat) (x2 x3 : Int) (w : World) (hW : Below W.heap.size W w) (t : List UInt8) (q : Bool) (hn : n ≤ c) (h4 : 4 ≤ n) (c0 : w.cell? ⟨X, off, none⟩ = some (.int .u8 165)) (c2 : w.cell? ⟨X, off + 2, none⟩ = some (.int .u8 x2)) (c3 : w.cell? ⟨X, off + 3, none⟩ = some (.int .u8 x3)) (d2 : 0 ≤ x2 ∧ x2 < 256) (d3 : 0 ≤ x3 ∧ x3 < 256) (hm : x2 * 256 + x3 = (m : Int)) (hb : m ≤ 256) (hnm : m + 7 ≤ n)
    (ht : t.length = m + 6) (hr : Row w w.heap.size (some ⟨X, off + 1, none⟩) (bc t)) (hq : fitsC t = q) (v : Int) (hv : (if q = true then (m : Int) + 7 else 0) = v) :
    Calls Tryd.prog 76 #[.slice (some ⟨X, off, none⟩) n c] w fun e w' => e = .returned (.int .i64 v) ∧ Below w.heap.size w w' := by
  have h2 : (0 : Int) < (n : Int) := by omega
  have h3 : ¬ (n : Int) < 4 := by omega
  have h5 : (2 : Int) < (n : Int) := by omega
  have h6 : (3 : Int) < (n : Int) := by omega
  have h7 := or_join x2 x3 m d2 d3 hm
  have h8 : ¬ (256 : Int) < (m : Int) := by omega
  have HM := Lib.hid (show ((4 : Int) + (m : Int) + 3 ≤ (n : Int)) ∧ IntKind.i64.wrap (4 + (m : Int)) = 4 + (m : Int) ∧ IntKind.i64.wrap (4 + (m : Int) + 3) = 4 + (m : Int) + 3 ∧ (1 : Int) ≤ 4 + (m : Int) + 3 ∧ 4 + (m : Int) + 3 ≤ (c : Int) ∧ (4 + (m : Int) + 3).toNat = m + 7 from ⟨by omega, IntWalk.i64_in _ (by omega), IntWalk.i64_in _ (by omega), by omega, by omega, by omega⟩)
  have HC : Hid (Calls Tryd.prog 86 #[.slice (some ⟨X, off + 1, none⟩) (m + 6) (c - 1)] w.drew fun e w' => e = .returned (.bool q) ∧ Below w.heap.size w w') := by
    refine Lib.hid ?_
    have h := cfits_any W hT (some ⟨X, off + 1, none⟩) (c - 1) t w.drew hW.drew hr (by omega) (by omega)
    rw [ht, hq] at h
    exact h.mono fun e w' h => ⟨h.1, bstep (bself w).drew h.2⟩
  have HV := Lib.hid hv
  clear hb hnm ht hr hq hW hT hv
  go_enter Tryd.func76, Tryd.ntmps76
  go_wp2
  go_region
  (try simp only [h7])
  clear h7 hm d2 d3
  obtain ⟨k1, k2, k3, k4, k5, k6⟩ := HM.out
  go_wp2_with (go_at_call 86; (with_reducible refine HC.out.mono ?_); rintro e w1 ⟨rfl, hb⟩)
  all_goals rename_i h9
  · go_ret
    have hq : q = false := by clear HC HV; revert h9; cases q <;> simp
    exact ⟨by rw [← HV.out, hq, if_neg (by decide)]; rfl, hb⟩
  · go_ret
    have hq : q = true := by clear HC HV; revert h9; cases q <;> simp
    exact ⟨by rw [← HV.out, hq, if_pos rfl, show (m : Int) + 7 = 4 + (m : Int) + 3 by omega]; rfl, hb⟩

theorem fsize_any (W : World) (hT : Tabs W) (X off c : Nat) (s : List UInt8) (w : World) (hW : Below W.heap.size W w) (hX : X < w.heap.size) (hc : ∀ i (h : i < s.length), w.cell? ⟨X, off + i, none⟩ = some (.int .u8 (s[i].toNat : Int))) (hs : 0 < s.length) (hlc : s.length ≤ c) (hl : s.length ≤ 900000) :
    Calls Tryd.prog 76 #[.slice (some ⟨X, off, none⟩) s.length c] w fun e w' => ∃ z, e = .returned (.int .i64 z) ∧ SzDid s z ∧ Below w.heap.size w w' := by
  cases s with
  | nil => simp at hs
  | cons ch r =>
    have hn : (ch :: r).length = r.length + 1 := rfl
    have c0 := hc 0 hs
    rw [Nat.add_zero] at c0
    by_cases hch : ch = 165
    · subst hch
      by_cases h4 : r.length < 3
      · refine (fsize_few X off c _ w hlc hs c0 (by rw [hn]; omega)).mono fun e w' h => ⟨4, h.1, ?_, by rw [h.2]; exact Below.refl _ _⟩
        unfold SzDid
        rw [sz_cons, if_pos rfl, if_pos h4]
        show ((165 :: r : List UInt8).length : Int) < 4 ∧ (4 : Int) ≤ 1000000
        rw [hn]
        omega
      · obtain ⟨n, hnl⟩ : ∃ n, n = lenF r := ⟨_, rfl⟩
        have c2 := hc 2 (by rw [hn]; omega)
        have c3 := hc 3 (by rw [hn]; omega)
        have q2 : (((165 :: r : List UInt8)[2]'(by rw [hn]; omega)).toNat : Int) * 256 + (((165 :: r : List UInt8)[3]'(by rw [hn]; omega)).toNat : Int) = (n : Int) := by
          rw [hnl]
          unfold lenF
          simp [List.getD, List.getElem?_eq_getElem (show 1 < r.length by omega), List.getElem?_eq_getElem (show 2 < r.length by omega)]
        obtain ⟨x2, hx2⟩ : ∃ x2 : Int, (((165 :: r : List UInt8)[2]'(by rw [hn]; omega)).toNat : Int) = x2 := ⟨_, rfl⟩
        obtain ⟨x3, hx3⟩ : ∃ x3 : Int, (((165 :: r : List UInt8)[3]'(by rw [hn]; omega)).toNat : Int) = x3 := ⟨_, rfl⟩
        have d2 : 0 ≤ x2 ∧ x2 < 256 := by rw [← hx2]; have := ((165 :: r : List UInt8)[2]'(by rw [hn]; omega)).toNat_lt; omega
        have d3 : 0 ≤ x3 ∧ x3 < 256 := by rw [← hx3]; have := ((165 :: r : List UInt8)[3]'(by rw [hn]; omega)).toNat_lt; omega
        rw [hx2] at c2
        rw [hx3] at c3
        rw [hx2, hx3] at q2
        by_cases hb : 256 < n
        · refine (fsize_long X off c _ n x2 x3 w hlc (by rw [hn]; omega) c0 c2 c3 d2 d3 q2 hb).mono fun e w' h => ⟨0, h.1, ?_, h.2⟩
          unfold SzDid
          rw [sz_cons, if_pos rfl, if_neg h4, ← hnl, if_pos hb]
        · by_cases hw : r.length < n + 6
          · refine (fsize_short X off c _ n x2 x3 w hlc (by rw [hn]; omega) c0 c2 c3 d2 d3 q2 (by omega) (by rw [hn]; omega)).mono fun e w' h => ⟨_, h.1, ?_, h.2⟩
            unfold SzDid
            rw [sz_cons, if_pos rfl, if_neg h4, ← hnl, if_neg hb, if_pos hw]
            show ((165 :: r : List UInt8).length : Int) < _ ∧ _
            rw [hn]
            omega
          · have hr : Row w w.heap.size (some ⟨X, off + 1, none⟩) (bc (r.take (n + 6))) := by
              refine Lies.row hX fun i hi => ?_
              rw [List.length_take] at hi
              have h := hc (i + 1) (by rw [hn]; omega)
              rw [show off + 1 + i = off + (i + 1) by omega, h, List.getElem_take]
              rfl
            refine (fsize_full W hT X off c _ n x2 x3 w hW (r.take (n + 6)) _ hlc (by rw [hn]; omega) c0 c2 c3 d2 d3 q2 (by omega) (by rw [hn]; omega) (by rw [List.length_take]; omega) hr rfl _ rfl).mono fun e w' h => ⟨_, h.1, ?_, h.2⟩
            unfold SzDid
            rw [sz_cons, if_pos rfl, if_neg h4, ← hnl, if_neg hb, if_neg hw]
            cases fitsC (r.take (n + 6)) <;> rfl
    · have hx0 : ¬ (((ch :: r)[0]'hs).toNat : Int) = 165 := fun e => hch (UInt8.toNat_inj.1 (by show ch.toNat = 165; have : ((ch.toNat : Int)) = 165 := e; omega))
      refine (fsize_far X off c _ _ w hlc hs c0 hx0).mono fun e w' h => ⟨0, h.1, ?_, by rw [h.2]; exact Below.refl _ _⟩
      unfold SzDid
      rw [sz_cons, if_neg hch]
end Go.Proofs.YthnkiabhfcddaaaDoor
