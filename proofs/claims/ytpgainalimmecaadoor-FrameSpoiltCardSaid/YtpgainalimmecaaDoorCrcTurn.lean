/-
  Layer 3, plain mathematics: of bytes that end in their sum some of 24 bits in a row are turned: their sum is 0 no more; nothing of the model.
-/
import Derived.Test.YtpgainalimmecaaDoorCrcBytes
namespace Go.Proofs.YtpgainalimmecaaDoor
set_option linter.unusedVariables false

theorem byte_get (c : UInt8) (q : Nat) (h : q < 8) : (byteBits c).getD q false = c.toNat.testBit (7 - q) := by
  have : q = 0 ∨ q = 1 ∨ q = 2 ∨ q = 3 ∨ q = 4 ∨ q = 5 ∨ q = 6 ∨ q = 7 := by omega
  rcases this with rfl | rfl | rfl | rfl | rfl | rfl | rfl | rfl <;> rfl
theorem getD_left (a b : List Bool) (q : Nat) (h : q < a.length) : (a ++ b).getD q false = a.getD q false := by
  simp [List.getD, List.getElem?_append_left h]
theorem getD_right (a b : List Bool) (q : Nat) (h : a.length ≤ q) : (a ++ b).getD q false = b.getD (q - a.length) false := by
  simp [List.getD, List.getElem?_append_right h]
theorem nots_get (n q : Nat) : (List.replicate n false).getD q false = false := by
  by_cases h : q < n <;> simp [List.getD, h]
theorem bits_get : ∀ (l : List UInt8) (q : Nat), (bits l).getD q false = (l.getD (q / 8) 0).toNat.testBit (7 - q % 8)
  | [], q => by simp [bits]
  | c :: l, q => by
    show (byteBits c ++ bits l).getD q false = _
    by_cases h : q < 8
    · rw [getD_left _ _ _ (by simpa [byteBits] using h), byte_get c q h, show q / 8 = 0 by omega, show q % 8 = q by omega]
      rfl
    · rw [getD_right _ _ _ (by simpa [byteBits] using Nat.le_of_not_lt h)]
      have e : q / 8 = (q - 8) / 8 + 1 := by omega
      rw [e, List.getD_cons_succ, show (byteBits c).length = 8 by rfl, bits_get l (q - 8), show (q - 8) % 8 = q % 8 by omega]

/-- Bit p is turned. -/
def flipB (l : List UInt8) (p : Nat) : List UInt8 := l.set (p / 8) (l.getD (p / 8) 0 ^^^ UInt8.ofNat (128 / 2 ^ (p % 8)))
theorem flipB_length (l : List UInt8) (p : Nat) : (flipB l p).length = l.length := by simp [flipB]
theorem mask_bit (r m : Nat) (hr : r < 8) (hm : m < 8) : (UInt8.ofNat (128 / 2 ^ r)).toNat.testBit (7 - m) = decide (m = r) := by
  have h : ∀ a b : Fin 8, (UInt8.ofNat (128 / 2 ^ a.val)).toNat.testBit (7 - b.val) = decide (b.val = a.val) := by decide
  exact h ⟨r, hr⟩ ⟨m, hm⟩
theorem flipB_get (l : List UInt8) (p q : Nat) (hp : p < 8 * l.length) : (bits (flipB l p)).getD q false = ((bits l).getD q false ^^ decide (q = p)) := by
  rw [bits_get, bits_get]
  unfold flipB
  have hi : p / 8 < l.length := by omega
  by_cases h : q / 8 = p / 8
  · have e : (l.set (p / 8) (l.getD (p / 8) 0 ^^^ UInt8.ofNat (128 / 2 ^ (p % 8)))).getD (q / 8) 0 = l.getD (p / 8) 0 ^^^ UInt8.ofNat (128 / 2 ^ (p % 8)) := by
      rw [h]
      simp [List.getD, hi]
    rw [e, UInt8.toNat_xor, Nat.testBit_xor, mask_bit _ _ (by omega) (by omega), h]
    congr 1
    rw [decide_eq_decide]
    omega
  · have e : (l.set (p / 8) (l.getD (p / 8) 0 ^^^ UInt8.ofNat (128 / 2 ^ (p % 8)))).getD (q / 8) 0 = l.getD (q / 8) 0 := by
      simp [List.getD, show ¬ p / 8 = q / 8 from fun hh => h hh.symm]
    rw [e]
    have : decide (q = p) = false := by simp; intro hh; exact h (by rw [hh])
    rw [this, Bool.xor_false]
/-- The first i bits of t are turned, from bit k on. -/
def fl (l : List UInt8) (k t : Nat) : Nat → List UInt8
  | 0 => l
  | i + 1 => if t.testBit i then flipB (fl l k t i) (k + i) else fl l k t i
theorem fl_length (l : List UInt8) (k t i : Nat) : (fl l k t i).length = l.length := by
  induction i with
  | zero => rfl
  | succ i ih =>
    unfold fl
    split
    · rw [flipB_length, ih]
    · exact ih
theorem fl_get (l : List UInt8) (k t : Nat) : ∀ (i : Nat), k + i ≤ 8 * l.length → ∀ q, (bits (fl l k t i)).getD q false = ((bits l).getD q false ^^ (decide (k ≤ q ∧ q < k + i) && t.testBit (q - k)))
  | 0, _, q => by
    have : decide (k ≤ q ∧ q < k + 0) = false := by simp
    rw [this]; simp [fl]
  | i + 1, h, q => by
    have ih := fl_get l k t i (by omega) q
    unfold fl
    by_cases ht : t.testBit i = true
    · rw [if_pos ht, flipB_get _ _ _ (by rw [fl_length]; omega), ih, Bool.xor_assoc]
      congr 1
      by_cases hq : q = k + i
      · subst hq
        simp [ht]
      · have e : decide (k ≤ q ∧ q < k + (i + 1)) = decide (k ≤ q ∧ q < k + i) := by rw [decide_eq_decide]; omega
        rw [e]
        simp [hq]
    · rw [if_neg ht, ih]
      congr 1
      by_cases hq : q = k + i
      · subst hq
        have : decide (k ≤ k + i ∧ k + i < k + i) = false := by simp
        rw [this]
        simp at ht
        simp [ht]
      · have e : decide (k ≤ q ∧ q < k + (i + 1)) = decide (k ≤ q ∧ q < k + i) := by rw [decide_eq_decide]; omega
        rw [e]

/-- The bits that are turned: 24 of t in a row, from bit k on, of n. -/
def err (n k t : Nat) : List Bool := nots k ++ ((List.range 24).map t.testBit ++ nots (n - k - 24))
theorem err_length (n k t : Nat) (h : k + 24 ≤ n) : (err n k t).length = n := by
  simp [err, nots]; omega
theorem err_get (n k t q : Nat) (h : k + 24 ≤ n) : (err n k t).getD q false = (decide (k ≤ q ∧ q < k + 24) && t.testBit (q - k)) := by
  unfold err nots
  by_cases h1 : q < k
  · rw [getD_left _ _ _ (by simpa using h1)]
    have : decide (k ≤ q ∧ q < k + 24) = false := by simp; omega
    rw [this, nots_get]
    rfl
  · rw [getD_right _ _ _ (by simpa using Nat.le_of_not_lt h1), List.length_replicate]
    by_cases h2 : q - k < 24
    · rw [getD_left _ _ _ (by simpa using h2)]
      have : decide (k ≤ q ∧ q < k + 24) = true := by simp; omega
      rw [this]
      simp [List.getD, h2]
    · rw [getD_right _ _ _ (by simpa using Nat.le_of_not_lt h2)]
      have : decide (k ≤ q ∧ q < k + 24) = false := by simp; omega
      rw [this, nots_get]
      rfl
theorem zip_get (a b : List Bool) (h : a.length = b.length) (q : Nat) : (List.zipWith (· ^^ ·) a b).getD q false = (a.getD q false ^^ b.getD q false) := by
  by_cases hq : q < a.length
  · have hb : q < b.length := by omega
    simp [List.getD, List.getElem?_zipWith, hq, hb]
  · have hb : ¬ q < b.length := by omega
    simp [List.getD, List.getElem?_zipWith, List.getElem?_eq_none (Nat.le_of_not_lt hq), List.getElem?_eq_none (Nat.le_of_not_lt hb)]
theorem ext_getD {a b : List Bool} (hl : a.length = b.length) (h : ∀ q, a.getD q false = b.getD q false) : a = b := by
  apply List.ext_getElem hl
  intro i h1 h2
  have := h i
  simpa [List.getD, h1, h2] using this
theorem fl_bits (l : List UInt8) (k t : Nat) (h : k + 24 ≤ 8 * l.length) : bits (fl l k t 24) = List.zipWith (· ^^ ·) (bits l) (err (8 * l.length) k t) := by
  refine ext_getD ?_ fun q => ?_
  · rw [bits_length, fl_length, List.length_zipWith, bits_length, err_length _ _ _ h, Nat.min_self]
  · rw [fl_get l k t 24 h, zip_get _ _ (by rw [bits_length, err_length _ _ _ h]), err_get _ _ _ _ h]
theorem err_feed (n k t : Nat) (ht : t < 16777216) (h0 : t ≠ 0) : feed 0 (err n k t) ≠ 0 := by
  intro h
  unfold err at h
  rw [feed_append, feed_append, feed_zero] at h
  have h1 := feed_kernel _ _ (feed_lt _ _ (by omega)) h
  rw [feed_la _ _ (by simp), Nat.zero_xor] at h1
  have h2 := feed_kernel _ _ (la_lt _) h1
  refine h0 (tb_ext fun i => ?_)
  rw [Nat.zero_testBit]
  by_cases hi : i < 24
  · have := congrArg (fun z => Nat.testBit z (23 - i)) h2
    simp only [la_bit, Nat.zero_testBit] at this
    have e : 23 - (23 - i) = i := by omega
    rw [e] at this
    simpa [List.getD, hi, show 23 - i < 24 by omega] using this
  · exact Nat.testBit_lt_two_pow (Nat.lt_of_lt_of_le ht (by rw [show (16777216 : Nat) = 2 ^ 24 by rfl]; exact Nat.pow_le_pow_right (by omega) (by omega)))
/-- Bytes that end in their sum do so no more. -/
theorem turned (l : List UInt8) (k t : Nat) (h3 : 3 ≤ l.length) (hs : sumC l = 0) (h : k + 24 ≤ 8 * l.length) (ht : t < 16777216) (h0 : t ≠ 0) : fitsC (fl l k t 24) = false := by
  rw [Bool.eq_false_iff]
  intro hf
  rw [fitsC_iff _ (by rw [fl_length]; exact h3)] at hf
  unfold sumC moreC at hf hs
  rw [fl_bits l k t h] at hf
  have e := feed_xor (bits l) (err (8 * l.length) k t) (11994318 % 16777216) 0 (by rw [bits_length, err_length _ _ _ h])
  rw [Nat.xor_zero, hs, Nat.zero_xor] at e
  rw [e] at hf
  exact err_feed _ _ _ ht h0 hf
end Go.Proofs.YtpgainalimmecaaDoor
