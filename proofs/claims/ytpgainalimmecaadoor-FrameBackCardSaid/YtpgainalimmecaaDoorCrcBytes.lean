/-
  Layer 3, plain mathematics: sums of bytes: one behind the other, their own sum behind them, bytes that are turned; nothing of the model.
-/
import Derived.Test.YtpgainalimmecaaDoorCrcMath
namespace Go.Proofs.YtpgainalimmecaaDoor
set_option linter.unusedVariables false

theorem bits_append (a b : List UInt8) : bits (a ++ b) = bits a ++ bits b := by simp [bits]
theorem bits_length (l : List UInt8) : (bits l).length = 8 * l.length := by
  induction l with
  | nil => rfl
  | cons c l ih => simp only [bits, List.flatMap_cons, List.length_append, List.length_cons] at ih ⊢; rw [ih]; simp [byteBits]; omega
theorem moreC_lt (s : Nat) (l : List UInt8) : moreC s l < 16777216 := feed_lt _ _ (Nat.mod_lt _ (by omega))
theorem sumC_lt (l : List UInt8) : sumC l < 16777216 := moreC_lt _ _
theorem moreC_append (s : Nat) (a b : List UInt8) : moreC s (a ++ b) = moreC (moreC s a) b := by
  unfold moreC
  rw [bits_append, feed_append, Nat.mod_eq_of_lt (feed_lt _ _ (Nat.mod_lt _ (by omega)))]
theorem sumC_append (a b : List UInt8) : sumC (a ++ b) = moreC (sumC a) b := moreC_append _ _ _
theorem moreC_mod (s : Nat) (l : List UInt8) : moreC (s % 16777216) l = moreC s l := by unfold moreC; rw [Nat.mod_mod]
theorem moreC_snoc (s : Nat) (l : List UInt8) (c : UInt8) : moreC s (l ++ [c]) = feed (moreC s l) (byteBits c) := by
  rw [moreC_append]
  unfold moreC
  rw [Nat.mod_eq_of_lt (feed_lt _ _ (Nat.mod_lt _ (by omega)))]
  simp [bits]

theorem u8_bit (n i : Nat) (hi : i < 8) : (UInt8.ofNat n).toNat.testBit i = n.testBit i := by
  have : (UInt8.ofNat n).toNat = n % 256 := by simp
  rw [this, show (256 : Nat) = 2 ^ 8 by rfl, Nat.testBit_mod_two_pow]
  simp [hi]
theorem div_bit (n k i : Nat) : (n / 2 ^ k).testBit i = n.testBit (k + i) := by rw [Nat.testBit_div_two_pow, Nat.add_comm]
theorem bits_put (t : Nat) : bits (putC t) = [t.testBit 23, t.testBit 22, t.testBit 21, t.testBit 20, t.testBit 19, t.testBit 18, t.testBit 17, t.testBit 16, t.testBit 15, t.testBit 14, t.testBit 13, t.testBit 12, t.testBit 11, t.testBit 10, t.testBit 9, t.testBit 8, t.testBit 7, t.testBit 6, t.testBit 5, t.testBit 4, t.testBit 3, t.testBit 2, t.testBit 1, t.testBit 0] := by
  have h1 : ∀ i, (t / 65536).testBit i = t.testBit (16 + i) := div_bit t 16
  have h2 : ∀ i, (t / 256).testBit i = t.testBit (8 + i) := div_bit t 8
  simp [bits, putC, byteBits, u8_bit, h1, h2, -UInt8.toNat_ofNat', -Nat.testBit_zero]
theorem la_put (t : Nat) (ht : t < 16777216) : la (bits (putC t)) = t := by
  apply tb_ext
  intro i
  rw [la_bit, bits_put]
  by_cases hi : i < 24
  · have : ∀ j : Fin 24, ([t.testBit 23, t.testBit 22, t.testBit 21, t.testBit 20, t.testBit 19, t.testBit 18, t.testBit 17, t.testBit 16, t.testBit 15, t.testBit 14, t.testBit 13, t.testBit 12, t.testBit 11, t.testBit 10, t.testBit 9, t.testBit 8, t.testBit 7, t.testBit 6, t.testBit 5, t.testBit 4, t.testBit 3, t.testBit 2, t.testBit 1, t.testBit 0] : List Bool).getD (23 - j.val) false = t.testBit j.val := by
      intro j
      have hj := j.isLt
      obtain ⟨j, _⟩ := j
      have h : j = 0 ∨ j = 1 ∨ j = 2 ∨ j = 3 ∨ j = 4 ∨ j = 5 ∨ j = 6 ∨ j = 7 ∨ j = 8 ∨ j = 9 ∨ j = 10 ∨ j = 11 ∨ j = 12 ∨ j = 13 ∨ j = 14 ∨ j = 15 ∨ j = 16 ∨ j = 17 ∨ j = 18 ∨ j = 19 ∨ j = 20 ∨ j = 21 ∨ j = 22 ∨ j = 23 := by dsimp only at hj; omega
      rcases h with rfl | rfl | rfl | rfl | rfl | rfl | rfl | rfl | rfl | rfl | rfl | rfl | rfl | rfl | rfl | rfl | rfl | rfl | rfl | rfl | rfl | rfl | rfl | rfl <;> rfl
    rw [this ⟨i, hi⟩]
    simp [hi]
  · simp only [hi, decide_false, Bool.false_and]
    exact (Nat.testBit_lt_two_pow (Nat.lt_of_lt_of_le ht (by rw [show (16777216 : Nat) = 2 ^ 24 by rfl]; exact Nat.pow_le_pow_right (by omega) (by omega)))).symm
theorem xor_zero_iff (a b : Nat) : a ^^^ b = 0 ↔ a = b := by
  constructor
  · intro h
    have e : a ^^^ b ^^^ b = a := by rw [Nat.xor_assoc, Nat.xor_self, Nat.xor_zero]
    rw [h, Nat.zero_xor] at e
    exact e.symm
  · rintro rfl; exact Nat.xor_self _
/-- A register's own bytes take it to 0, and none but its own. -/
theorem more_put_iff (s t : Nat) (hs : s < 16777216) (ht : t < 16777216) : moreC s (putC t) = 0 ↔ s = t := by
  unfold moreC
  rw [Nat.mod_eq_of_lt hs, feed_la _ _ (by rw [bits_length]; simp [putC]), la_put t ht]
  constructor
  · intro h
    exact (xor_zero_iff s t).1 (feed_kernel _ _ (xor_lt hs ht) h)
  · intro h
    rw [(xor_zero_iff s t).2 h]
    exact feed_zero _
theorem putC_inj (s t : Nat) (hs : s < 16777216) (ht : t < 16777216) (h : putC s = putC t) : s = t := by
  rw [← la_put s hs, h, la_put t ht]
theorem putC_mod (t : Nat) : putC (t % 16777216) = putC t := by
  unfold putC
  have h1 : UInt8.ofNat (t % 16777216 / 65536) = UInt8.ofNat (t / 65536) := by apply UInt8.toNat_inj.1; simp; omega
  have h2 : UInt8.ofNat (t % 16777216 / 256) = UInt8.ofNat (t / 256) := by apply UInt8.toNat_inj.1; simp; omega
  have h3 : UInt8.ofNat (t % 16777216) = UInt8.ofNat t := by apply UInt8.toNat_inj.1; simp
  rw [h1, h2, h3]
/-- Any three bytes are those of a number of 24 bits. -/
theorem three_put (l : List UInt8) (h : l.length = 3) : ∃ t, t < 16777216 ∧ l = putC t := by
  match l, h with
  | [a, b, c], _ =>
    refine ⟨a.toNat * 65536 + b.toNat * 256 + c.toNat, by have := a.toNat_lt; have := b.toNat_lt; have := c.toNat_lt; omega, ?_⟩
    unfold putC
    have h1 := a.toNat_lt; have h2 := b.toNat_lt; have h3 := c.toNat_lt
    congr 1
    · apply UInt8.toNat_inj.1; simp; omega
    · congr 1
      · apply UInt8.toNat_inj.1; simp; omega
      · congr 1
        apply UInt8.toNat_inj.1; simp
/-- Bytes end in their sum just if the sum of all is 0. -/
theorem fitsC_iff (l : List UInt8) (h : 3 ≤ l.length) : fitsC l = true ↔ sumC l = 0 := by
  obtain ⟨t, ht, e⟩ := three_put (l.drop (l.length - 3)) (by rw [List.length_drop]; omega)
  have hl : l = l.take (l.length - 3) ++ putC t := by rw [← e, List.take_append_drop]
  have hs : sumC l = moreC (sumC (l.take (l.length - 3))) (putC t) := by
    conv => lhs; rw [hl]
    exact sumC_append _ _
  rw [hs, more_put_iff _ _ (sumC_lt _) ht]
  unfold fitsC
  rw [e]
  simp only [h, decide_true, Bool.true_and, decide_eq_true_eq]
  exact ⟨fun h => putC_inj _ _ (sumC_lt _) ht h, fun h => by rw [h]⟩
theorem fitsC_put (l : List UInt8) (t : Nat) : fitsC (l ++ putC t) = decide (t % 16777216 = sumC l) := by
  rw [Bool.eq_iff_iff, fitsC_iff _ (by simp [putC]), sumC_append, ← putC_mod, more_put_iff _ _ (sumC_lt _) (Nat.mod_lt _ (by omega)), decide_eq_true_iff, eq_comm]
/-- Where a text is turned by another one, its sum is turned by what noughts and the other one have between them. -/
theorem bits_zip : ∀ (a b : List UInt8), a.length = b.length → bits (List.zipWith (· ^^^ ·) a b) = List.zipWith (· ^^ ·) (bits a) (bits b)
  | [], [], _ => rfl
  | [], _ :: _, h => by simp at h
  | _ :: _, [], h => by simp at h
  | x :: a, y :: b, h => by
    have ih := bits_zip a b (by simpa using h)
    simp only [bits] at ih ⊢
    rw [List.zipWith_cons_cons, List.flatMap_cons, List.flatMap_cons, List.flatMap_cons, ih, List.zipWith_append (by simp [byteBits])]
    congr 1
    simp [byteBits, UInt8.toNat_xor, Nat.testBit_xor, -Nat.testBit_zero]
theorem bits_zeros (n : Nat) : bits (List.replicate n (0 : UInt8)) = nots (8 * n) := by
  induction n with
  | zero => rfl
  | succ n ih =>
    rw [List.replicate_succ]
    show byteBits 0 ++ bits (List.replicate n 0) = _
    rw [ih]
    show nots 8 ++ nots (8 * n) = nots (8 * (n + 1))
    unfold nots
    rw [List.replicate_append_replicate]
    congr 1
    omega
theorem zip_nots (l : List Bool) : List.zipWith (· ^^ ·) l (nots l.length) = l := by
  induction l with
  | nil => rfl
  | cons b l ih => show (b ^^ false) :: List.zipWith _ l (nots l.length) = _; rw [ih]; simp
theorem sumC_linear (a b : List UInt8) (h : a.length = b.length) : sumC a ^^^ sumC b ^^^ sumC (List.replicate a.length 0) = sumC (List.zipWith (· ^^^ ·) a b) := by
  unfold sumC moreC
  rw [bits_zip a b h, bits_zeros, ← feed_xor _ _ _ _ (by rw [bits_length, bits_length, h]), ← feed_xor _ _ _ _ (by rw [List.length_zipWith, bits_length, bits_length, h, Nat.min_self]; simp [nots])]
  congr 1
  conv => lhs; rw [show 8 * a.length = (List.zipWith (· ^^ ·) (bits a) (bits b)).length by rw [List.length_zipWith, bits_length, bits_length, h, Nat.min_self]]
  exact zip_nots _
end Go.Proofs.YtpgainalimmecaaDoor
