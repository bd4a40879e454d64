/-
  Layer 3, plain mathematics: four bits at once by a table of sixteen words; nothing of the model.
-/
import Derived.Test.YtpgainalimmecaaDoorCrcBytes
namespace Go.Proofs.YtpgainalimmecaaDoor
set_option linter.unusedVariables false

/-- What four bits that leave the register at the top turn it by. -/
def tab (j : Nat) : Nat := feed (j * 1048576) (nots 4)
theorem split_top (s n : Nat) (hs : s < 16777216) (hn : n < 16) : s ^^^ n * 1048576 = (s / 1048576 ^^^ n) * 1048576 ^^^ s % 1048576 := by
  apply tb_ext
  intro i
  have e : ∀ z : Nat, z * 1048576 = z <<< 20 := fun z => by rw [Nat.shiftLeft_eq]
  rw [e, e, Nat.testBit_xor, Nat.testBit_xor, Nat.testBit_shiftLeft, Nat.testBit_shiftLeft, Nat.testBit_xor, show (1048576 : Nat) = 2 ^ 20 by rfl, Nat.testBit_mod_two_pow, Nat.testBit_div_two_pow]
  by_cases h : 20 ≤ i
  · have h2 : ¬ i < 20 := by omega
    simp [h, h2, show i - 20 + 20 = i by omega]
  · have h2 : i < 20 := by omega
    simp [h, h2]
theorem la_four (n : Nat) (hn : n < 16) : la [n.testBit 3, n.testBit 2, n.testBit 1, n.testBit 0] = n * 1048576 := by
  have h : ∀ j : Fin 16, la [j.val.testBit 3, j.val.testBit 2, j.val.testBit 1, j.val.testBit 0] = j.val * 1048576 := by decide +kernel
  exact h ⟨n, hn⟩
theorem feed_small (x : Nat) (h : x < 1048576) : feed x (nots 4) = 16 * x := by
  have st : ∀ y : Nat, y < 8388608 → stp y false = 2 * y := fun y hy => by
    unfold stp dbl
    rw [Nat.testBit_lt_two_pow (by omega)]
    simp
    omega
  show stp (stp (stp (stp x false) false) false) false = _
  rw [st x (by omega), st (2 * x) (by omega), st (2 * (2 * x)) (by omega), st (2 * (2 * (2 * x))) (by omega)]
  omega
/-- A register after four bits. -/
theorem feed_four (s n : Nat) (hs : s < 16777216) (hn : n < 16) : feed s [n.testBit 3, n.testBit 2, n.testBit 1, n.testBit 0] = 16 * s % 16777216 ^^^ tab (s / 1048576 ^^^ n) := by
  rw [feed_la _ _ (by simp), la_four n hn, split_top s n hs hn]
  show feed _ (nots 4) = _
  have e := feed_xor (nots 4) (nots 4) ((s / 1048576 ^^^ n) * 1048576) (s % 1048576) rfl
  rw [show List.zipWith (· ^^ ·) (nots 4) (nots 4) = nots 4 by rfl, feed_small _ (Nat.mod_lt _ (by omega))] at e
  rw [e, Nat.xor_comm]
  congr 1
  omega
theorem byte_four (c : UInt8) : byteBits c = [(c.toNat / 16).testBit 3, (c.toNat / 16).testBit 2, (c.toNat / 16).testBit 1, (c.toNat / 16).testBit 0] ++ [(c.toNat % 16).testBit 3, (c.toNat % 16).testBit 2, (c.toNat % 16).testBit 1, (c.toNat % 16).testBit 0] := by
  have h1 : ∀ i, (c.toNat / 16).testBit i = c.toNat.testBit (4 + i) := div_bit c.toNat 4
  have h2 : ∀ i, i < 4 → (c.toNat % 16).testBit i = c.toNat.testBit i := fun i hi => by rw [show (16 : Nat) = 2 ^ 4 by rfl, Nat.testBit_mod_two_pow]; simp [hi]
  rw [h1, h1, h1, h1, h2 3 (by omega), h2 2 (by omega), h2 1 (by omega), h2 0 (by omega)]
  rfl
/-- A register after a byte, by its two halves. -/
theorem feed_byte (s : Nat) (c : UInt8) (hs : s < 16777216) :
    feed s (byteBits c) = 16 * (16 * s % 16777216 ^^^ tab (s / 1048576 ^^^ c.toNat / 16)) % 16777216 ^^^ tab ((16 * s % 16777216 ^^^ tab (s / 1048576 ^^^ c.toNat / 16)) / 1048576 ^^^ c.toNat % 16) := by
  have hc := c.toNat_lt
  rw [byte_four, feed_append, feed_four _ _ hs (by omega), feed_four _ _ ?_ (Nat.mod_lt _ (by omega))]
  rw [← feed_four _ _ hs (by omega)]
  exact feed_lt _ _ hs
end Go.Proofs.YtpgainalimmecaaDoor
