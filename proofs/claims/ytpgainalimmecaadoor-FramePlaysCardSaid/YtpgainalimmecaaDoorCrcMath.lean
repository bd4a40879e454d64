/-
  Layer 3, plain mathematics: a register of 24 bits, its steps, sums of bytes; nothing of the model.
-/
namespace Go.Proofs.YtpgainalimmecaaDoor
set_option linter.unusedVariables false

/-- Shifted up by one, in 24 bits. -/
def dbl (s : Nat) : Nat := 2 * s % 16777216
/-- A step of the register with a bit. -/
def stp (s : Nat) (b : Bool) : Nat := dbl s ^^^ (if s.testBit 23 != b then 8801531 else 0)
/-- Steps with bits, one by one. -/
def feed (s : Nat) (l : List Bool) : Nat := l.foldl stp s
/-- A byte's bits, the highest first. -/
def byteBits (c : UInt8) : List Bool := [c.toNat.testBit 7, c.toNat.testBit 6, c.toNat.testBit 5, c.toNat.testBit 4, c.toNat.testBit 3, c.toNat.testBit 2, c.toNat.testBit 1, c.toNat.testBit 0]
def bits (l : List UInt8) : List Bool := l.flatMap byteBits
/-- The sum that goes on. -/
def moreC (s : Nat) (l : List UInt8) : Nat := feed (s % 16777216) (bits l)
def sumC (l : List UInt8) : Nat := moreC 11994318 l
def putC (s : Nat) : List UInt8 := [UInt8.ofNat (s / 65536), UInt8.ofNat (s / 256), UInt8.ofNat s]
def fitsC (l : List UInt8) : Bool := decide (3 ≤ l.length) && decide (putC (sumC (l.take (l.length - 3))) = l.drop (l.length - 3))

theorem tb_ext {a b : Nat} (h : ∀ i, a.testBit i = b.testBit i) : a = b := Nat.eq_of_testBit_eq h
theorem dbl_bit (s i : Nat) : (dbl s).testBit i = (decide (i < 24) && (decide (0 < i) && s.testBit (i - 1))) := by
  unfold dbl
  rw [show (16777216 : Nat) = 2 ^ 24 by rfl, Nat.testBit_mod_two_pow]
  congr 1
  cases i with
  | zero => simp [Nat.testBit_zero, Nat.mul_mod_right]
  | succ n => rw [Nat.testBit_succ, Nat.mul_div_cancel_left _ (by omega)]; simp
theorem dbl_xor (a b : Nat) : dbl (a ^^^ b) = dbl a ^^^ dbl b := by
  apply tb_ext
  intro i
  rw [Nat.testBit_xor, dbl_bit, dbl_bit, dbl_bit, Nat.testBit_xor]
  by_cases h1 : i < 24 <;> by_cases h2 : 0 < i <;> simp [h1, h2]
theorem dbl_lt (s : Nat) : dbl s < 16777216 := Nat.mod_lt _ (by omega)
theorem xor_lt {a b : Nat} (ha : a < 16777216) (hb : b < 16777216) : a ^^^ b < 16777216 := by
  have := Nat.xor_lt_two_pow (n := 24) (by omega : a < 2 ^ 24) (by omega : b < 2 ^ 24)
  omega
theorem stp_lt (s : Nat) (b : Bool) : stp s b < 16777216 := by
  unfold stp
  refine xor_lt (dbl_lt s) ?_
  split <;> omega
theorem xor4 (a b c d : Nat) : (a ^^^ b) ^^^ (c ^^^ d) = (a ^^^ c) ^^^ (b ^^^ d) := by
  rw [Nat.xor_assoc, Nat.xor_assoc, ← Nat.xor_assoc b c d, Nat.xor_comm b c, Nat.xor_assoc c b d]
theorem stp_xor (a b : Nat) (x y : Bool) : stp (a ^^^ b) (x ^^ y) = stp a x ^^^ stp b y := by
  unfold stp
  rw [dbl_xor, xor4, Nat.testBit_xor]
  congr 1
  cases a.testBit 23 <;> cases b.testBit 23 <;> cases x <;> cases y <;> simp

theorem feed_append (s : Nat) (a b : List Bool) : feed s (a ++ b) = feed (feed s a) b := by simp [feed]
theorem feed_lt (l : List Bool) : ∀ s, s < 16777216 → feed s l < 16777216 := by
  induction l with
  | nil => intro s h; exact h
  | cons b l ih => intro s h; exact ih _ (stp_lt s b)
theorem feed_xor : ∀ (l m : List Bool) (a b : Nat), l.length = m.length → feed (a ^^^ b) (List.zipWith (· ^^ ·) l m) = feed a l ^^^ feed b m
  | [], [], a, b, _ => rfl
  | [], _ :: _, _, _, h => by simp at h
  | _ :: _, [], _, _, h => by simp at h
  | x :: l, y :: m, a, b, h => by
    show feed (stp (a ^^^ b) (x ^^ y)) (List.zipWith (· ^^ ·) l m) = feed (stp a x) l ^^^ feed (stp b y) m
    rw [stp_xor]
    exact feed_xor l m _ _ (by simpa using h)

/-- Noughts. -/
def nots (n : Nat) : List Bool := List.replicate n false
theorem stp_zero : stp 0 false = 0 := by decide
theorem feed_zero (n : Nat) : feed 0 (nots n) = 0 := by
  induction n with
  | zero => rfl
  | succ n ih => exact ih
theorem dbl_zero {s : Nat} (hs : s < 16777216) (hb : s.testBit 23 = false) (h : dbl s = 0) : s = 0 := by
  apply tb_ext
  intro i
  rw [Nat.zero_testBit]
  by_cases hi : i < 23
  · have := congrArg (fun z => Nat.testBit z (i + 1)) h
    simp only [dbl_bit, Nat.zero_testBit] at this
    simpa [show i + 1 < 24 by omega] using this
  · by_cases e : i = 23
    · rw [e]; exact hb
    · exact Nat.testBit_lt_two_pow (Nat.lt_of_lt_of_le hs (by rw [show (16777216 : Nat) = 2 ^ 24 by rfl]; exact Nat.pow_le_pow_right (by omega) (by omega)))
theorem stp_kernel {s : Nat} (hs : s < 16777216) (h : stp s false = 0) : s = 0 := by
  have h0 := congrArg (fun z => Nat.testBit z 0) h
  unfold stp at h0 h
  simp only [Nat.testBit_xor, dbl_bit, Nat.zero_testBit] at h0
  cases hb : s.testBit 23
  · rw [hb] at h
    simp at h
    exact dbl_zero hs hb h
  · rw [hb] at h0
    simp at h0
theorem feed_kernel (n : Nat) : ∀ s, s < 16777216 → feed s (nots n) = 0 → s = 0 := by
  induction n with
  | zero => intro s _ h; exact h
  | succ n ih => intro s hs h; exact stp_kernel hs (ih _ (stp_lt s false) h)

/-- Bits as a number of 24 bits, the first one highest. -/
def la : List Bool → Nat
  | [] => 0
  | b :: l => (if b then 8388608 else 0) ^^^ la l / 2
theorem la_lt (l : List Bool) : la l < 16777216 := by
  induction l with
  | nil => decide
  | cons b l ih => exact xor_lt (by split <;> omega) (by omega)
theorem la_bit (l : List Bool) : ∀ i, (la l).testBit i = (decide (i < 24) && l.getD (23 - i) false) := by
  induction l with
  | nil => intro i; simp [la]
  | cons b l ih =>
    intro i
    have hd : (la l / 2).testBit i = (la l).testBit (i + 1) := by rw [Nat.testBit_succ]
    have hp : (if b = true then (8388608 : Nat) else 0).testBit i = (b && decide (i = 23)) := by
      cases b
      · simp
      · simp only [if_true, Bool.true_and]
        rw [show (8388608 : Nat) = 2 ^ 23 by rfl, Nat.testBit_two_pow]
        simp [eq_comm]
    show ((if b = true then 8388608 else 0) ^^^ la l / 2).testBit i = _
    rw [Nat.testBit_xor, hp, hd, ih]
    by_cases h1 : i < 23
    · have e : 23 - i = (23 - (i + 1)) + 1 := by omega
      rw [e, List.getD_cons_succ]
      simp [show i + 1 < 24 by omega, show i < 24 by omega, show ¬ i = 23 by omega]
    · by_cases h2 : i = 23
      · subst h2; simp
      · simp [show ¬ i < 24 by omega, show ¬ i + 1 < 24 by omega, h2]
/-- A bit given to a register is the same as that bit turned at its top. -/
theorem stp_top (s : Nat) (b : Bool) : stp s b = stp (s ^^^ if b then 8388608 else 0) false := by
  have h := stp_xor s (if b then 8388608 else 0) b b
  have h0 : stp (if b then 8388608 else 0) b = 0 := by cases b <;> decide
  rw [h0, Nat.xor_zero, Bool.xor_self] at h
  exact h.symm
theorem stp_half {x : Nat} (hx : x < 16777216) (h0 : x.testBit 0 = false) : stp (x / 2) false = x := by
  have ht : (x / 2).testBit 23 = false := by
    rw [← Nat.testBit_succ]
    exact Nat.testBit_lt_two_pow (by omega)
  unfold stp
  rw [ht]
  simp only [bne_self_eq_false, Bool.false_eq_true, if_false, Nat.xor_zero]
  unfold dbl
  have : x % 2 = 0 := by
    have := Nat.testBit_zero (x := x)
    rw [h0] at this
    simpa using this.symm
  omega
theorem feed_la : ∀ (l : List Bool) (s : Nat), l.length ≤ 24 → feed s l = feed (s ^^^ la l) (nots l.length)
  | [], s, _ => by simp [la, nots, feed]
  | b :: l, s, h => by
    have hl : l.length ≤ 23 := by simpa using h
    have hb : (la l).testBit 0 = false := by
      rw [la_bit]
      simp [show l.length ≤ 23 by omega]
    show feed (stp s b) l = feed (stp (s ^^^ ((if b = true then 8388608 else 0) ^^^ la l / 2)) false) (nots l.length)
    rw [feed_la l (stp s b) (by omega), ← Nat.xor_assoc]
    have e : stp (s ^^^ (if b = true then 8388608 else 0) ^^^ la l / 2) (false ^^ false) = stp (s ^^^ if b = true then 8388608 else 0) false ^^^ stp (la l / 2) false := stp_xor _ _ _ _
    rw [show (false ^^ false) = false by rfl] at e
    rw [e, stp_half (la_lt l) hb, ← stp_top]
end Go.Proofs.YtpgainalimmecaaDoor
