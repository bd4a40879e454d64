/-
  Texts of the proofs, put together: CrcMath, CrcBytes, FrameMath, CrcTurn, FrameLaws, CrcFour, Flat.
-/
/-
  Layer 3, plain mathematics: a register of 24 bits, its steps, sums of bytes; nothing of the model.
-/
namespace Go.Proofs.YthnkiabhfcddaaaDoor
set_option linter.unusedVariables false

/-- Shifted up by one, in 24 bits. -/
def dbl (s : Nat) : Nat := 2 * s % 16777216
/-- A step of the register with a bit. -/
def stp (s : Nat) (b : Bool) : Nat := dbl s ^^^ (if s.testBit 23 != b then 8801531 else 0)
/-- Steps with bits, one by one. -/
def feed (s : Nat) (l : List Bool) : Nat := l.foldl stp s
/-- A byte's bits, the highest first. -/
def byteBits (c : UInt8) : List Bool := [c.toNat.testBit 7, c.toNat.testBit 6, c.toNat.testBit 5, c.toNat.testBit 4, c.toNat.testBit 3, c.toNat.testBit 2, c.toNat.testBit 1, c.toNat.testBit 0]
def bits (l : List UInt8) : List Bool := l.flatMap byteBits
/-- The sum that goes on. -/
def moreC (s : Nat) (l : List UInt8) : Nat := feed (s % 16777216) (bits l)
def sumC (l : List UInt8) : Nat := moreC 11994318 l
def putC (s : Nat) : List UInt8 := [UInt8.ofNat (s / 65536), UInt8.ofNat (s / 256), UInt8.ofNat s]
def fitsC (l : List UInt8) : Bool := decide (3 ≤ l.length) && decide (putC (sumC (l.take (l.length - 3))) = l.drop (l.length - 3))

theorem tb_ext {a b : Nat} (h : ∀ i, a.testBit i = b.testBit i) : a = b := Nat.eq_of_testBit_eq h
theorem dbl_bit (s i : Nat) : (dbl s).testBit i = (decide (i < 24) && (decide (0 < i) && s.testBit (i - 1))) := by
  unfold dbl
  rw [show (16777216 : Nat) = 2 ^ 24 by rfl, Nat.testBit_mod_two_pow]
  congr 1
  cases i with
  | zero => simp [Nat.testBit_zero, Nat.mul_mod_right]
  | succ n => rw [Nat.testBit_succ, Nat.mul_div_cancel_left _ (by omega)]; simp
theorem dbl_xor (a b : Nat) : dbl (a ^^^ b) = dbl a ^^^ dbl b := by
  apply tb_ext
  intro i
  rw [Nat.testBit_xor, dbl_bit, dbl_bit, dbl_bit, Nat.testBit_xor]
  by_cases h1 : i < 24 <;> by_cases h2 : 0 < i <;> simp [h1, h2]
theorem dbl_lt (s : Nat) : dbl s < 16777216 := Nat.mod_lt _ (by omega)
theorem xor_lt {a b : Nat} (ha : a < 16777216) (hb : b < 16777216) : a ^^^ b < 16777216 := by
  have := Nat.xor_lt_two_pow (n := 24) (by omega : a < 2 ^ 24) (by omega : b < 2 ^ 24)
  omega
theorem stp_lt (s : Nat) (b : Bool) : stp s b < 16777216 := by
  unfold stp
  refine xor_lt (dbl_lt s) ?_
  split <;> omega
theorem xor4 (a b c d : Nat) : (a ^^^ b) ^^^ (c ^^^ d) = (a ^^^ c) ^^^ (b ^^^ d) := by
  rw [Nat.xor_assoc, Nat.xor_assoc, ← Nat.xor_assoc b c d, Nat.xor_comm b c, Nat.xor_assoc c b d]
theorem stp_xor (a b : Nat) (x y : Bool) : stp (a ^^^ b) (x ^^ y) = stp a x ^^^ stp b y := by
  unfold stp
  rw [dbl_xor, xor4, Nat.testBit_xor]
  congr 1
  cases a.testBit 23 <;> cases b.testBit 23 <;> cases x <;> cases y <;> simp

theorem feed_append (s : Nat) (a b : List Bool) : feed s (a ++ b) = feed (feed s a) b := by simp [feed]
theorem feed_lt (l : List Bool) : ∀ s, s < 16777216 → feed s l < 16777216 := by
  induction l with
  | nil => intro s h; exact h
  | cons b l ih => intro s h; exact ih _ (stp_lt s b)
theorem feed_xor : ∀ (l m : List Bool) (a b : Nat), l.length = m.length → feed (a ^^^ b) (List.zipWith (· ^^ ·) l m) = feed a l ^^^ feed b m
  | [], [], a, b, _ => rfl
  | [], _ :: _, _, _, h => by simp at h
  | _ :: _, [], _, _, h => by simp at h
  | x :: l, y :: m, a, b, h => by
    show feed (stp (a ^^^ b) (x ^^ y)) (List.zipWith (· ^^ ·) l m) = feed (stp a x) l ^^^ feed (stp b y) m
    rw [stp_xor]
    exact feed_xor l m _ _ (by simpa using h)

/-- Noughts. -/
def nots (n : Nat) : List Bool := List.replicate n false
theorem stp_zero : stp 0 false = 0 := by decide
theorem feed_zero (n : Nat) : feed 0 (nots n) = 0 := by
  induction n with
  | zero => rfl
  | succ n ih => exact ih
theorem dbl_zero {s : Nat} (hs : s < 16777216) (hb : s.testBit 23 = false) (h : dbl s = 0) : s = 0 := by
  apply tb_ext
  intro i
  rw [Nat.zero_testBit]
  by_cases hi : i < 23
  · have := congrArg (fun z => Nat.testBit z (i + 1)) h
    simp only [dbl_bit, Nat.zero_testBit] at this
    simpa [show i + 1 < 24 by omega] using this
  · by_cases e : i = 23
    · rw [e]; exact hb
    · exact Nat.testBit_lt_two_pow (Nat.lt_of_lt_of_le hs (by rw [show (16777216 : Nat) = 2 ^ 24 by rfl]; exact Nat.pow_le_pow_right (by omega) (by omega)))
theorem stp_kernel {s : Nat} (hs : s < 16777216) (h : stp s false = 0) : s = 0 := by
  have h0 := congrArg (fun z => Nat.testBit z 0) h
  unfold stp at h0 h
  simp only [Nat.testBit_xor, dbl_bit, Nat.zero_testBit] at h0
  cases hb : s.testBit 23
  · rw [hb] at h
    simp at h
    exact dbl_zero hs hb h
  · rw [hb] at h0
    simp at h0
theorem feed_kernel (n : Nat) : ∀ s, s < 16777216 → feed s (nots n) = 0 → s = 0 := by
  induction n with
  | zero => intro s _ h; exact h
  | succ n ih => intro s hs h; exact stp_kernel hs (ih _ (stp_lt s false) h)

/-- Bits as a number of 24 bits, the first one highest. -/
def la : List Bool → Nat
  | [] => 0
  | b :: l => (if b then 8388608 else 0) ^^^ la l / 2
theorem la_lt (l : List Bool) : la l < 16777216 := by
  induction l with
  | nil => decide
  | cons b l ih => exact xor_lt (by split <;> omega) (by omega)
theorem la_bit (l : List Bool) : ∀ i, (la l).testBit i = (decide (i < 24) && l.getD (23 - i) false) := by
  induction l with
  | nil => intro i; simp [la]
  | cons b l ih =>
    intro i
    have hd : (la l / 2).testBit i = (la l).testBit (i + 1) := by rw [Nat.testBit_succ]
    have hp : (if b = true then (8388608 : Nat) else 0).testBit i = (b && decide (i = 23)) := by
      cases b
      · simp
      · simp only [if_true, Bool.true_and]
        rw [show (8388608 : Nat) = 2 ^ 23 by rfl, Nat.testBit_two_pow]
        simp [eq_comm]
    show ((if b = true then 8388608 else 0) ^^^ la l / 2).testBit i = _
    rw [Nat.testBit_xor, hp, hd, ih]
    by_cases h1 : i < 23
    · have e : 23 - i = (23 - (i + 1)) + 1 := by omega
      rw [e, List.getD_cons_succ]
      simp [show i + 1 < 24 by omega, show i < 24 by omega, show ¬ i = 23 by omega]
    · by_cases h2 : i = 23
      · subst h2; simp
      · simp [show ¬ i < 24 by omega, show ¬ i + 1 < 24 by omega, h2]
/-- A bit given to a register is the same as that bit turned at its top. -/
theorem stp_top (s : Nat) (b : Bool) : stp s b = stp (s ^^^ if b then 8388608 else 0) false := by
  have h := stp_xor s (if b then 8388608 else 0) b b
  have h0 : stp (if b then 8388608 else 0) b = 0 := by cases b <;> decide
  rw [h0, Nat.xor_zero, Bool.xor_self] at h
  exact h.symm
theorem stp_half {x : Nat} (hx : x < 16777216) (h0 : x.testBit 0 = false) : stp (x / 2) false = x := by
  have ht : (x / 2).testBit 23 = false := by
    rw [← Nat.testBit_succ]
    exact Nat.testBit_lt_two_pow (by omega)
  unfold stp
  rw [ht]
  simp only [bne_self_eq_false, Bool.false_eq_true, if_false, Nat.xor_zero]
  unfold dbl
  have : x % 2 = 0 := by
    have := Nat.testBit_zero (x := x)
    rw [h0] at this
    simpa using this.symm
  omega
theorem feed_la : ∀ (l : List Bool) (s : Nat), l.length ≤ 24 → feed s l = feed (s ^^^ la l) (nots l.length)
  | [], s, _ => by simp [la, nots, feed]
  | b :: l, s, h => by
    have hl : l.length ≤ 23 := by simpa using h
    have hb : (la l).testBit 0 = false := by
      rw [la_bit]
      simp [show l.length ≤ 23 by omega]
    show feed (stp s b) l = feed (stp (s ^^^ ((if b = true then 8388608 else 0) ^^^ la l / 2)) false) (nots l.length)
    rw [feed_la l (stp s b) (by omega), ← Nat.xor_assoc]
    have e : stp (s ^^^ (if b = true then 8388608 else 0) ^^^ la l / 2) (false ^^ false) = stp (s ^^^ if b = true then 8388608 else 0) false ^^^ stp (la l / 2) false := stp_xor _ _ _ _
    rw [show (false ^^ false) = false by rfl] at e
    rw [e, stp_half (la_lt l) hb, ← stp_top]
end Go.Proofs.YthnkiabhfcddaaaDoor
/-
  Layer 3, plain mathematics: sums of bytes: one behind the other, their own sum behind them, bytes that are turned; nothing of the model.
-/
namespace Go.Proofs.YthnkiabhfcddaaaDoor
set_option linter.unusedVariables false

theorem bits_append (a b : List UInt8) : bits (a ++ b) = bits a ++ bits b := by simp [bits]
theorem bits_length (l : List UInt8) : (bits l).length = 8 * l.length := by
  induction l with
  | nil => rfl
  | cons c l ih => simp only [bits, List.flatMap_cons, List.length_append, List.length_cons] at ih ⊢; rw [ih]; simp [byteBits]; omega
theorem moreC_lt (s : Nat) (l : List UInt8) : moreC s l < 16777216 := feed_lt _ _ (Nat.mod_lt _ (by omega))
theorem sumC_lt (l : List UInt8) : sumC l < 16777216 := moreC_lt _ _
theorem moreC_append (s : Nat) (a b : List UInt8) : moreC s (a ++ b) = moreC (moreC s a) b := by
  unfold moreC
  rw [bits_append, feed_append, Nat.mod_eq_of_lt (feed_lt _ _ (Nat.mod_lt _ (by omega)))]
theorem sumC_append (a b : List UInt8) : sumC (a ++ b) = moreC (sumC a) b := moreC_append _ _ _
theorem moreC_mod (s : Nat) (l : List UInt8) : moreC (s % 16777216) l = moreC s l := by unfold moreC; rw [Nat.mod_mod]
theorem moreC_snoc (s : Nat) (l : List UInt8) (c : UInt8) : moreC s (l ++ [c]) = feed (moreC s l) (byteBits c) := by
  rw [moreC_append]
  unfold moreC
  rw [Nat.mod_eq_of_lt (feed_lt _ _ (Nat.mod_lt _ (by omega)))]
  simp [bits]

theorem u8_bit (n i : Nat) (hi : i < 8) : (UInt8.ofNat n).toNat.testBit i = n.testBit i := by
  have : (UInt8.ofNat n).toNat = n % 256 := by simp
  rw [this, show (256 : Nat) = 2 ^ 8 by rfl, Nat.testBit_mod_two_pow]
  simp [hi]
theorem div_bit (n k i : Nat) : (n / 2 ^ k).testBit i = n.testBit (k + i) := by rw [Nat.testBit_div_two_pow, Nat.add_comm]
theorem bits_put (t : Nat) : bits (putC t) = [t.testBit 23, t.testBit 22, t.testBit 21, t.testBit 20, t.testBit 19, t.testBit 18, t.testBit 17, t.testBit 16, t.testBit 15, t.testBit 14, t.testBit 13, t.testBit 12, t.testBit 11, t.testBit 10, t.testBit 9, t.testBit 8, t.testBit 7, t.testBit 6, t.testBit 5, t.testBit 4, t.testBit 3, t.testBit 2, t.testBit 1, t.testBit 0] := by
  have h1 : ∀ i, (t / 65536).testBit i = t.testBit (16 + i) := div_bit t 16
  have h2 : ∀ i, (t / 256).testBit i = t.testBit (8 + i) := div_bit t 8
  simp [bits, putC, byteBits, u8_bit, h1, h2, -UInt8.toNat_ofNat', -Nat.testBit_zero]
theorem la_put (t : Nat) (ht : t < 16777216) : la (bits (putC t)) = t := by
  apply tb_ext
  intro i
  rw [la_bit, bits_put]
  by_cases hi : i < 24
  · have : ∀ j : Fin 24, ([t.testBit 23, t.testBit 22, t.testBit 21, t.testBit 20, t.testBit 19, t.testBit 18, t.testBit 17, t.testBit 16, t.testBit 15, t.testBit 14, t.testBit 13, t.testBit 12, t.testBit 11, t.testBit 10, t.testBit 9, t.testBit 8, t.testBit 7, t.testBit 6, t.testBit 5, t.testBit 4, t.testBit 3, t.testBit 2, t.testBit 1, t.testBit 0] : List Bool).getD (23 - j.val) false = t.testBit j.val := by
      intro j
      have hj := j.isLt
      obtain ⟨j, _⟩ := j
      have h : j = 0 ∨ j = 1 ∨ j = 2 ∨ j = 3 ∨ j = 4 ∨ j = 5 ∨ j = 6 ∨ j = 7 ∨ j = 8 ∨ j = 9 ∨ j = 10 ∨ j = 11 ∨ j = 12 ∨ j = 13 ∨ j = 14 ∨ j = 15 ∨ j = 16 ∨ j = 17 ∨ j = 18 ∨ j = 19 ∨ j = 20 ∨ j = 21 ∨ j = 22 ∨ j = 23 := by dsimp only at hj; omega
      rcases h with rfl | rfl | rfl | rfl | rfl | rfl | rfl | rfl | rfl | rfl | rfl | rfl | rfl | rfl | rfl | rfl | rfl | rfl | rfl | rfl | rfl | rfl | rfl | rfl <;> rfl
    rw [this ⟨i, hi⟩]
    simp [hi]
  · simp only [hi, decide_false, Bool.false_and]
    exact (Nat.testBit_lt_two_pow (Nat.lt_of_lt_of_le ht (by rw [show (16777216 : Nat) = 2 ^ 24 by rfl]; exact Nat.pow_le_pow_right (by omega) (by omega)))).symm
theorem xor_zero_iff (a b : Nat) : a ^^^ b = 0 ↔ a = b := by
  constructor
  · intro h
    have e : a ^^^ b ^^^ b = a := by rw [Nat.xor_assoc, Nat.xor_self, Nat.xor_zero]
    rw [h, Nat.zero_xor] at e
    exact e.symm
  · rintro rfl; exact Nat.xor_self _
/-- A register's own bytes take it to 0, and none but its own. -/
theorem more_put_iff (s t : Nat) (hs : s < 16777216) (ht : t < 16777216) : moreC s (putC t) = 0 ↔ s = t := by
  unfold moreC
  rw [Nat.mod_eq_of_lt hs, feed_la _ _ (by rw [bits_length]; simp [putC]), la_put t ht]
  constructor
  · intro h
    exact (xor_zero_iff s t).1 (feed_kernel _ _ (xor_lt hs ht) h)
  · intro h
    rw [(xor_zero_iff s t).2 h]
    exact feed_zero _
theorem putC_inj (s t : Nat) (hs : s < 16777216) (ht : t < 16777216) (h : putC s = putC t) : s = t := by
  rw [← la_put s hs, h, la_put t ht]
theorem putC_mod (t : Nat) : putC (t % 16777216) = putC t := by
  unfold putC
  have h1 : UInt8.ofNat (t % 16777216 / 65536) = UInt8.ofNat (t / 65536) := by apply UInt8.toNat_inj.1; simp; omega
  have h2 : UInt8.ofNat (t % 16777216 / 256) = UInt8.ofNat (t / 256) := by apply UInt8.toNat_inj.1; simp; omega
  have h3 : UInt8.ofNat (t % 16777216) = UInt8.ofNat t := by apply UInt8.toNat_inj.1; simp
  rw [h1, h2, h3]
/-- Any three bytes are those of a number of 24 bits. -/
theorem three_put (l : List UInt8) (h : l.length = 3) : ∃ t, t < 16777216 ∧ l = putC t := by
  match l, h with
  | [a, b, c], _ =>
    refine ⟨a.toNat * 65536 + b.toNat * 256 + c.toNat, by have := a.toNat_lt; have := b.toNat_lt; have := c.toNat_lt; omega, ?_⟩
    unfold putC
    have h1 := a.toNat_lt; have h2 := b.toNat_lt; have h3 := c.toNat_lt
    congr 1
    · apply UInt8.toNat_inj.1; simp; omega
    · congr 1
      · apply UInt8.toNat_inj.1; simp; omega
      · congr 1
        apply UInt8.toNat_inj.1; simp
/-- Bytes end in their sum just if the sum of all is 0. -/
theorem fitsC_iff (l : List UInt8) (h : 3 ≤ l.length) : fitsC l = true ↔ sumC l = 0 := by
  obtain ⟨t, ht, e⟩ := three_put (l.drop (l.length - 3)) (by rw [List.length_drop]; omega)
  have hl : l = l.take (l.length - 3) ++ putC t := by rw [← e, List.take_append_drop]
  have hs : sumC l = moreC (sumC (l.take (l.length - 3))) (putC t) := by
    conv => lhs; rw [hl]
    exact sumC_append _ _
  rw [hs, more_put_iff _ _ (sumC_lt _) ht]
  unfold fitsC
  rw [e]
  simp only [h, decide_true, Bool.true_and, decide_eq_true_eq]
  exact ⟨fun h => putC_inj _ _ (sumC_lt _) ht h, fun h => by rw [h]⟩
theorem fitsC_put (l : List UInt8) (t : Nat) : fitsC (l ++ putC t) = decide (t % 16777216 = sumC l) := by
  rw [Bool.eq_iff_iff, fitsC_iff _ (by simp [putC]), sumC_append, ← putC_mod, more_put_iff _ _ (sumC_lt _) (Nat.mod_lt _ (by omega)), decide_eq_true_iff, eq_comm]
/-- Where a text is turned by another one, its sum is turned by what noughts and the other one have between them. -/
theorem bits_zip : ∀ (a b : List UInt8), a.length = b.length → bits (List.zipWith (· ^^^ ·) a b) = List.zipWith (· ^^ ·) (bits a) (bits b)
  | [], [], _ => rfl
  | [], _ :: _, h => by simp at h
  | _ :: _, [], h => by simp at h
  | x :: a, y :: b, h => by
    have ih := bits_zip a b (by simpa using h)
    simp only [bits] at ih ⊢
    rw [List.zipWith_cons_cons, List.flatMap_cons, List.flatMap_cons, List.flatMap_cons, ih, List.zipWith_append (by simp [byteBits])]
    congr 1
    simp [byteBits, UInt8.toNat_xor, Nat.testBit_xor, -Nat.testBit_zero]
theorem bits_zeros (n : Nat) : bits (List.replicate n (0 : UInt8)) = nots (8 * n) := by
  induction n with
  | zero => rfl
  | succ n ih =>
    rw [List.replicate_succ]
    show byteBits 0 ++ bits (List.replicate n 0) = _
    rw [ih]
    show nots 8 ++ nots (8 * n) = nots (8 * (n + 1))
    unfold nots
    rw [List.replicate_append_replicate]
    congr 1
    omega
theorem zip_nots (l : List Bool) : List.zipWith (· ^^ ·) l (nots l.length) = l := by
  induction l with
  | nil => rfl
  | cons b l ih => show (b ^^ false) :: List.zipWith _ l (nots l.length) = _; rw [ih]; simp
theorem sumC_linear (a b : List UInt8) (h : a.length = b.length) : sumC a ^^^ sumC b ^^^ sumC (List.replicate a.length 0) = sumC (List.zipWith (· ^^^ ·) a b) := by
  unfold sumC moreC
  rw [bits_zip a b h, bits_zeros, ← feed_xor _ _ _ _ (by rw [bits_length, bits_length, h]), ← feed_xor _ _ _ _ (by rw [List.length_zipWith, bits_length, bits_length, h, Nat.min_self]; simp [nots])]
  congr 1
  conv => lhs; rw [show 8 * a.length = (List.zipWith (· ^^ ·) (bits a) (bits b)).length by rw [List.length_zipWith, bits_length, bits_length, h, Nat.min_self]]
  exact zip_nots _
end Go.Proofs.YthnkiabhfcddaaaDoor
/-
  Layer 4, plain mathematics: frames in bytes that come in pieces; nothing of the model.
-/
namespace Go.Proofs.YthnkiabhfcddaaaDoor
set_option linter.unusedVariables false

/-- A frame's bytes behind the mark and ahead of its sum. -/
def headF (kind : UInt8) (body : List UInt8) : List UInt8 := kind :: UInt8.ofNat (body.length / 256) :: UInt8.ofNat (body.length % 256) :: body
/-- A frame's bytes. -/
def putF (kind : UInt8) (body : List UInt8) : List UInt8 := 165 :: (headF kind body ++ putC (sumC (headF kind body)))
/-- What bytes begin with: nothing, nobody knows yet, or a frame with so long a body. -/
inductive Sz | no | wait | frame (n : Nat)
  deriving DecidableEq
/-- The length that stands behind a mark. -/
def lenF (r : List UInt8) : Nat := (r.getD 1 0).toNat * 256 + (r.getD 2 0).toNat
def szF : List UInt8 → Sz
  | [] => .wait
  | m :: r => if m = 165 then (if r.length < 3 then .wait else if 256 < lenF r then .no else if r.length < lenF r + 6 then .wait else if fitsC (r.take (lenF r + 6)) = true then .frame (lenF r) else .no) else .no
theorem sz_cons (m : UInt8) (r : List UInt8) : szF (m :: r) = if m = 165 then (if r.length < 3 then .wait else if 256 < lenF r then .no else if r.length < lenF r + 6 then .wait else if fitsC (r.take (lenF r + 6)) = true then .frame (lenF r) else .no) else .no := rfl
/-- An item: bytes that were skipped, or a frame. -/
structure It where
  skip : Nat
  kind : UInt8
  body : List UInt8
def skipI (k : Nat) : List It := if 0 < k then [⟨k, 0, []⟩] else []
def kindF (s : List UInt8) : UInt8 := s.getD 1 0
def bodyF (s : List UInt8) (n : Nat) : List UInt8 := (s.drop 4).take n
/-- As far as may be: what waits, how many were skipped since the last frame, the items. -/
def passF (ov : Bool) (s : List UInt8) (k : Nat) : List UInt8 × Nat × List It :=
  match s with
  | [] => ([], k, [])
  | c :: r =>
    match szF (c :: r) with
    | .wait => if ov = true then passF ov r (k + 1) else (c :: r, k, [])
    | .no => passF ov r (k + 1)
    | .frame n => ((passF ov (r.drop (n + 6)) 0).1, (passF ov (r.drop (n + 6)) 0).2.1, skipI k ++ ⟨0, kindF (c :: r), bodyF (c :: r) n⟩ :: (passF ov (r.drop (n + 6)) 0).2.2)
termination_by s.length
decreasing_by all_goals (simp; try omega)

theorem pass_nil (ov : Bool) (k : Nat) : passF ov [] k = ([], k, []) := by rw [passF]
theorem pass_no {ov : Bool} {c : UInt8} {r : List UInt8} {k : Nat} (h : szF (c :: r) = .no) : passF ov (c :: r) k = passF ov r (k + 1) := by rw [passF, h]
theorem pass_wait {c : UInt8} {r : List UInt8} {k : Nat} (h : szF (c :: r) = .wait) : passF false (c :: r) k = (c :: r, k, []) := by rw [passF, h]; simp
theorem pass_over {c : UInt8} {r : List UInt8} {k : Nat} (h : szF (c :: r) = .wait) : passF true (c :: r) k = passF true r (k + 1) := by rw [passF, h]; simp
theorem pass_frame {ov : Bool} {c : UInt8} {r : List UInt8} {k n : Nat} (h : szF (c :: r) = .frame n) :
    passF ov (c :: r) k = ((passF ov (r.drop (n + 6)) 0).1, (passF ov (r.drop (n + 6)) 0).2.1, skipI k ++ ⟨0, kindF (c :: r), bodyF (c :: r) n⟩ :: (passF ov (r.drop (n + 6)) 0).2.2) := by
  conv => lhs; rw [passF, h]

theorem len_append (r t : List UInt8) (h : 3 ≤ r.length) : lenF (r ++ t) = lenF r := by
  unfold lenF
  simp [List.getD, List.getElem?_append_left (show 1 < r.length by omega), List.getElem?_append_left (show 2 < r.length by omega)]
theorem sz_frame {c : UInt8} {r : List UInt8} {n : Nat} (h : szF (c :: r) = .frame n) : c = 165 ∧ n = lenF r ∧ n ≤ 256 ∧ n + 6 ≤ r.length ∧ fitsC (r.take (n + 6)) = true := by
  rw [sz_cons] at h
  split at h
  · split at h
    · cases h
    · split at h
      · cases h
      · split at h
        · cases h
        · split at h
          · injection h with h; subst h; exact ⟨by assumption, rfl, by omega, by omega, by assumption⟩
          · cases h
  · cases h
/-- What is known of some bytes stays so, whatever comes behind. -/
theorem sz_append (c : UInt8) (r t : List UInt8) (h : szF (c :: r) ≠ .wait) : szF (c :: (r ++ t)) = szF (c :: r) := by
  rw [sz_cons] at h ⊢
  rw [sz_cons]
  by_cases hc : c = 165
  · rw [if_pos hc] at h ⊢
    rw [if_pos hc]
    by_cases h3 : r.length < 3
    · rw [if_pos h3] at h; exact absurd rfl h
    · rw [if_neg h3] at h ⊢
      rw [if_neg (by rw [List.length_append]; omega), len_append r t (by omega)]
      by_cases hl : 256 < lenF r
      · rw [if_pos hl, if_pos hl]
      · rw [if_neg hl] at h ⊢
        rw [if_neg hl]
        by_cases hw : r.length < lenF r + 6
        · rw [if_pos hw] at h; exact absurd rfl h
        · rw [if_neg hw, if_neg (by rw [List.length_append]; omega), List.take_append_of_le_length (by omega)]
  · rw [if_neg hc, if_neg hc]
theorem kind_append (s t : List UInt8) (h : 2 ≤ s.length) : kindF (s ++ t) = kindF s := by
  unfold kindF
  simp [List.getD, List.getElem?_append_left (show 1 < s.length by omega)]
theorem body_append (s t : List UInt8) (n : Nat) (h : n + 4 ≤ s.length) : bodyF (s ++ t) n = bodyF s n := by
  unfold bodyF
  rw [List.drop_append_of_le_length (by omega), List.take_append_of_le_length (by rw [List.length_drop]; omega)]

/-- Pieces play no part: what comes behind goes on from where the first one was left. -/
theorem pass_append (ov : Bool) (t : List UInt8) : ∀ (m : Nat) (s : List UInt8) (k : Nat), s.length ≤ m →
    passF ov (s ++ t) k = ((passF ov ((passF false s k).1 ++ t) (passF false s k).2.1).1, (passF ov ((passF false s k).1 ++ t) (passF false s k).2.1).2.1, (passF false s k).2.2 ++ (passF ov ((passF false s k).1 ++ t) (passF false s k).2.1).2.2)
  | 0, [], k, _ => by simp [pass_nil]
  | 0, _ :: _, _, h => by simp at h
  | m + 1, [], k, _ => by simp [pass_nil]
  | m + 1, c :: r, k, h => by
    have hr : r.length ≤ m := by simpa using h
    by_cases hw : szF (c :: r) = .wait
    · rw [pass_wait hw]
      simp
    · have ha := sz_append c r t hw
      cases hz : szF (c :: r) with
      | wait => exact absurd hz hw
      | no =>
        rw [hz] at ha
        rw [pass_no hz, List.cons_append, pass_no ha]
        exact pass_append ov t m r (k + 1) hr
      | frame n =>
        rw [hz] at ha
        obtain ⟨_, hn, _, hl, _⟩ := sz_frame hz
        rw [pass_frame hz, List.cons_append, pass_frame ha]
        have hd : (r ++ t).drop (n + 6) = r.drop (n + 6) ++ t := List.drop_append_of_le_length hl
        have ih := pass_append ov t m (r.drop (n + 6)) 0 (by rw [List.length_drop]; omega)
        rw [hd, ih]
        have hk : kindF (c :: (r ++ t)) = kindF (c :: r) := kind_append (c :: r) t (by simp; omega)
        have hb : bodyF (c :: (r ++ t)) n = bodyF (c :: r) n := body_append (c :: r) t n (by simp; omega)
        rw [hk, hb]
        simp

/-! What waits is short. -/
theorem pass_held : ∀ (m : Nat) (s : List UInt8) (k : Nat), s.length ≤ m → (passF false s k).1.length ≤ 262
  | 0, [], k, _ => by simp [pass_nil]
  | 0, _ :: _, _, h => by simp at h
  | m + 1, [], k, _ => by simp [pass_nil]
  | m + 1, c :: r, k, h => by
    have hr : r.length ≤ m := by simpa using h
    cases hz : szF (c :: r) with
    | wait =>
      rw [pass_wait hz]
      rw [sz_cons] at hz
      simp only [List.length_cons]
      split at hz
      · split at hz
        · omega
        · split at hz
          · cases hz
          · split at hz
            · omega
            · split at hz <;> cases hz
      · cases hz
    | no => rw [pass_no hz]; exact pass_held m r (k + 1) hr
    | frame n => rw [pass_frame hz]; exact pass_held m _ 0 (by rw [List.length_drop]; omega)
theorem pass_end : ∀ (m : Nat) (s : List UInt8) (k : Nat), s.length ≤ m → (passF true s k).1 = []
  | 0, [], k, _ => by simp [pass_nil]
  | 0, _ :: _, _, h => by simp at h
  | m + 1, [], k, _ => by simp [pass_nil]
  | m + 1, c :: r, k, h => by
    have hr : r.length ≤ m := by simpa using h
    cases hz : szF (c :: r) with
    | wait => rw [pass_over hz]; exact pass_end m r (k + 1) hr
    | no => rw [pass_no hz]; exact pass_end m r (k + 1) hr
    | frame n => rw [pass_frame hz]; exact pass_end m _ 0 (by rw [List.length_drop]; omega)
end Go.Proofs.YthnkiabhfcddaaaDoor
/-
  Layer 3, plain mathematics: of bytes that end in their sum some of 24 bits in a row are turned: their sum is 0 no more; nothing of the model.
-/
namespace Go.Proofs.YthnkiabhfcddaaaDoor
set_option linter.unusedVariables false

theorem byte_get (c : UInt8) (q : Nat) (h : q < 8) : (byteBits c).getD q false = c.toNat.testBit (7 - q) := by
  have : q = 0 ∨ q = 1 ∨ q = 2 ∨ q = 3 ∨ q = 4 ∨ q = 5 ∨ q = 6 ∨ q = 7 := by omega
  rcases this with rfl | rfl | rfl | rfl | rfl | rfl | rfl | rfl <;> rfl
theorem getD_left (a b : List Bool) (q : Nat) (h : q < a.length) : (a ++ b).getD q false = a.getD q false := by
  simp [List.getD, List.getElem?_append_left h]
theorem getD_right (a b : List Bool) (q : Nat) (h : a.length ≤ q) : (a ++ b).getD q false = b.getD (q - a.length) false := by
  simp [List.getD, List.getElem?_append_right h]
theorem nots_get (n q : Nat) : (List.replicate n false).getD q false = false := by
  by_cases h : q < n <;> simp [List.getD, h]
theorem bits_get : ∀ (l : List UInt8) (q : Nat), (bits l).getD q false = (l.getD (q / 8) 0).toNat.testBit (7 - q % 8)
  | [], q => by simp [bits]
  | c :: l, q => by
    show (byteBits c ++ bits l).getD q false = _
    by_cases h : q < 8
    · rw [getD_left _ _ _ (by simpa [byteBits] using h), byte_get c q h, show q / 8 = 0 by omega, show q % 8 = q by omega]
      rfl
    · rw [getD_right _ _ _ (by simpa [byteBits] using Nat.le_of_not_lt h)]
      have e : q / 8 = (q - 8) / 8 + 1 := by omega
      rw [e, List.getD_cons_succ, show (byteBits c).length = 8 by rfl, bits_get l (q - 8), show (q - 8) % 8 = q % 8 by omega]

/-- Bit p is turned. -/
def flipB (l : List UInt8) (p : Nat) : List UInt8 := l.set (p / 8) (l.getD (p / 8) 0 ^^^ UInt8.ofNat (128 / 2 ^ (p % 8)))
theorem flipB_length (l : List UInt8) (p : Nat) : (flipB l p).length = l.length := by simp [flipB]
theorem mask_bit (r m : Nat) (hr : r < 8) (hm : m < 8) : (UInt8.ofNat (128 / 2 ^ r)).toNat.testBit (7 - m) = decide (m = r) := by
  have h : ∀ a b : Fin 8, (UInt8.ofNat (128 / 2 ^ a.val)).toNat.testBit (7 - b.val) = decide (b.val = a.val) := by decide
  exact h ⟨r, hr⟩ ⟨m, hm⟩
theorem flipB_get (l : List UInt8) (p q : Nat) (hp : p < 8 * l.length) : (bits (flipB l p)).getD q false = ((bits l).getD q false ^^ decide (q = p)) := by
  rw [bits_get, bits_get]
  unfold flipB
  have hi : p / 8 < l.length := by omega
  by_cases h : q / 8 = p / 8
  · have e : (l.set (p / 8) (l.getD (p / 8) 0 ^^^ UInt8.ofNat (128 / 2 ^ (p % 8)))).getD (q / 8) 0 = l.getD (p / 8) 0 ^^^ UInt8.ofNat (128 / 2 ^ (p % 8)) := by
      rw [h]
      simp [List.getD, hi]
    rw [e, UInt8.toNat_xor, Nat.testBit_xor, mask_bit _ _ (by omega) (by omega), h]
    congr 1
    rw [decide_eq_decide]
    omega
  · have e : (l.set (p / 8) (l.getD (p / 8) 0 ^^^ UInt8.ofNat (128 / 2 ^ (p % 8)))).getD (q / 8) 0 = l.getD (q / 8) 0 := by
      simp [List.getD, show ¬ p / 8 = q / 8 from fun hh => h hh.symm]
    rw [e]
    have : decide (q = p) = false := by simp; intro hh; exact h (by rw [hh])
    rw [this, Bool.xor_false]
/-- The first i bits of t are turned, from bit k on. -/
def fl (l : List UInt8) (k t : Nat) : Nat → List UInt8
  | 0 => l
  | i + 1 => if t.testBit i then flipB (fl l k t i) (k + i) else fl l k t i
theorem fl_length (l : List UInt8) (k t i : Nat) : (fl l k t i).length = l.length := by
  induction i with
  | zero => rfl
  | succ i ih =>
    unfold fl
    split
    · rw [flipB_length, ih]
    · exact ih
theorem fl_get (l : List UInt8) (k t : Nat) : ∀ (i : Nat), k + i ≤ 8 * l.length → ∀ q, (bits (fl l k t i)).getD q false = ((bits l).getD q false ^^ (decide (k ≤ q ∧ q < k + i) && t.testBit (q - k)))
  | 0, _, q => by
    have : decide (k ≤ q ∧ q < k + 0) = false := by simp
    rw [this]; simp [fl]
  | i + 1, h, q => by
    have ih := fl_get l k t i (by omega) q
    unfold fl
    by_cases ht : t.testBit i = true
    · rw [if_pos ht, flipB_get _ _ _ (by rw [fl_length]; omega), ih, Bool.xor_assoc]
      congr 1
      by_cases hq : q = k + i
      · subst hq
        simp [ht]
      · have e : decide (k ≤ q ∧ q < k + (i + 1)) = decide (k ≤ q ∧ q < k + i) := by rw [decide_eq_decide]; omega
        rw [e]
        simp [hq]
    · rw [if_neg ht, ih]
      congr 1
      by_cases hq : q = k + i
      · subst hq
        have : decide (k ≤ k + i ∧ k + i < k + i) = false := by simp
        rw [this]
        simp at ht
        simp [ht]
      · have e : decide (k ≤ q ∧ q < k + (i + 1)) = decide (k ≤ q ∧ q < k + i) := by rw [decide_eq_decide]; omega
        rw [e]

/-- The bits that are turned: 24 of t in a row, from bit k on, of n. -/
def err (n k t : Nat) : List Bool := nots k ++ ((List.range 24).map t.testBit ++ nots (n - k - 24))
theorem err_length (n k t : Nat) (h : k + 24 ≤ n) : (err n k t).length = n := by
  simp [err, nots]; omega
theorem err_get (n k t q : Nat) (h : k + 24 ≤ n) : (err n k t).getD q false = (decide (k ≤ q ∧ q < k + 24) && t.testBit (q - k)) := by
  unfold err nots
  by_cases h1 : q < k
  · rw [getD_left _ _ _ (by simpa using h1)]
    have : decide (k ≤ q ∧ q < k + 24) = false := by simp; omega
    rw [this, nots_get]
    rfl
  · rw [getD_right _ _ _ (by simpa using Nat.le_of_not_lt h1), List.length_replicate]
    by_cases h2 : q - k < 24
    · rw [getD_left _ _ _ (by simpa using h2)]
      have : decide (k ≤ q ∧ q < k + 24) = true := by simp; omega
      rw [this]
      simp [List.getD, h2]
    · rw [getD_right _ _ _ (by simpa using Nat.le_of_not_lt h2)]
      have : decide (k ≤ q ∧ q < k + 24) = false := by simp; omega
      rw [this, nots_get]
      rfl
theorem zip_get (a b : List Bool) (h : a.length = b.length) (q : Nat) : (List.zipWith (· ^^ ·) a b).getD q false = (a.getD q false ^^ b.getD q false) := by
  by_cases hq : q < a.length
  · have hb : q < b.length := by omega
    simp [List.getD, List.getElem?_zipWith, hq, hb]
  · have hb : ¬ q < b.length := by omega
    simp [List.getD, List.getElem?_zipWith, List.getElem?_eq_none (Nat.le_of_not_lt hq), List.getElem?_eq_none (Nat.le_of_not_lt hb)]
theorem ext_getD {a b : List Bool} (hl : a.length = b.length) (h : ∀ q, a.getD q false = b.getD q false) : a = b := by
  apply List.ext_getElem hl
  intro i h1 h2
  have := h i
  simpa [List.getD, h1, h2] using this
theorem fl_bits (l : List UInt8) (k t : Nat) (h : k + 24 ≤ 8 * l.length) : bits (fl l k t 24) = List.zipWith (· ^^ ·) (bits l) (err (8 * l.length) k t) := by
  refine ext_getD ?_ fun q => ?_
  · rw [bits_length, fl_length, List.length_zipWith, bits_length, err_length _ _ _ h, Nat.min_self]
  · rw [fl_get l k t 24 h, zip_get _ _ (by rw [bits_length, err_length _ _ _ h]), err_get _ _ _ _ h]
theorem err_feed (n k t : Nat) (ht : t < 16777216) (h0 : t ≠ 0) : feed 0 (err n k t) ≠ 0 := by
  intro h
  unfold err at h
  rw [feed_append, feed_append, feed_zero] at h
  have h1 := feed_kernel _ _ (feed_lt _ _ (by omega)) h
  rw [feed_la _ _ (by simp), Nat.zero_xor] at h1
  have h2 := feed_kernel _ _ (la_lt _) h1
  refine h0 (tb_ext fun i => ?_)
  rw [Nat.zero_testBit]
  by_cases hi : i < 24
  · have := congrArg (fun z => Nat.testBit z (23 - i)) h2
    simp only [la_bit, Nat.zero_testBit] at this
    have e : 23 - (23 - i) = i := by omega
    rw [e] at this
    simpa [List.getD, hi, show 23 - i < 24 by omega] using this
  · exact Nat.testBit_lt_two_pow (Nat.lt_of_lt_of_le ht (by rw [show (16777216 : Nat) = 2 ^ 24 by rfl]; exact Nat.pow_le_pow_right (by omega) (by omega)))
/-- Bytes that end in their sum do so no more. -/
theorem turned (l : List UInt8) (k t : Nat) (h3 : 3 ≤ l.length) (hs : sumC l = 0) (h : k + 24 ≤ 8 * l.length) (ht : t < 16777216) (h0 : t ≠ 0) : fitsC (fl l k t 24) = false := by
  rw [Bool.eq_false_iff]
  intro hf
  rw [fitsC_iff _ (by rw [fl_length]; exact h3)] at hf
  unfold sumC moreC at hf hs
  rw [fl_bits l k t h] at hf
  have e := feed_xor (bits l) (err (8 * l.length) k t) (11994318 % 16777216) 0 (by rw [bits_length, err_length _ _ _ h])
  rw [Nat.xor_zero, hs, Nat.zero_xor] at e
  rw [e] at hf
  exact err_feed _ _ _ ht h0 hf
end Go.Proofs.YthnkiabhfcddaaaDoor
/-
  Layer 4, plain mathematics: frames that are put are found; what is skipped, and the frames, make all; a frame of which a byte is turned is none; nothing of the model.
-/
namespace Go.Proofs.YthnkiabhfcddaaaDoor
set_option linter.unusedVariables false

theorem headF_length (kind : UInt8) (body : List UInt8) : (headF kind body).length = body.length + 3 := by simp [headF]
theorem putC_length (s : Nat) : (putC s).length = 3 := rfl
theorem putF_length (kind : UInt8) (body : List UInt8) : (putF kind body).length = body.length + 7 := by
  unfold putF
  rw [List.length_cons, List.length_append, headF_length, putC_length]
theorem len_put (kind : UInt8) (body t : List UInt8) (h : body.length ≤ 256) : lenF (headF kind body ++ t) = body.length := by
  unfold lenF headF
  simp [List.getD]
  omega
theorem fits_own (l : List UInt8) : fitsC (l ++ putC (sumC l)) = true := by
  rw [fitsC_put, Nat.mod_eq_of_lt (sumC_lt l)]
  simp
theorem sz_put (kind : UInt8) (body t : List UInt8) (h : body.length ≤ 256) : szF (putF kind body ++ t) = .frame body.length := by
  show szF (165 :: (headF kind body ++ putC (sumC (headF kind body)) ++ t)) = _
  have hr : lenF (headF kind body ++ putC (sumC (headF kind body)) ++ t) = body.length := by rw [List.append_assoc]; exact len_put _ _ _ h
  have hl : (headF kind body ++ putC (sumC (headF kind body)) ++ t).length = body.length + 6 + t.length := by
    rw [List.length_append, List.length_append, headF_length, putC_length]
  have ht : (headF kind body ++ putC (sumC (headF kind body)) ++ t).take (body.length + 6) = headF kind body ++ putC (sumC (headF kind body)) := by
    apply List.take_left'
    rw [List.length_append, headF_length, putC_length]
  rw [sz_cons, if_pos rfl, hr, hl, if_neg (by omega), if_neg (by omega), if_neg (by omega), ht, if_pos (fits_own _)]
/-- A frame that is put is found. -/
theorem pass_put (ov : Bool) (kind : UInt8) (body t : List UInt8) (k : Nat) (h : body.length ≤ 256) :
    passF ov (putF kind body ++ t) k = ((passF ov t 0).1, (passF ov t 0).2.1, skipI k ++ ⟨0, kind, body⟩ :: (passF ov t 0).2.2) := by
  have hz : szF (165 :: (headF kind body ++ putC (sumC (headF kind body)) ++ t)) = .frame body.length := sz_put kind body t h
  have e := pass_frame (ov := ov) (k := k) hz
  have hd : (headF kind body ++ putC (sumC (headF kind body)) ++ t).drop (body.length + 6) = t := by
    apply List.drop_left'
    rw [List.length_append, headF_length, putC_length]
  have hb : bodyF (165 :: (headF kind body ++ putC (sumC (headF kind body)) ++ t)) body.length = body := by
    unfold bodyF headF
    simp
  rw [hd, hb] at e
  exact e
theorem pass_noise (ov : Bool) (t : List UInt8) : ∀ (z : List UInt8) (k : Nat), (∀ c ∈ z, c ≠ 165) → passF ov (z ++ t) k = passF ov t (k + z.length)
  | [], k, _ => by simp
  | c :: z, k, h => by
    have hc : szF (c :: (z ++ t)) = .no := by rw [sz_cons, if_neg (h c (by simp))]
    rw [List.cons_append, pass_no hc, pass_noise ov t z (k + 1) (fun x hx => h x (by simp [hx])), List.length_cons]
    congr 1
    omega
/-- Frames, one behind the other. -/
def putsF (l : List (UInt8 × List UInt8)) : List UInt8 := l.flatMap fun f => putF f.1 f.2
def framesI (l : List (UInt8 × List UInt8)) : List It := l.map fun f => ⟨0, f.1, f.2⟩
theorem pass_puts (ov : Bool) : ∀ (l : List (UInt8 × List UInt8)), (∀ f ∈ l, f.2.length ≤ 256) → passF ov (putsF l) 0 = ([], 0, framesI l)
  | [], _ => by show passF ov [] 0 = _; rw [pass_nil]; rfl
  | f :: l, h => by
    show passF ov (putF f.1 f.2 ++ putsF l) 0 = _
    rw [pass_put ov _ _ _ _ (h f (by simp)), pass_puts ov l (fun x hx => h x (by simp [hx]))]
    rfl
theorem pass_puts_at (ov : Bool) (k : Nat) : ∀ (l : List (UInt8 × List UInt8)), (∀ f ∈ l, f.2.length ≤ 256) → l ≠ [] → passF ov (putsF l) k = ([], 0, skipI k ++ framesI l)
  | [], _, h => absurd rfl h
  | f :: l, h, _ => by
    show passF ov (putF f.1 f.2 ++ putsF l) k = _
    rw [pass_put ov _ _ _ _ (h f (by simp)), pass_puts ov l (fun x hx => h x (by simp [hx]))]
    rfl

/-- All items, once no more bytes come. -/
def allI (b : List UInt8) : List It := (passF true b 0).2.2 ++ skipI (passF true b 0).2.1
theorem all_puts (l : List (UInt8 × List UInt8)) (h : ∀ f ∈ l, f.2.length ≤ 256) : allI (putsF l) = framesI l := by
  unfold allI
  rw [pass_puts true l h]
  simp [skipI]
theorem all_after (z : List UInt8) (l : List (UInt8 × List UInt8)) (hz : ∀ c ∈ z, c ≠ 165) (h : ∀ f ∈ l, f.2.length ≤ 256) : allI (z ++ putsF l) = skipI z.length ++ allI (putsF l) := by
  rw [all_puts l h]
  unfold allI
  rw [pass_noise true _ z 0 hz, Nat.zero_add]
  by_cases hl : l = []
  · subst hl
    show (passF true [] z.length).2.2 ++ skipI (passF true [] z.length).2.1 = _
    rw [pass_nil]
    simp [framesI]
  · rw [pass_puts_at true _ l h hl]
    simp [skipI]

/-- How many bytes an item stands for. -/
def wtI (x : It) : Nat := if 0 < x.skip then x.skip else x.body.length + 7
def sumI : List It → Nat
  | [] => 0
  | x :: l => wtI x + sumI l
theorem sumI_append (a b : List It) : sumI (a ++ b) = sumI a + sumI b := by
  induction a with
  | nil => simp [sumI]
  | cons x a ih => simp only [List.cons_append, sumI, ih]; omega
theorem sumI_skip (k : Nat) : sumI (skipI k) = k := by
  unfold skipI
  split
  · simp [sumI, wtI, *]
  · simp [sumI]; omega
theorem pass_sum (ov : Bool) : ∀ (m : Nat) (s : List UInt8) (k : Nat), s.length ≤ m → sumI (passF ov s k).2.2 + (passF ov s k).2.1 + (passF ov s k).1.length = s.length + k
  | 0, [], k, _ => by simp [pass_nil, sumI]
  | 0, _ :: _, _, h => by simp at h
  | m + 1, [], k, _ => by simp [pass_nil, sumI]
  | m + 1, c :: r, k, h => by
    have hr : r.length ≤ m := by simpa using h
    have ih := pass_sum ov m r (k + 1) hr
    cases hz : szF (c :: r) with
    | wait =>
      cases ov
      · rw [pass_wait hz]; simp [sumI]; omega
      · rw [pass_over hz, ih]; simp; omega
    | no => rw [pass_no hz, ih]; simp; omega
    | frame n =>
      obtain ⟨_, _, _, hl, _⟩ := sz_frame hz
      have ih2 := pass_sum ov m (r.drop (n + 6)) 0 (by rw [List.length_drop]; omega)
      rw [pass_frame hz]
      dsimp only
      rw [sumI_append, sumI_skip]
      have hb : (bodyF (c :: r) n).length = n := by unfold bodyF; rw [List.length_take, List.length_drop, List.length_cons]; omega
      have hw : wtI ⟨0, kindF (c :: r), bodyF (c :: r) n⟩ = n + 7 := by unfold wtI; simp [hb]
      simp only [sumI, hw]
      rw [List.length_drop] at ih2
      simp only [List.length_cons]
      omega
/-- No two items of skipped bytes side by side. -/
def noTwo : List It → Bool
  | x :: y :: l => !(decide (0 < x.skip) && decide (0 < y.skip)) && noTwo (y :: l)
  | _ => true
theorem noTwo_frame (x : It) (l : List It) (h : x.skip = 0) : noTwo (x :: l) = noTwo l := by
  cases l with
  | nil => rfl
  | cons y l => simp [noTwo, h]
theorem noTwo_skip (k j : Nat) (x : It) (l : List It) (hx : x.skip = 0) (h : noTwo (l ++ skipI j) = true) : noTwo (skipI k ++ x :: l ++ skipI j) = true := by
  have h1 : noTwo (x :: (l ++ skipI j)) = true := by rw [noTwo_frame x _ hx]; exact h
  unfold skipI at h1 ⊢
  split
  · simp only [List.cons_append, List.nil_append]
    simp only [noTwo, hx]
    simpa using h1
  · simpa using h1
theorem pass_noTwo (ov : Bool) (j : Nat) : ∀ (m : Nat) (s : List UInt8) (k : Nat), s.length ≤ m → noTwo ((passF ov s k).2.2 ++ skipI j) = true
  | 0, [], k, _ => by rw [pass_nil]; unfold skipI; split <;> rfl
  | 0, _ :: _, _, h => by simp at h
  | m + 1, [], k, _ => by rw [pass_nil]; unfold skipI; split <;> rfl
  | m + 1, c :: r, k, h => by
    have hr : r.length ≤ m := by simpa using h
    have ih := pass_noTwo ov j m r (k + 1) hr
    cases hz : szF (c :: r) with
    | wait =>
      cases ov
      · rw [pass_wait hz]; unfold skipI; split <;> rfl
      · rw [pass_over hz]; exact ih
    | no => rw [pass_no hz]; exact ih
    | frame n =>
      have ih2 := pass_noTwo ov j m (r.drop (n + 6)) 0 (by rw [List.length_drop]; omega)
      rw [pass_frame hz]
      exact noTwo_skip k j _ _ rfl ih2
theorem all_sum (b : List UInt8) : sumI (allI b) = b.length := by
  unfold allI
  have h := pass_sum true b.length b 0 (Nat.le_refl _)
  have e := pass_end b.length b 0 (Nat.le_refl _)
  rw [e] at h
  rw [sumI_append, sumI_skip]
  simpa using h
theorem all_noTwo (b : List UInt8) : noTwo (allI b) = true := pass_noTwo true _ b.length b 0 (Nat.le_refl _)

/-- Bytes that are skipped first are told first. -/
theorem pass_first : ∀ (m : Nat) (s : List UInt8) (k : Nat), s.length ≤ m → 0 < k → ∃ x l, (passF true s k).2.2 ++ skipI (passF true s k).2.1 = x :: l ∧ 0 < x.skip
  | 0, [], k, _, hk => by rw [pass_nil]; exact ⟨⟨k, 0, []⟩, [], by simp [skipI, hk], hk⟩
  | 0, _ :: _, _, h, _ => by simp at h
  | m + 1, [], k, _, hk => by rw [pass_nil]; exact ⟨⟨k, 0, []⟩, [], by simp [skipI, hk], hk⟩
  | m + 1, c :: r, k, h, hk => by
    have hr : r.length ≤ m := by simpa using h
    have ih := pass_first m r (k + 1) hr (by omega)
    cases hz : szF (c :: r) with
    | wait => rw [pass_over hz]; exact ih
    | no => rw [pass_no hz]; exact ih
    | frame n =>
      rw [pass_frame hz]
      refine ⟨⟨k, 0, []⟩, ⟨0, kindF (c :: r), bodyF (c :: r) n⟩ :: ((passF true (r.drop (n + 6)) 0).2.2 ++ skipI (passF true (r.drop (n + 6)) 0).2.1), ?_, hk⟩
      have e : skipI k = [⟨k, 0, []⟩] := by unfold skipI; rw [if_pos hk]
      rw [e]
      rfl

/-- Of bytes that end in their sum one is turned: they don't any more. -/
theorem one_turned (l : List UInt8) (i : Nat) (t : UInt8) (h3 : 3 ≤ l.length) (hf : fitsC l = true) (hi : i < l.length) (ht : t ≠ 0) : fitsC (l.set i (l[i] ^^^ t)) = false := by
  rw [Bool.eq_false_iff]
  intro h
  rw [fitsC_iff _ (by rw [List.length_set]; exact h3)] at h
  rw [fitsC_iff _ h3] at hf
  have e : l.set i (l[i] ^^^ t) = List.zipWith (· ^^^ ·) l (List.replicate i 0 ++ (t :: List.replicate (l.length - i - 1) 0)) := by
    apply List.ext_getElem
    · simp; omega
    · intro j h1 h2
      have hj : j < l.length := by simpa using h1
      rw [List.getElem_zipWith, List.getElem_set]
      by_cases e : i = j
      · subst e
        rw [if_pos rfl]
        congr 1
        rw [List.getElem_append_right (by simp)]
        simp
      · rw [if_neg e]
        by_cases hlt : j < i
        · rw [List.getElem_append_left (by simpa using hlt)]
          simp
        · rw [List.getElem_append_right (by simp; omega)]
          have : j - (List.replicate i (0 : UInt8)).length = (j - i - 1) + 1 := by simp; omega
          simp only [this, List.getElem_cons_succ, List.getElem_replicate]
          simp
  have hlen : l.length = (List.replicate i (0 : UInt8) ++ (t :: List.replicate (l.length - i - 1) 0)).length := by simp; omega
  unfold sumC moreC at h hf
  rw [e, bits_zip _ _ hlen] at h
  have k := feed_xor (bits l) (bits (List.replicate i (0 : UInt8) ++ (t :: List.replicate (l.length - i - 1) 0))) (11994318 % 16777216) 0 (by rw [bits_length, bits_length, ← hlen])
  rw [Nat.xor_zero, hf, Nat.zero_xor] at k
  rw [k, bits_append, feed_append, bits_zeros, feed_zero] at h
  have h2 : bits (t :: List.replicate (l.length - i - 1) 0) = byteBits t ++ nots (8 * (l.length - i - 1)) := by
    show byteBits t ++ bits (List.replicate (l.length - i - 1) 0) = _
    rw [bits_zeros]
  rw [h2, feed_append] at h
  have h4 := feed_kernel _ _ (feed_lt _ _ (by omega)) h
  rw [feed_la _ _ (by simp [byteBits]), Nat.zero_xor] at h4
  have h5 := feed_kernel _ _ (la_lt _) h4
  apply ht
  apply UInt8.toNat_inj.1
  apply tb_ext
  intro q
  show t.toNat.testBit q = (0 : Nat).testBit q
  rw [Nat.zero_testBit]
  by_cases hq : q < 8
  · have := congrArg (fun z => Nat.testBit z (16 + q)) h5
    simp only [la_bit, Nat.zero_testBit] at this
    rw [show 23 - (16 + q) = 7 - q by omega, byte_get t (7 - q) (by omega), show 7 - (7 - q) = q by omega] at this
    simpa [show 16 + q < 24 by omega] using this
  · exact Nat.testBit_lt_two_pow (Nat.lt_of_lt_of_le t.toNat_lt (by rw [show (2 : Nat) ^ 8 = 2 ^ 8 by rfl]; exact Nat.pow_le_pow_right (by omega) (by omega)))

/-- A frame of which one byte, neither the mark nor of the length, is turned, is none. -/
theorem sz_spoilt (kind : UInt8) (body : List UInt8) (k : Nat) (t : UInt8) (h : body.length ≤ 256) (hk : k = 1 ∨ (4 ≤ k ∧ k < body.length + 7)) (ht : t ≠ 0) : szF ((putF kind body).set k ((putF kind body).getD k 0 ^^^ t)) = .no := by
  obtain ⟨j, rfl⟩ : ∃ j, k = j + 1 := ⟨k - 1, by omega⟩
  obtain ⟨r, hr⟩ : ∃ r, r = headF kind body ++ putC (sumC (headF kind body)) := ⟨_, rfl⟩
  have hp : putF kind body = 165 :: r := by rw [hr]; rfl
  have hl : r.length = body.length + 6 := by rw [hr, List.length_append, headF_length, putC_length]
  have hn : lenF r = body.length := by rw [hr]; exact len_put _ _ _ h
  have hf : fitsC r = true := by rw [hr]; exact fits_own _
  rw [hp]
  show szF (165 :: r.set j (r.getD j 0 ^^^ t)) = _
  have hj : j < r.length := by omega
  have hg : r.getD j 0 = r[j] := by simp [List.getD, hj]
  have hn2 : lenF (r.set j (r.getD j 0 ^^^ t)) = body.length := by
    rw [← hn]
    unfold lenF
    simp [List.getD, show ¬ j = 1 by omega, show ¬ j = 2 by omega]
  rw [sz_cons, if_pos rfl, hn2, List.length_set, hl, if_neg (by omega), if_neg (by omega), if_neg (by omega), List.take_of_length_le (by rw [List.length_set]; omega), hg, one_turned r j t (by omega) hf hj ht]
  simp
theorem all_spoilt (kind : UInt8) (body : List UInt8) (k : Nat) (t : UInt8) (h : body.length ≤ 256) (hk : k = 1 ∨ (4 ≤ k ∧ k < body.length + 7)) (ht : t ≠ 0) : ∃ x l, allI ((putF kind body).set k ((putF kind body).getD k 0 ^^^ t)) = x :: l ∧ 0 < x.skip := by
  have hz := sz_spoilt kind body k t h hk ht
  obtain ⟨j, rfl⟩ : ∃ j, k = j + 1 := ⟨k - 1, by omega⟩
  unfold allI
  cases hs : (putF kind body).set (j + 1) ((putF kind body).getD (j + 1) 0 ^^^ t) with
  | nil => rw [hs] at hz; cases hz
  | cons c r =>
    rw [hs] at hz
    rw [pass_no hz]
    exact pass_first _ r 1 (Nat.le_refl _) (by omega)
end Go.Proofs.YthnkiabhfcddaaaDoor
/-
  Layer 3, plain mathematics: four bits at once by a table of sixteen words; nothing of the model.
-/
namespace Go.Proofs.YthnkiabhfcddaaaDoor
set_option linter.unusedVariables false

/-- What four bits that leave the register at the top turn it by. -/
def tab (j : Nat) : Nat := feed (j * 1048576) (nots 4)
theorem split_top (s n : Nat) (hs : s < 16777216) (hn : n < 16) : s ^^^ n * 1048576 = (s / 1048576 ^^^ n) * 1048576 ^^^ s % 1048576 := by
  apply tb_ext
  intro i
  have e : ∀ z : Nat, z * 1048576 = z <<< 20 := fun z => by rw [Nat.shiftLeft_eq]
  rw [e, e, Nat.testBit_xor, Nat.testBit_xor, Nat.testBit_shiftLeft, Nat.testBit_shiftLeft, Nat.testBit_xor, show (1048576 : Nat) = 2 ^ 20 by rfl, Nat.testBit_mod_two_pow, Nat.testBit_div_two_pow]
  by_cases h : 20 ≤ i
  · have h2 : ¬ i < 20 := by omega
    simp [h, h2, show i - 20 + 20 = i by omega]
  · have h2 : i < 20 := by omega
    simp [h, h2]
theorem la_four (n : Nat) (hn : n < 16) : la [n.testBit 3, n.testBit 2, n.testBit 1, n.testBit 0] = n * 1048576 := by
  have h : ∀ j : Fin 16, la [j.val.testBit 3, j.val.testBit 2, j.val.testBit 1, j.val.testBit 0] = j.val * 1048576 := by decide +kernel
  exact h ⟨n, hn⟩
theorem feed_small (x : Nat) (h : x < 1048576) : feed x (nots 4) = 16 * x := by
  have st : ∀ y : Nat, y < 8388608 → stp y false = 2 * y := fun y hy => by
    unfold stp dbl
    rw [Nat.testBit_lt_two_pow (by omega)]
    simp
    omega
  show stp (stp (stp (stp x false) false) false) false = _
  rw [st x (by omega), st (2 * x) (by omega), st (2 * (2 * x)) (by omega), st (2 * (2 * (2 * x))) (by omega)]
  omega
/-- A register after four bits. -/
theorem feed_four (s n : Nat) (hs : s < 16777216) (hn : n < 16) : feed s [n.testBit 3, n.testBit 2, n.testBit 1, n.testBit 0] = 16 * s % 16777216 ^^^ tab (s / 1048576 ^^^ n) := by
  rw [feed_la _ _ (by simp), la_four n hn, split_top s n hs hn]
  show feed _ (nots 4) = _
  have e := feed_xor (nots 4) (nots 4) ((s / 1048576 ^^^ n) * 1048576) (s % 1048576) rfl
  rw [show List.zipWith (· ^^ ·) (nots 4) (nots 4) = nots 4 by rfl, feed_small _ (Nat.mod_lt _ (by omega))] at e
  rw [e, Nat.xor_comm]
  congr 1
  omega
theorem byte_four (c : UInt8) : byteBits c = [(c.toNat / 16).testBit 3, (c.toNat / 16).testBit 2, (c.toNat / 16).testBit 1, (c.toNat / 16).testBit 0] ++ [(c.toNat % 16).testBit 3, (c.toNat % 16).testBit 2, (c.toNat % 16).testBit 1, (c.toNat % 16).testBit 0] := by
  have h1 : ∀ i, (c.toNat / 16).testBit i = c.toNat.testBit (4 + i) := div_bit c.toNat 4
  have h2 : ∀ i, i < 4 → (c.toNat % 16).testBit i = c.toNat.testBit i := fun i hi => by rw [show (16 : Nat) = 2 ^ 4 by rfl, Nat.testBit_mod_two_pow]; simp [hi]
  rw [h1, h1, h1, h1, h2 3 (by omega), h2 2 (by omega), h2 1 (by omega), h2 0 (by omega)]
  rfl
/-- A register after a byte, by its two halves. -/
theorem feed_byte (s : Nat) (c : UInt8) (hs : s < 16777216) :
    feed s (byteBits c) = 16 * (16 * s % 16777216 ^^^ tab (s / 1048576 ^^^ c.toNat / 16)) % 16777216 ^^^ tab ((16 * s % 16777216 ^^^ tab (s / 1048576 ^^^ c.toNat / 16)) / 1048576 ^^^ c.toNat % 16) := by
  have hc := c.toNat_lt
  rw [byte_four, feed_append, feed_four _ _ hs (by omega), feed_four _ _ ?_ (Nat.mod_lt _ (by omega))]
  rw [← feed_four _ _ hs (by omega)]
  exact feed_lt _ _ hs
end Go.Proofs.YthnkiabhfcddaaaDoor
/-
  Pairs of bytes as bytes, of no layer: plain mathematics.
-/
namespace Go.Proofs.YthnkiabhfcddaaaDoor
set_option linter.unusedVariables false

/-- Pairs of bytes, one behind the other. -/
def flat (ps : List (UInt8 × UInt8)) : List UInt8 := ps.flatMap fun p => [p.1, p.2]
theorem flat_length (ps : List (UInt8 × UInt8)) : (flat ps).length = 2 * ps.length := by
  induction ps with
  | nil => rfl
  | cons p ps ih => simp only [flat, List.flatMap_cons, List.length_append, List.length_cons, List.length_nil] at ih ⊢; omega
theorem flat_get (ps : List (UInt8 × UInt8)) : ∀ k (h : k < ps.length), (flat ps)[2 * k]? = some ps[k].1 ∧ (flat ps)[2 * k + 1]? = some ps[k].2 := by
  induction ps with
  | nil => intro k h; simp at h
  | cons p ps ih =>
    intro k h
    cases k with
    | zero => exact ⟨rfl, rfl⟩
    | succ k =>
      have := ih k (by simpa using h)
      show (p.1 :: p.2 :: flat ps)[2 * (k + 1)]? = _ ∧ (p.1 :: p.2 :: flat ps)[2 * (k + 1) + 1]? = _
      rw [show 2 * (k + 1) = 2 * k + 1 + 1 by omega]
      simpa using this
end Go.Proofs.YthnkiabhfcddaaaDoor
