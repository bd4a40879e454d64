/-
  Plain mathematics of numbers as bytes (no program): how many bytes a number has room in, its bytes, what bytes begin with.
-/
import Derived.Laws.MathBits
namespace Go.Proofs.YthnkiabhfcddaaaDoor

/-- The fewest bytes that u has room in (none for 0). -/
def nb (u : Nat) : Nat := (bitLen u + 7) / 8
/-- The last k bytes of u, the highest first. -/
def be : Nat → Nat → List UInt8
  | 0, _ => []
  | k + 1, u => UInt8.ofNat (u / 256 ^ k % 256) :: be k u
/-- A number's bytes. -/
def enc (u : Nat) : List UInt8 := if u < 248 then [UInt8.ofNat u] else UInt8.ofNat (247 + nb u) :: be (nb u) u
/-- The number that bytes are. -/
def val (l : List UInt8) : Nat := l.foldl (fun a c => a * 256 + c.toNat) 0

theorem be_length (k u : Nat) : (be k u).length = k := by
  induction k with
  | zero => rfl
  | succ k ih => simp [be, ih]

theorem nb_le_iff (u j : Nat) : nb u ≤ j ↔ u < 256 ^ j := by
  have e : (256 : Nat) ^ j = 2 ^ (8 * j) := by rw [Nat.pow_mul]
  rw [e]
  constructor
  · intro h
    have h1 := (bitLen_spec u).1
    refine Nat.lt_of_lt_of_le h1 (Nat.pow_le_pow_right (by decide) ?_)
    unfold nb at h; omega
  · intro h
    unfold nb
    rcases Nat.lt_or_ge (8 * j) (bitLen u) with hlt | hge
    · exfalso
      by_cases h0 : u = 0
      · subst h0
        have : bitLen 0 = 0 := by decide
        omega
      · have h2 := (bitLen_spec u).2 h0
        have h3 : 2 ^ (8 * j) ≤ 2 ^ (bitLen u - 1) := Nat.pow_le_pow_right (by decide) (by omega)
        omega
    · omega

theorem nb_lt8 (u : Nat) (h : u < 18446744073709551616) : nb u ≤ 8 := (nb_le_iff u 8).2 (by omega)
theorem nb_pos (u : Nat) (h : 0 < u) : 1 ≤ nb u := by
  rcases Nat.eq_zero_or_pos (nb u) with h0 | h0
  · have := (nb_le_iff u 0).1 (by omega)
    simp at this
    omega
  · exact h0

theorem val_append (a b : List UInt8) : val (a ++ b) = val a * 256 ^ b.length + val b := by
  unfold val
  rw [List.foldl_append]
  have key : ∀ (b : List UInt8) (x : Nat), b.foldl (fun a c => a * 256 + c.toNat) x = x * 256 ^ b.length + b.foldl (fun a c => a * 256 + c.toNat) 0 := by
    intro b
    induction b with
    | nil => intro x; simp
    | cons c b ih =>
      intro x
      simp only [List.foldl_cons, List.length_cons]
      rw [ih, ih (0 * 256 + c.toNat), Nat.pow_succ]
      have e1 : (x * 256 + c.toNat) * 256 ^ b.length = x * (256 ^ b.length * 256) + c.toNat * 256 ^ b.length := by
        rw [Nat.add_mul, Nat.mul_assoc, Nat.mul_comm 256]
      rw [e1]
      simp
      omega
  exact key b _
theorem val_cons (c : UInt8) (b : List UInt8) : val (c :: b) = c.toNat * 256 ^ b.length + val b := by
  have := val_append [c] b
  simpa [val] using this
theorem val_snoc (a : List UInt8) (c : UInt8) : val (a ++ [c]) = val a * 256 + c.toNat := by
  rw [val_append]; simp [val]
theorem val_lt (l : List UInt8) : val l < 256 ^ l.length := by
  induction l with
  | nil => simp [val]
  | cons c l ih =>
    rw [val_cons, List.length_cons, Nat.pow_succ]
    have hc := c.toNat_lt
    have : c.toNat * 256 ^ l.length ≤ 255 * 256 ^ l.length := Nat.mul_le_mul_right _ (by omega)
    omega

/-- A list of bytes is the bytes of its number. -/
theorem be_val (l : List UInt8) (x : Nat) : be l.length (x * 256 ^ l.length + val l) = l := by
  induction l generalizing x with
  | nil => rfl
  | cons c l ih =>
    have hp : 0 < 256 ^ l.length := Nat.pow_pos (by decide)
    have hl := val_lt l
    have hc := c.toNat_lt
    rw [val_cons, List.length_cons, be]
    have e : x * 256 ^ (l.length + 1) + (c.toNat * 256 ^ l.length + val l) = (x * 256 + c.toNat) * 256 ^ l.length + val l := by
      rw [Nat.pow_succ, Nat.add_mul, Nat.mul_assoc, Nat.mul_comm 256]
      omega
    rw [e, ih]
    congr 1
    have e2 : ((x * 256 + c.toNat) * 256 ^ l.length + val l) / 256 ^ l.length = x * 256 + c.toNat := by
      rw [Nat.mul_comm, Nat.mul_add_div hp, Nat.div_eq_of_lt hl]; omega
    rw [e2]
    have e3 : (x * 256 + c.toNat) % 256 = c.toNat := by omega
    rw [e3]
    simp
theorem val_be (k u : Nat) : val (be k u) = u % 256 ^ k := by
  induction k with
  | zero => simp [be, val, Nat.mod_one]
  | succ k ih =>
    rw [be, val_cons, ih, be_length]
    have e : (UInt8.ofNat (u / 256 ^ k % 256)).toNat = u / 256 ^ k % 256 := by
      simp
    rw [e, Nat.pow_succ, Nat.mod_mul, Nat.mul_comm]
    omega
theorem be_val0 (l : List UInt8) : be l.length (val l) = l := by
  have := be_val l 0
  simpa using this

/-- What bytes begin with: the number, how many bytes it has, the error. -/
def tk (l : List UInt8) : Nat × Nat × Int :=
  match l with
  | [] => (0, 0, 10)
  | c :: r =>
    if c.toNat < 248 then (c.toNat, 1, 0)
    else if r.length < c.toNat - 247 then (0, 0, 10)
    else if val (r.take (c.toNat - 247)) < 248 ∨ nb (val (r.take (c.toNat - 247))) < c.toNat - 247 then (0, 0, 11)
    else (val (r.take (c.toNat - 247)), c.toNat - 247 + 1, 0)

theorem tk_short (c : UInt8) (r : List UInt8) (h : 248 ≤ c.toNat) (hr : r.length < c.toNat - 247) : tk (c :: r) = (0, 0, 10) := by
  simp only [tk]
  rw [if_neg (by omega), if_pos hr]
theorem tk_long (c : UInt8) (r : List UInt8) (h : 248 ≤ c.toNat) (hr : c.toNat - 247 ≤ r.length) :
    tk (c :: r) = if val (r.take (c.toNat - 247)) < 248 ∨ nb (val (r.take (c.toNat - 247))) < c.toNat - 247 then (0, 0, 11) else (val (r.take (c.toNat - 247)), c.toNat - 247 + 1, 0) := by
  simp only [tk]
  rw [if_neg (by omega), if_neg (by omega)]

/-- The bytes are those of their number just if none fewer would do. -/
theorem enc_val_iff (c : UInt8) (l : List UInt8) (hc : 248 ≤ c.toNat) (hl : l.length = c.toNat - 247) :
    enc (val l) = c :: l ↔ ¬ (val l < 248 ∨ nb (val l) < c.toNat - 247) := by
  have hlt := val_lt l
  have hcl := c.toNat_lt
  have hle : nb (val l) ≤ c.toNat - 247 := by rw [← hl]; exact (nb_le_iff _ _).2 hlt
  by_cases h : val l < 248
  · simp only [h, true_or, not_true_eq_false, iff_false]
    unfold enc
    rw [if_pos h]
    intro e
    have e2 := congrArg List.length e
    simp only [List.length_cons, List.length_nil] at e2
    omega
  · unfold enc
    rw [if_neg h]
    by_cases h2 : nb (val l) < c.toNat - 247
    · simp only [h2, or_true, not_true_eq_false, iff_false]
      intro e
      have e2 := congrArg List.length e
      simp [be_length] at e2
      omega
    · have e : nb (val l) = l.length := by omega
      simp only [h, h2, or_self, not_false_eq_true, iff_true]
      have e3 : 247 + l.length = c.toNat := by omega
      rw [e, be_val0, e3, UInt8.ofNat_toNat]

theorem tk_range (l : List UInt8) : (tk l).1 < 256 ^ 8 ∧ (tk l).2.1 ≤ l.length ∧ ((tk l).2.2 = 0 ∨ (tk l).2.2 = 10 ∨ (tk l).2.2 = 11) ∧ ((tk l).2.2 ≠ 0 → (tk l).1 = 0 ∧ (tk l).2.1 = 0) := by
  unfold tk
  split
  · exact ⟨by decide, by simp, by simp, by simp⟩
  · rename_i c r
    have hc := c.toNat_lt
    have h8 : val (r.take (c.toNat - 247)) < 256 ^ 8 := by
      refine Nat.lt_of_lt_of_le (val_lt _) (Nat.pow_le_pow_right (by decide) ?_)
      have := List.length_take_le (c.toNat - 247) r
      omega
    have h1 : c.toNat < 256 ^ 8 := Nat.lt_of_lt_of_le (show c.toNat < 256 ^ 1 by omega) (Nat.pow_le_pow_right (by decide) (by decide))
    split
    · dsimp only
      exact ⟨h1, by simp, by simp, by simp⟩
    · split
      · exact ⟨by decide, by simp, by simp, by simp⟩
      · split
        · exact ⟨by decide, by simp, by simp, by simp⟩
        · dsimp only
          exact ⟨h8, by simp only [List.length_cons]; omega, by simp, by simp⟩
end Go.Proofs.YthnkiabhfcddaaaDoor
