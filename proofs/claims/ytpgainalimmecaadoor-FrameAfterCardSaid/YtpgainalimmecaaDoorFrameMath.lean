/-
  Layer 4, plain mathematics: frames in bytes that come in pieces; nothing of the model.
-/
import Derived.Test.YtpgainalimmecaaDoorCrcBytes
namespace Go.Proofs.YtpgainalimmecaaDoor
set_option linter.unusedVariables false

/-- A frame's bytes behind the mark and ahead of its sum. -/
def headF (kind : UInt8) (body : List UInt8) : List UInt8 := kind :: UInt8.ofNat (body.length / 256) :: UInt8.ofNat (body.length % 256) :: body
/-- A frame's bytes. -/
def putF (kind : UInt8) (body : List UInt8) : List UInt8 := 165 :: (headF kind body ++ putC (sumC (headF kind body)))
/-- What bytes begin with: nothing, nobody knows yet, or a frame with so long a body. -/
inductive Sz | no | wait | frame (n : Nat)
  deriving DecidableEq
/-- The length that stands behind a mark. -/
def lenF (r : List UInt8) : Nat := (r.getD 1 0).toNat * 256 + (r.getD 2 0).toNat
def szF : List UInt8 → Sz
  | [] => .wait
  | m :: r => if m = 165 then (if r.length < 3 then .wait else if 256 < lenF r then .no else if r.length < lenF r + 6 then .wait else if fitsC (r.take (lenF r + 6)) = true then .frame (lenF r) else .no) else .no
theorem sz_cons (m : UInt8) (r : List UInt8) : szF (m :: r) = if m = 165 then (if r.length < 3 then .wait else if 256 < lenF r then .no else if r.length < lenF r + 6 then .wait else if fitsC (r.take (lenF r + 6)) = true then .frame (lenF r) else .no) else .no := rfl
/-- An item: bytes that were skipped, or a frame. -/
structure It where
  skip : Nat
  kind : UInt8
  body : List UInt8
def skipI (k : Nat) : List It := if 0 < k then [⟨k, 0, []⟩] else []
def kindF (s : List UInt8) : UInt8 := s.getD 1 0
def bodyF (s : List UInt8) (n : Nat) : List UInt8 := (s.drop 4).take n
/-- As far as may be: what waits, how many were skipped since the last frame, the items. -/
def passF (ov : Bool) (s : List UInt8) (k : Nat) : List UInt8 × Nat × List It :=
  match s with
  | [] => ([], k, [])
  | c :: r =>
    match szF (c :: r) with
    | .wait => if ov = true then passF ov r (k + 1) else (c :: r, k, [])
    | .no => passF ov r (k + 1)
    | .frame n => ((passF ov (r.drop (n + 6)) 0).1, (passF ov (r.drop (n + 6)) 0).2.1, skipI k ++ ⟨0, kindF (c :: r), bodyF (c :: r) n⟩ :: (passF ov (r.drop (n + 6)) 0).2.2)
termination_by s.length
decreasing_by all_goals (simp; try omega)

theorem pass_nil (ov : Bool) (k : Nat) : passF ov [] k = ([], k, []) := by rw [passF]
theorem pass_no {ov : Bool} {c : UInt8} {r : List UInt8} {k : Nat} (h : szF (c :: r) = .no) : passF ov (c :: r) k = passF ov r (k + 1) := by rw [passF, h]
theorem pass_wait {c : UInt8} {r : List UInt8} {k : Nat} (h : szF (c :: r) = .wait) : passF false (c :: r) k = (c :: r, k, []) := by rw [passF, h]; simp
theorem pass_over {c : UInt8} {r : List UInt8} {k : Nat} (h : szF (c :: r) = .wait) : passF true (c :: r) k = passF true r (k + 1) := by rw [passF, h]; simp
theorem pass_frame {ov : Bool} {c : UInt8} {r : List UInt8} {k n : Nat} (h : szF (c :: r) = .frame n) :
    passF ov (c :: r) k = ((passF ov (r.drop (n + 6)) 0).1, (passF ov (r.drop (n + 6)) 0).2.1, skipI k ++ ⟨0, kindF (c :: r), bodyF (c :: r) n⟩ :: (passF ov (r.drop (n + 6)) 0).2.2) := by
  conv => lhs; rw [passF, h]

theorem len_append (r t : List UInt8) (h : 3 ≤ r.length) : lenF (r ++ t) = lenF r := by
  unfold lenF
  simp [List.getD, List.getElem?_append_left (show 1 < r.length by omega), List.getElem?_append_left (show 2 < r.length by omega)]
theorem sz_frame {c : UInt8} {r : List UInt8} {n : Nat} (h : szF (c :: r) = .frame n) : c = 165 ∧ n = lenF r ∧ n ≤ 256 ∧ n + 6 ≤ r.length ∧ fitsC (r.take (n + 6)) = true := by
  rw [sz_cons] at h
  split at h
  · split at h
    · cases h
    · split at h
      · cases h
      · split at h
        · cases h
        · split at h
          · injection h with h; subst h; exact ⟨by assumption, rfl, by omega, by omega, by assumption⟩
          · cases h
  · cases h
/-- What is known of some bytes stays so, whatever comes behind. -/
theorem sz_append (c : UInt8) (r t : List UInt8) (h : szF (c :: r) ≠ .wait) : szF (c :: (r ++ t)) = szF (c :: r) := by
  rw [sz_cons] at h ⊢
  rw [sz_cons]
  by_cases hc : c = 165
  · rw [if_pos hc] at h ⊢
    rw [if_pos hc]
    by_cases h3 : r.length < 3
    · rw [if_pos h3] at h; exact absurd rfl h
    · rw [if_neg h3] at h ⊢
      rw [if_neg (by rw [List.length_append]; omega), len_append r t (by omega)]
      by_cases hl : 256 < lenF r
      · rw [if_pos hl, if_pos hl]
      · rw [if_neg hl] at h ⊢
        rw [if_neg hl]
        by_cases hw : r.length < lenF r + 6
        · rw [if_pos hw] at h; exact absurd rfl h
        · rw [if_neg hw, if_neg (by rw [List.length_append]; omega), List.take_append_of_le_length (by omega)]
  · rw [if_neg hc, if_neg hc]
theorem kind_append (s t : List UInt8) (h : 2 ≤ s.length) : kindF (s ++ t) = kindF s := by
  unfold kindF
  simp [List.getD, List.getElem?_append_left (show 1 < s.length by omega)]
theorem body_append (s t : List UInt8) (n : Nat) (h : n + 4 ≤ s.length) : bodyF (s ++ t) n = bodyF s n := by
  unfold bodyF
  rw [List.drop_append_of_le_length (by omega), List.take_append_of_le_length (by rw [List.length_drop]; omega)]

/-- Pieces play no part: what comes behind goes on from where the first one was left. -/
theorem pass_append (ov : Bool) (t : List UInt8) : ∀ (m : Nat) (s : List UInt8) (k : Nat), s.length ≤ m →
    passF ov (s ++ t) k = ((passF ov ((passF false s k).1 ++ t) (passF false s k).2.1).1, (passF ov ((passF false s k).1 ++ t) (passF false s k).2.1).2.1, (passF false s k).2.2 ++ (passF ov ((passF false s k).1 ++ t) (passF false s k).2.1).2.2)
  | 0, [], k, _ => by simp [pass_nil]
  | 0, _ :: _, _, h => by simp at h
  | m + 1, [], k, _ => by simp [pass_nil]
  | m + 1, c :: r, k, h => by
    have hr : r.length ≤ m := by simpa using h
    by_cases hw : szF (c :: r) = .wait
    · rw [pass_wait hw]
      simp
    · have ha := sz_append c r t hw
      cases hz : szF (c :: r) with
      | wait => exact absurd hz hw
      | no =>
        rw [hz] at ha
        rw [pass_no hz, List.cons_append, pass_no ha]
        exact pass_append ov t m r (k + 1) hr
      | frame n =>
        rw [hz] at ha
        obtain ⟨_, hn, _, hl, _⟩ := sz_frame hz
        rw [pass_frame hz, List.cons_append, pass_frame ha]
        have hd : (r ++ t).drop (n + 6) = r.drop (n + 6) ++ t := List.drop_append_of_le_length hl
        have ih := pass_append ov t m (r.drop (n + 6)) 0 (by rw [List.length_drop]; omega)
        rw [hd, ih]
        have hk : kindF (c :: (r ++ t)) = kindF (c :: r) := kind_append (c :: r) t (by simp; omega)
        have hb : bodyF (c :: (r ++ t)) n = bodyF (c :: r) n := body_append (c :: r) t n (by simp; omega)
        rw [hk, hb]
        simp

/-! What waits is short. -/
theorem pass_held : ∀ (m : Nat) (s : List UInt8) (k : Nat), s.length ≤ m → (passF false s k).1.length ≤ 262
  | 0, [], k, _ => by simp [pass_nil]
  | 0, _ :: _, _, h => by simp at h
  | m + 1, [], k, _ => by simp [pass_nil]
  | m + 1, c :: r, k, h => by
    have hr : r.length ≤ m := by simpa using h
    cases hz : szF (c :: r) with
    | wait =>
      rw [pass_wait hz]
      rw [sz_cons] at hz
      simp only [List.length_cons]
      split at hz
      · split at hz
        · omega
        · split at hz
          · cases hz
          · split at hz
            · omega
            · split at hz <;> cases hz
      · cases hz
    | no => rw [pass_no hz]; exact pass_held m r (k + 1) hr
    | frame n => rw [pass_frame hz]; exact pass_held m _ 0 (by rw [List.length_drop]; omega)
theorem pass_end : ∀ (m : Nat) (s : List UInt8) (k : Nat), s.length ≤ m → (passF true s k).1 = []
  | 0, [], k, _ => by simp [pass_nil]
  | 0, _ :: _, _, h => by simp at h
  | m + 1, [], k, _ => by simp [pass_nil]
  | m + 1, c :: r, k, h => by
    have hr : r.length ≤ m := by simpa using h
    cases hz : szF (c :: r) with
    | wait => rw [pass_over hz]; exact pass_end m r (k + 1) hr
    | no => rw [pass_no hz]; exact pass_end m r (k + 1) hr
    | frame n => rw [pass_frame hz]; exact pass_end m _ 0 (by rw [List.length_drop]; omega)
end Go.Proofs.YtpgainalimmecaaDoor
