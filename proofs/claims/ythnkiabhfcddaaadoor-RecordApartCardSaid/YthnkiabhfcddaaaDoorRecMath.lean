/-
  Layer 7, plain mathematics: records, their bytes, what is taken of bytes.
-/
import Derived.Test.YthnkiabhfcddaaaDoorPackE
import Derived.Test.YthnkiabhfcddaaaDoorPackF
import Derived.Lib.ItoaNum
namespace Go.Proofs.YthnkiabhfcddaaaDoor
set_option linter.unusedVariables false

/-- A record. -/
structure Rec where
  kind : Nat
  src : Int
  seq : Nat
  at_ : Int
  num : Int
  code : Int
  yes : Bool
  text : List UInt8
  deriving DecidableEq
/-- Its numbers have room. -/
def Rec.In (r : Rec) : Prop := r.kind < 256 ∧ (-9223372036854775808 ≤ r.src ∧ r.src ≤ 9223372036854775807) ∧ r.seq ≤ 18446744073709551615 ∧ (-9223372036854775808 ≤ r.at_ ∧ r.at_ ≤ 9223372036854775807) ∧ (-9223372036854775808 ≤ r.num ∧ r.num ≤ 9223372036854775807) ∧ (-9223372036854775808 ≤ r.code ∧ r.code ≤ 9223372036854775807)
def noRec : Rec := ⟨0, 0, 0, 0, 0, 0, false, []⟩
/-- Has a kind a field? -/
def hasR (k f : Nat) : Bool :=
  if f = 1 then decide (17 ≤ k) && decide (k ≤ 26)
  else if f = 2 then decide (20 ≤ k) && decide (k ≤ 24)
  else if f = 3 then (decide (20 ≤ k) && decide (k ≤ 23) || k == 25 || decide (27 ≤ k) && decide (k ≤ 31))
  else if f = 4 then (k == 17 || k == 31)
  else if f = 5 then (decide (18 ≤ k) && decide (k ≤ 20) || k == 27)
  else if f = 6 then decide (28 ≤ k) && decide (k ≤ 30)
  else f == 7 && k == 32
/-- A kind's fields, in order. -/
def orderR (k : Nat) : List Nat := if k = 27 then [5, 3] else [1, 2, 3, 4, 5, 6, 7].filter (hasR k)
/-- Whether it may be. -/
def mayR (r : Rec) : Bool :=
  if r.kind < 17 ∨ 32 < r.kind ∨ r.src < 0 ∨ 7 < r.src ∨ r.at_ < 0 ∨ r.num < 0 ∨ r.code < 0 ∨ 255 < r.code ∨ 240 < r.text.length then false
  else (hasR r.kind 1 || decide (r.src = 0)) && (hasR r.kind 2 || decide (r.seq = 0)) && (hasR r.kind 3 || decide (r.at_ = 0)) && (hasR r.kind 4 || decide (r.num = 0)) && (hasR r.kind 5 || decide (r.code = 0)) && (hasR r.kind 6 || !r.yes) && (hasR r.kind 7 || decide (r.text = []))
theorem mayR_iff (r : Rec) : mayR r = true ↔ (17 ≤ r.kind ∧ r.kind ≤ 32) ∧ (0 ≤ r.src ∧ r.src ≤ 7) ∧ 0 ≤ r.at_ ∧ 0 ≤ r.num ∧ (0 ≤ r.code ∧ r.code ≤ 255) ∧ r.text.length ≤ 240 ∧
    (hasR r.kind 1 = true ∨ r.src = 0) ∧ (hasR r.kind 2 = true ∨ r.seq = 0) ∧ (hasR r.kind 3 = true ∨ r.at_ = 0) ∧ (hasR r.kind 4 = true ∨ r.num = 0) ∧ (hasR r.kind 5 = true ∨ r.code = 0) ∧ (hasR r.kind 6 = true ∨ r.yes = false) ∧ (hasR r.kind 7 = true ∨ r.text = []) := by
  unfold mayR
  split
  · rename_i h
    refine ⟨fun h => (by cases h), fun h2 => ?_⟩
    omega
  · rename_i h
    simp only [Bool.and_eq_true, Bool.or_eq_true, decide_eq_true_eq, Bool.not_eq_true', and_assoc]
    refine ⟨fun h2 => ⟨by omega, by omega, by omega, by omega, by omega, by omega, by omega, by omega, by omega, h2⟩, fun h2 => h2.2.2.2.2.2.2.2.2.2⟩
/-- A field's number. -/
def numR (r : Rec) (f : Nat) : Nat :=
  if f = 1 then r.src.toNat else if f = 2 then r.seq else if f = 3 then r.at_.toNat else if f = 4 then r.num.toNat else if f = 5 then r.code.toNat else if r.yes = true then 1 else 0
/-- A field's bytes. -/
def fieldR (r : Rec) (f : Nat) : List UInt8 := if f = 7 then enc r.text.length ++ r.text else enc (numR r f)
def bodyR (r : Rec) : List UInt8 := (orderR r.kind).flatMap (fieldR r)
/-- The greatest number that a field may have. -/
def mostR (f : Nat) : Nat := if f = 1 then 7 else if f = 2 then 18446744073709551615 else if f = 5 then 255 else if f = 6 then 1 else 9223372036854775807
/-- A record with a field's number. -/
def withR (r : Rec) (f n : Nat) : Rec :=
  if f = 1 then { r with src := n } else if f = 2 then { r with seq := n } else if f = 3 then { r with at_ := n } else if f = 4 then { r with num := n } else if f = 5 then { r with code := n } else if f = 6 then { r with yes := decide (n = 1) } else r
/-- One field is read: the record so far, the bytes that are left, the error, whether all numbers may be. -/
def stepR (s : Rec × List UInt8 × Int × Bool) (f : Nat) : Rec × List UInt8 × Int × Bool :=
  if f = 7 then ({ s.1 with text := (rdText s.2.1 s.2.2.1 240).1 }, (rdText s.2.1 s.2.2.1 240).2.1, (rdText s.2.1 s.2.2.1 240).2.2, s.2.2.2)
  else if mostR f < (rdNum s.2.1 s.2.2.1).1 then (s.1, (rdNum s.2.1 s.2.2.1).2.1, (rdNum s.2.1 s.2.2.1).2.2, false)
  else (withR s.1 f (rdNum s.2.1 s.2.2.1).1, (rdNum s.2.1 s.2.2.1).2.1, (rdNum s.2.1 s.2.2.1).2.2, s.2.2.2)
def readR (k : Nat) (b : List UInt8) : Rec × List UInt8 × Int × Bool := (orderR k).foldl stepR ({ noRec with kind := k }, b, 0, true)
/-- What comes of what was read. -/
def finR (s : Rec × List UInt8 × Int × Bool) : Rec × Int := if rdEnd s.2.1 s.2.2.1 = 0 then (if s.2.2.2 = true then (s.1, 0) else (noRec, 11)) else (noRec, rdEnd s.2.1 s.2.2.1)
/-- What is taken. -/
def takeR (k : Nat) (b : List UInt8) : Rec × Int := if k < 17 ∨ 32 < k then (noRec, 1) else finR (readR k b)

/-! The fields one by one. -/
theorem kinds_cases {k : Nat} (h : 17 ≤ k ∧ k ≤ 32) : k = 17 ∨ k = 18 ∨ k = 19 ∨ k = 20 ∨ k = 21 ∨ k = 22 ∨ k = 23 ∨ k = 24 ∨ k = 25 ∨ k = 26 ∨ k = 27 ∨ k = 28 ∨ k = 29 ∨ k = 30 ∨ k = 31 ∨ k = 32 := by omega
theorem orderR_in (k : Nat) : ∀ f ∈ orderR k, 1 ≤ f ∧ f ≤ 7 := by
  intro f hf
  unfold orderR at hf
  split at hf
  · simp at hf; omega
  · have := (List.mem_filter.1 hf).1
    simp at this; omega
theorem orderR_nodup (k : Nat) : (orderR k).Nodup := by
  unfold orderR
  split
  · decide
  · exact List.Pairwise.filter _ (by decide)
theorem orderR_has (k f : Nat) (hf : 1 ≤ f ∧ f ≤ 7) : f ∈ orderR k ↔ hasR k f = true := by
  unfold orderR
  split
  · rename_i h
    subst h
    rcases (show f = 1 ∨ f = 2 ∨ f = 3 ∨ f = 4 ∨ f = 5 ∨ f = 6 ∨ f = 7 by omega) with rfl | rfl | rfl | rfl | rfl | rfl | rfl <;> decide
  · rw [List.mem_filter]
    refine ⟨fun h => h.2, fun h => ⟨?_, h⟩⟩
    simp; omega
/-- Two records agree in a field. -/
def Agree (x y : Rec) (f : Nat) : Prop :=
  if f = 1 then x.src = y.src else if f = 2 then x.seq = y.seq else if f = 3 then x.at_ = y.at_ else if f = 4 then x.num = y.num else if f = 5 then x.code = y.code else if f = 6 then x.yes = y.yes else x.text = y.text
theorem agree_ext {x y : Rec} (hk : x.kind = y.kind) (h : ∀ f, 1 ≤ f ∧ f ≤ 7 → Agree x y f) : x = y := by
  have h1 := h 1 (by omega)
  have h2 := h 2 (by omega)
  have h3 := h 3 (by omega)
  have h4 := h 4 (by omega)
  have h5 := h 5 (by omega)
  have h6 := h 6 (by omega)
  have h7 := h 7 (by omega)
  simp [Agree] at h1 h2 h3 h4 h5 h6 h7
  obtain ⟨a, b, c, d, e, f, g, i⟩ := x
  obtain ⟨a', b', c', d', e', f', g', i'⟩ := y
  simp_all
theorem Agree.refl (x : Rec) (f : Nat) : Agree x x f := by unfold Agree; (repeat' split) <;> rfl
theorem Agree.trans {x y z : Rec} {f : Nat} (h : Agree x y f) (k : Agree y z f) : Agree x z f := by
  unfold Agree at *
  repeat' split at h
  all_goals simp_all
theorem Agree.symm {x y : Rec} {f : Nat} (h : Agree x y f) : Agree y x f := by
  unfold Agree at *
  repeat' split at h
  all_goals simp_all
/-- A step leaves the other fields. -/
theorem withR_agree (x : Rec) (f n g : Nat) (hg : 1 ≤ g ∧ g ≤ 7) (hf : 1 ≤ f ∧ f ≤ 6) (hne : g ≠ f) : Agree (withR x f n) x g := by
  rcases (show f = 1 ∨ f = 2 ∨ f = 3 ∨ f = 4 ∨ f = 5 ∨ f = 6 by omega) with rfl | rfl | rfl | rfl | rfl | rfl <;>
    rcases (show g = 1 ∨ g = 2 ∨ g = 3 ∨ g = 4 ∨ g = 5 ∨ g = 6 ∨ g = 7 by omega) with rfl | rfl | rfl | rfl | rfl | rfl | rfl <;>
    first | exact absurd rfl hne | simp [withR, Agree]
theorem withR_num (x : Rec) (f n : Nat) (hf : 1 ≤ f ∧ f ≤ 6) (hn : n ≤ mostR f) : numR (withR x f n) f = n := by
  rcases (show f = 1 ∨ f = 2 ∨ f = 3 ∨ f = 4 ∨ f = 5 ∨ f = 6 by omega) with rfl | rfl | rfl | rfl | rfl | rfl <;> simp [withR, numR, mostR] at *
  · split <;> omega
theorem agree_num {x y : Rec} {f : Nat} (hf : 1 ≤ f ∧ f ≤ 6) (h : Agree x y f) : numR x f = numR y f := by
  rcases (show f = 1 ∨ f = 2 ∨ f = 3 ∨ f = 4 ∨ f = 5 ∨ f = 6 by omega) with rfl | rfl | rfl | rfl | rfl | rfl <;> simp [Agree, numR] at * <;> simp [h]
theorem withR_kind (x : Rec) (f n : Nat) : (withR x f n).kind = x.kind := by unfold withR; (repeat' split) <;> rfl

/-! What is put is taken. -/
def setR (r x : Rec) (f : Nat) : Rec := if f = 7 then { x with text := r.text } else withR x f (numR r f)
theorem mostR_le (f : Nat) : mostR f ≤ 18446744073709551615 := by unfold mostR; (repeat' split) <;> omega
theorem step_enc {r x : Rec} {f : Nat} (hf : 1 ≤ f ∧ f ≤ 7) (hn : f ≤ 6 → numR r f ≤ mostR f) (ht : r.text.length ≤ 240) (rest : List UInt8) (ok : Bool) : stepR (x, fieldR r f ++ rest, 0, ok) f = (setR r x f, rest, 0, ok) := by
  by_cases h7 : f = 7
  · subst h7
    have k := rdText_enc r.text rest 240 (by omega) (by omega)
    unfold stepR fieldR setR
    rw [if_pos rfl, if_pos rfl, if_pos rfl]
    dsimp only
    rw [k]
  · have hm := hn (by omega)
    have hl := mostR_le f
    have k := rdNum_enc (numR r f) rest (by omega)
    unfold stepR fieldR setR
    rw [if_neg h7, if_neg h7, if_neg h7]
    dsimp only
    rw [k]
    dsimp only
    rw [if_neg (by omega)]
theorem fold_enc {r : Rec} (ht : r.text.length ≤ 240) (rest : List UInt8) (ok : Bool) : ∀ (fs : List Nat) (x : Rec), (∀ f ∈ fs, (1 ≤ f ∧ f ≤ 7) ∧ (f ≤ 6 → numR r f ≤ mostR f)) → fs.foldl stepR (x, fs.flatMap (fieldR r) ++ rest, 0, ok) = (fs.foldl (setR r) x, rest, 0, ok)
  | [], x, _ => rfl
  | f :: fs, x, h => by
    obtain ⟨h1, h2⟩ := h f (by simp)
    rw [List.flatMap_cons, List.append_assoc, List.foldl_cons, step_enc h1 h2 ht, fold_enc ht rest ok fs _ fun g hg => h g (by simp [hg])]
    rfl
theorem order_17 : orderR 17 = [1, 4] := by decide
theorem order_18 : orderR 18 = [1, 5] := by decide
theorem order_19 : orderR 19 = [1, 5] := by decide
theorem order_20 : orderR 20 = [1, 2, 3, 5] := by decide
theorem order_21 : orderR 21 = [1, 2, 3] := by decide
theorem order_22 : orderR 22 = [1, 2, 3] := by decide
theorem order_23 : orderR 23 = [1, 2, 3] := by decide
theorem order_24 : orderR 24 = [1, 2] := by decide
theorem order_25 : orderR 25 = [1, 3] := by decide
theorem order_26 : orderR 26 = [1] := by decide
theorem order_27 : orderR 27 = [5, 3] := by decide
theorem order_28 : orderR 28 = [3, 6] := by decide
theorem order_29 : orderR 29 = [3, 6] := by decide
theorem order_30 : orderR 30 = [3, 6] := by decide
theorem order_31 : orderR 31 = [3, 4] := by decide
theorem order_32 : orderR 32 = [7] := by decide
theorem yes_back (y : Bool) : decide ((if y = true then 1 else 0) = 1) = y := by cases y <;> rfl
theorem set_all {r : Rec} (h : mayR r = true) : (orderR r.kind).foldl (setR r) { noRec with kind := r.kind } = r := by
  obtain ⟨hk, ⟨s0, s1⟩, a0, n0, ⟨c0, c1⟩, t0, h1, h2, h3, h4, h5, h6, h7⟩ := (mayR_iff r).1 h
  obtain ⟨k, s, q, a, n, c, y, t⟩ := r
  dsimp only at *
  have es : ((s.toNat : Nat) : Int) = s := Int.toNat_of_nonneg s0
  have ea : ((a.toNat : Nat) : Int) = a := Int.toNat_of_nonneg a0
  have en : ((n.toNat : Nat) : Int) = n := Int.toNat_of_nonneg n0
  have ec : ((c.toNat : Nat) : Int) = c := Int.toNat_of_nonneg c0
  have ey := yes_back y
  clear h
  rcases kinds_cases hk with rfl | rfl | rfl | rfl | rfl | rfl | rfl | rfl | rfl | rfl | rfl | rfl | rfl | rfl | rfl | rfl
  all_goals
    simp [hasR] at h1 h2 h3 h4 h5 h6 h7
    simp only [order_17, order_18, order_19, order_20, order_21, order_22, order_23, order_24, order_25, order_26, order_27, order_28, order_29, order_30, order_31, order_32, List.foldl_cons, List.foldl_nil]
    simp [setR, withR, numR, noRec, es, ea, en, ec, h1, h2, h3, h4, h5, h6, h7]
theorem may_nums {r : Rec} (h : mayR r = true) (hin : r.In) : ∀ f, f ≤ 6 → numR r f ≤ mostR f := by
  obtain ⟨hk, ⟨s0, s1⟩, a0, n0, ⟨c0, c1⟩, t0, _⟩ := (mayR_iff r).1 h
  obtain ⟨_, _, q1, a1, n1, c1⟩ := hin
  intro f hf
  rcases (show f = 0 ∨ f = 1 ∨ f = 2 ∨ f = 3 ∨ f = 4 ∨ f = 5 ∨ f = 6 by omega) with rfl | rfl | rfl | rfl | rfl | rfl | rfl <;> simp [numR, mostR]
  · split <;> omega
  · omega
  · omega
  · omega
  · omega
  · omega
  · split <;> omega
theorem rec_back {r : Rec} (h : mayR r = true) (hin : r.In) : takeR r.kind (bodyR r) = (r, 0) := by
  obtain ⟨hk, _, _, _, _, t0, _⟩ := (mayR_iff r).1 h
  have e := fold_enc t0 [] true (orderR r.kind) { noRec with kind := r.kind } fun f hf => ⟨orderR_in _ f hf, may_nums h hin f⟩
  rw [set_all h, List.append_nil] at e
  unfold takeR readR
  rw [if_neg (by omega)]
  unfold bodyR
  rw [e]
  rfl

/-! What is taken is put as those bytes. -/
def OkF (x : Rec) (f : Nat) : Prop :=
  if f = 1 then 0 ≤ x.src ∧ x.src ≤ 7 else if f = 2 then x.seq ≤ 18446744073709551615 else if f = 3 then 0 ≤ x.at_ ∧ x.at_ ≤ 9223372036854775807 else if f = 4 then 0 ≤ x.num ∧ x.num ≤ 9223372036854775807 else if f = 5 then 0 ≤ x.code ∧ x.code ≤ 255 else if f = 6 then True else x.text.length ≤ 240
theorem okF_agree {x y : Rec} {f : Nat} (h : Agree x y f) (hy : OkF y f) : OkF x f := by
  unfold Agree OkF at *
  repeat' split at h
  all_goals simp_all
theorem okF_with (x : Rec) (f n : Nat) (hf : 1 ≤ f ∧ f ≤ 6) (hn : n ≤ mostR f) : OkF (withR x f n) f := by
  rcases (show f = 1 ∨ f = 2 ∨ f = 3 ∨ f = 4 ∨ f = 5 ∨ f = 6 by omega) with rfl | rfl | rfl | rfl | rfl | rfl <;> simp [withR, OkF, mostR] at * <;> omega
theorem fold_inv : ∀ (fs : List Nat) (x : Rec) (l : List UInt8) (e : Int) (ok : Bool) (x' : Rec) (l' : List UInt8), fs.Nodup → (∀ f ∈ fs, 1 ≤ f ∧ f ≤ 7) → fs.foldl stepR (x, l, e, ok) = (x', l', 0, true) →
    e = 0 ∧ ok = true ∧ l = fs.flatMap (fieldR x') ++ l' ∧ x'.kind = x.kind ∧ (∀ g, (1 ≤ g ∧ g ≤ 7) → g ∉ fs → Agree x' x g) ∧ ∀ f ∈ fs, OkF x' f
  | [], x, l, e, ok, x', l', _, _, h => by
    simp only [List.foldl_nil, Prod.mk.injEq] at h
    obtain ⟨rfl, rfl, rfl, rfl⟩ := h
    exact ⟨rfl, rfl, rfl, rfl, fun g _ _ => Agree.refl _ _, by simp⟩
  | f :: fs, x, l, e, ok, x', l', hnd, hfs, h => by
    obtain ⟨hf0, hnd2⟩ := List.nodup_cons.1 hnd
    have hf := hfs f (by simp)
    rw [List.foldl_cons] at h
    rcases hs : stepR (x, l, e, ok) f with ⟨x1, l1, e1, ok1⟩
    rw [hs] at h
    obtain ⟨rfl, rfl, i3, i4, i5, i6⟩ := fold_inv fs x1 l1 e1 ok1 x' l' hnd2 (fun g hg => hfs g (by simp [hg])) h
    have hag := i5 f hf hf0
    by_cases h7 : f = 7
    · subst h7
      rcases ht : rdText l e 240 with ⟨t, l2, e2⟩
      unfold stepR at hs
      rw [if_pos rfl] at hs
      dsimp only at hs
      rw [ht] at hs
      simp only [Prod.mk.injEq] at hs
      obtain ⟨rfl, rfl, rfl, rfl⟩ := hs
      obtain ⟨j1, j2, j3⟩ := rdText_inv ht
      have htx : x'.text = t := by simpa [Agree] using hag
      refine ⟨j1, rfl, ?_, i4, fun g hg hn => ?_, fun g hg => ?_⟩
      · rw [List.flatMap_cons, List.append_assoc, ← i3, j2]
        unfold fieldR
        rw [if_pos rfl, htx]
      · rw [List.mem_cons, not_or] at hn
        refine (i5 g hg hn.2).trans ?_
        rcases (show g = 1 ∨ g = 2 ∨ g = 3 ∨ g = 4 ∨ g = 5 ∨ g = 6 by omega) with rfl | rfl | rfl | rfl | rfl | rfl <;> simp [Agree]
      · rcases List.mem_cons.1 hg with rfl | hg
        · simp only [OkF]
          rw [htx]
          simp
          omega
        · exact i6 g hg
    · have hf6 : 1 ≤ f ∧ f ≤ 6 := by omega
      rcases ht : rdNum l e with ⟨n, l2, e2⟩
      unfold stepR at hs
      rw [if_neg h7] at hs
      dsimp only at hs
      rw [ht] at hs
      dsimp only at hs
      by_cases hm : mostR f < n
      · rw [if_pos hm] at hs
        simp only [Prod.mk.injEq] at hs
        exact absurd hs.2.2.2 (by decide)
      · rw [if_neg hm] at hs
        simp only [Prod.mk.injEq] at hs
        obtain ⟨rfl, rfl, rfl, rfl⟩ := hs
        obtain ⟨j1, j2, j3⟩ := rdNum_inv ht
        have hn2 : numR x' f = n := by rw [agree_num hf6 hag, withR_num x f n hf6 (by omega)]
        refine ⟨j1, rfl, ?_, i4.trans (withR_kind _ _ _), fun g hg hn => ?_, fun g hg => ?_⟩
        · rw [List.flatMap_cons, List.append_assoc, ← i3, j2]
          unfold fieldR
          rw [if_neg h7, hn2]
        · rw [List.mem_cons, not_or] at hn
          exact (i5 g hg hn.2).trans (withR_agree x f n g hg hf6 hn.1)
        · rcases List.mem_cons.1 hg with rfl | hg
          · exact okF_agree hag (okF_with x _ n hf6 (by omega))
          · exact i6 g hg
theorem take_inv7 {k : Nat} {b : List UInt8} {r : Rec} (h : takeR k b = (r, 0)) (hk : k < 256) : mayR r = true ∧ r.kind = k ∧ bodyR r = b ∧ r.In := by
  unfold takeR at h
  by_cases h0 : k < 17 ∨ 32 < k
  · rw [if_pos h0] at h; simp at h
  · rw [if_neg h0] at h
    rcases hs : readR k b with ⟨x, l, e, ok⟩
    rw [hs] at h
    unfold finR at h
    dsimp only at h
    by_cases he : rdEnd l e = 0
    · rw [if_pos he] at h
      obtain ⟨rfl, rfl⟩ := rdEnd_inv he
      cases ok with
      | false => rw [if_neg (by decide)] at h; simp at h
      | true =>
        rw [if_pos rfl] at h
        simp only [Prod.mk.injEq, and_true] at h
        subst h
        obtain ⟨_, _, j3, j4, j5, j6⟩ := fold_inv (orderR k) _ b 0 true x [] (orderR_nodup k) (orderR_in k) hs
        have j4 : x.kind = k := j4
        have ok : ∀ f, (1 ≤ f ∧ f ≤ 7) → (hasR k f = true ∧ OkF x f) ∨ (hasR k f = false ∧ Agree x { noRec with kind := k } f) := fun f hf => by
          cases hh : hasR k f with
          | true => exact .inl ⟨rfl, j6 f ((orderR_has k f hf).2 hh)⟩
          | false => exact .inr ⟨rfl, j5 f hf fun hm => by rw [(orderR_has k f hf).1 hm] at hh; cases hh⟩
        have o1 := ok 1 (by omega)
        have o2 := ok 2 (by omega)
        have o3 := ok 3 (by omega)
        have o4 := ok 4 (by omega)
        have o5 := ok 5 (by omega)
        have o6 := ok 6 (by omega)
        have o7 := ok 7 (by omega)
        simp [OkF, Agree, noRec] at o1 o2 o3 o4 o5 o6 o7
        have hin : x.In := by
          refine ⟨by omega, ?_, ?_, ?_, ?_, ?_⟩
          · rcases o1 with ⟨_, h⟩ | ⟨_, h⟩ <;> omega
          · rcases o2 with ⟨_, h⟩ | ⟨_, h⟩ <;> omega
          · rcases o3 with ⟨_, h⟩ | ⟨_, h⟩ <;> omega
          · rcases o4 with ⟨_, h⟩ | ⟨_, h⟩ <;> omega
          · rcases o5 with ⟨_, h⟩ | ⟨_, h⟩ <;> omega
        refine ⟨(mayR_iff x).2 ?_, j4, ?_, hin⟩
        · rw [j4]
          refine ⟨by omega, ?_, ?_, ?_, ?_, ?_, ?_, ?_, ?_, ?_, ?_, ?_, ?_⟩
          · rcases o1 with ⟨_, h⟩ | ⟨_, h⟩ <;> omega
          · rcases o3 with ⟨_, h⟩ | ⟨_, h⟩ <;> omega
          · rcases o4 with ⟨_, h⟩ | ⟨_, h⟩ <;> omega
          · rcases o5 with ⟨_, h⟩ | ⟨_, h⟩ <;> omega
          · rcases o7 with ⟨_, h⟩ | ⟨_, h⟩
            · exact h
            · rw [h]; simp
          · exact o1.imp (fun h => h.1) fun h => h.2
          · exact o2.imp (fun h => h.1) fun h => h.2
          · exact o3.imp (fun h => h.1) fun h => h.2
          · exact o4.imp (fun h => h.1) fun h => h.2
          · exact o5.imp (fun h => h.1) fun h => h.2
          · exact o6.imp id fun h => h.2
          · exact o7.imp (fun h => h.1) fun h => h.2
        · unfold bodyR
          rw [j4, j3, List.append_nil]
    · rw [if_neg he] at h
      simp only [Prod.mk.injEq] at h
      exact absurd h.2 he
end Go.Proofs.YthnkiabhfcddaaaDoor
