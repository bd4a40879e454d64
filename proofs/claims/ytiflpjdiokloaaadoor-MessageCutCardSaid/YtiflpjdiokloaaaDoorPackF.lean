/-
  Texts of the proofs, put together: MsgMath, MsgNamed.
-/
import Derived.Test.YtiflpjdiokloaaaDoorPackE
import Derived.Test.YtiflpjdiokloaaaDoorLabelMath
import Derived.Test.YtiflpjdiokloaaaDoorPackA
/-
  Layer 6, plain mathematics: messages, their bytes, what is taken of bytes.
-/
namespace Go.Proofs.YtiflpjdiokloaaaDoor
set_option linter.unusedVariables false

/-- A message. -/
structure Msg where
  kind : Nat
  seq : Nat
  at_ : Int
  props : List Pr
/-- Its numbers have room. -/
def Msg.Wf (m : Msg) : Prop := m.seq ≤ 18446744073709551615 ∧ m.at_ ≤ 9223372036854775807 ∧ ∀ p ∈ m.props, -9223372036854775808 ≤ p.val ∧ p.val ≤ 9223372036854775807
/-- Whether it may be. -/
def mayL (m : Msg) : Bool :=
  if m.at_ < 0 ∨ 8 < m.props.length ∨ rightL m.props = false then false
  else if m.kind = 1 then decide (m.at_ = 0) && decide (m.props.length = 0)
  else if m.kind = 2 then true
  else if m.kind = 3 then decide (m.seq = 0) && decide (m.props.length = 0)
  else decide (m.kind = 4) && decide (m.seq = 0) && decide (m.at_ = 0) && decide (m.props.length = 0)
theorem may_iff (m : Msg) : mayL m = true ↔ 0 ≤ m.at_ ∧ m.props.length ≤ 8 ∧ rightL m.props = true ∧
    ((m.kind = 1 ∧ m.at_ = 0 ∧ m.props = []) ∨ m.kind = 2 ∨ (m.kind = 3 ∧ m.seq = 0 ∧ m.props = []) ∨ (m.kind = 4 ∧ m.seq = 0 ∧ m.at_ = 0 ∧ m.props = [])) := by
  unfold mayL
  by_cases h : m.at_ < 0 ∨ 8 < m.props.length ∨ rightL m.props = false
  · rw [if_pos h]
    refine ⟨fun h => (by cases h), fun ⟨h1, h2, h3, _⟩ => ?_⟩
    rcases h with h | h | h
    · omega
    · omega
    · rw [h] at h3; cases h3
  · rw [if_neg h]
    have h1 : 0 ≤ m.at_ := by omega
    have h2 : m.props.length ≤ 8 := by omega
    have h3 : rightL m.props = true := by
      cases hr : rightL m.props with
      | true => rfl
      | false => exact absurd (.inr (.inr hr)) h
    by_cases k1 : m.kind = 1
    · simp [k1, h1, h2, h3]
    · by_cases k2 : m.kind = 2
      · simp [k2, h1, h2, h3]
      · by_cases k3 : m.kind = 3
        · simp [k3, h1, h2, h3]
        · simp [k1, k2, k3, h1, h2, h3, and_assoc]
/-- A proposition's bytes. -/
def encP (p : Pr) : List UInt8 := enc p.name.length ++ p.name ++ enc (sgn p.val).toNat
def encPs (l : List Pr) : List UInt8 := l.flatMap encP
/-- A message's bytes. -/
def putM (m : Msg) : List UInt8 :=
  if m.kind = 1 then enc m.seq
  else if m.kind = 3 then enc m.at_.toNat
  else if m.kind = 4 then []
  else enc m.seq ++ enc m.at_.toNat ++ enc m.props.length ++ encPs m.props

/-- A proposition, read. -/
def rdProp (l : List UInt8) (e : Int) : Pr × List UInt8 × Int :=
  (⟨(rdText l e 12).1, pln (rdNum (rdText l e 12).2.1 (rdText l e 12).2.2).1⟩, (rdNum (rdText l e 12).2.1 (rdText l e 12).2.2).2)
def rdProps : Nat → List UInt8 → Int → List Pr × List UInt8 × Int
  | 0, l, e => ([], l, e)
  | n + 1, l, e => ((rdProp l e).1 :: (rdProps n (rdProp l e).2.1 (rdProp l e).2.2).1, (rdProps n (rdProp l e).2.1 (rdProp l e).2.2).2)
theorem rdProps_snoc : ∀ (n : Nat) (l : List UInt8) (e : Int), rdProps (n + 1) l e = ((rdProps n l e).1 ++ [(rdProp (rdProps n l e).2.1 (rdProps n l e).2.2).1], (rdProp (rdProps n l e).2.1 (rdProps n l e).2.2).2)
  | 0, _, _ => rfl
  | n + 1, l, e => by
    have ih := rdProps_snoc n (rdProp l e).2.1 (rdProp l e).2.2
    show ((rdProp l e).1 :: (rdProps (n + 1) (rdProp l e).2.1 (rdProp l e).2.2).1, (rdProps (n + 1) (rdProp l e).2.1 (rdProp l e).2.2).2) = _
    rw [ih]
    rfl
theorem rdProps_length : ∀ (n : Nat) (l : List UInt8) (e : Int), (rdProps n l e).1.length = n
  | 0, _, _ => rfl
  | n + 1, l, e => by
    show (rdProps n (rdProp l e).2.1 (rdProp l e).2.2).1.length + 1 = n + 1
    rw [rdProps_length n]
/-- No message. -/
def noMsg : Msg := ⟨0, 0, 0, []⟩
def finM (m : Msg) (l : List UInt8) (e : Int) : Msg × Int := if rdEnd l e = 0 then (if mayL m then (m, 0) else (noMsg, 11)) else (noMsg, rdEnd l e)
def seqM (k : Nat) (l : List UInt8) : Nat × List UInt8 × Int := if k = 1 ∨ k = 2 then rdNum l 0 else (0, l, 0)
def atM (k : Nat) (l : List UInt8) (e : Int) : Int × List UInt8 × Int := if k = 2 ∨ k = 3 then rdMoment l e else (0, l, e)
/-- What is taken. -/
def takeM (k : Nat) (l : List UInt8) : Msg × Int :=
  if k < 1 ∨ 4 < k then (noMsg, 1)
  else if k = 2 then
    (if 8 < (rdNum (atM k (seqM k l).2.1 (seqM k l).2.2).2.1 (atM k (seqM k l).2.1 (seqM k l).2.2).2.2).1 then (noMsg, 13)
     else finM ⟨k, (seqM k l).1, (atM k (seqM k l).2.1 (seqM k l).2.2).1, (rdProps (rdNum (atM k (seqM k l).2.1 (seqM k l).2.2).2.1 (atM k (seqM k l).2.1 (seqM k l).2.2).2.2).1 (rdNum (atM k (seqM k l).2.1 (seqM k l).2.2).2.1 (atM k (seqM k l).2.1 (seqM k l).2.2).2.2).2.1 (rdNum (atM k (seqM k l).2.1 (seqM k l).2.2).2.1 (atM k (seqM k l).2.1 (seqM k l).2.2).2.2).2.2).1⟩
      (rdProps (rdNum (atM k (seqM k l).2.1 (seqM k l).2.2).2.1 (atM k (seqM k l).2.1 (seqM k l).2.2).2.2).1 (rdNum (atM k (seqM k l).2.1 (seqM k l).2.2).2.1 (atM k (seqM k l).2.1 (seqM k l).2.2).2.2).2.1 (rdNum (atM k (seqM k l).2.1 (seqM k l).2.2).2.1 (atM k (seqM k l).2.1 (seqM k l).2.2).2.2).2.2).2.1
      (rdProps (rdNum (atM k (seqM k l).2.1 (seqM k l).2.2).2.1 (atM k (seqM k l).2.1 (seqM k l).2.2).2.2).1 (rdNum (atM k (seqM k l).2.1 (seqM k l).2.2).2.1 (atM k (seqM k l).2.1 (seqM k l).2.2).2.2).2.1 (rdNum (atM k (seqM k l).2.1 (seqM k l).2.2).2.1 (atM k (seqM k l).2.1 (seqM k l).2.2).2.2).2.2).2.2)
  else finM ⟨k, (seqM k l).1, (atM k (seqM k l).2.1 (seqM k l).2.2).1, []⟩ (atM k (seqM k l).2.1 (seqM k l).2.2).2.1 (atM k (seqM k l).2.1 (seqM k l).2.2).2.2
/-- The same, its pieces given. -/
theorem take_event {l : List UInt8} {q : Nat} {l1 : List UInt8} {e1 : Int} {a : Int} {l2 : List UInt8} {e2 : Int} {n : Nat} {l3 : List UInt8} {e3 : Int} {ps : List Pr} {l4 : List UInt8} {e4 : Int}
    (h1 : rdNum l 0 = (q, l1, e1)) (h2 : rdMoment l1 e1 = (a, l2, e2)) (h3 : rdNum l2 e2 = (n, l3, e3)) (h4 : rdProps n l3 e3 = (ps, l4, e4)) : takeM 2 l = if 8 < n then (noMsg, 13) else finM ⟨2, q, a, ps⟩ l4 e4 := by
  have hs : seqM 2 l = (q, l1, e1) := by unfold seqM; rw [if_pos (.inr rfl), h1]
  have ha : atM 2 l1 e1 = (a, l2, e2) := by unfold atM; rw [if_pos (.inl rfl), h2]
  unfold takeM
  rw [if_neg (by omega), if_pos rfl, hs]
  dsimp only
  rw [ha]
  dsimp only
  rw [h3]
  dsimp only
  rw [h4]
theorem take_hello {l : List UInt8} {q : Nat} {l1 : List UInt8} {e1 : Int} (h1 : rdNum l 0 = (q, l1, e1)) : takeM 1 l = finM ⟨1, q, 0, []⟩ l1 e1 := by
  have hs : seqM 1 l = (q, l1, e1) := by unfold seqM; rw [if_pos (.inl rfl), h1]
  have ha : atM 1 l1 e1 = (0, l1, e1) := by unfold atM; rw [if_neg (by omega)]
  unfold takeM
  rw [if_neg (by omega), if_neg (by omega), hs]
  dsimp only
  rw [ha]
theorem take_beat {l : List UInt8} {a : Int} {l1 : List UInt8} {e1 : Int} (h1 : rdMoment l 0 = (a, l1, e1)) : takeM 3 l = finM ⟨3, 0, a, []⟩ l1 e1 := by
  have hs : seqM 3 l = (0, l, 0) := by unfold seqM; rw [if_neg (by omega)]
  have ha : atM 3 l 0 = (a, l1, e1) := by unfold atM; rw [if_pos (.inr rfl), h1]
  unfold takeM
  rw [if_neg (by omega), if_neg (by omega), hs]
  dsimp only
  rw [ha]
theorem take_bye (l : List UInt8) : takeM 4 l = finM ⟨4, 0, 0, []⟩ l 0 := by
  have hs : seqM 4 l = (0, l, 0) := by unfold seqM; rw [if_neg (by omega)]
  have ha : atM 4 l 0 = (0, l, 0) := by unfold atM; rw [if_neg (by omega)]
  unfold takeM
  rw [if_neg (by omega), if_neg (by omega), hs]
  dsimp only
  rw [ha]
theorem take_none {k : Nat} {l : List UInt8} (h : k < 1 ∨ 4 < k) : takeM k l = (noMsg, 1) := by
  unfold takeM
  rw [if_pos h]

/-! What is put is taken. -/
theorem name_len {s : List UInt8} (h : nameL s = true) : 1 ≤ s.length ∧ s.length ≤ 12 := by
  cases s with
  | nil => simp [nameL] at h
  | cons c r =>
    simp only [nameL, Bool.and_eq_true, decide_eq_true_eq] at h
    have := h.1.1.1.1
    simp
    omega
theorem right_names {l : List Pr} (h : rightL l = true) : ∀ p ∈ l, nameL p.name = true := by
  intro p hp
  obtain ⟨k, hk, rfl⟩ := List.mem_iff_getElem.1 hp
  cases hb : rightAt l k with
  | false => rw [right_bad l k hk hb] at h; cases h
  | true =>
    unfold rightAt at hb
    rw [Bool.and_eq_true] at hb
    have := hb.1
    rw [List.getD_eq_getElem?_getD, List.getElem?_eq_getElem hk] at this
    exact this
/-- What is asked of a proposition that is to be read as it was put. -/
def Pr.Fit (p : Pr) : Prop := p.name.length ≤ 12 ∧ -9223372036854775808 ≤ p.val ∧ p.val ≤ 9223372036854775807
theorem fit_of {m : Msg} (hw : m.Wf) (hr : rightL m.props = true) : ∀ p ∈ m.props, p.Fit := fun p hp => ⟨(name_len (right_names hr p hp)).2, hw.2.2 p hp⟩
theorem rdProp_enc {p : Pr} (h : p.Fit) (rest : List UInt8) : rdProp (encP p ++ rest) 0 = (p, rest, 0) := by
  obtain ⟨h1, h2, h3⟩ := h
  have hs := sgn_range p.val h2 h3
  have e : encP p ++ rest = enc p.name.length ++ p.name ++ (enc (sgn p.val).toNat ++ rest) := by unfold encP; simp [List.append_assoc]
  have k := rdText_enc p.name (enc (sgn p.val).toNat ++ rest) 12 (by omega) (by omega)
  unfold rdProp
  rw [e, k]
  dsimp only
  rw [rdNum_enc _ rest (by omega)]
  dsimp only
  rw [show (((sgn p.val).toNat : Nat) : Int) = sgn p.val by omega, pln_sgn]
theorem rdProps_enc : ∀ (l : List Pr) (rest : List UInt8), (∀ p ∈ l, p.Fit) → rdProps l.length (encPs l ++ rest) 0 = (l, rest, 0)
  | [], rest, _ => rfl
  | p :: l, rest, h => by
    have ih := rdProps_enc l rest fun q hq => h q (by simp [hq])
    have e : encPs (p :: l) ++ rest = encP p ++ (encPs l ++ rest) := by unfold encPs; simp [List.append_assoc]
    show ((rdProp (encPs (p :: l) ++ rest) 0).1 :: _, _) = _
    rw [e, rdProp_enc (h p (by simp))]
    dsimp only
    rw [ih]
theorem put_more {m : Msg} (hw : m.Wf) (hm : mayL m = true) (rest : List UInt8) : takeM m.kind (putM m ++ rest) = finM m rest 0 := by
  obtain ⟨h0, h8, hr, hk⟩ := (may_iff m).1 hm
  have hf := fit_of hw hr
  obtain ⟨hq, ha, _⟩ := hw
  obtain ⟨k, q, a, ps⟩ := m
  dsimp only at *
  have ea : ((a.toNat : Nat) : Int) = a := by omega
  rcases hk with ⟨rfl, rfl, rfl⟩ | rfl | ⟨rfl, rfl, rfl⟩ | ⟨rfl, rfl, rfl, rfl⟩
  · exact take_hello (rdNum_enc q rest hq)
  · have e : putM ⟨2, q, a, ps⟩ ++ rest = enc q ++ (enc a.toNat ++ (enc ps.length ++ (encPs ps ++ rest))) := by
      unfold putM
      simp [List.append_assoc]
    have k2 := rdMoment_enc a.toNat (enc ps.length ++ (encPs ps ++ rest)) (by omega)
    rw [ea] at k2
    rw [e, take_event (rdNum_enc q _ hq) k2 (rdNum_enc ps.length _ (by omega)) (rdProps_enc ps rest hf), if_neg (by omega)]
  · have k2 := rdMoment_enc a.toNat rest (by omega)
    rw [ea] at k2
    exact take_beat k2
  · exact take_bye rest
theorem put_take {m : Msg} (hw : m.Wf) (hm : mayL m = true) : takeM m.kind (putM m) = (m, 0) := by
  have h := put_more hw hm []
  rw [List.append_nil] at h
  rw [h]
  unfold finM rdEnd
  rw [if_pos rfl, if_pos rfl, if_pos rfl, if_pos hm]
theorem put_left {m : Msg} (hw : m.Wf) (hm : mayL m = true) (x : UInt8) (rest : List UInt8) : takeM m.kind (putM m ++ x :: rest) = (noMsg, 12) := by
  rw [put_more hw hm]
  unfold finM rdEnd
  rw [if_pos rfl, if_neg (List.cons_ne_nil _ _), if_neg (by decide)]

/-! What is taken is put as those bytes. -/
theorem rdProp_inv {l : List UInt8} {e : Int} {p : Pr} {l' : List UInt8} (h : rdProp l e = (p, l', 0)) : e = 0 ∧ l = encP p ++ l' ∧ p.Fit := by
  unfold rdProp at h
  simp only [Prod.mk.injEq] at h
  obtain ⟨rfl, h2⟩ := h
  obtain ⟨k1, k2, k3⟩ := rdNum_inv (u := (rdNum (rdText l e 12).2.1 (rdText l e 12).2.2).1) (l := (rdText l e 12).2.1) (e := (rdText l e 12).2.2) (l' := l') (by rw [← h2])
  obtain ⟨j1, j2, j3⟩ := rdText_inv (l := l) (e := e) (most := 12) (s := (rdText l e 12).1) (l' := (rdText l e 12).2.1) (by rw [← k1])
  have hp := pln_range ((rdNum (rdText l e 12).2.1 (rdText l e 12).2.2).1 : Int) (by omega) (by omega)
  refine ⟨j1, ?_, by show (rdText l e 12).1.length ≤ 12; omega, hp⟩
  unfold encP
  dsimp only
  rw [sgn_pln _ (by omega), Int.toNat_natCast, List.append_assoc, ← k2, ← j2]
theorem rdProps_inv : ∀ (n : Nat) {l : List UInt8} {e : Int} {ps : List Pr} {l' : List UInt8}, rdProps n l e = (ps, l', 0) → e = 0 ∧ l = encPs ps ++ l' ∧ ps.length = n ∧ ∀ p ∈ ps, p.Fit
  | 0, l, e, ps, l', h => by
    simp only [rdProps, Prod.mk.injEq] at h
    obtain ⟨rfl, rfl, rfl⟩ := h
    exact ⟨rfl, rfl, rfl, by simp⟩
  | n + 1, l, e, ps, l', h => by
    simp only [rdProps, Prod.mk.injEq] at h
    obtain ⟨rfl, h2⟩ := h
    obtain ⟨k1, k2, k3, k4⟩ := rdProps_inv n (l := (rdProp l e).2.1) (e := (rdProp l e).2.2) (ps := (rdProps n (rdProp l e).2.1 (rdProp l e).2.2).1) (l' := l') (by rw [← h2])
    obtain ⟨j1, j2, j3⟩ := rdProp_inv (l := l) (e := e) (p := (rdProp l e).1) (l' := (rdProp l e).2.1) (by rw [← k1])
    refine ⟨j1, ?_, by simp [k3], fun p hp => ?_⟩
    · show l = encP _ ++ encPs _ ++ l'
      rw [List.append_assoc, ← k2]
      exact j2
    · rcases List.mem_cons.1 hp with rfl | hp
      · exact j3
      · exact k4 p hp
theorem fin_inv {m m' : Msg} {l : List UInt8} {e : Int} (h : finM m l e = (m', 0)) : m' = m ∧ e = 0 ∧ l = [] ∧ mayL m = true := by
  unfold finM at h
  by_cases he : rdEnd l e = 0
  · rw [if_pos he] at h
    obtain ⟨h1, h2⟩ := rdEnd_inv he
    cases hm : mayL m with
    | true =>
      rw [hm, if_pos rfl] at h
      simp only [Prod.mk.injEq, and_true] at h
      exact ⟨h.symm, h1, h2, rfl⟩
    | false =>
      rw [hm, if_neg (by decide)] at h
      simp at h
  · rw [if_neg he] at h
    simp only [Prod.mk.injEq] at h
    exact absurd h.2 he
theorem take_put {k : Nat} {l : List UInt8} {m : Msg} (h : takeM k l = (m, 0)) : m.kind = k ∧ mayL m = true ∧ putM m = l ∧ m.Wf := by
  by_cases hk : k < 1 ∨ 4 < k
  · rw [take_none hk] at h
    simp at h
  · obtain rfl | rfl | rfl | rfl : k = 1 ∨ k = 2 ∨ k = 3 ∨ k = 4 := by omega
    · rcases h1 : rdNum l 0 with ⟨q, l1, e1⟩
      rw [take_hello h1] at h
      obtain ⟨rfl, rfl, rfl, hm⟩ := fin_inv h
      obtain ⟨_, h3, h4⟩ := rdNum_inv h1
      refine ⟨rfl, hm, ?_, h4, by show (0 : Int) ≤ _; decide, by simp⟩
      rw [h3]
      simp [putM]
    · rcases h1 : rdNum l 0 with ⟨q, l1, e1⟩
      rcases h2 : rdMoment l1 e1 with ⟨a, l2, e2⟩
      rcases h3 : rdNum l2 e2 with ⟨n, l3, e3⟩
      rcases h4 : rdProps n l3 e3 with ⟨ps, l4, e4⟩
      rw [take_event h1 h2 h3 h4] at h
      by_cases hn : 8 < n
      · rw [if_pos hn] at h
        simp at h
      · rw [if_neg hn] at h
        obtain ⟨rfl, rfl, rfl, hm⟩ := fin_inv h
        obtain ⟨rfl, i2, i3, i4⟩ := rdProps_inv n h4
        obtain ⟨rfl, j2, _⟩ := rdNum_inv h3
        obtain ⟨rfl, g2, g3, g4⟩ := rdMoment_inv h2
        obtain ⟨_, f2, f3⟩ := rdNum_inv h1
        refine ⟨rfl, hm, ?_, f3, g4, fun p hp => (i4 p hp).2⟩
        rw [f2, g2, j2, i2, ← i3]
        simp [putM, List.append_assoc]
    · rcases h1 : rdMoment l 0 with ⟨a, l1, e1⟩
      rw [take_beat h1] at h
      obtain ⟨rfl, rfl, rfl, hm⟩ := fin_inv h
      obtain ⟨_, h3, h4, h5⟩ := rdMoment_inv h1
      refine ⟨rfl, hm, ?_, by show (0 : Nat) ≤ _; omega, h5, by simp⟩
      rw [h3]
      simp [putM]
    · rw [take_bye] at h
      obtain ⟨rfl, _, rfl, hm⟩ := fin_inv h
      exact ⟨rfl, hm, by simp [putM], by show (0 : Nat) ≤ _; omega, by show (0 : Int) ≤ _; decide, by simp⟩

/-! Bytes that are cut are too short. -/
theorem rdProp_dead : (rdProp [] 10).2 = ([], 10) := by simp [rdProp, rdText, rdNum]
theorem rdProps_dead : ∀ n : Nat, (rdProps n [] 10).2 = ([], 10)
  | 0 => rfl
  | n + 1 => by
    show (rdProps n (rdProp [] 10).2.1 (rdProp [] 10).2.2).2 = _
    rw [rdProp_dead]
    exact rdProps_dead n
theorem rdProp_cut {p : Pr} (h : p.Fit) (rest : List UInt8) (j : Nat) : (rdProp ((encP p ++ rest).take j) 0).2 = if (encP p).length ≤ j then (rest.take (j - (encP p).length), 0) else ([], 10) := by
  obtain ⟨h1, h2, h3⟩ := h
  have hs := sgn_range p.val h2 h3
  have e : encP p ++ rest = enc p.name.length ++ p.name ++ (enc (sgn p.val).toNat ++ rest) := by unfold encP; simp [List.append_assoc]
  have k := rdText_cutm p.name j (enc (sgn p.val).toNat ++ rest) 12 (by omega) (by omega)
  have el : (encP p).length = (enc p.name.length ++ p.name).length + (enc (sgn p.val).toNat).length := by unfold encP; rw [List.length_append]
  unfold rdProp
  rw [e, k, el]
  dsimp only
  by_cases hj : (enc p.name.length ++ p.name).length ≤ j
  · rw [if_pos hj]
    dsimp only
    rw [rdNum_cut _ _ rest (by omega)]
    by_cases hj2 : (enc (sgn p.val).toNat).length ≤ j - (enc p.name.length ++ p.name).length
    · rw [if_pos hj2, if_pos (by omega), Nat.sub_sub]
    · rw [if_neg hj2, if_neg (by omega)]
  · rw [if_neg hj, if_neg (by omega)]
    dsimp only
    rw [rdNum_dead]
theorem rdProps_cut : ∀ (l : List Pr) (rest : List UInt8) (j : Nat), (∀ p ∈ l, p.Fit) → (rdProps l.length ((encPs l ++ rest).take j) 0).2 = if (encPs l).length ≤ j then (rest.take (j - (encPs l).length), 0) else ([], 10)
  | [], rest, j, _ => by
    rw [if_pos (by simp [encPs])]
    simp [rdProps, encPs]
  | p :: l, rest, j, h => by
    have k := rdProp_cut (h p (by simp)) (encPs l ++ rest) j
    have e : encPs (p :: l) ++ rest = encP p ++ (encPs l ++ rest) := by unfold encPs; simp [List.append_assoc]
    have el : (encPs (p :: l)).length = (encP p).length + (encPs l).length := by unfold encPs; simp
    show (rdProps l.length (rdProp ((encPs (p :: l) ++ rest).take j) 0).2.1 (rdProp ((encPs (p :: l) ++ rest).take j) 0).2.2).2 = _
    rw [e, k, el]
    by_cases hj : (encP p).length ≤ j
    · rw [if_pos hj]
      dsimp only
      rw [rdProps_cut l rest _ fun q hq => h q (by simp [hq])]
      by_cases hj2 : (encPs l).length ≤ j - (encP p).length
      · rw [if_pos hj2, if_pos (by omega), Nat.sub_sub]
      · rw [if_neg hj2, if_neg (by omega)]
    · rw [if_neg hj, if_neg (by omega)]
      exact rdProps_dead _
theorem fin_dead (m : Msg) : finM m [] 10 = (noMsg, 10) := by
  unfold finM rdEnd
  rw [if_neg (by decide), if_neg (by decide)]
theorem put_cut {m : Msg} (hw : m.Wf) (hm : mayL m = true) (j : Nat) (hj : j < (putM m).length) : takeM m.kind ((putM m).take j) = (noMsg, 10) := by
  obtain ⟨h0, h8, hr, hk⟩ := (may_iff m).1 hm
  have hf := fit_of hw hr
  obtain ⟨hq, ha, _⟩ := hw
  obtain ⟨k, q, a, ps⟩ := m
  dsimp only at *
  rcases hk with ⟨rfl, rfl, rfl⟩ | rfl | ⟨rfl, rfl, rfl⟩ | ⟨rfl, rfl, rfl, rfl⟩
  · have e : putM ⟨1, q, 0, []⟩ = enc q ++ [] := by simp [putM]
    have el : (putM ⟨1, q, 0, []⟩).length = (enc q).length := by rw [e]; simp
    rw [el] at hj
    have k1 := rdNum_cut q j [] hq
    rw [if_neg (by omega)] at k1
    rw [e, take_hello k1, fin_dead]
  · have e : putM ⟨2, q, a, ps⟩ = enc q ++ (enc a.toNat ++ (enc ps.length ++ (encPs ps ++ []))) := by
      unfold putM
      simp [List.append_assoc]
    have el : (putM ⟨2, q, a, ps⟩).length = (enc q).length + (enc a.toNat).length + (enc ps.length).length + (encPs ps).length := by rw [e]; simp; omega
    rw [el] at hj
    rw [e]
    have k1 := rdNum_cut q j (enc a.toNat ++ (enc ps.length ++ (encPs ps ++ []))) hq
    by_cases j1 : (enc q).length ≤ j
    · rw [if_pos j1] at k1
      have k2 := rdMoment_cut a.toNat (j - (enc q).length) (enc ps.length ++ (encPs ps ++ [])) (by omega)
      by_cases j2 : (enc a.toNat).length ≤ j - (enc q).length
      · rw [if_pos j2] at k2
        have k3 := rdNum_cut ps.length (j - (enc q).length - (enc a.toNat).length) (encPs ps ++ []) (by omega)
        by_cases j3 : (enc ps.length).length ≤ j - (enc q).length - (enc a.toNat).length
        · rw [if_pos j3] at k3
          have k4 := rdProps_cut ps [] (j - (enc q).length - (enc a.toNat).length - (enc ps.length).length) hf
          rw [if_neg (by omega)] at k4
          rcases h4 : rdProps ps.length ((encPs ps ++ []).take (j - (enc q).length - (enc a.toNat).length - (enc ps.length).length)) 0 with ⟨ps', l4, e4⟩
          rw [h4] at k4
          simp only [Prod.mk.injEq] at k4
          obtain ⟨rfl, rfl⟩ := k4
          rw [take_event k1 k2 k3 h4, if_neg (by omega), fin_dead]
        · rw [if_neg j3] at k3
          rw [take_event k1 k2 k3 rfl, if_neg (by omega)]
          exact fin_dead _
      · rw [if_neg j2] at k2
        rw [take_event k1 k2 rdNum_dead rfl, if_neg (by omega)]
        exact fin_dead _
    · rw [if_neg j1] at k1
      rw [take_event k1 rdMoment_dead rdNum_dead rfl, if_neg (by omega)]
      exact fin_dead _
  · have e : putM ⟨3, 0, a, []⟩ = enc a.toNat ++ [] := by simp [putM]
    have el : (putM ⟨3, 0, a, []⟩).length = (enc a.toNat).length := by rw [e]; simp
    rw [el] at hj
    have k1 := rdMoment_cut a.toNat j [] (by omega)
    rw [if_neg (by omega)] at k1
    rw [e, take_beat k1, fin_dead]
  · simp [putM] at hj

/-! Its bytes are few. -/
theorem encP_len {p : Pr} (h : p.Fit) : (encP p).length ≤ 22 := by
  obtain ⟨h1, h2, h3⟩ := h
  have hs := sgn_range p.val h2 h3
  have k := enc_len (sgn p.val).toNat (by omega)
  have k2 : (enc p.name.length).length = 1 := by unfold enc; rw [if_pos (by omega)]; rfl
  unfold encP
  simp only [List.length_append]
  omega
theorem encPs_len : ∀ (l : List Pr), (∀ p ∈ l, p.Fit) → (encPs l).length ≤ 22 * l.length
  | [], _ => by simp [encPs]
  | p :: l, h => by
    have k := encP_len (h p (by simp))
    have ih := encPs_len l fun q hq => h q (by simp [hq])
    have el : (encPs (p :: l)).length = (encP p).length + (encPs l).length := by unfold encPs; simp
    rw [el]
    simp only [List.length_cons]
    omega
theorem put_len6 {m : Msg} (hw : m.Wf) (hm : mayL m = true) : (putM m).length ≤ 203 := by
  obtain ⟨h0, h8, hr, hk⟩ := (may_iff m).1 hm
  have hf := encPs_len _ (fit_of hw hr)
  obtain ⟨hq, ha, _⟩ := hw
  have k1 := enc_len m.seq hq
  have k2 := enc_len m.at_.toNat (by omega)
  have k3 := enc_len m.props.length (by omega)
  unfold putM
  split
  · omega
  · split
    · omega
    · split
      · simp
      · simp only [List.length_append]
        omega
end Go.Proofs.YtiflpjdiokloaaaDoor
/-
  Package message's contract of named.
-/
namespace Go.Proofs.YtiflpjdiokloaaaDoor
open Go.RowKit
set_option linter.unusedVariables false

/-- What a message of a kind names. -/
def nmS (k : Nat) : Bool := decide (k = 1) || decide (k = 2)
def nmA (k : Nat) : Bool := decide (k = 2) || decide (k = 3)
def nmP (k : Nat) : Bool := decide (k = 2)
def nmI (k : Nat) : Bool := decide (1 ≤ k) && decide (k ≤ 4)
/-- What a call of named ends in. -/
def NamedQ (k : Nat) (w : World) (e : Ending) (w' : World) : Prop := e = .returned (.tuple #[.agg #[.bool (nmS k), .bool (nmA k), .bool (nmP k)], .bool (nmI k)]) ∧ Below w.heap.size w w'

set_option maxRecDepth 100000 in
theorem mnamed_1 (w : World) : Calls Tryd.prog 25 #[.int .u8 1] w (NamedQ 1 w) := by
  go_enter Tryd.func25, Tryd.ntmps25
  go_wp2
  refine bodyPost_ret (v := .tuple #[.agg #[.bool true, .bool false, .bool false], .bool true]) (by simp [results, Tryd.results25, go_sem]) rfl ?_
  exact ⟨rfl, by first | exact bmore (bself w) _ | exact (bmore (bself w) _).setCell (by simp) _⟩

set_option maxRecDepth 100000 in
theorem mnamed_2 (w : World) : Calls Tryd.prog 25 #[.int .u8 2] w (NamedQ 2 w) := by
  go_enter Tryd.func25, Tryd.ntmps25
  go_wp2
  refine bodyPost_ret (v := .tuple #[.agg #[.bool true, .bool true, .bool true], .bool true]) (by simp [results, Tryd.results25, go_sem]) rfl ?_
  exact ⟨rfl, by first | exact bmore (bself w) _ | exact (bmore (bself w) _).setCell (by simp) _⟩

set_option maxRecDepth 100000 in
theorem mnamed_3 (w : World) : Calls Tryd.prog 25 #[.int .u8 3] w (NamedQ 3 w) := by
  go_enter Tryd.func25, Tryd.ntmps25
  go_wp2
  refine bodyPost_ret (v := .tuple #[.agg #[.bool false, .bool true, .bool false], .bool true]) (by simp [results, Tryd.results25, go_sem]) rfl ?_
  exact ⟨rfl, by first | exact bmore (bself w) _ | exact (bmore (bself w) _).setCell (by simp) _⟩

set_option maxRecDepth 100000 in
theorem mnamed_4 (w : World) : Calls Tryd.prog 25 #[.int .u8 4] w (NamedQ 4 w) := by
  go_enter Tryd.func25, Tryd.ntmps25
  go_wp2
  refine bodyPost_ret (v := .tuple #[.agg #[.bool false, .bool false, .bool false], .bool true]) (by simp [results, Tryd.results25, go_sem]) rfl ?_
  exact ⟨rfl, by first | exact bmore (bself w) _ | exact (bmore (bself w) _).setCell (by simp) _⟩

set_option maxRecDepth 100000 in
theorem mnamed_no (k : Nat) (w : World) (hk : k < 1 ∨ 4 < k) : Calls Tryd.prog 25 #[.int .u8 (k : Int)] w (NamedQ k w) := by
  have k1 : ((k : Int) == 1) = false := by simp; omega
  have k2 : ((k : Int) == 2) = false := by simp; omega
  have k3 : ((k : Int) == 3) = false := by simp; omega
  have k4 : ((k : Int) == 4) = false := by simp; omega
  have HK := Lib.hid hk
  clear hk
  go_enter Tryd.func25, Tryd.ntmps25
  go_wp2
  refine bodyPost_ret (v := .tuple #[.agg #[.bool false, .bool false, .bool false], .bool false]) (by simp [results, Tryd.results25, go_sem]) rfl ?_
  have hk := HK.out
  have e1 : nmS k = false := by unfold nmS; simp; omega
  have e2 : nmA k = false := by unfold nmA; simp; omega
  have e3 : nmP k = false := by unfold nmP; simp; omega
  have e4 : nmI k = false := by unfold nmI; simp; omega
  exact ⟨by rw [e1, e2, e3, e4], by first | exact bmore (bself w) _ | exact (bmore (bself w) _).setCell (by simp) _⟩

theorem mnamed_any (k : Nat) (w : World) : Calls Tryd.prog 25 #[.int .u8 (k : Int)] w (NamedQ k w) := by
  by_cases hk : k < 1 ∨ 4 < k
  · exact mnamed_no k w hk
  · obtain rfl | rfl | rfl | rfl : k = 1 ∨ k = 2 ∨ k = 3 ∨ k = 4 := by omega
    · exact mnamed_1 w
    · exact mnamed_2 w
    · exact mnamed_3 w
    · exact mnamed_4 w
/-- The same, its answer given. -/
theorem mnamed_at (k : Nat) (w : World) {s a p i : Bool} (hs : nmS k = s) (ha : nmA k = a) (hp : nmP k = p) (hi : nmI k = i) :
    Calls Tryd.prog 25 #[.int .u8 (k : Int)] w fun e w' => e = .returned (.tuple #[.agg #[.bool s, .bool a, .bool p], .bool i]) ∧ Below w.heap.size w w' := by
  subst hs ha hp hi
  exact mnamed_any k w
end Go.Proofs.YtiflpjdiokloaaaDoor
