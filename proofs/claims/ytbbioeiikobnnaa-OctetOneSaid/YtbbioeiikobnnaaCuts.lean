/-
  Plain mathematics (no program): numbers and texts that are read of bytes that are cut: where the cut is ahead of the end something is short.
-/
import Derived.Test.YtbbioeiikobnnaaMore
namespace Go.Proofs.Ytbbioeiikobnnaa

theorem encs_drop (zs : List Nat) (k : Nat) (h : k < zs.length) : encs (zs.drop k) = enc zs[k] ++ encs (zs.drop (k + 1)) := by
  unfold encs
  rw [List.drop_eq_getElem_cons h, List.flatMap_cons]
theorem encTs_drop (ss : List ByteArray) (k : Nat) (h : k < ss.length) : encTs (ss.drop k) = enc ss[k].data.toList.length ++ ss[k].data.toList ++ encTs (ss.drop (k + 1)) := by
  have e : ss[k].data.toList.length = ss[k].size := by rw [Array.length_toList]; rfl
  unfold encTs
  rw [List.drop_eq_getElem_cons h, List.flatMap_cons, e]

/-- A number's bytes that are cut are too short. -/
theorem tk_cut (u j : Nat) (h : u ≤ 18446744073709551615) (hj : j < (enc u).length) : tk ((enc u).take j) = (0, 0, 10) := by
  unfold enc at hj ⊢
  by_cases h0 : u < 248
  · rw [if_pos h0] at hj ⊢
    have : j = 0 := by simpa using hj
    subst this
    rfl
  · rw [if_neg h0] at hj ⊢
    have h8 := nb_lt8 u (by omega)
    have h1 := nb_pos u (by omega)
    have e := u8_nat (247 + nb u) (by omega)
    cases j with
    | zero => rfl
    | succ j =>
      rw [List.take_succ_cons]
      rw [List.length_cons, be_length] at hj
      exact tk_short _ _ (by omega) (by rw [e, List.length_take, be_length]; omega)
theorem rdNum_cut (u j : Nat) (rest : List UInt8) (h : u ≤ 18446744073709551615) : rdNum ((enc u ++ rest).take j) 0 = if (enc u).length ≤ j then (u, rest.take (j - (enc u).length), 0) else (0, [], 10) := by
  by_cases hj : (enc u).length ≤ j
  · rw [if_pos hj, List.take_append, List.take_of_length_le hj, rdNum_enc u _ h]
  · rw [if_neg hj, List.take_append_of_le_length (by omega)]
    simp only [rdNum, tk_cut u j h (by omega), if_pos]
    rfl
theorem rdNum_dead : rdNum [] 10 = (0, [], 10) := by simp [rdNum]
theorem rdText_dead (most : Int) : rdText [] 10 most = ([], [], 10) := by simp [rdText, rdNum]
theorem rdText_cut (s : List UInt8) (j : Nat) (rest : List UInt8) (h : s.length ≤ 400) :
    rdText ((enc s.length ++ s ++ rest).take j) 0 400 = if (enc s.length ++ s).length ≤ j then (s, rest.take (j - (enc s.length ++ s).length), 0) else ([], [], 10) := by
  have k := rdNum_cut s.length j (s ++ rest) (by omega)
  rw [← List.append_assoc] at k
  unfold rdText
  rw [k]
  by_cases h1 : (enc s.length).length ≤ j
  · rw [if_pos h1]
    dsimp only
    rw [if_pos rfl, if_pos (by rw [Int.max_eq_left (by omega)]; omega)]
    by_cases h2 : (enc s.length ++ s).length ≤ j
    · rw [List.length_append] at h2
      have e : (s ++ rest).take (j - (enc s.length).length) = s ++ rest.take (j - (enc s.length).length - s.length) := by
        rw [List.take_append, List.take_of_length_le (by omega)]
      rw [e, if_pos (show s.length ≤ (s ++ rest.take (j - (enc s.length).length - s.length)).length by simp), if_pos (show (enc s.length ++ s).length ≤ j by rw [List.length_append]; omega), List.take_left', List.drop_left', List.length_append, Nat.sub_sub] <;> rfl
    · rw [List.length_append] at h2
      rw [if_neg (show ¬ s.length ≤ ((s ++ rest).take (j - (enc s.length).length)).length by rw [List.length_take, List.length_append]; omega), if_neg (show ¬ (enc s.length ++ s).length ≤ j by rw [List.length_append]; omega)]
  · rw [if_neg h1, if_neg (show ¬ (enc s.length ++ s).length ≤ j by rw [List.length_append]; omega)]
    dsimp only
    rw [if_neg (by decide)]

/-- A reader of the first m of the bytes L that was asked for what their first 'len' bytes hold. -/
def St (L : List UInt8) (m len : Nat) : List UInt8 × Int := if len ≤ m then ((L.take m).drop len, 0) else ([], 10)
theorem St_zero (L : List UInt8) (m : Nat) : St L m 0 = (L.take m, 0) := by simp [St]
theorem St_end (L : List UInt8) (m : Nat) (h : m < L.length) : St L m L.length = ([], 10) := by
  unfold St
  rw [if_neg (by omega)]
theorem St_num (a b : List UInt8) (u m : Nat) (h : u ≤ 18446744073709551615) : (rdNum (St (a ++ (enc u ++ b)) m a.length).1 (St (a ++ (enc u ++ b)) m a.length).2).2 = St (a ++ (enc u ++ b)) m (a.length + (enc u).length) := by
  unfold St
  by_cases h1 : a.length ≤ m
  · have e : ((a ++ (enc u ++ b)).take m).drop a.length = (enc u ++ b).take (m - a.length) := by
      rw [List.take_append, List.take_of_length_le h1, List.drop_left']
      rfl
    rw [if_pos h1, e]
    dsimp only
    rw [rdNum_cut u _ b h]
    by_cases h2 : (enc u).length ≤ m - a.length
    · rw [if_pos h2, if_pos (by omega)]
      dsimp only
      rw [← List.drop_drop, e, List.take_append, List.take_of_length_le h2, List.drop_left']
      rfl
    · rw [if_neg h2, if_neg (by omega)]
  · rw [if_neg h1, if_neg (by omega)]
    dsimp only
    rw [rdNum_dead]
theorem St_text (a b s : List UInt8) (m : Nat) (h : s.length ≤ 400) : (rdText (St (a ++ (enc s.length ++ s ++ b)) m a.length).1 (St (a ++ (enc s.length ++ s ++ b)) m a.length).2 400).2 = St (a ++ (enc s.length ++ s ++ b)) m (a.length + (enc s.length ++ s).length) := by
  unfold St
  by_cases h1 : a.length ≤ m
  · have e : ((a ++ (enc s.length ++ s ++ b)).take m).drop a.length = (enc s.length ++ s ++ b).take (m - a.length) := by
      rw [List.take_append, List.take_of_length_le h1, List.drop_left']
      rfl
    rw [if_pos h1, e]
    dsimp only
    rw [rdText_cut s _ b h]
    by_cases h2 : (enc s.length ++ s).length ≤ m - a.length
    · rw [if_pos h2, if_pos (by omega)]
      dsimp only
      rw [← List.drop_drop, e, List.take_append, List.take_of_length_le h2, List.drop_left']
      rfl
    · rw [if_neg h2, if_neg (by omega)]
  · rw [if_neg h1, if_neg (by omega)]
    dsimp only
    rw [rdText_dead]

theorem encs_pos (zs : List Nat) (h : ∀ z ∈ zs, z ≤ 18446744073709551615) : zs.length ≤ (encs zs).length := by
  induction zs with
  | nil => simp
  | cons z zs ih =>
    have h1 := enc_len z (h z (by simp))
    have h2 := ih fun y hy => h y (by simp [hy])
    simp only [encs, List.flatMap_cons, List.length_append, List.length_cons] at *
    omega
theorem encTs_pos (ss : List ByteArray) (h : ∀ s ∈ ss, s.size ≤ 1000000) : ss.length ≤ (encTs ss).length := by
  induction ss with
  | nil => simp
  | cons z zs ih =>
    have h1 := enc_len z.size (by have := h z (by simp); omega)
    have h2 := ih fun y hy => h y (by simp [hy])
    simp only [encTs, List.flatMap_cons, List.length_append, List.length_cons] at *
    omega
/-- The reader of cut numbers and texts, behind k numbers, and behind all numbers and k texts. -/
theorem St_encs (ns : List Nat) (b : List UInt8) (m k : Nat) (hk : k < ns.length) (hn : ∀ z ∈ ns, z ≤ 18446744073709551615) :
    (rdNum (St (encs ns ++ b) m (encs (ns.take k)).length).1 (St (encs ns ++ b) m (encs (ns.take k)).length).2).2 = St (encs ns ++ b) m (encs (ns.take (k + 1))).length := by
  have e : encs ns ++ b = encs (ns.take k) ++ (enc ns[k] ++ (encs (ns.drop (k + 1)) ++ b)) := by
    conv => lhs; rw [← List.take_append_drop k ns]
    have e2 : encs (ns.take k ++ ns.drop k) = encs (ns.take k) ++ encs (ns.drop k) := by unfold encs; rw [List.flatMap_append]
    rw [e2, encs_drop ns k hk]
    simp only [List.append_assoc]
  rw [e, St_num _ _ _ _ (hn _ (List.getElem_mem hk)), encs_take ns k hk, List.length_append]
theorem St_encTs (a : List UInt8) (ss : List ByteArray) (m k : Nat) (hk : k < ss.length) (hs : ∀ x ∈ ss, x.size ≤ 400) :
    (rdText (St (a ++ encTs ss) m (a ++ encTs (ss.take k)).length).1 (St (a ++ encTs ss) m (a ++ encTs (ss.take k)).length).2 400).2 = St (a ++ encTs ss) m (a ++ encTs (ss.take (k + 1))).length := by
  have hl : ss[k].data.toList.length = ss[k].size := by rw [Array.length_toList]; rfl
  have e : a ++ encTs ss = (a ++ encTs (ss.take k)) ++ (enc ss[k].data.toList.length ++ ss[k].data.toList ++ encTs (ss.drop (k + 1))) := by
    conv => lhs; rw [← List.take_append_drop k ss]
    have e2 : encTs (ss.take k ++ ss.drop k) = encTs (ss.take k) ++ encTs (ss.drop k) := by unfold encTs; rw [List.flatMap_append]
    rw [e2, encTs_drop ss k hk]
    simp only [List.append_assoc]
  rw [e, St_text _ _ _ _ (by rw [hl]; exact hs _ (List.getElem_mem hk)), encTs_take ss k hk, hl]
  congr 1
  simp only [List.length_append]
  omega
end Go.Proofs.Ytbbioeiikobnnaa
