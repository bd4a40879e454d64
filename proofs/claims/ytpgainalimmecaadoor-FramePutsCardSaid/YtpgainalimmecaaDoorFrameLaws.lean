/-
  Layer 4, plain mathematics: frames that are put are found; what is skipped, and the frames, make all; a frame of which a byte is turned is none; nothing of the model.
-/
import Derived.Test.YtpgainalimmecaaDoorFrameMath
import Derived.Test.YtpgainalimmecaaDoorCrcTurn
namespace Go.Proofs.YtpgainalimmecaaDoor
set_option linter.unusedVariables false

theorem headF_length (kind : UInt8) (body : List UInt8) : (headF kind body).length = body.length + 3 := by simp [headF]
theorem putC_length (s : Nat) : (putC s).length = 3 := rfl
theorem putF_length (kind : UInt8) (body : List UInt8) : (putF kind body).length = body.length + 7 := by
  unfold putF
  rw [List.length_cons, List.length_append, headF_length, putC_length]
theorem len_put (kind : UInt8) (body t : List UInt8) (h : body.length ≤ 256) : lenF (headF kind body ++ t) = body.length := by
  unfold lenF headF
  simp [List.getD]
  omega
theorem fits_own (l : List UInt8) : fitsC (l ++ putC (sumC l)) = true := by
  rw [fitsC_put, Nat.mod_eq_of_lt (sumC_lt l)]
  simp
theorem sz_put (kind : UInt8) (body t : List UInt8) (h : body.length ≤ 256) : szF (putF kind body ++ t) = .frame body.length := by
  show szF (165 :: (headF kind body ++ putC (sumC (headF kind body)) ++ t)) = _
  have hr : lenF (headF kind body ++ putC (sumC (headF kind body)) ++ t) = body.length := by rw [List.append_assoc]; exact len_put _ _ _ h
  have hl : (headF kind body ++ putC (sumC (headF kind body)) ++ t).length = body.length + 6 + t.length := by
    rw [List.length_append, List.length_append, headF_length, putC_length]
  have ht : (headF kind body ++ putC (sumC (headF kind body)) ++ t).take (body.length + 6) = headF kind body ++ putC (sumC (headF kind body)) := by
    apply List.take_left'
    rw [List.length_append, headF_length, putC_length]
  rw [sz_cons, if_pos rfl, hr, hl, if_neg (by omega), if_neg (by omega), if_neg (by omega), ht, if_pos (fits_own _)]
/-- A frame that is put is found. -/
theorem pass_put (ov : Bool) (kind : UInt8) (body t : List UInt8) (k : Nat) (h : body.length ≤ 256) :
    passF ov (putF kind body ++ t) k = ((passF ov t 0).1, (passF ov t 0).2.1, skipI k ++ ⟨0, kind, body⟩ :: (passF ov t 0).2.2) := by
  have hz : szF (165 :: (headF kind body ++ putC (sumC (headF kind body)) ++ t)) = .frame body.length := sz_put kind body t h
  have e := pass_frame (ov := ov) (k := k) hz
  have hd : (headF kind body ++ putC (sumC (headF kind body)) ++ t).drop (body.length + 6) = t := by
    apply List.drop_left'
    rw [List.length_append, headF_length, putC_length]
  have hb : bodyF (165 :: (headF kind body ++ putC (sumC (headF kind body)) ++ t)) body.length = body := by
    unfold bodyF headF
    simp
  rw [hd, hb] at e
  exact e
theorem pass_noise (ov : Bool) (t : List UInt8) : ∀ (z : List UInt8) (k : Nat), (∀ c ∈ z, c ≠ 165) → passF ov (z ++ t) k = passF ov t (k + z.length)
  | [], k, _ => by simp
  | c :: z, k, h => by
    have hc : szF (c :: (z ++ t)) = .no := by rw [sz_cons, if_neg (h c (by simp))]
    rw [List.cons_append, pass_no hc, pass_noise ov t z (k + 1) (fun x hx => h x (by simp [hx])), List.length_cons]
    congr 1
    omega
/-- Frames, one behind the other. -/
def putsF (l : List (UInt8 × List UInt8)) : List UInt8 := l.flatMap fun f => putF f.1 f.2
def framesI (l : List (UInt8 × List UInt8)) : List It := l.map fun f => ⟨0, f.1, f.2⟩
theorem pass_puts (ov : Bool) : ∀ (l : List (UInt8 × List UInt8)), (∀ f ∈ l, f.2.length ≤ 256) → passF ov (putsF l) 0 = ([], 0, framesI l)
  | [], _ => by show passF ov [] 0 = _; rw [pass_nil]; rfl
  | f :: l, h => by
    show passF ov (putF f.1 f.2 ++ putsF l) 0 = _
    rw [pass_put ov _ _ _ _ (h f (by simp)), pass_puts ov l (fun x hx => h x (by simp [hx]))]
    rfl
theorem pass_puts_at (ov : Bool) (k : Nat) : ∀ (l : List (UInt8 × List UInt8)), (∀ f ∈ l, f.2.length ≤ 256) → l ≠ [] → passF ov (putsF l) k = ([], 0, skipI k ++ framesI l)
  | [], _, h => absurd rfl h
  | f :: l, h, _ => by
    show passF ov (putF f.1 f.2 ++ putsF l) k = _
    rw [pass_put ov _ _ _ _ (h f (by simp)), pass_puts ov l (fun x hx => h x (by simp [hx]))]
    rfl

/-- All items, once no more bytes come. -/
def allI (b : List UInt8) : List It := (passF true b 0).2.2 ++ skipI (passF true b 0).2.1
theorem all_puts (l : List (UInt8 × List UInt8)) (h : ∀ f ∈ l, f.2.length ≤ 256) : allI (putsF l) = framesI l := by
  unfold allI
  rw [pass_puts true l h]
  simp [skipI]
theorem all_after (z : List UInt8) (l : List (UInt8 × List UInt8)) (hz : ∀ c ∈ z, c ≠ 165) (h : ∀ f ∈ l, f.2.length ≤ 256) : allI (z ++ putsF l) = skipI z.length ++ allI (putsF l) := by
  rw [all_puts l h]
  unfold allI
  rw [pass_noise true _ z 0 hz, Nat.zero_add]
  by_cases hl : l = []
  · subst hl
    show (passF true [] z.length).2.2 ++ skipI (passF true [] z.length).2.1 = _
    rw [pass_nil]
    simp [framesI]
  · rw [pass_puts_at true _ l h hl]
    simp [skipI]

/-- How many bytes an item stands for. -/
def wtI (x : It) : Nat := if 0 < x.skip then x.skip else x.body.length + 7
def sumI : List It → Nat
  | [] => 0
  | x :: l => wtI x + sumI l
theorem sumI_append (a b : List It) : sumI (a ++ b) = sumI a + sumI b := by
  induction a with
  | nil => simp [sumI]
  | cons x a ih => simp only [List.cons_append, sumI, ih]; omega
theorem sumI_skip (k : Nat) : sumI (skipI k) = k := by
  unfold skipI
  split
  · simp [sumI, wtI, *]
  · simp [sumI]; omega
theorem pass_sum (ov : Bool) : ∀ (m : Nat) (s : List UInt8) (k : Nat), s.length ≤ m → sumI (passF ov s k).2.2 + (passF ov s k).2.1 + (passF ov s k).1.length = s.length + k
  | 0, [], k, _ => by simp [pass_nil, sumI]
  | 0, _ :: _, _, h => by simp at h
  | m + 1, [], k, _ => by simp [pass_nil, sumI]
  | m + 1, c :: r, k, h => by
    have hr : r.length ≤ m := by simpa using h
    have ih := pass_sum ov m r (k + 1) hr
    cases hz : szF (c :: r) with
    | wait =>
      cases ov
      · rw [pass_wait hz]; simp [sumI]; omega
      · rw [pass_over hz, ih]; simp; omega
    | no => rw [pass_no hz, ih]; simp; omega
    | frame n =>
      obtain ⟨_, _, _, hl, _⟩ := sz_frame hz
      have ih2 := pass_sum ov m (r.drop (n + 6)) 0 (by rw [List.length_drop]; omega)
      rw [pass_frame hz]
      dsimp only
      rw [sumI_append, sumI_skip]
      have hb : (bodyF (c :: r) n).length = n := by unfold bodyF; rw [List.length_take, List.length_drop, List.length_cons]; omega
      have hw : wtI ⟨0, kindF (c :: r), bodyF (c :: r) n⟩ = n + 7 := by unfold wtI; simp [hb]
      simp only [sumI, hw]
      rw [List.length_drop] at ih2
      simp only [List.length_cons]
      omega
/-- No two items of skipped bytes side by side. -/
def noTwo : List It → Bool
  | x :: y :: l => !(decide (0 < x.skip) && decide (0 < y.skip)) && noTwo (y :: l)
  | _ => true
theorem noTwo_frame (x : It) (l : List It) (h : x.skip = 0) : noTwo (x :: l) = noTwo l := by
  cases l with
  | nil => rfl
  | cons y l => simp [noTwo, h]
theorem noTwo_skip (k j : Nat) (x : It) (l : List It) (hx : x.skip = 0) (h : noTwo (l ++ skipI j) = true) : noTwo (skipI k ++ x :: l ++ skipI j) = true := by
  have h1 : noTwo (x :: (l ++ skipI j)) = true := by rw [noTwo_frame x _ hx]; exact h
  unfold skipI at h1 ⊢
  split
  · simp only [List.cons_append, List.nil_append]
    simp only [noTwo, hx]
    simpa using h1
  · simpa using h1
theorem pass_noTwo (ov : Bool) (j : Nat) : ∀ (m : Nat) (s : List UInt8) (k : Nat), s.length ≤ m → noTwo ((passF ov s k).2.2 ++ skipI j) = true
  | 0, [], k, _ => by rw [pass_nil]; unfold skipI; split <;> rfl
  | 0, _ :: _, _, h => by simp at h
  | m + 1, [], k, _ => by rw [pass_nil]; unfold skipI; split <;> rfl
  | m + 1, c :: r, k, h => by
    have hr : r.length ≤ m := by simpa using h
    have ih := pass_noTwo ov j m r (k + 1) hr
    cases hz : szF (c :: r) with
    | wait =>
      cases ov
      · rw [pass_wait hz]; unfold skipI; split <;> rfl
      · rw [pass_over hz]; exact ih
    | no => rw [pass_no hz]; exact ih
    | frame n =>
      have ih2 := pass_noTwo ov j m (r.drop (n + 6)) 0 (by rw [List.length_drop]; omega)
      rw [pass_frame hz]
      exact noTwo_skip k j _ _ rfl ih2
theorem all_sum (b : List UInt8) : sumI (allI b) = b.length := by
  unfold allI
  have h := pass_sum true b.length b 0 (Nat.le_refl _)
  have e := pass_end b.length b 0 (Nat.le_refl _)
  rw [e] at h
  rw [sumI_append, sumI_skip]
  simpa using h
theorem all_noTwo (b : List UInt8) : noTwo (allI b) = true := pass_noTwo true _ b.length b 0 (Nat.le_refl _)

/-- Bytes that are skipped first are told first. -/
theorem pass_first : ∀ (m : Nat) (s : List UInt8) (k : Nat), s.length ≤ m → 0 < k → ∃ x l, (passF true s k).2.2 ++ skipI (passF true s k).2.1 = x :: l ∧ 0 < x.skip
  | 0, [], k, _, hk => by rw [pass_nil]; exact ⟨⟨k, 0, []⟩, [], by simp [skipI, hk], hk⟩
  | 0, _ :: _, _, h, _ => by simp at h
  | m + 1, [], k, _, hk => by rw [pass_nil]; exact ⟨⟨k, 0, []⟩, [], by simp [skipI, hk], hk⟩
  | m + 1, c :: r, k, h, hk => by
    have hr : r.length ≤ m := by simpa using h
    have ih := pass_first m r (k + 1) hr (by omega)
    cases hz : szF (c :: r) with
    | wait => rw [pass_over hz]; exact ih
    | no => rw [pass_no hz]; exact ih
    | frame n =>
      rw [pass_frame hz]
      refine ⟨⟨k, 0, []⟩, ⟨0, kindF (c :: r), bodyF (c :: r) n⟩ :: ((passF true (r.drop (n + 6)) 0).2.2 ++ skipI (passF true (r.drop (n + 6)) 0).2.1), ?_, hk⟩
      have e : skipI k = [⟨k, 0, []⟩] := by unfold skipI; rw [if_pos hk]
      rw [e]
      rfl

/-- Of bytes that end in their sum one is turned: they don't any more. -/
theorem one_turned (l : List UInt8) (i : Nat) (t : UInt8) (h3 : 3 ≤ l.length) (hf : fitsC l = true) (hi : i < l.length) (ht : t ≠ 0) : fitsC (l.set i (l[i] ^^^ t)) = false := by
  rw [Bool.eq_false_iff]
  intro h
  rw [fitsC_iff _ (by rw [List.length_set]; exact h3)] at h
  rw [fitsC_iff _ h3] at hf
  have e : l.set i (l[i] ^^^ t) = List.zipWith (· ^^^ ·) l (List.replicate i 0 ++ (t :: List.replicate (l.length - i - 1) 0)) := by
    apply List.ext_getElem
    · simp; omega
    · intro j h1 h2
      have hj : j < l.length := by simpa using h1
      rw [List.getElem_zipWith, List.getElem_set]
      by_cases e : i = j
      · subst e
        rw [if_pos rfl]
        congr 1
        rw [List.getElem_append_right (by simp)]
        simp
      · rw [if_neg e]
        by_cases hlt : j < i
        · rw [List.getElem_append_left (by simpa using hlt)]
          simp
        · rw [List.getElem_append_right (by simp; omega)]
          have : j - (List.replicate i (0 : UInt8)).length = (j - i - 1) + 1 := by simp; omega
          simp only [this, List.getElem_cons_succ, List.getElem_replicate]
          simp
  have hlen : l.length = (List.replicate i (0 : UInt8) ++ (t :: List.replicate (l.length - i - 1) 0)).length := by simp; omega
  unfold sumC moreC at h hf
  rw [e, bits_zip _ _ hlen] at h
  have k := feed_xor (bits l) (bits (List.replicate i (0 : UInt8) ++ (t :: List.replicate (l.length - i - 1) 0))) (11994318 % 16777216) 0 (by rw [bits_length, bits_length, ← hlen])
  rw [Nat.xor_zero, hf, Nat.zero_xor] at k
  rw [k, bits_append, feed_append, bits_zeros, feed_zero] at h
  have h2 : bits (t :: List.replicate (l.length - i - 1) 0) = byteBits t ++ nots (8 * (l.length - i - 1)) := by
    show byteBits t ++ bits (List.replicate (l.length - i - 1) 0) = _
    rw [bits_zeros]
  rw [h2, feed_append] at h
  have h4 := feed_kernel _ _ (feed_lt _ _ (by omega)) h
  rw [feed_la _ _ (by simp [byteBits]), Nat.zero_xor] at h4
  have h5 := feed_kernel _ _ (la_lt _) h4
  apply ht
  apply UInt8.toNat_inj.1
  apply tb_ext
  intro q
  show t.toNat.testBit q = (0 : Nat).testBit q
  rw [Nat.zero_testBit]
  by_cases hq : q < 8
  · have := congrArg (fun z => Nat.testBit z (16 + q)) h5
    simp only [la_bit, Nat.zero_testBit] at this
    rw [show 23 - (16 + q) = 7 - q by omega, byte_get t (7 - q) (by omega), show 7 - (7 - q) = q by omega] at this
    simpa [show 16 + q < 24 by omega] using this
  · exact Nat.testBit_lt_two_pow (Nat.lt_of_lt_of_le t.toNat_lt (by rw [show (2 : Nat) ^ 8 = 2 ^ 8 by rfl]; exact Nat.pow_le_pow_right (by omega) (by omega)))

/-- A frame of which one byte, neither the mark nor of the length, is turned, is none. -/
theorem sz_spoilt (kind : UInt8) (body : List UInt8) (k : Nat) (t : UInt8) (h : body.length ≤ 256) (hk : k = 1 ∨ (4 ≤ k ∧ k < body.length + 7)) (ht : t ≠ 0) : szF ((putF kind body).set k ((putF kind body).getD k 0 ^^^ t)) = .no := by
  obtain ⟨j, rfl⟩ : ∃ j, k = j + 1 := ⟨k - 1, by omega⟩
  obtain ⟨r, hr⟩ : ∃ r, r = headF kind body ++ putC (sumC (headF kind body)) := ⟨_, rfl⟩
  have hp : putF kind body = 165 :: r := by rw [hr]; rfl
  have hl : r.length = body.length + 6 := by rw [hr, List.length_append, headF_length, putC_length]
  have hn : lenF r = body.length := by rw [hr]; exact len_put _ _ _ h
  have hf : fitsC r = true := by rw [hr]; exact fits_own _
  rw [hp]
  show szF (165 :: r.set j (r.getD j 0 ^^^ t)) = _
  have hj : j < r.length := by omega
  have hg : r.getD j 0 = r[j] := by simp [List.getD, hj]
  have hn2 : lenF (r.set j (r.getD j 0 ^^^ t)) = body.length := by
    rw [← hn]
    unfold lenF
    simp [List.getD, show ¬ j = 1 by omega, show ¬ j = 2 by omega]
  rw [sz_cons, if_pos rfl, hn2, List.length_set, hl, if_neg (by omega), if_neg (by omega), if_neg (by omega), List.take_of_length_le (by rw [List.length_set]; omega), hg, one_turned r j t (by omega) hf hj ht]
  simp
theorem all_spoilt (kind : UInt8) (body : List UInt8) (k : Nat) (t : UInt8) (h : body.length ≤ 256) (hk : k = 1 ∨ (4 ≤ k ∧ k < body.length + 7)) (ht : t ≠ 0) : ∃ x l, allI ((putF kind body).set k ((putF kind body).getD k 0 ^^^ t)) = x :: l ∧ 0 < x.skip := by
  have hz := sz_spoilt kind body k t h hk ht
  obtain ⟨j, rfl⟩ : ∃ j, k = j + 1 := ⟨k - 1, by omega⟩
  unfold allI
  cases hs : (putF kind body).set (j + 1) ((putF kind body).getD (j + 1) 0 ^^^ t) with
  | nil => rw [hs] at hz; cases hz
  | cons c r =>
    rw [hs] at hz
    rw [pass_no hz]
    exact pass_first _ r 1 (Nat.le_refl _) (by omega)
end Go.Proofs.YtpgainalimmecaaDoor
