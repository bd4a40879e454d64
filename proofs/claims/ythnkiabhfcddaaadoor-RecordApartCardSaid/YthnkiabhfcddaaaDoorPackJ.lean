/-
  Texts of the proofs, put together: RefTake, RefRead.
-/
import Derived.Test.YthnkiabhfcddaaaDoorPackE
import Derived.Deep.RegionHeld3
import Derived.IntWalk
import Derived.RegionTactic
import Derived.BigRegion
/-
  Contract of the reference's Take.
-/
namespace Go.Proofs.YthnkiabhfcddaaaDoor
open Go.RowKit

theorem data_len (s : ByteArray) : s.data.toList.length = s.size := by rw [Array.length_toList]; rfl
theorem data_get (s : ByteArray) (k : Nat) (h : k < s.size) : s.data.toList[k]'(by rw [data_len]; exact h) = s[k] := rfl

/-- What a call of the reference's Take ends in. -/
def Took2 (l : List UInt8) (w : World) (e : Ending) (w' : World) : Prop := e = .returned (.tuple #[.int .u64 (tk l).1, .int .i64 (tk l).2.1, .int .i64 (tk l).2.2]) ∧ Below w.heap.size w w'

theorem str_facts {s : ByteArray} {c : UInt8} {r : List UInt8} (hl : s.data.toList = c :: r) :
    s.toList.isEmpty = false ∧ s.size = r.length + 1 ∧ (∀ h : 0 < s.size, (s[0]'h) = c) ∧ (∀ j (h : j + 1 < s.size) (h2 : j < r.length), s[j + 1]'h = r[j]) := by
  have hs : s.size = r.length + 1 := by rw [← data_len, hl]; rfl
  refine ⟨?_, hs, ?_, ?_⟩
  · rw [ByteArray.toList_eq, hl]; rfl
  · intro h
    have h2 := data_get s 0 h
    simp only [hl] at h2
    exact h2.symm
  · intro j h h2
    have h3 := data_get s (j + 1) h
    simp only [hl] at h3
    exact h3.symm

theorem rtake_nil (w : World) : Calls Tryd.prog 64 #[.string (mkB [])] w (Took2 [] w) := by
  have h : (mkB []).toList.isEmpty = true := by rw [ByteArray.toList_eq]; rfl
  go_enter Tryd.func64, Tryd.ntmps64
  go_wp2
  go_ret3
  exact ⟨rfl, Below.refl _ _⟩
set_option maxRecDepth 100000 in
theorem rtake_low (s : ByteArray) (c : UInt8) (r : List UInt8) (w : World) (hl : s.data.toList = c :: r) (hc : c.toNat < 248) (hr : r.length ≤ 1000000) : Calls Tryd.prog 64 #[.string s] w (Took2 (c :: r) w) := by
  obtain ⟨he, hs, h0, _⟩ := str_facts hl
  have hz : 0 < s.size := by omega
  have hz0 := h0 hz
  have HE := Lib.hid (show tk (c :: r) = (c.toNat, 1, 0) by simp [tk, hc])
  clear hs hl h0
  go_enter Tryd.func64, Tryd.ntmps64
  go_wp2
  go_ret3
  exact ⟨by rw [HE.out]; rfl, Below.refl _ _⟩
set_option maxRecDepth 100000 in
theorem rtake_short (s : ByteArray) (c : UInt8) (r : List UInt8) (w : World) (hl : s.data.toList = c :: r) (hc : 248 ≤ c.toNat) (hr2 : r.length < c.toNat - 247) (hr : r.length ≤ 1000000) : Calls Tryd.prog 64 #[.string s] w (Took2 (c :: r) w) := by
  obtain ⟨he, hs, h0, _⟩ := str_facts hl
  have hz : 0 < s.size := by omega
  have hz0 := h0 hz
  have HE := Lib.hid (tk_short c r hc hr2)
  have hsz1 : s.size < c.toNat - 247 + 1 := by omega
  have hc2 := c.toNat_lt
  clear hs hl h0 hr hr2
  go_enter Tryd.func64, Tryd.ntmps64
  go_wp2
  go_ret3
  exact ⟨by rw [HE.out]; rfl, Below.refl _ _⟩

theorem cmp_eq (s : ByteArray) (c : UInt8) (r : List UInt8) (m : Nat) (hl : s.data.toList = c :: r) (hc : 248 ≤ c.toNat) (hm : m + 247 = c.toNat) (hr : m ≤ r.length) :
    ((mkB (enc (val (r.take m)))).toList == (s.extract 0 (m + 1)).toList) = !decide (val (r.take m) < 248 ∨ nb (val (r.take m)) < m) := by
  have k := enc_val_iff c (r.take m) hc (by rw [List.length_take]; omega)
  rw [show c.toNat - 247 = m by omega] at k
  rw [mkB_toList, extract_toList, hl, Bool.eq_iff_iff]
  simp only [List.drop_zero, Nat.sub_zero, List.take_succ_cons, beq_iff_eq, Bool.not_eq_true', decide_eq_false_iff_not]
  exact k

set_option maxRecDepth 100000 in
set_option maxHeartbeats 1000000 in
theorem rtake_long (s : ByteArray) (c : UInt8) (r : List UInt8) (w : World) (hl : s.data.toList = c :: r) (hc : 248 ≤ c.toNat) (hr2 : c.toNat - 247 ≤ r.length) (hr : r.length ≤ 1000000) : Calls Tryd.prog 64 #[.string s] w (Took2 (c :: r) w) := by
  obtain ⟨he, hs, h0, h1⟩ := str_facts hl
  have hz : 0 < s.size := by omega
  have hz0 : (s[0]'hz).toNat = c.toNat := by rw [h0 hz]
  have HT := Lib.hid (tk_long c r hc hr2)
  have hc2 := c.toNat_lt
  obtain ⟨m, hm0⟩ : ∃ m, m + 247 = c.toNat := ⟨c.toNat - 247, by omega⟩
  have e1 : c.toNat - 247 = m := by omega
  rw [e1] at HT hr2
  have HC := Lib.hid (cmp_eq s c r m hl hc hm0 hr2)
  rw [← hm0] at hc hc2 hz0
  have H1 := Lib.hid h1
  have HS := Lib.hid hs
  have hsz : m + 1 ≤ s.size := by omega
  have hsm : s.size ≤ 1000001 := by omega
  clear hs hl h0 h1 hm0 e1
  go_enter Tryd.func64, Tryd.ntmps64
  go_wp2
  go_loop [6, 7] (fun u i => ∃ k : Nat, k ≤ m ∧ i = .int .i64 ((k + 1 : Nat) : Int) ∧ u = .int .u64 (val (r.take k) : Nat)) (fun _ i => m + 1 - (intOf i).toNat)
  case atStart => exact ⟨0, Nat.zero_le _, rfl, by simp [val]⟩
  case round =>
    obtain ⟨k, hk, rfl, rfl⟩ := hrel
    by_cases hlt : k < m
    · have hx := val_take_le r k (by omega)
      have hb := H1.out k (by omega) (by omega)
      have hy := r[k].toNat_lt
      have HSU := Lib.hid (val_take_succ r k (by omega))
      go_wp2
      go_round
      case rel => exact ⟨k + 1, by omega, by go_num, by rw [HSU.out]; rfl⟩
      case measure => simp [intOf]; omega
    · have hk' : k = m := by omega
      subst hk'
      have hxv : val (r.take k) ≤ 18446744073709551615 := by
        have h := val_lt (r.take k)
        have h2 : 256 ^ (r.take k).length ≤ 256 ^ 8 := Nat.pow_le_pow_right (by decide) (by have := List.length_take_le k r; omega)
        have e : (256 : Nat) ^ 8 = 18446744073709551616 := by decide
        omega
      have HX := Lib.hid hxv
      clear hxv
      go_wp2
      have hw1 : IntKind.i64.wrap ((k : Int) + 1) = (k : Int) + 1 := IntWalk.i64_in _ (by omega)
      have hw2 : (0 : Int) ≤ (k : Int) + 1 := by omega
      have hw3 : (k : Int) + 1 ≤ (s.size : Int) := by omega
      have hw4 : ((k : Int) + 1).toNat = k + 1 := by omega
      go_region_held3 (fun w' => Below w.heap.size w w') (first | assumption | exact Below.refl _ _ | exact (Below.refl _ _).drew)
        (first | (go_at_call 57; refine (rnum_any _ _ HX.out).mono ?_; rintro e w1 ⟨rfl, hb1⟩; have hb2 := Below.trans ‹Below w.heap.size w _› (hb1.mono (Below.size ‹Below w.heap.size w _›))))
      clear hw1 hw2 hw3 hw4
      have hcmp := HC.out
      have HB2 := Lib.hid hb2
      by_cases hbad : val (r.take k) < 248 ∨ nb (val (r.take k)) < k
      · have HT2 := HT.out
        rw [if_pos hbad] at HT2
        have HT3 := Lib.hid HT2
        rw [decide_eq_true hbad] at hcmp
        have hn : (!((mkB (enc (val (r.take k)))).toList == (s.extract 0 (k + 1)).toList)) = true := by rw [hcmp]; rfl
        have HN := Lib.hid hn
        clear HT HT2 hbad HC hcmp hn hb1 hb2
        go_wp2
        · go_ret3
          exact ⟨by rw [HT3.out]; rfl, HB2.out⟩
        · have hh : (!((mkB (enc (val (r.take k)))).toList == (s.extract 0 (k + 1)).toList)) = false := by assumption
          rw [HN.out] at hh
          cases hh
      · have HT2 := HT.out
        rw [if_neg hbad] at HT2
        have HT3 := Lib.hid HT2
        rw [decide_eq_false hbad] at hcmp
        have hn : (!((mkB (enc (val (r.take k)))).toList == (s.extract 0 (k + 1)).toList)) = false := by rw [hcmp]; rfl
        have HN := Lib.hid hn
        clear HT HT2 hbad HC hcmp hn hb1 hb2
        go_wp2
        · have hh : (!((mkB (enc (val (r.take k)))).toList == (s.extract 0 (k + 1)).toList)) = true := by assumption
          rw [HN.out] at hh
          cases hh
        · go_ret3
          exact ⟨by rw [HT3.out]; rfl, HB2.out⟩

/-- The reference's Take, of any text. -/
theorem rtake_any (s : ByteArray) (w : World) (h : s.size ≤ 1000000) : Calls Tryd.prog 64 #[.string s] w (Took2 s.data.toList w) := by
  rw [← data_len] at h
  rcases hl : s.data.toList with _ | ⟨c, r⟩
  · have e : s = mkB [] := by rw [← mkB_data s, hl]
    subst e
    exact rtake_nil w
  · rw [hl] at h
    simp only [List.length_cons] at h
    rcases Nat.lt_or_ge c.toNat 248 with hc | hc
    · exact rtake_low s c r w hl hc (by omega)
    · rcases Nat.lt_or_ge r.length (c.toNat - 247) with h2 | h2
      · exact rtake_short s c r w hl hc h2 (by omega)
      · exact rtake_long s c r w hl hc h2 (by omega)

theorem rtake_at (l : List UInt8) (w : World) (h : l.length ≤ 1000000) {u n : Nat} {er : Int} (ht : tk l = (u, n, er)) :
    Calls Tryd.prog 64 #[.string (mkB l)] w fun e w' => e = .returned (.tuple #[.int .u64 u, .int .i64 n, .int .i64 er]) ∧ Below w.heap.size w w' := by
  have k := rtake_any (mkB l) w (by rw [mkB_size]; exact h)
  have e : (mkB l).data.toList = l := rfl
  unfold Took2 at k
  rw [e, ht] at k
  exact k

theorem rtake_str (s : ByteArray) (w : World) (h : s.size ≤ 1000000) {u n : Nat} {er : Int} (ht : tk s.data.toList = (u, n, er)) :
    Calls Tryd.prog 64 #[.string s] w fun e w' => e = .returned (.tuple #[.int .u64 u, .int .i64 n, .int .i64 er]) ∧ Below w.heap.size w w' := by
  have k := rtake_any s w h
  unfold Took2 at k
  rw [ht] at k
  exact k
end Go.Proofs.YthnkiabhfcddaaaDoor
/-
  Contracts of the reference's Read, ReadMoment, ReadText and End.
-/
namespace Go.Proofs.YthnkiabhfcddaaaDoor
open Go.RowKit
set_option linter.unusedVariables false

/-- What a call of the reference that reads ends in. -/
def RDid (r : Value) (s : List UInt8 × Int) (w : World) (x : Ending) (w' : World) : Prop := x = .returned (.tuple #[r, .agg #[.string (mkB s.1), .int .i64 s.2]]) ∧ Below w.heap.size w w'

set_option maxRecDepth 100000 in
theorem rread_err (s : ByteArray) (e : Int) (w : World) (he : ¬ e = 0) : Calls Tryd.prog 39 #[.agg #[.string s, .int .i64 e]] w (RDid (.int .u64 0) (s.data.toList, e) w) := by
  have h1 : (e != 0) = true := by simp [he]
  clear he
  go_enter Tryd.func39, Tryd.ntmps39
  go_wp2
  go_region
  go_wp2
  exact bodyPost_ret (v := .tuple #[.int .u64 0, .agg #[.string s, .int .i64 e]]) (by simp [results, Tryd.results39, go_sem]) rfl ⟨rfl, (((Below.refl _ _).alloc (Nat.le_refl _) _).alloc (by simp) _).drew⟩

set_option maxRecDepth 100000 in
set_option maxHeartbeats 1000000 in
theorem rread_bad (s : ByteArray) (er : Int) (w : World) (hs : s.size ≤ 1000000) (ht : tk s.data.toList = (0, 0, er)) (he : ¬ er = 0) :
    Calls Tryd.prog 39 #[.agg #[.string s, .int .i64 0]] w (RDid (.int .u64 0) ([], er) w) := by
  have h1 : (er != 0) = true := by simp [he]
  have HT := Lib.hid ht
  have HS := Lib.hid hs
  clear he ht hs
  go_enter Tryd.func39, Tryd.ntmps39
  go_wp2_with (go_at_call 64; refine (rtake_str s _ HS.out HT.out).mono ?_; rintro e w2 ⟨rfl, hb2⟩; obtain ⟨hc, hf⟩ := below_cells hb2; have hz : w.heap.size + 1 < w2.heap.size := (by have := hb2.size; simp at this; omega); have HB2 := Lib.hid hb2; clear hb2)
  exact bodyPost_ret (v := .tuple #[.int .u64 0, .agg #[.string (mkB []), .int .i64 er]]) (by simp [results, Tryd.results39, go_sem, hc]; rfl) rfl
    ⟨rfl, ((((Below.refl _ _).alloc (Nat.le_refl _) _).alloc (by simp) _).trans (HB2.out.mono (by simp; omega))).setCell (by simp) _ |>.setCell (by simp) _⟩

set_option maxRecDepth 100000 in
set_option maxHeartbeats 1000000 in
theorem rread_ok (s : ByteArray) (u n : Nat) (w : World) (hs : s.size ≤ 1000000) (ht : tk s.data.toList = (u, n, 0)) :
    Calls Tryd.prog 39 #[.agg #[.string s, .int .i64 0]] w (RDid (.int .u64 u) (s.data.toList.drop n, 0) w) := by
  have hn : n ≤ s.size := by have := (tk_range s.data.toList).2.1; rw [ht, data_len] at this; exact this
  have HT := Lib.hid ht
  have hn2 : (n : Int) ≤ (s.size : Int) := by omega
  have hn3 : (0 : Int) ≤ (n : Int) := by omega
  have HX : Hid (s.extract n s.size = mkB (s.data.toList.drop n)) := Lib.hid (by
    have h := ByteArray.extract_mk s.data.toList n s.size
    have e : ByteArray.mk s.data.toList.toArray = s := rfl
    rw [e] at h
    rw [h, List.take_of_length_le (by rw [List.length_drop, data_len]; omega)]
    rfl)
  clear ht
  go_enter Tryd.func39, Tryd.ntmps39
  go_wp2_with (go_at_call 64; refine (rtake_str s _ hs HT.out).mono ?_; rintro e w2 ⟨rfl, hb2⟩; obtain ⟨hc, hf⟩ := below_cells hb2; have hz : w.heap.size + 1 < w2.heap.size := (by have := hb2.size; simp at this; omega); have HB2 := Lib.hid hb2; clear hb2)
  go_region
  go_wp2
  have hX := HX.out
  exact bodyPost_ret (v := .tuple #[.int .u64 u, .agg #[.string (mkB (s.data.toList.drop n)), .int .i64 0]]) (by simp [results, Tryd.results39, go_sem, hc, hX]) rfl
    ⟨rfl, (((((Below.refl _ _).alloc (Nat.le_refl _) _).alloc (by simp) _).trans (HB2.out.mono (by simp; omega))).setCell (by simp) _ |>.setCell (by simp) _).drew⟩

/-- The reference's Read. -/
theorem rread_any (s : ByteArray) (e : Int) (w : World) (hs : s.size ≤ 1000000) {u : Nat} {l' : List UInt8} {e' : Int} (hd : rdNum s.data.toList e = (u, l', e')) :
    Calls Tryd.prog 39 #[.agg #[.string s, .int .i64 e]] w (RDid (.int .u64 u) (l', e') w) := by
  unfold rdNum at hd
  by_cases he : e = 0
  · subst he
    have hr := tk_range s.data.toList
    rcases ht : tk s.data.toList with ⟨u1, n, er⟩
    rw [ht] at hr hd
    by_cases h0 : er = 0
    · subst h0
      simp only [if_pos, Prod.mk.injEq] at hd
      obtain ⟨rfl, rfl, rfl⟩ := hd
      exact rread_ok s _ n w hs ht
    · obtain ⟨rfl, rfl⟩ := hr.2.2.2 h0
      simp only [if_pos, if_neg h0, Prod.mk.injEq] at hd
      obtain ⟨rfl, rfl, rfl⟩ := hd
      exact rread_bad s _ w hs ht h0
  · simp only [if_neg he, Prod.mk.injEq] at hd
    obtain ⟨rfl, rfl, rfl⟩ := hd
    exact rread_err s _ w he

set_option maxRecDepth 100000 in
set_option maxHeartbeats 1000000 in
theorem rtext_err (s : ByteArray) (e most : Int) (w : World) (hs : s.size ≤ 1000000) {u : Nat} {l' : List UInt8} {e' : Int} (hd : rdNum s.data.toList e = (u, l', e')) (he : ¬ e' = 0) :
    Calls Tryd.prog 38 #[.agg #[.string s, .int .i64 e], .int .i64 most] w (RDid (.string (mkB [])) (l', e') w) := by
  have HD := Lib.hid hd
  have h1 : (e' != 0) = true := by simp [he]
  clear hd he
  go_enter Tryd.func38, Tryd.ntmps38
  go_wp2_with (go_at_call 39; refine (rread_any s _ _ hs HD.out).mono ?_; rintro e w2 ⟨rfl, hb2⟩; obtain ⟨hc, hf⟩ := below_cells hb2; have hz : w.heap.size + 1 < w2.heap.size := (by have := hb2.size; simp at this; omega); have HB2 := Lib.hid hb2; clear hb2)
  go_region
  go_wp2
  exact bodyPost_ret (v := .tuple #[.string (mkB []), .agg #[.string (mkB l'), .int .i64 e']]) (by simp [results, Tryd.results38, go_sem, hc, hz]; rfl) rfl
    ⟨rfl, ((((((Below.refl _ _).alloc (Nat.le_refl _) _).alloc (by simp) _).trans (HB2.out.mono (by simp; omega))).setCell (by simp) _ |>.setCell (by simp) _).alloc (by simp; omega) _).drew⟩

set_option maxRecDepth 100000 in
set_option maxHeartbeats 1000000 in
theorem rtext_long (s : ByteArray) (e most : Int) (w : World) (hs : s.size ≤ 1000000) {u : Nat} {l' : List UInt8} (hd : rdNum s.data.toList e = (u, l', 0)) (hu : ¬ (u : Int) ≤ max most 0) (hm1 : -9223372036854775808 ≤ most) (hm2 : most ≤ 9223372036854775807) :
    Calls Tryd.prog 38 #[.agg #[.string s, .int .i64 e], .int .i64 most] w (RDid (.string (mkB [])) ([], 13) w) := by
  have HD := Lib.hid hd
  clear hd
  have hu0 : 0 < u := by omega
  by_cases hp : most < 0
  · clear hu
    go_enter Tryd.func38, Tryd.ntmps38
    go_wp2_with (go_at_call 39; refine (rread_any s _ _ hs HD.out).mono ?_; rintro e w2 ⟨rfl, hb2⟩; obtain ⟨hc, hf⟩ := below_cells hb2; have hz : w.heap.size + 1 < w2.heap.size := (by have := hb2.size; simp at this; omega); have HB2 := Lib.hid hb2; clear hb2)
    exact bodyPost_ret (v := .tuple #[.string (mkB []), .agg #[.string (mkB []), .int .i64 13]]) (by simp [results, Tryd.results38, go_sem, hc, hz]; rfl) rfl
      ⟨rfl, (((((Below.refl _ _).alloc (Nat.le_refl _) _).alloc (by simp) _).trans (HB2.out.mono (by simp; omega))).setCell (by simp) _ |>.setCell (by simp) _).alloc (by simp; omega) _⟩
  · have hu1 : most < (u : Int) := by omega
    clear hu
    go_enter Tryd.func38, Tryd.ntmps38
    go_wp2_with (go_at_call 39; refine (rread_any s _ _ hs HD.out).mono ?_; rintro e w2 ⟨rfl, hb2⟩; obtain ⟨hc, hf⟩ := below_cells hb2; have hz : w.heap.size + 1 < w2.heap.size := (by have := hb2.size; simp at this; omega); have HB2 := Lib.hid hb2; clear hb2)
    exact bodyPost_ret (v := .tuple #[.string (mkB []), .agg #[.string (mkB []), .int .i64 13]]) (by simp [results, Tryd.results38, go_sem, hc, hz]; rfl) rfl
      ⟨rfl, (((((Below.refl _ _).alloc (Nat.le_refl _) _).alloc (by simp) _).trans (HB2.out.mono (by simp; omega))).setCell (by simp) _ |>.setCell (by simp) _).alloc (by simp; omega) _⟩

set_option maxRecDepth 100000 in
set_option maxHeartbeats 1000000 in
theorem rtext_short (s : ByteArray) (e most : Int) (w : World) (hs : s.size ≤ 1000000) {u : Nat} {l' : List UInt8} (hd : rdNum s.data.toList e = (u, l', 0)) (hu : (u : Int) ≤ max most 0) (hl : ¬ u ≤ l'.length) (hl2 : l'.length ≤ 1000000) (hm1 : -9223372036854775808 ≤ most) (hm2 : most ≤ 9223372036854775807) :
    Calls Tryd.prog 38 #[.agg #[.string s, .int .i64 e], .int .i64 most] w (RDid (.string (mkB [])) ([], 10) w) := by
  have HD := Lib.hid hd
  have hsz := mkB_size l'
  clear hd
  have hp : 0 ≤ most := by omega
  have hu0 : 0 < u := by omega
  have hu1 : (u : Int) ≤ most := by omega
  clear hu
  go_enter Tryd.func38, Tryd.ntmps38
  go_wp2_with (go_at_call 39; refine (rread_any s _ _ hs HD.out).mono ?_; rintro e w2 ⟨rfl, hb2⟩; obtain ⟨hc, hf⟩ := below_cells hb2; have hz : w.heap.size + 1 < w2.heap.size := (by have := hb2.size; simp at this; omega); have HB2 := Lib.hid hb2; clear hb2)
  exact bodyPost_ret (v := .tuple #[.string (mkB []), .agg #[.string (mkB []), .int .i64 10]]) (by simp [results, Tryd.results38, go_sem, hc, hz]; rfl) rfl
    ⟨rfl, (((((Below.refl _ _).alloc (Nat.le_refl _) _).alloc (by simp) _).trans (HB2.out.mono (by simp; omega))).setCell (by simp) _ |>.setCell (by simp) _).alloc (by simp; omega) _⟩

theorem mkB_extract (l : List UInt8) (a b : Nat) : (mkB l).extract a b = mkB ((l.drop a).take (b - a)) := ByteArray.extract_mk l a b

set_option maxRecDepth 100000 in
set_option maxHeartbeats 2000000 in
theorem rtext_ok (s : ByteArray) (e most : Int) (w : World) (hs : s.size ≤ 1000000) {u : Nat} {l' : List UInt8} (hd : rdNum s.data.toList e = (u, l', 0)) (hu : (u : Int) ≤ max most 0) (hl : u ≤ l'.length) (hl2 : l'.length ≤ 1000000) (hm1 : -9223372036854775808 ≤ most) (hm2 : most ≤ 9223372036854775807) :
    Calls Tryd.prog 38 #[.agg #[.string s, .int .i64 e], .int .i64 most] w (RDid (.string (mkB (l'.take u))) (l'.drop u, 0) w) := by
  have HD := Lib.hid hd
  have hsz := mkB_size l'
  have E1 : Hid ((mkB l').extract 0 u = mkB (l'.take u)) := Lib.hid (mkB_extract l' 0 u)
  have E2 : Hid ((mkB l').extract u l'.length = mkB (l'.drop u)) := Lib.hid (by rw [mkB_extract, List.take_of_length_le (by rw [List.length_drop]; omega)])
  have hl3 : (u : Int) ≤ (l'.length : Int) := by omega
  have hl4 : (0 : Int) ≤ (u : Int) := by omega
  clear hd
  by_cases hu0 : 0 < u
  · have hp : 0 ≤ most := by omega
    have hu1 : (u : Int) ≤ most := by omega
    clear hu
    go_enter Tryd.func38, Tryd.ntmps38
    go_wp2_with (go_at_call 39; refine (rread_any s _ _ hs HD.out).mono ?_; rintro e w2 ⟨rfl, hb2⟩; obtain ⟨hc, hf⟩ := below_cells hb2; have hz : w.heap.size + 1 < w2.heap.size := (by have := hb2.size; simp at this; omega); have HB2 := Lib.hid hb2; clear hb2)
    go_region
    go_wp2
    have e1 := E1.out
    have e2 := E2.out
    exact bodyPost_ret (v := .tuple #[.string (mkB (l'.take u)), .agg #[.string (mkB (l'.drop u)), .int .i64 0]]) (by simp [results, Tryd.results38, go_sem, hc, hz, e1, e2]) rfl
      ⟨rfl, ((((((Below.refl _ _).alloc (Nat.le_refl _) _).alloc (by simp) _).trans (HB2.out.mono (by simp; omega))).setCell (by simp) _ |>.setCell (by simp) _).alloc (by simp; omega) _).drew⟩
  · clear hu
    go_enter Tryd.func38, Tryd.ntmps38
    go_wp2_with (go_at_call 39; refine (rread_any s _ _ hs HD.out).mono ?_; rintro e w2 ⟨rfl, hb2⟩; obtain ⟨hc, hf⟩ := below_cells hb2; have hz : w.heap.size + 1 < w2.heap.size := (by have := hb2.size; simp at this; omega); have HB2 := Lib.hid hb2; clear hb2)
    go_region
    go_wp2
    have e1 := E1.out
    have e2 := E2.out
    exact bodyPost_ret (v := .tuple #[.string (mkB (l'.take u)), .agg #[.string (mkB (l'.drop u)), .int .i64 0]]) (by simp [results, Tryd.results38, go_sem, hc, hz, e1, e2]) rfl
      ⟨rfl, ((((((Below.refl _ _).alloc (Nat.le_refl _) _).alloc (by simp) _).trans (HB2.out.mono (by simp; omega))).setCell (by simp) _ |>.setCell (by simp) _).alloc (by simp; omega) _).drew⟩

theorem rdNum_len (l : List UInt8) (e : Int) : (rdNum l e).2.1.length ≤ l.length := by
  unfold rdNum
  split
  · split
    · dsimp only; rw [List.length_drop]; omega
    · exact Nat.zero_le _
  · exact Nat.le_refl _
/-- The reference's ReadText. -/
theorem rtext2_any (s : ByteArray) (e most : Int) (w : World) (hs : s.size ≤ 1000000) (hm1 : -9223372036854775808 ≤ most) (hm2 : most ≤ 9223372036854775807) :
    Calls Tryd.prog 38 #[.agg #[.string s, .int .i64 e], .int .i64 most] w (RDid (.string (mkB (rdText s.data.toList e most).1)) (rdText s.data.toList e most).2 w) := by
  have hlen := rdNum_len s.data.toList e
  rw [data_len] at hlen
  rcases hd : rdNum s.data.toList e with ⟨u, l', e'⟩
  rw [hd] at hlen
  dsimp only at hlen
  by_cases he : e' = 0
  · subst he
    by_cases hu : (u : Int) ≤ max most 0
    · by_cases hl : u ≤ l'.length
      · have h : rdText s.data.toList e most = (l'.take u, l'.drop u, 0) := by simp only [rdText, hd, if_pos, hu, hl]
        rw [h]; exact rtext_ok s e most w hs hd hu hl (by omega) hm1 hm2
      · have h : rdText s.data.toList e most = ([], [], 10) := by simp only [rdText, hd, if_pos, hu]; rw [if_neg hl]
        rw [h]; exact rtext_short s e most w hs hd hu hl (by omega) hm1 hm2
    · have h : rdText s.data.toList e most = ([], [], 13) := by simp only [rdText, hd, if_pos]; rw [if_neg hu]
      rw [h]; exact rtext_long s e most w hs hd hu hm1 hm2
  · have h : rdText s.data.toList e most = ([], l', e') := by simp only [rdText, hd]; rw [if_neg he]
    rw [h]; exact rtext_err s e most w hs hd he

theorem rend_any (s : ByteArray) (e : Int) (w : World) :
    Calls Tryd.prog 42 #[.agg #[.string s, .int .i64 e]] w fun x w' => x = .returned (.int .i64 (rdEnd s.data.toList e)) ∧ Below w.heap.size w w' := by
  by_cases he : e = 0
  · subst he
    by_cases hs : s.data.toList = []
    · have h1 : s.toList.isEmpty = true := by rw [ByteArray.toList_eq, hs]; rfl
      have HE := Lib.hid (show rdEnd s.data.toList 0 = 0 by simp [rdEnd, hs])
      clear hs
      go_enter Tryd.func42, Tryd.ntmps42
      go_wp2
      go_ret
      exact ⟨by rw [HE.out]; rfl, (Below.refl _ _).alloc (Nat.le_refl _) _⟩
    · have h1 : s.toList.isEmpty = false := by rw [ByteArray.toList_eq]; simpa using hs
      have HE := Lib.hid (show rdEnd s.data.toList 0 = 12 by simp only [rdEnd, if_pos]; rw [if_neg hs])
      clear hs
      go_enter Tryd.func42, Tryd.ntmps42
      go_wp2
      go_ret
      exact ⟨by rw [HE.out]; rfl, (Below.refl _ _).alloc (Nat.le_refl _) _⟩
  · have h1 : (e == 0) = false := by simp [he]
    have HE := Lib.hid (show rdEnd s.data.toList e = e by simp [rdEnd, he])
    clear he
    go_enter Tryd.func42, Tryd.ntmps42
    go_wp2
    go_ret
    exact ⟨by rw [HE.out]; rfl, (Below.refl _ _).alloc (Nat.le_refl _) _⟩
end Go.Proofs.YthnkiabhfcddaaaDoor
