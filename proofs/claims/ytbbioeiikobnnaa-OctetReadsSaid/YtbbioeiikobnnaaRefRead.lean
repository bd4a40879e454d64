/-
  Contracts of the reference's Read, ReadMoment, ReadText and End.
-/
import Derived.Test.YtbbioeiikobnnaaRefTake
import Derived.Test.YtbbioeiikobnnaaMore
import Derived.RegionTactic
import Derived.BigRegion
namespace Go.Proofs.Ytbbioeiikobnnaa
open Go.RowKit
set_option linter.unusedVariables false

/-- What a call of the reference that reads ends in. -/
def RDid (r : Value) (s : List UInt8 × Int) (w : World) (x : Ending) (w' : World) : Prop := x = .returned (.tuple #[r, .agg #[.string (mkB s.1), .int .i64 s.2]]) ∧ Below w.heap.size w w'

set_option maxRecDepth 100000 in
theorem rread_err (s : ByteArray) (e : Int) (w : World) (he : ¬ e = 0) : Calls Try.prog 22 #[.agg #[.string s, .int .i64 e]] w (RDid (.int .u64 0) (s.data.toList, e) w) := by
  have h1 : (e != 0) = true := by simp [he]
  clear he
  go_enter Try.func22, Try.ntmps22
  go_wp2
  go_region
  go_wp2
  exact bodyPost_ret (v := .tuple #[.int .u64 0, .agg #[.string s, .int .i64 e]]) (by simp [results, Try.results22, go_sem]) rfl ⟨rfl, (((Below.refl _ _).alloc (Nat.le_refl _) _).alloc (by simp) _).drew⟩

theorem below_cells {W w1 : World} (hb : Below W.heap.size W w1) : (∀ b o, b < W.heap.size → w1.cell? ⟨b, o, none⟩ = W.cell? ⟨b, o, none⟩) ∧ (∀ b o, b < W.heap.size → w1.frozen? ⟨b, o, none⟩ = W.frozen? ⟨b, o, none⟩) :=
  ⟨fun b o h => hb.cell (p := ⟨b, o, none⟩) h, fun b o h => hb.frozen (p := ⟨b, o, none⟩) h⟩

set_option maxRecDepth 100000 in
set_option maxHeartbeats 1000000 in
theorem rread_bad (s : ByteArray) (er : Int) (w : World) (hs : s.size ≤ 1000000) (ht : tk s.data.toList = (0, 0, er)) (he : ¬ er = 0) :
    Calls Try.prog 22 #[.agg #[.string s, .int .i64 0]] w (RDid (.int .u64 0) ([], er) w) := by
  have h1 : (er != 0) = true := by simp [he]
  have HT := Lib.hid ht
  have HS := Lib.hid hs
  clear he ht hs
  go_enter Try.func22, Try.ntmps22
  go_wp2_with (go_at_call 13; refine (rtake_str s _ HS.out HT.out).mono ?_; rintro e w2 ⟨rfl, hb2⟩; obtain ⟨hc, hf⟩ := below_cells hb2; have hz : w.heap.size + 1 < w2.heap.size := (by have := hb2.size; simp at this; omega); have HB2 := Lib.hid hb2; clear hb2)
  exact bodyPost_ret (v := .tuple #[.int .u64 0, .agg #[.string (mkB []), .int .i64 er]]) (by simp [results, Try.results22, go_sem, hc]; rfl) rfl
    ⟨rfl, ((((Below.refl _ _).alloc (Nat.le_refl _) _).alloc (by simp) _).trans (HB2.out.mono (by simp; omega))).setCell (by simp) _ |>.setCell (by simp) _⟩

set_option maxRecDepth 100000 in
set_option maxHeartbeats 1000000 in
theorem rread_ok (s : ByteArray) (u n : Nat) (w : World) (hs : s.size ≤ 1000000) (ht : tk s.data.toList = (u, n, 0)) :
    Calls Try.prog 22 #[.agg #[.string s, .int .i64 0]] w (RDid (.int .u64 u) (s.data.toList.drop n, 0) w) := by
  have hn : n ≤ s.size := by have := (tk_range s.data.toList).2.1; rw [ht, data_len] at this; exact this
  have HT := Lib.hid ht
  have hn2 : (n : Int) ≤ (s.size : Int) := by omega
  have hn3 : (0 : Int) ≤ (n : Int) := by omega
  have HX : Hid (s.extract n s.size = mkB (s.data.toList.drop n)) := Lib.hid (by
    have h := ByteArray.extract_mk s.data.toList n s.size
    have e : ByteArray.mk s.data.toList.toArray = s := rfl
    rw [e] at h
    rw [h, List.take_of_length_le (by rw [List.length_drop, data_len]; omega)]
    rfl)
  clear ht
  go_enter Try.func22, Try.ntmps22
  go_wp2_with (go_at_call 13; refine (rtake_str s _ hs HT.out).mono ?_; rintro e w2 ⟨rfl, hb2⟩; obtain ⟨hc, hf⟩ := below_cells hb2; have hz : w.heap.size + 1 < w2.heap.size := (by have := hb2.size; simp at this; omega); have HB2 := Lib.hid hb2; clear hb2)
  go_region
  go_wp2
  have hX := HX.out
  exact bodyPost_ret (v := .tuple #[.int .u64 u, .agg #[.string (mkB (s.data.toList.drop n)), .int .i64 0]]) (by simp [results, Try.results22, go_sem, hc, hX]) rfl
    ⟨rfl, (((((Below.refl _ _).alloc (Nat.le_refl _) _).alloc (by simp) _).trans (HB2.out.mono (by simp; omega))).setCell (by simp) _ |>.setCell (by simp) _).drew⟩

/-- The reference's Read. -/
theorem rread_any (s : ByteArray) (e : Int) (w : World) (hs : s.size ≤ 1000000) {u : Nat} {l' : List UInt8} {e' : Int} (hd : rdNum s.data.toList e = (u, l', e')) :
    Calls Try.prog 22 #[.agg #[.string s, .int .i64 e]] w (RDid (.int .u64 u) (l', e') w) := by
  unfold rdNum at hd
  by_cases he : e = 0
  · subst he
    have hr := tk_range s.data.toList
    rcases ht : tk s.data.toList with ⟨u1, n, er⟩
    rw [ht] at hr hd
    by_cases h0 : er = 0
    · subst h0
      simp only [if_pos, Prod.mk.injEq] at hd
      obtain ⟨rfl, rfl, rfl⟩ := hd
      exact rread_ok s _ n w hs ht
    · obtain ⟨rfl, rfl⟩ := hr.2.2.2 h0
      simp only [if_pos, if_neg h0, Prod.mk.injEq] at hd
      obtain ⟨rfl, rfl, rfl⟩ := hd
      exact rread_bad s _ w hs ht h0
  · simp only [if_neg he, Prod.mk.injEq] at hd
    obtain ⟨rfl, rfl, rfl⟩ := hd
    exact rread_err s _ w he

set_option maxRecDepth 100000 in
set_option maxHeartbeats 1000000 in
theorem rmoment_long (s : ByteArray) (e : Int) (w : World) (hs : s.size ≤ 1000000) {u : Nat} {l' : List UInt8} {e' : Int} (hd : rdNum s.data.toList e = (u, l', e')) (hu : ¬ u ≤ 9223372036854775807) :
    Calls Try.prog 25 #[.agg #[.string s, .int .i64 e]] w (RDid (.int .i64 0) ([], 13) w) := by
  have HD := Lib.hid hd
  clear hd
  go_enter Try.func25, Try.ntmps25
  go_wp2_with (go_at_call 22; refine (rread_any s _ _ hs HD.out).mono ?_; rintro e w2 ⟨rfl, hb2⟩; obtain ⟨hc, hf⟩ := below_cells hb2; have hz : w.heap.size + 1 < w2.heap.size := (by have := hb2.size; simp at this; omega); have HB2 := Lib.hid hb2; clear hb2)
  exact bodyPost_ret (v := .tuple #[.int .i64 0, .agg #[.string (mkB []), .int .i64 13]]) (by simp [results, Try.results25, go_sem, hc, hz]; rfl) rfl
    ⟨rfl, (((((Below.refl _ _).alloc (Nat.le_refl _) _).alloc (by simp) _).trans (HB2.out.mono (by simp; omega))).setCell (by simp) _ |>.setCell (by simp) _).alloc (by simp; omega) _⟩

set_option maxRecDepth 100000 in
set_option maxHeartbeats 1000000 in
theorem rmoment_ok (s : ByteArray) (e : Int) (w : World) (hs : s.size ≤ 1000000) {u : Nat} {l' : List UInt8} {e' : Int} (hd : rdNum s.data.toList e = (u, l', e')) (hu : u ≤ 9223372036854775807) :
    Calls Try.prog 25 #[.agg #[.string s, .int .i64 e]] w (RDid (.int .i64 u) (l', e') w) := by
  have HD := Lib.hid hd
  clear hd
  go_enter Try.func25, Try.ntmps25
  go_wp2_with (go_at_call 22; refine (rread_any s _ _ hs HD.out).mono ?_; rintro e w2 ⟨rfl, hb2⟩; obtain ⟨hc, hf⟩ := below_cells hb2; have hz : w.heap.size + 1 < w2.heap.size := (by have := hb2.size; simp at this; omega); have HB2 := Lib.hid hb2; clear hb2)
  go_region
  go_wp2
  exact bodyPost_ret (v := .tuple #[.int .i64 u, .agg #[.string (mkB l'), .int .i64 e']]) (by simp [results, Try.results25, go_sem, hc, hz]) rfl
    ⟨rfl, ((((((Below.refl _ _).alloc (Nat.le_refl _) _).alloc (by simp) _).trans (HB2.out.mono (by simp; omega))).setCell (by simp) _ |>.setCell (by simp) _).alloc (by simp; omega) _).drew⟩

/-- The reference's ReadMoment. -/
theorem rmoment_any (s : ByteArray) (e : Int) (w : World) (hs : s.size ≤ 1000000) :
    Calls Try.prog 25 #[.agg #[.string s, .int .i64 e]] w (RDid (.int .i64 (rdMoment s.data.toList e).1) (rdMoment s.data.toList e).2 w) := by
  rcases hd : rdNum s.data.toList e with ⟨u, l', e'⟩
  by_cases hu : u ≤ 9223372036854775807
  · have h : rdMoment s.data.toList e = ((u : Int), l', e') := by simp only [rdMoment, hd, if_pos hu]
    rw [h]; exact rmoment_ok s e w hs hd hu
  · have h : rdMoment s.data.toList e = (0, [], 13) := by simp only [rdMoment, hd, if_neg hu]
    rw [h]; exact rmoment_long s e w hs hd hu

set_option maxRecDepth 100000 in
set_option maxHeartbeats 1000000 in
theorem rtext_err (s : ByteArray) (e most : Int) (w : World) (hs : s.size ≤ 1000000) {u : Nat} {l' : List UInt8} {e' : Int} (hd : rdNum s.data.toList e = (u, l', e')) (he : ¬ e' = 0) :
    Calls Try.prog 27 #[.agg #[.string s, .int .i64 e], .int .i64 most] w (RDid (.string (mkB [])) (l', e') w) := by
  have HD := Lib.hid hd
  have h1 : (e' != 0) = true := by simp [he]
  clear hd he
  go_enter Try.func27, Try.ntmps27
  go_wp2_with (go_at_call 22; refine (rread_any s _ _ hs HD.out).mono ?_; rintro e w2 ⟨rfl, hb2⟩; obtain ⟨hc, hf⟩ := below_cells hb2; have hz : w.heap.size + 1 < w2.heap.size := (by have := hb2.size; simp at this; omega); have HB2 := Lib.hid hb2; clear hb2)
  go_region
  go_wp2
  exact bodyPost_ret (v := .tuple #[.string (mkB []), .agg #[.string (mkB l'), .int .i64 e']]) (by simp [results, Try.results27, go_sem, hc, hz]; rfl) rfl
    ⟨rfl, ((((((Below.refl _ _).alloc (Nat.le_refl _) _).alloc (by simp) _).trans (HB2.out.mono (by simp; omega))).setCell (by simp) _ |>.setCell (by simp) _).alloc (by simp; omega) _).drew⟩

set_option maxRecDepth 100000 in
set_option maxHeartbeats 1000000 in
theorem rtext_long (s : ByteArray) (e most : Int) (w : World) (hs : s.size ≤ 1000000) {u : Nat} {l' : List UInt8} (hd : rdNum s.data.toList e = (u, l', 0)) (hu : ¬ (u : Int) ≤ max most 0) (hm1 : -9223372036854775808 ≤ most) (hm2 : most ≤ 9223372036854775807) :
    Calls Try.prog 27 #[.agg #[.string s, .int .i64 e], .int .i64 most] w (RDid (.string (mkB [])) ([], 13) w) := by
  have HD := Lib.hid hd
  clear hd
  have hu0 : 0 < u := by omega
  by_cases hp : most < 0
  · clear hu
    go_enter Try.func27, Try.ntmps27
    go_wp2_with (go_at_call 22; refine (rread_any s _ _ hs HD.out).mono ?_; rintro e w2 ⟨rfl, hb2⟩; obtain ⟨hc, hf⟩ := below_cells hb2; have hz : w.heap.size + 1 < w2.heap.size := (by have := hb2.size; simp at this; omega); have HB2 := Lib.hid hb2; clear hb2)
    exact bodyPost_ret (v := .tuple #[.string (mkB []), .agg #[.string (mkB []), .int .i64 13]]) (by simp [results, Try.results27, go_sem, hc, hz]; rfl) rfl
      ⟨rfl, (((((Below.refl _ _).alloc (Nat.le_refl _) _).alloc (by simp) _).trans (HB2.out.mono (by simp; omega))).setCell (by simp) _ |>.setCell (by simp) _).alloc (by simp; omega) _⟩
  · have hu1 : most < (u : Int) := by omega
    clear hu
    go_enter Try.func27, Try.ntmps27
    go_wp2_with (go_at_call 22; refine (rread_any s _ _ hs HD.out).mono ?_; rintro e w2 ⟨rfl, hb2⟩; obtain ⟨hc, hf⟩ := below_cells hb2; have hz : w.heap.size + 1 < w2.heap.size := (by have := hb2.size; simp at this; omega); have HB2 := Lib.hid hb2; clear hb2)
    exact bodyPost_ret (v := .tuple #[.string (mkB []), .agg #[.string (mkB []), .int .i64 13]]) (by simp [results, Try.results27, go_sem, hc, hz]; rfl) rfl
      ⟨rfl, (((((Below.refl _ _).alloc (Nat.le_refl _) _).alloc (by simp) _).trans (HB2.out.mono (by simp; omega))).setCell (by simp) _ |>.setCell (by simp) _).alloc (by simp; omega) _⟩

set_option maxRecDepth 100000 in
set_option maxHeartbeats 1000000 in
theorem rtext_short (s : ByteArray) (e most : Int) (w : World) (hs : s.size ≤ 1000000) {u : Nat} {l' : List UInt8} (hd : rdNum s.data.toList e = (u, l', 0)) (hu : (u : Int) ≤ max most 0) (hl : ¬ u ≤ l'.length) (hl2 : l'.length ≤ 1000000) (hm1 : -9223372036854775808 ≤ most) (hm2 : most ≤ 9223372036854775807) :
    Calls Try.prog 27 #[.agg #[.string s, .int .i64 e], .int .i64 most] w (RDid (.string (mkB [])) ([], 10) w) := by
  have HD := Lib.hid hd
  have hsz := mkB_size l'
  clear hd
  have hp : 0 ≤ most := by omega
  have hu0 : 0 < u := by omega
  have hu1 : (u : Int) ≤ most := by omega
  clear hu
  go_enter Try.func27, Try.ntmps27
  go_wp2_with (go_at_call 22; refine (rread_any s _ _ hs HD.out).mono ?_; rintro e w2 ⟨rfl, hb2⟩; obtain ⟨hc, hf⟩ := below_cells hb2; have hz : w.heap.size + 1 < w2.heap.size := (by have := hb2.size; simp at this; omega); have HB2 := Lib.hid hb2; clear hb2)
  exact bodyPost_ret (v := .tuple #[.string (mkB []), .agg #[.string (mkB []), .int .i64 10]]) (by simp [results, Try.results27, go_sem, hc, hz]; rfl) rfl
    ⟨rfl, (((((Below.refl _ _).alloc (Nat.le_refl _) _).alloc (by simp) _).trans (HB2.out.mono (by simp; omega))).setCell (by simp) _ |>.setCell (by simp) _).alloc (by simp; omega) _⟩

theorem mkB_extract (l : List UInt8) (a b : Nat) : (mkB l).extract a b = mkB ((l.drop a).take (b - a)) := ByteArray.extract_mk l a b

set_option maxRecDepth 100000 in
set_option maxHeartbeats 2000000 in
theorem rtext_ok (s : ByteArray) (e most : Int) (w : World) (hs : s.size ≤ 1000000) {u : Nat} {l' : List UInt8} (hd : rdNum s.data.toList e = (u, l', 0)) (hu : (u : Int) ≤ max most 0) (hl : u ≤ l'.length) (hl2 : l'.length ≤ 1000000) (hm1 : -9223372036854775808 ≤ most) (hm2 : most ≤ 9223372036854775807) :
    Calls Try.prog 27 #[.agg #[.string s, .int .i64 e], .int .i64 most] w (RDid (.string (mkB (l'.take u))) (l'.drop u, 0) w) := by
  have HD := Lib.hid hd
  have hsz := mkB_size l'
  have E1 : Hid ((mkB l').extract 0 u = mkB (l'.take u)) := Lib.hid (mkB_extract l' 0 u)
  have E2 : Hid ((mkB l').extract u l'.length = mkB (l'.drop u)) := Lib.hid (by rw [mkB_extract, List.take_of_length_le (by rw [List.length_drop]; omega)])
  have hl3 : (u : Int) ≤ (l'.length : Int) := by omega
  have hl4 : (0 : Int) ≤ (u : Int) := by omega
  clear hd
  by_cases hu0 : 0 < u
  · have hp : 0 ≤ most := by omega
    have hu1 : (u : Int) ≤ most := by omega
    clear hu
    go_enter Try.func27, Try.ntmps27
    go_wp2_with (go_at_call 22; refine (rread_any s _ _ hs HD.out).mono ?_; rintro e w2 ⟨rfl, hb2⟩; obtain ⟨hc, hf⟩ := below_cells hb2; have hz : w.heap.size + 1 < w2.heap.size := (by have := hb2.size; simp at this; omega); have HB2 := Lib.hid hb2; clear hb2)
    go_region
    go_wp2
    have e1 := E1.out
    have e2 := E2.out
    exact bodyPost_ret (v := .tuple #[.string (mkB (l'.take u)), .agg #[.string (mkB (l'.drop u)), .int .i64 0]]) (by simp [results, Try.results27, go_sem, hc, hz, e1, e2]) rfl
      ⟨rfl, ((((((Below.refl _ _).alloc (Nat.le_refl _) _).alloc (by simp) _).trans (HB2.out.mono (by simp; omega))).setCell (by simp) _ |>.setCell (by simp) _).alloc (by simp; omega) _).drew⟩
  · clear hu
    go_enter Try.func27, Try.ntmps27
    go_wp2_with (go_at_call 22; refine (rread_any s _ _ hs HD.out).mono ?_; rintro e w2 ⟨rfl, hb2⟩; obtain ⟨hc, hf⟩ := below_cells hb2; have hz : w.heap.size + 1 < w2.heap.size := (by have := hb2.size; simp at this; omega); have HB2 := Lib.hid hb2; clear hb2)
    go_region
    go_wp2
    have e1 := E1.out
    have e2 := E2.out
    exact bodyPost_ret (v := .tuple #[.string (mkB (l'.take u)), .agg #[.string (mkB (l'.drop u)), .int .i64 0]]) (by simp [results, Try.results27, go_sem, hc, hz, e1, e2]) rfl
      ⟨rfl, ((((((Below.refl _ _).alloc (Nat.le_refl _) _).alloc (by simp) _).trans (HB2.out.mono (by simp; omega))).setCell (by simp) _ |>.setCell (by simp) _).alloc (by simp; omega) _).drew⟩

theorem rdNum_len (l : List UInt8) (e : Int) : (rdNum l e).2.1.length ≤ l.length := by
  unfold rdNum
  split
  · split
    · dsimp only; rw [List.length_drop]; omega
    · exact Nat.zero_le _
  · exact Nat.le_refl _
/-- The reference's ReadText. -/
theorem rtext2_any (s : ByteArray) (e most : Int) (w : World) (hs : s.size ≤ 1000000) (hm1 : -9223372036854775808 ≤ most) (hm2 : most ≤ 9223372036854775807) :
    Calls Try.prog 27 #[.agg #[.string s, .int .i64 e], .int .i64 most] w (RDid (.string (mkB (rdText s.data.toList e most).1)) (rdText s.data.toList e most).2 w) := by
  have hlen := rdNum_len s.data.toList e
  rw [data_len] at hlen
  rcases hd : rdNum s.data.toList e with ⟨u, l', e'⟩
  rw [hd] at hlen
  dsimp only at hlen
  by_cases he : e' = 0
  · subst he
    by_cases hu : (u : Int) ≤ max most 0
    · by_cases hl : u ≤ l'.length
      · have h : rdText s.data.toList e most = (l'.take u, l'.drop u, 0) := by simp only [rdText, hd, if_pos, hu, hl]
        rw [h]; exact rtext_ok s e most w hs hd hu hl (by omega) hm1 hm2
      · have h : rdText s.data.toList e most = ([], [], 10) := by simp only [rdText, hd, if_pos, hu]; rw [if_neg hl]
        rw [h]; exact rtext_short s e most w hs hd hu hl (by omega) hm1 hm2
    · have h : rdText s.data.toList e most = ([], [], 13) := by simp only [rdText, hd, if_pos]; rw [if_neg hu]
      rw [h]; exact rtext_long s e most w hs hd hu hm1 hm2
  · have h : rdText s.data.toList e most = ([], l', e') := by simp only [rdText, hd]; rw [if_neg he]
    rw [h]; exact rtext_err s e most w hs hd he

theorem rend_any (s : ByteArray) (e : Int) (w : World) :
    Calls Try.prog 31 #[.agg #[.string s, .int .i64 e]] w fun x w' => x = .returned (.int .i64 (rdEnd s.data.toList e)) ∧ Below w.heap.size w w' := by
  by_cases he : e = 0
  · subst he
    by_cases hs : s.data.toList = []
    · have h1 : s.toList.isEmpty = true := by rw [ByteArray.toList_eq, hs]; rfl
      have HE := Lib.hid (show rdEnd s.data.toList 0 = 0 by simp [rdEnd, hs])
      clear hs
      go_enter Try.func31, Try.ntmps31
      go_wp2
      go_ret
      exact ⟨by rw [HE.out]; rfl, (Below.refl _ _).alloc (Nat.le_refl _) _⟩
    · have h1 : s.toList.isEmpty = false := by rw [ByteArray.toList_eq]; simpa using hs
      have HE := Lib.hid (show rdEnd s.data.toList 0 = 12 by simp only [rdEnd, if_pos]; rw [if_neg hs])
      clear hs
      go_enter Try.func31, Try.ntmps31
      go_wp2
      go_ret
      exact ⟨by rw [HE.out]; rfl, (Below.refl _ _).alloc (Nat.le_refl _) _⟩
  · have h1 : (e == 0) = false := by simp [he]
    have HE := Lib.hid (show rdEnd s.data.toList e = e by simp [rdEnd, he])
    clear he
    go_enter Try.func31, Try.ntmps31
    go_wp2
    go_ret
    exact ⟨by rw [HE.out]; rfl, (Below.refl _ _).alloc (Nat.le_refl _) _⟩
end Go.Proofs.Ytbbioeiikobnnaa
