/-
  Contracts of octet.Reader's methods for a reader whose bytes lie in blocks of D (as Reader, with that said); of Open, whose reader's bytes are new.
-/
import Derived.Test.YthnkiabhfcddaaaDoorPackE
import Derived.Test.YthnkiabhfcddaaaDoorPackL
namespace Go.Proofs.YthnkiabhfcddaaaDoor
open Go.RowKit
set_option linter.unusedVariables false

/-- The value v is nothing, or a slice that holds the bytes l in a block of D. -/
def LiesD (w : World) (D : Nat → Prop) (v : Value) (l : List UInt8) : Prop :=
  (v = .slice none 0 0 ∧ l = []) ∨ ∃ b off c, v = .slice (some ⟨b, off, none⟩) l.length c ∧ l.length ≤ c ∧ D b ∧ ∀ i (h : i < l.length), w.cell? ⟨b, off + i, none⟩ = some (.int .u8 (l[i].toNat : Int))
theorem LiesD.keep {w w' : World} {D : Nat → Prop} {v : Value} {l : List UInt8} (h : LiesD w D v l) (hb : ∀ k, D k → w'.heap[k]? = w.heap[k]?) : LiesD w' D v l := by
  rcases h with h | ⟨b, off, c, e, hl, hB, hc⟩
  · exact .inl h
  · exact .inr ⟨b, off, c, e, hl, hB, fun i hi => (World.cell?_of_block (w := w) (hb b hB)).trans (hc i hi)⟩
theorem LiesD.mono {w : World} {D D' : Nat → Prop} {v : Value} {l : List UInt8} (h : LiesD w D v l) (hD : ∀ k, D k → D' k) : LiesD w D' v l := by
  rcases h with h | ⟨b, off, c, e, hl, hB, hc⟩
  · exact .inl h
  · exact .inr ⟨b, off, c, e, hl, hD b hB, hc⟩
/-- Block g holds a reader of the bytes l whose first error is e; the bytes lie in a block of D. -/
def RdrD (w : World) (D : Nat → Prop) (g : Nat) (l : List UInt8) (e : Int) : Prop :=
  ∃ v, w.heap[g]? = some (.cells #[v, .int .i64 e] 114 (0, 0)) ∧ LiesD w (fun k => D k ∧ k < g) v l ∧ l.length ≤ 1152921504606846976
theorem RdrD.keep {w w' : World} {D : Nat → Prop} {g : Nat} {l : List UInt8} {e : Int} (h : RdrD w D g l e) (hg : w'.heap[g]? = w.heap[g]?) (hb : ∀ k, D k → k < g → w'.heap[k]? = w.heap[k]?) : RdrD w' D g l e := by
  obtain ⟨v, hh, hl, hm⟩ := h
  exact ⟨v, hg.trans hh, hl.keep fun k hk => hb k hk.1 hk.2, hm⟩
theorem RdrD.lt {w : World} {D : Nat → Prop} {g : Nat} {l : List UInt8} {e : Int} (h : RdrD w D g l e) : g < w.heap.size := by
  obtain ⟨v, hh, _⟩ := h
  exact heap_lt hh
/-- What a call that reads ends in. -/
def DidD (D : Nat → Prop) (g : Nat) (r : Value) (s : List UInt8 × Int) (w : World) (x : Ending) (w' : World) : Prop := x = .returned r ∧ RdrD w' D g s.1 s.2 ∧ w.grownBy w' (some g)

theorem fail_anyD (D : Nat → Prop) (g : Nat) (v : Value) (e e' : Int) (w : World) (h : w.heap[g]? = some (.cells #[v, .int .i64 e] 114 (0, 0))) :
    Calls Tryd.prog 61 #[.pointer (some ⟨g, 0, none⟩), .int .i64 e'] w fun x w' => x = .returned (.tuple #[]) ∧ RdrD w' D g [] e' ∧ w.grownBy w' (some g) := by
  have h1 : w.cell? ⟨g, 0, none⟩ = some v := heap_cell h 0
  have h2 : w.cell? ⟨g, 1, none⟩ = some (.int .i64 e) := heap_cell h 1
  have f1 := heap_frozen h 0
  have f2 := heap_frozen h 1
  have H := Lib.hid h
  clear h
  go_enter Tryd.func61, Tryd.ntmps61
  go_wp2
  go_end0
  refine ⟨rfl, ⟨_, heap_set (heap_set H.out 0 (.slice none 0 0)) 1 (.int .i64 e'), .inl ⟨rfl, rfl⟩, by simp⟩, turn_set (turn_set (World.grownBy.refl _ _) 0 _) 1 _⟩
theorem left_anyD (D : Nat → Prop) (g : Nat) (l : List UInt8) (e : Int) (w : World) (h : RdrD w D g l e) :
    Calls Tryd.prog 63 #[.pointer (some ⟨g, 0, none⟩)] w fun x w' => x = .returned (.int .i64 (l.length : Nat)) ∧ w = w' := by
  obtain ⟨v, h, hl, _⟩ := h
  have h1 : w.cell? ⟨g, 0, none⟩ = some v := heap_cell h 0
  clear h
  rcases hl with ⟨rfl, rfl⟩ | ⟨b, off, c, rfl, hc, _, _⟩
  · go_enter Tryd.func63, Tryd.ntmps63
    go_wp2
    go_ret
    exact ⟨rfl, rfl⟩
  · go_enter Tryd.func63, Tryd.ntmps63
    go_wp2
    go_ret
    exact ⟨rfl, rfl⟩
theorem end_anyD (D : Nat → Prop) (g : Nat) (l : List UInt8) (e : Int) (w : World) (h : RdrD w D g l e) :
    Calls Tryd.prog 37 #[.pointer (some ⟨g, 0, none⟩)] w fun x w' => x = .returned (.int .i64 (rdEnd l e)) ∧ w = w' := by
  have HR := Lib.hid h
  obtain ⟨v, h, _, _⟩ := h
  have HH := Lib.hid h
  clear h
  by_cases he : e = 0
  · subst he
    rcases l with _ | ⟨c, r⟩
    · go_enter Tryd.func37, Tryd.ntmps37
      go_wp2_with (first
        | (go_at_call 60; refine (err_any g _ _ _ HH.out).mono ?_; rintro e w' ⟨rfl, rfl⟩)
        | (go_at_call 63; refine (left_anyD D g _ _ _ HR.out).mono ?_; rintro e w' ⟨rfl, rfl⟩))
      go_ret
      exact ⟨rfl, rfl⟩
    · have hp : 0 < (c :: r).length := by simp
      go_enter Tryd.func37, Tryd.ntmps37
      go_wp2_with (first
        | (go_at_call 60; refine (err_any g _ _ _ HH.out).mono ?_; rintro e w' ⟨rfl, rfl⟩)
        | (go_at_call 63; refine (left_anyD D g _ _ _ HR.out).mono ?_; rintro e w' ⟨rfl, rfl⟩))
      go_ret
      exact ⟨by simp [rdEnd], rfl⟩
  · have h1 : (e != 0) = true := by simp [he]
    have HE : Hid (¬ e = 0) := Lib.hid he
    clear he
    go_enter Tryd.func37, Tryd.ntmps37
    go_wp2_with (go_at_call 60; refine (err_any g _ _ _ HH.out).mono ?_; rintro e w' ⟨rfl, rfl⟩)
    go_ret
    exact ⟨by rw [rdEnd, if_neg HE.out]; rfl, rfl⟩
theorem num_errD (D : Nat → Prop) (g : Nat) (l : List UInt8) (e : Int) (w : World) (h : RdrD w D g l e) (he : ¬ e = 0) :
    Calls Tryd.prog 36 #[.pointer (some ⟨g, 0, none⟩)] w (DidD D g (.int .u64 0) (l, e) w) := by
  have HR := Lib.hid h
  obtain ⟨v, h, _, _⟩ := h
  have HH := Lib.hid h
  clear h
  have h1 : (e != 0) = true := by simp [he]
  clear he
  go_enter Tryd.func36, Tryd.ntmps36
  go_wp2_with (go_at_call 60; refine (err_any g _ _ _ HH.out).mono ?_; rintro e w' ⟨rfl, rfl⟩)
  go_ret
  exact ⟨rfl, HR.out, World.grownBy.refl _ _⟩
set_option maxRecDepth 100000 in
set_option maxHeartbeats 1000000 in
theorem num_badD (D : Nat → Prop) (g : Nat) (l : List UInt8) (w : World) (h : RdrD w D g l 0) (er : Int) (ht : tk l = (0, 0, er)) (he : ¬ er = 0) :
    Calls Tryd.prog 36 #[.pointer (some ⟨g, 0, none⟩)] w (DidD D g (.int .u64 0) ([], er) w) := by
  obtain ⟨v, h, hl, hm⟩ := h
  have h0 : w.cell? ⟨g, 0, none⟩ = some v := heap_cell h 0
  have HH := Lib.hid h
  have HT := Lib.hid ht
  have HM := Lib.hid hm
  clear h ht hm
  have h1 : (er != 0) = true := by simp [he]
  clear he
  rcases hl with ⟨rfl, rfl⟩ | ⟨b, off, c, rfl, hlc, hb, hcs⟩
  · have HW : Hid (Row w g none (bc [])) := fun hne => absurd rfl hne
    go_enter Tryd.func36, Tryd.ntmps36
    go_wp2_with (first
      | (go_at_call 60; refine (err_any g _ _ _ HH.out).mono ?_; rintro e w' ⟨rfl, rfl⟩)
      | (go_at_call 62; refine (take_at [] none 0 g _ HW.out (Nat.le_refl _) HM.out HT.out).mono ?_; rintro e w' ⟨rfl, rfl⟩)
      | (go_at_call 61; refine (fail_anyD D g _ _ _ _ HH.out).mono ?_; rintro e w' ⟨rfl, hr1, hg1⟩))
    go_ret
    exact ⟨rfl, hr1, hg1⟩
  · have HW : Hid (Row w g (some ⟨b, off, none⟩) (bc l)) := fun _ => ⟨b, off, rfl, hb.2, fun i u hu => by
      have hi : i < l.length := by
        have := (List.getElem?_eq_some_iff.1 hu).1
        simpa [bc] using this
      rw [bc_get l i hi] at hu
      rw [← hu]
      exact hcs i hi⟩
    clear hcs hb
    go_enter Tryd.func36, Tryd.ntmps36
    go_wp2_with (first
      | (go_at_call 60; refine (err_any g _ _ _ HH.out).mono ?_; rintro e w' ⟨rfl, rfl⟩)
      | (go_at_call 62; refine (take_at l _ c g _ HW.out hlc HM.out HT.out).mono ?_; rintro e w' ⟨rfl, rfl⟩)
      | (go_at_call 61; refine (fail_anyD D g _ _ _ _ HH.out).mono ?_; rintro e w' ⟨rfl, hr1, hg1⟩))
    go_ret
    exact ⟨rfl, hr1, hg1⟩
/-- What is left behind the first n bytes, as a slice: Go keeps the old address where nothing of the room is left. -/
theorem rdr_cutD {D : Nat → Prop} {w : World} {g b off c n : Nat} {l : List UInt8} (h : w.heap[g]? = some (.cells #[.slice (some ⟨b, off, none⟩) l.length c, .int .i64 0] 114 (0, 0))) (hlc : l.length ≤ c) (hb : D b ∧ b < g)
    (hcs : ∀ i (h : i < l.length), w.cell? ⟨b, off + i, none⟩ = some (.int .u8 (l[i].toNat : Int))) (hn : n ≤ l.length) (hm : l.length ≤ 1152921504606846976) (off' : Nat) (hoff : off' = off + n ∨ c = n) :
    RdrD (w.setCell ⟨g, 0, none⟩ (.slice (some ⟨b, off', none⟩) (l.length - n) (c - n))) D g (l.drop n) 0 := by
  refine ⟨_, heap_set h 0 _, .inr ⟨b, off', c - n, by rw [List.length_drop], by rw [List.length_drop]; omega, hb, fun i hi => ?_⟩, by rw [List.length_drop]; omega⟩
  rw [List.length_drop] at hi
  have e : off' = off + n := by omega
  subst e
  rw [World.cell?_of_block (w := w) (heap_far b 0 _ (by have := hb.2; omega))]
  have := hcs (n + i) (by omega)
  rw [show off + n + i = off + (n + i) by omega, this]
  simp
set_option maxRecDepth 100000 in
set_option maxHeartbeats 1000000 in
theorem num_okD (D : Nat → Prop) (g : Nat) (l : List UInt8) (w : World) (h : RdrD w D g l 0) (u n : Nat) (ht : tk l = (u, n, 0)) :
    Calls Tryd.prog 36 #[.pointer (some ⟨g, 0, none⟩)] w (DidD D g (.int .u64 u) (l.drop n, 0) w) := by
  obtain ⟨v, h, hl, hm⟩ := h
  have h0 : w.cell? ⟨g, 0, none⟩ = some v := heap_cell h 0
  have f0 := heap_frozen h 0
  have hnl : n ≤ l.length := by have := (tk_range l).2.1; rw [ht] at this; exact this
  have HH := Lib.hid h
  have HT := Lib.hid ht
  have HM := Lib.hid hm
  clear h ht hm
  rcases hl with ⟨rfl, rfl⟩ | ⟨b, off, c, rfl, hlc, hb, hcs⟩
  · have := HT.out
    simp [tk] at this
  · have HW := Lib.hid (Lies.row hb.2 hcs)
    have HC := Lib.hid hcs
    have HB := Lib.hid hb
    clear hcs hb
    have HL : Hid (l.length ≤ 1152921504606846976) := HM
    by_cases hcn : c = n
    · subst hcn
      go_enter Tryd.func36, Tryd.ntmps36
      go_wp2_with (first
        | (go_at_call 60; refine (err_any g _ _ _ HH.out).mono ?_; rintro e w' ⟨rfl, rfl⟩)
        | (go_at_call 62; refine (take_at l _ c g _ HW.out hlc HM.out HT.out).mono ?_; rintro e w' ⟨rfl, rfl⟩))
      go_ret
      have k := rdr_cutD HH.out hlc HB.out HC.out hnl HM.out off (.inr rfl)
      rw [show l.length - c = 0 by omega, Nat.sub_self] at k
      exact ⟨rfl, k, turn_set (World.grownBy.refl _ _) 0 _⟩
    · go_enter Tryd.func36, Tryd.ntmps36
      go_wp2_with (first
        | (go_at_call 60; refine (err_any g _ _ _ HH.out).mono ?_; rintro e w' ⟨rfl, rfl⟩)
        | (go_at_call 62; refine (take_at l _ c g _ HW.out hlc HM.out HT.out).mono ?_; rintro e w' ⟨rfl, rfl⟩))
      go_ret
      exact ⟨rfl, rdr_cutD HH.out hlc HB.out HC.out hnl HM.out (off + n) (.inl rfl), turn_set (World.grownBy.refl _ _) 0 _⟩
/-- Num of any reader. -/
theorem num_anyD (D : Nat → Prop) (g : Nat) (l : List UInt8) (e : Int) (w : World) (h : RdrD w D g l e) :
    Calls Tryd.prog 36 #[.pointer (some ⟨g, 0, none⟩)] w (DidD D g (.int .u64 (rdNum l e).1) (rdNum l e).2 w) := by
  by_cases he : e = 0
  · subst he
    have hr := tk_range l
    rcases ht : tk l with ⟨u, n, er⟩
    rw [ht] at hr
    by_cases h0 : er = 0
    · subst h0
      have := num_okD D g l w h u n ht
      simpa [rdNum, ht] using this
    · obtain ⟨rfl, rfl⟩ := hr.2.2.2 h0
      have := num_badD D g l w h er ht h0
      simpa [rdNum, ht, h0] using this
  · have := num_errD D g l e w h he
    simpa [rdNum, he] using this
theorem num_atD (D : Nat → Prop) (g : Nat) (l : List UInt8) (e : Int) (w : World) (h : RdrD w D g l e) {u : Nat} {l' : List UInt8} {e' : Int} (hd : rdNum l e = (u, l', e')) :
    Calls Tryd.prog 36 #[.pointer (some ⟨g, 0, none⟩)] w (DidD D g (.int .u64 u) (l', e') w) := by
  have k := num_anyD D g l e w h
  rw [hd] at k
  exact k
set_option maxRecDepth 100000 in
set_option maxHeartbeats 1000000 in
theorem text_errD (D : Nat → Prop) (g : Nat) (l : List UInt8) (e most : Int) (w : World) (h : RdrD w D g l e) {u : Nat} {l' : List UInt8} {e' : Int} (hd : rdNum l e = (u, l', e')) (he : ¬ e' = 0) :
    Calls Tryd.prog 34 #[.pointer (some ⟨g, 0, none⟩), .int .i64 most] w (DidD D g (.string (mkB [])) (l', e') w) := by
  have HR := Lib.hid h
  have HD := Lib.hid hd
  have h1 : (e' != 0) = true := by simp [he]
  clear h hd he
  go_enter Tryd.func34, Tryd.ntmps34
  go_wp2_with (first
    | (go_at_call 36; refine (num_atD D g _ _ _ HR.out HD.out).mono ?_; rintro e w' ⟨rfl, hr1, hg1⟩; have HR1 := Lib.hid hr1; obtain ⟨v1, hh1, hl1, hm1⟩ := hr1; have HH1 := Lib.hid hh1; clear hh1 hl1 hm1)
    | (go_at_call 60; refine (err_any g _ _ _ HH1.out).mono ?_; rintro e w' ⟨rfl, rfl⟩))
  go_ret
  exact ⟨rfl, HR1.out, hg1⟩
set_option maxRecDepth 100000 in
set_option maxHeartbeats 1000000 in
theorem text_longD (D : Nat → Prop) (g : Nat) (l : List UInt8) (e most : Int) (w : World) (h : RdrD w D g l e) {u : Nat} {l' : List UInt8} (hd : rdNum l e = (u, l', 0)) (hu : ¬ (u : Int) ≤ max most 0) (hm1 : -9223372036854775808 ≤ most) (hm2 : most ≤ 9223372036854775807) :
    Calls Tryd.prog 34 #[.pointer (some ⟨g, 0, none⟩), .int .i64 most] w (DidD D g (.string (mkB [])) ([], 13) w) := by
  have HR := Lib.hid h
  have HD := Lib.hid hd
  clear h hd
  by_cases hp : 0 ≤ most
  · rw [Int.max_eq_left hp] at hu
    go_enter Tryd.func34, Tryd.ntmps34
    go_wp2_with (first
      | (go_at_call 36; refine (num_atD D g _ _ _ HR.out HD.out).mono ?_; rintro e w' ⟨rfl, hr1, hg1⟩; have HR1 := Lib.hid hr1; obtain ⟨v1, hh1, hl1, hm1⟩ := hr1; have HH1 := Lib.hid hh1; clear hh1 hl1 hm1)
      | (go_at_call 60; refine (err_any g _ _ _ HH1.out).mono ?_; rintro e w' ⟨rfl, rfl⟩)
      | (go_at_call 61; refine (fail_anyD D g _ _ _ _ HH1.out).mono ?_; rintro e w' ⟨rfl, hr2, hg2⟩))
    go_ret
    exact ⟨rfl, hr2, hg1.trans hg2⟩
  · rw [Int.max_eq_right (by omega)] at hu
    go_enter Tryd.func34, Tryd.ntmps34
    go_wp2_with (first
      | (go_at_call 36; refine (num_atD D g _ _ _ HR.out HD.out).mono ?_; rintro e w' ⟨rfl, hr1, hg1⟩; have HR1 := Lib.hid hr1; obtain ⟨v1, hh1, hl1, hm1⟩ := hr1; have HH1 := Lib.hid hh1; clear hh1 hl1 hm1)
      | (go_at_call 60; refine (err_any g _ _ _ HH1.out).mono ?_; rintro e w' ⟨rfl, rfl⟩)
      | (go_at_call 61; refine (fail_anyD D g _ _ _ _ HH1.out).mono ?_; rintro e w' ⟨rfl, hr2, hg2⟩))
    go_ret
    exact ⟨rfl, hr2, hg1.trans hg2⟩
set_option maxRecDepth 100000 in
set_option maxHeartbeats 1000000 in
theorem text_shortD (D : Nat → Prop) (g : Nat) (l : List UInt8) (e most : Int) (w : World) (h : RdrD w D g l e) {u : Nat} {l' : List UInt8} (hd : rdNum l e = (u, l', 0)) (hu : (u : Int) ≤ max most 0) (hl : ¬ u ≤ l'.length) (hm1 : -9223372036854775808 ≤ most) (hm2 : most ≤ 9223372036854775807) :
    Calls Tryd.prog 34 #[.pointer (some ⟨g, 0, none⟩), .int .i64 most] w (DidD D g (.string (mkB [])) ([], 10) w) := by
  have HR := Lib.hid h
  have HD := Lib.hid hd
  clear h hd
  have hp : 0 ≤ most := by omega
  rw [Int.max_eq_left hp] at hu
  go_enter Tryd.func34, Tryd.ntmps34
  go_wp2_with (first
    | (go_at_call 36; refine (num_atD D g _ _ _ HR.out HD.out).mono ?_; rintro e w' ⟨rfl, hr1, hg1⟩; obtain ⟨v1, hh1, hl1, hm1⟩ := hr1; have HH1 := Lib.hid hh1; have hc1 := heap_cell hh1 0; clear hh1; rcases hl1 with ⟨rfl, rfl⟩ | ⟨b, off, c, rfl, hlc, hb, hcs⟩)
    | (go_at_call 60; refine (err_any g _ _ _ HH1.out).mono ?_; rintro e w' ⟨rfl, rfl⟩)
    | (go_at_call 61; refine (fail_anyD D g _ _ _ _ HH1.out).mono ?_; rintro e w' ⟨rfl, hr2, hg2⟩))
  all_goals
    go_ret
    exact ⟨rfl, hr2, hg1.trans hg2⟩
set_option maxRecDepth 100000 in
set_option maxHeartbeats 2000000 in
theorem text_okD (D : Nat → Prop) (g : Nat) (l : List UInt8) (e most : Int) (w : World) (h : RdrD w D g l e) {u : Nat} {l' : List UInt8} (hd : rdNum l e = (u, l', 0)) (hu : (u : Int) ≤ max most 0) (hl : u ≤ l'.length) (hm1 : -9223372036854775808 ≤ most) (hm2 : most ≤ 9223372036854775807) :
    Calls Tryd.prog 34 #[.pointer (some ⟨g, 0, none⟩), .int .i64 most] w (DidD D g (.string (mkB (l'.take u))) (l'.drop u, 0) w) := by
  have HR := Lib.hid h
  have HD := Lib.hid hd
  clear h hd
  by_cases hp : 0 ≤ most
  all_goals
    first
    | rw [Int.max_eq_left hp] at hu
    | rw [Int.max_eq_right (by omega)] at hu
    go_enter Tryd.func34, Tryd.ntmps34
    go_wp2_with (first
      | (go_at_call 36; refine (num_atD D g _ _ _ HR.out HD.out).mono ?_; rintro e w1 ⟨rfl, hr1, hg1⟩; obtain ⟨v1, hh1, hl1, hm3⟩ := hr1; have HH1 := Lib.hid hh1; have hc1 := heap_cell hh1 0; have hf1 := heap_frozen hh1 0; clear hh1
         rcases hl1 with ⟨rfl, rfl⟩ | ⟨b, off, c, rfl, hlc, hb, hcs⟩
         all_goals first
           | (revert hcs; intro hcs
              have hcv := run_str (cap := c) u hl hcs
              have HC := Lib.hid hcs
              clear hcs
              by_cases hcn : c = u
              all_goals first | subst hcn | skip)
           | (obtain rfl : u = 0 := Nat.le_zero.1 hl
              have hcv := run_str_nil w1 0 0))
      | (go_at_call 60; refine (err_any g _ _ _ HH1.out).mono ?_; rintro e w' ⟨rfl, rfl⟩))
    · go_ret
      exact ⟨rfl, ⟨_, heap_set HH1.out 0 _, .inl ⟨rfl, rfl⟩, by simp⟩, hg1.trans (turn_set (World.grownBy.refl _ _) 0 _)⟩
    · go_ret
      have k := rdr_cutD HH1.out hlc hb HC.out hl hm3 off (.inr rfl)
      rw [show l'.length - c = 0 by omega, Nat.sub_self] at k
      exact ⟨rfl, k, hg1.trans (turn_set (World.grownBy.refl _ _) 0 _)⟩
    · go_ret
      exact ⟨rfl, rdr_cutD HH1.out hlc hb HC.out hl hm3 (off + u) (.inl rfl), hg1.trans (turn_set (World.grownBy.refl _ _) 0 _)⟩
theorem text_anyD (D : Nat → Prop) (g : Nat) (l : List UInt8) (e most : Int) (w : World) (h : RdrD w D g l e) (hm1 : -9223372036854775808 ≤ most) (hm2 : most ≤ 9223372036854775807) :
    Calls Tryd.prog 34 #[.pointer (some ⟨g, 0, none⟩), .int .i64 most] w (DidD D g (.string (mkB (rdText l e most).1)) (rdText l e most).2 w) := by
  rcases hd : rdNum l e with ⟨u, l', e'⟩
  by_cases he : e' = 0
  · subst he
    by_cases hu : (u : Int) ≤ max most 0
    · by_cases hl : u ≤ l'.length
      · have k := text_okD D g l e most w h hd hu hl hm1 hm2
        have e : rdText l e most = (l'.take u, l'.drop u, 0) := by simp only [rdText, hd, if_pos, hu, hl]
        rw [e]; exact k
      · have k := text_shortD D g l e most w h hd hu hl hm1 hm2
        have e : rdText l e most = ([], [], 10) := by simp only [rdText, hd, if_pos, hu]; rw [if_neg hl]
        rw [e]; exact k
    · have k := text_longD D g l e most w h hd hu hm1 hm2
      have e : rdText l e most = ([], [], 13) := by simp only [rdText, hd, if_pos]; rw [if_neg hu]
      rw [e]; exact k
  · have k := text_errD D g l e most w h hd he
    have e : rdText l e most = ([], l', e') := by simp only [rdText, hd]; rw [if_neg he]
    rw [e]; exact k
/-! Open: the reader's bytes are new. -/
theorem Owns.liesD {w : World} {base : Nat} {v : Value} {l : List UInt8} (h : Owns w base v l) : LiesD w (fun k => base ≤ k ∧ k < w.heap.size) v l := by
  obtain ⟨_, h2 | ⟨g, cap, cur, rfl, hg, hh, hn, _, _, hx⟩⟩ := h
  · exact .inl ⟨h2.1, List.eq_nil_of_length_eq_zero h2.2⟩
  · refine .inr ⟨g, 0, cap, rfl, hn, ⟨hg, heap_lt hh⟩, fun i hi => ?_⟩
    rw [heap_cell hh]
    have e := bc_get l i hi
    rw [← hx, List.getElem?_take, if_pos (by omega)] at e
    simpa using e
/-- What a call of Clone ends in: new bytes. -/
def ClonedD (l : List UInt8) (w : World) (x : Ending) (w' : World) : Prop := ∃ v, x = .returned v ∧ LiesD w' (fun k => w.heap.size ≤ k ∧ k < w'.heap.size) v l ∧ Below w.heap.size w w'
set_option maxRecDepth 100000 in
theorem cloneD_any (v : Value) (l : List UInt8) (w : World) (h : Lies w w.heap.size v l) (hf : Fits l.length) : Calls Tryd.prog 59 #[v] w (ClonedD l w) := by
  rcases h with ⟨rfl, rfl⟩ | ⟨b, off, c, rfl, hlc, hb, hcs⟩
  · have hq := Go.run_eql_slice_nil (P := Tryd.prog) w 30 5 none 0 0 Tryd.underlying30
    go_enter Tryd.func59, Tryd.ntmps59
    go_wp2
    go_ret
    exact ⟨_, rfl, .inl ⟨rfl, rfl⟩, Below.refl _ _⟩
  · have HF := Lib.hid hf
    have HC := Lib.hid hcs
    clear hf hcs
    have hq := Go.run_eql_slice_nil (P := Tryd.prog) w 30 5 (some ⟨b, off, none⟩) l.length c Tryd.underlying30
    go_enter Tryd.func59, Tryd.ntmps59
    go_wp2_with (at_builtin; refine wp_app rfl (.tmp 5) (.tmp 6) rfl w.heap.size _ [] l c ⟨b, off, none⟩ rfl (owns_empty w _ (Nat.le_refl _)) rfl (fun j hj => by rw [Addr.add_lit, World.cell?_alloc_lt _ _ _ hb]; exact HC.out j hj) (HF.out.le (by simp)) (by simp) ?_; intro v1 w1 ho1 hb1)
    go_ret
    exact ⟨_, rfl, ho1.liesD, ((Below.refl _ _).alloc (Nat.le_refl _) _).trans hb1⟩
theorem cloneD_empty (ad : Addr) (c : Nat) (w : World) : Calls Tryd.prog 59 #[.slice (some ad) 0 c] w (ClonedD [] w) := by
  have hq := Go.run_eql_slice_nil (P := Tryd.prog) w 30 5 (some ad) 0 c Tryd.underlying30
  go_enter Tryd.func59, Tryd.ntmps59
  go_wp2_with (at_builtin; refine wp_app rfl (.tmp 5) (.tmp 6) rfl w.heap.size _ [] [] c ad rfl (owns_empty w _ (Nat.le_refl _)) rfl (fun j hj => absurd hj (by simp)) (Fits.of (by simp)) (by simp) ?_; intro v1 w1 ho1 hb1)
  go_ret
  exact ⟨_, rfl, ho1.liesD, ((Below.refl _ _).alloc (Nat.le_refl _) _).trans hb1⟩
theorem cloneD_arg (A : Option Addr) (c : Nat) (l : List UInt8) (w : World) (hr : Row w w.heap.size A (bc l)) (hA : A = none → c = 0) (hl : l.length ≤ c) (hf : Fits l.length) :
    Calls Tryd.prog 59 #[.slice A l.length c] w (ClonedD l w) := by
  cases l with
  | nil =>
    cases A with
    | none => obtain rfl := hA rfl; exact cloneD_any _ [] w (.inl ⟨rfl, rfl⟩) hf
    | some ad => exact cloneD_empty ad c w
  | cons x l =>
    obtain ⟨b, off, rfl, hb, hc⟩ := hr (by simp [bc])
    exact cloneD_any _ (x :: l) w (.inr ⟨b, off, c, rfl, hl, hb, fun i hi => hc i _ (bc_get (x :: l) i hi)⟩) hf
/-- What a call of Open ends in: a new reader of new bytes. -/
def OpenedD (l : List UInt8) (w : World) (x : Ending) (w' : World) : Prop := ∃ g, x = .returned (.pointer (some ⟨g, 0, none⟩)) ∧ w.heap.size ≤ g ∧ RdrD w' (fun k => w.heap.size ≤ k) g l 0 ∧ Below w.heap.size w w'
/-- Open of any slice of bytes that came in. -/
theorem openD_arg (A : Option Addr) (c : Nat) (l : List UInt8) (w : World) (hr : Row w w.heap.size A (bc l)) (hA : A = none → c = 0) (hl : l.length ≤ c) (hf : Fits l.length) :
    Calls Tryd.prog 33 #[.slice A l.length c] w (OpenedD l w) := by
  have HC := Lib.hid (cloneD_arg A c l w hr hA hl hf)
  have HF := Lib.hid hf
  clear hr hA hl hf
  go_enter Tryd.func33, Tryd.ntmps33
  go_wp2_with (go_at_call 59; refine HC.out.mono ?_; rintro e w1 ⟨v1, rfl, hl1, hb1⟩; have HL1 := Lib.hid hl1; have HB1 := Lib.hid hb1; clear hb1; rcases hl1 with ⟨rfl, _⟩ | ⟨b1, off1, c1, rfl, hlc1, hb1, hcs1⟩)
  all_goals
   go_ret
   have hs := HB1.out.size
   refine ⟨_, rfl, hs, ⟨_, heap_alloc_new _ _, (HL1.out.keep fun k hk => Below.heap_alloc _ _ k hk.2).mono fun k hk => hk, by have := HF.out; unfold Fits at this; omega⟩, HB1.out.alloc hs _⟩
end Go.Proofs.YthnkiabhfcddaaaDoor
