/-
  Texts of the proofs, put together: IntMath, Reader.
-/
import Derived.Test.YthnkiabhfcddaaaDoorProg
import Derived.WalkKit
import Derived.Laws.BitsAllLaws
import Derived.Lib.BitFns
import Derived.Test.YthnkiabhfcddaaaDoorPackB
import Derived.Test.YthnkiabhfcddaaaDoorPackC
import Derived.Laws.BytesArg
import Derived.Maps.AppendAt
/-
  Plain mathematics: numbers with a sign as those without.
-/
namespace Go.Proofs.YthnkiabhfcddaaaDoor
open Go.RowKit
set_option linter.unusedVariables false
/-- A number with a sign as one without. -/
def sgn (n : Int) : Int := if n < 0 then -2 * n - 1 else 2 * n
/-- And back. -/
def pln (u : Int) : Int := if u % 2 = 0 then u / 2 else -(u / 2) - 1

theorem or_one (x : Int) (h0 : 0 ≤ x) (h1 : x ≤ 9223372036854775807) : bits .or .u64 (x * 2) 1 = x * 2 + 1 := by
  have h := u64_or (x * 2) 1 (by omega) (by omega) (by omega) (by omega)
  rw [h]
  have e : (x * 2).toNat ||| (1 : Int).toNat = (x * 2).toNat + 1 := by
    refine nat_join 1 _ _ ?_ (by decide)
    omega
  rw [e]
  omega

theorem and_one (x : Int) (h0 : 0 ≤ x) (h1 : x ≤ 18446744073709551615) : bits .and .u64 x 1 = x % 2 := by
  have h := u64_and x 1 (by omega) (by omega) (by omega) (by omega)
  rw [h]
  have e : x.toNat &&& (1 : Int).toNat = x.toNat % 2 := nat_mask1 _
  rw [e]
  omega

theorem ret_int {k : IntKind} {a b : Int} (h : a = b) : Ending.returned (.int k a) = .returned (.int k b) := by rw [h]

theorem sgn_range (n : Int) (h1 : -9223372036854775808 ≤ n) (h2 : n ≤ 9223372036854775807) : 0 ≤ sgn n ∧ sgn n ≤ 18446744073709551615 := by
  unfold sgn; omega
theorem pln_range (u : Int) (h1 : 0 ≤ u) (h2 : u ≤ 18446744073709551615) : -9223372036854775808 ≤ pln u ∧ pln u ≤ 9223372036854775807 := by
  unfold pln; omega
theorem pln_sgn (n : Int) : pln (sgn n) = n := by unfold pln sgn; omega
theorem sgn_pln (u : Int) (h : 0 ≤ u) : sgn (pln u) = u := by unfold pln sgn; omega
end Go.Proofs.YthnkiabhfcddaaaDoor
/-
  Contracts of octet.Reader's methods: what is read of any bytes, what is left, and the error.
-/
namespace Go.Proofs.YthnkiabhfcddaaaDoor
open Go.RowKit

/-- Block g holds a reader of the bytes l whose first error is e. -/
def Rdr (w : World) (g : Nat) (l : List UInt8) (e : Int) : Prop :=
  ∃ v, w.heap[g]? = some (.cells #[v, .int .i64 e] 114 (0, 0)) ∧ Lies w g v l ∧ l.length ≤ 1152921504606846976

section
variable {w w' : World} {g : Nat} {v : Value} {l : List UInt8} {e : Int} {t : TypeId} {cs : Array Value}
theorem turn_set (h : w.grownBy w' (some g)) (i : Nat) (u : Value) : w.grownBy (w'.setCell ⟨g, i, none⟩ u) (some g) :=
  ⟨h.os, h.tape, h.output, by simpa [World.setCell] using h.size, fun k hk hne => (heap_far k i u (by rintro rfl; exact hne rfl)).trans (h.block k hk hne)⟩
end

theorem err_nil (w : World) : Calls Tryd.prog 60 #[.pointer none] w fun e w' => e = .returned (.int .i64 10) ∧ w = w' := by
  go_enter Tryd.func60, Tryd.ntmps60
  go_wp2
  go_ret
  exact ⟨rfl, rfl⟩
theorem err_any (g : Nat) (v : Value) (e : Int) (w : World) (h : w.heap[g]? = some (.cells #[v, .int .i64 e] 114 (0, 0))) :
    Calls Tryd.prog 60 #[.pointer (some ⟨g, 0, none⟩)] w fun x w' => x = .returned (.int .i64 e) ∧ w = w' := by
  have h1 : w.cell? ⟨g, 1, none⟩ = some (.int .i64 e) := heap_cell h 1
  clear h
  go_enter Tryd.func60, Tryd.ntmps60
  go_wp2
  go_ret
  exact ⟨rfl, rfl⟩
theorem left_nil (w : World) : Calls Tryd.prog 63 #[.pointer none] w fun e w' => e = .returned (.int .i64 0) ∧ w = w' := by
  go_enter Tryd.func63, Tryd.ntmps63
  go_wp2
  go_ret
  exact ⟨rfl, rfl⟩
theorem left_any (g : Nat) (l : List UInt8) (e : Int) (w : World) (h : Rdr w g l e) :
    Calls Tryd.prog 63 #[.pointer (some ⟨g, 0, none⟩)] w fun x w' => x = .returned (.int .i64 (l.length : Nat)) ∧ w = w' := by
  obtain ⟨v, h, hl, _⟩ := h
  have h1 : w.cell? ⟨g, 0, none⟩ = some v := heap_cell h 0
  clear h
  rcases hl with ⟨rfl, rfl⟩ | ⟨b, off, c, rfl, hc, _, _⟩
  · go_enter Tryd.func63, Tryd.ntmps63
    go_wp2
    go_ret
    exact ⟨rfl, rfl⟩
  · go_enter Tryd.func63, Tryd.ntmps63
    go_wp2
    go_ret
    exact ⟨rfl, rfl⟩
theorem fail_any (g : Nat) (v : Value) (e e' : Int) (w : World) (h : w.heap[g]? = some (.cells #[v, .int .i64 e] 114 (0, 0))) :
    Calls Tryd.prog 61 #[.pointer (some ⟨g, 0, none⟩), .int .i64 e'] w fun x w' => x = .returned (.tuple #[]) ∧ Rdr w' g [] e' ∧ w.grownBy w' (some g) := by
  have h1 : w.cell? ⟨g, 0, none⟩ = some v := heap_cell h 0
  have h2 : w.cell? ⟨g, 1, none⟩ = some (.int .i64 e) := heap_cell h 1
  have f1 := heap_frozen h 0
  have f2 := heap_frozen h 1
  have H := Lib.hid h
  clear h
  go_enter Tryd.func61, Tryd.ntmps61
  go_wp2
  go_end0
  refine ⟨rfl, ⟨_, heap_set (heap_set H.out 0 (.slice none 0 0)) 1 (.int .i64 e'), .inl ⟨rfl, rfl⟩, by simp⟩, turn_set (turn_set (World.grownBy.refl _ _) 0 _) 1 _⟩

theorem end_nil (w : World) : Calls Tryd.prog 37 #[.pointer none] w fun e w' => e = .returned (.int .i64 10) ∧ w = w' := by
  go_enter Tryd.func37, Tryd.ntmps37
  go_wp2_with (go_at_call 60; refine (err_nil _).mono ?_; rintro e w' ⟨rfl, rfl⟩)
  go_ret
  exact ⟨rfl, rfl⟩
/-- The first error; else whether bytes are left. -/
def rdEnd (l : List UInt8) (e : Int) : Int := if e = 0 then (if l = [] then 0 else 12) else e
theorem end_any (g : Nat) (l : List UInt8) (e : Int) (w : World) (h : Rdr w g l e) :
    Calls Tryd.prog 37 #[.pointer (some ⟨g, 0, none⟩)] w fun x w' => x = .returned (.int .i64 (rdEnd l e)) ∧ w = w' := by
  have HR := Lib.hid h
  obtain ⟨v, h, _, _⟩ := h
  have HH := Lib.hid h
  clear h
  by_cases he : e = 0
  · subst he
    rcases l with _ | ⟨c, r⟩
    · go_enter Tryd.func37, Tryd.ntmps37
      go_wp2_with (first
        | (go_at_call 60; refine (err_any g _ _ _ HH.out).mono ?_; rintro e w' ⟨rfl, rfl⟩)
        | (go_at_call 63; refine (left_any g _ _ _ HR.out).mono ?_; rintro e w' ⟨rfl, rfl⟩))
      go_ret
      exact ⟨rfl, rfl⟩
    · have hp : 0 < (c :: r).length := by simp
      go_enter Tryd.func37, Tryd.ntmps37
      go_wp2_with (first
        | (go_at_call 60; refine (err_any g _ _ _ HH.out).mono ?_; rintro e w' ⟨rfl, rfl⟩)
        | (go_at_call 63; refine (left_any g _ _ _ HR.out).mono ?_; rintro e w' ⟨rfl, rfl⟩))
      go_ret
      exact ⟨by simp [rdEnd], rfl⟩
  · have h1 : (e != 0) = true := by simp [he]
    have HE : Hid (¬ e = 0) := Lib.hid he
    clear he
    go_enter Tryd.func37, Tryd.ntmps37
    go_wp2_with (go_at_call 60; refine (err_any g _ _ _ HH.out).mono ?_; rintro e w' ⟨rfl, rfl⟩)
    go_ret
    exact ⟨by rw [rdEnd, if_neg HE.out]; rfl, rfl⟩

/-- A reader's answer to 'the next number': it, what is left, and the first error. -/
def rdNum (l : List UInt8) (e : Int) : Nat × List UInt8 × Int :=
  if e = 0 then (if (tk l).2.2 = 0 then ((tk l).1, l.drop (tk l).2.1, 0) else (0, [], (tk l).2.2)) else (0, l, e)

/-- What a call that reads ends in. -/
def Did (g : Nat) (r : Value) (s : List UInt8 × Int) (w : World) (x : Ending) (w' : World) : Prop := x = .returned r ∧ Rdr w' g s.1 s.2 ∧ w.grownBy w' (some g)

theorem take_at (l : List UInt8) (A : Option Addr) (cap B : Nat) (w : World) (hr : Row w B A (bc l)) (hcap : l.length ≤ cap) (hm : l.length ≤ 1152921504606846976) {u n : Nat} {er : Int} (ht : tk l = (u, n, er)) :
    Calls Tryd.prog 62 #[.slice A l.length cap] w fun e w' => e = .returned (.tuple #[.int .u64 u, .int .i64 n, .int .i64 er]) ∧ w = w' := by
  have h := take_any l A cap B w hr hcap hm
  unfold Took at h
  rw [ht] at h
  exact h

theorem num_err (g : Nat) (l : List UInt8) (e : Int) (w : World) (h : Rdr w g l e) (he : ¬ e = 0) :
    Calls Tryd.prog 36 #[.pointer (some ⟨g, 0, none⟩)] w (Did g (.int .u64 0) (l, e) w) := by
  have HR := Lib.hid h
  obtain ⟨v, h, _, _⟩ := h
  have HH := Lib.hid h
  clear h
  have h1 : (e != 0) = true := by simp [he]
  clear he
  go_enter Tryd.func36, Tryd.ntmps36
  go_wp2_with (go_at_call 60; refine (err_any g _ _ _ HH.out).mono ?_; rintro e w' ⟨rfl, rfl⟩)
  go_ret
  exact ⟨rfl, HR.out, World.grownBy.refl _ _⟩

set_option maxRecDepth 100000 in
set_option maxHeartbeats 1000000 in
theorem num_bad (g : Nat) (l : List UInt8) (w : World) (h : Rdr w g l 0) (er : Int) (ht : tk l = (0, 0, er)) (he : ¬ er = 0) :
    Calls Tryd.prog 36 #[.pointer (some ⟨g, 0, none⟩)] w (Did g (.int .u64 0) ([], er) w) := by
  obtain ⟨v, h, hl, hm⟩ := h
  have h0 : w.cell? ⟨g, 0, none⟩ = some v := heap_cell h 0
  have HH := Lib.hid h
  have HT := Lib.hid ht
  have HM := Lib.hid hm
  clear h ht hm
  have h1 : (er != 0) = true := by simp [he]
  clear he
  rcases hl with ⟨rfl, rfl⟩ | ⟨b, off, c, rfl, hlc, hb, hcs⟩
  · have HW : Hid (Row w g none (bc [])) := fun hne => absurd rfl hne
    go_enter Tryd.func36, Tryd.ntmps36
    go_wp2_with (first
      | (go_at_call 60; refine (err_any g _ _ _ HH.out).mono ?_; rintro e w' ⟨rfl, rfl⟩)
      | (go_at_call 62; refine (take_at [] none 0 g _ HW.out (Nat.le_refl _) HM.out HT.out).mono ?_; rintro e w' ⟨rfl, rfl⟩)
      | (go_at_call 61; refine (fail_any g _ _ _ _ HH.out).mono ?_; rintro e w' ⟨rfl, hr1, hg1⟩))
    go_ret
    exact ⟨rfl, hr1, hg1⟩
  · have HW : Hid (Row w g (some ⟨b, off, none⟩) (bc l)) := fun _ => ⟨b, off, rfl, hb, fun i u hu => by
      have hi : i < l.length := by
        have := (List.getElem?_eq_some_iff.1 hu).1
        simpa [bc] using this
      rw [bc_get l i hi] at hu
      rw [← hu]
      exact hcs i hi⟩
    clear hcs hb
    go_enter Tryd.func36, Tryd.ntmps36
    go_wp2_with (first
      | (go_at_call 60; refine (err_any g _ _ _ HH.out).mono ?_; rintro e w' ⟨rfl, rfl⟩)
      | (go_at_call 62; refine (take_at l _ c g _ HW.out hlc HM.out HT.out).mono ?_; rintro e w' ⟨rfl, rfl⟩)
      | (go_at_call 61; refine (fail_any g _ _ _ _ HH.out).mono ?_; rintro e w' ⟨rfl, hr1, hg1⟩))
    go_ret
    exact ⟨rfl, hr1, hg1⟩


/-- What is left behind the first n bytes, as a slice: Go keeps the old address where nothing of the room is left. -/
theorem rdr_cut {w : World} {g b off c n : Nat} {l : List UInt8} (h : w.heap[g]? = some (.cells #[.slice (some ⟨b, off, none⟩) l.length c, .int .i64 0] 114 (0, 0))) (hlc : l.length ≤ c) (hb : b < g)
    (hcs : ∀ i (h : i < l.length), w.cell? ⟨b, off + i, none⟩ = some (.int .u8 (l[i].toNat : Int))) (hn : n ≤ l.length) (hm : l.length ≤ 1152921504606846976) (off' : Nat) (hoff : off' = off + n ∨ c = n) :
    Rdr (w.setCell ⟨g, 0, none⟩ (.slice (some ⟨b, off', none⟩) (l.length - n) (c - n))) g (l.drop n) 0 := by
  refine ⟨_, heap_set h 0 _, .inr ⟨b, off', c - n, by rw [List.length_drop], by rw [List.length_drop]; omega, hb, fun i hi => ?_⟩, by rw [List.length_drop]; omega⟩
  rw [List.length_drop] at hi
  have e : off' = off + n := by omega
  subst e
  rw [World.cell?_of_block (w := w) (heap_far b 0 _ (by omega))]
  have := hcs (n + i) (by omega)
  rw [show off + n + i = off + (n + i) by omega, this]
  simp

set_option maxRecDepth 100000 in
set_option maxHeartbeats 1000000 in
theorem num_ok (g : Nat) (l : List UInt8) (w : World) (h : Rdr w g l 0) (u n : Nat) (ht : tk l = (u, n, 0)) :
    Calls Tryd.prog 36 #[.pointer (some ⟨g, 0, none⟩)] w (Did g (.int .u64 u) (l.drop n, 0) w) := by
  obtain ⟨v, h, hl, hm⟩ := h
  have h0 : w.cell? ⟨g, 0, none⟩ = some v := heap_cell h 0
  have f0 := heap_frozen h 0
  have hnl : n ≤ l.length := by have := (tk_range l).2.1; rw [ht] at this; exact this
  have HH := Lib.hid h
  have HT := Lib.hid ht
  have HM := Lib.hid hm
  clear h ht hm
  rcases hl with ⟨rfl, rfl⟩ | ⟨b, off, c, rfl, hlc, hb, hcs⟩
  · have := HT.out
    simp [tk] at this
  · have HW := Lib.hid (Lies.row hb hcs)
    have HC := Lib.hid hcs
    have HB := Lib.hid hb
    clear hcs hb
    have HL : Hid (l.length ≤ 1152921504606846976) := HM
    by_cases hcn : c = n
    · subst hcn
      go_enter Tryd.func36, Tryd.ntmps36
      go_wp2_with (first
        | (go_at_call 60; refine (err_any g _ _ _ HH.out).mono ?_; rintro e w' ⟨rfl, rfl⟩)
        | (go_at_call 62; refine (take_at l _ c g _ HW.out hlc HM.out HT.out).mono ?_; rintro e w' ⟨rfl, rfl⟩))
      go_ret
      have k := rdr_cut HH.out hlc HB.out HC.out hnl HM.out off (.inr rfl)
      rw [show l.length - c = 0 by omega, Nat.sub_self] at k
      exact ⟨rfl, k, turn_set (World.grownBy.refl _ _) 0 _⟩
    · go_enter Tryd.func36, Tryd.ntmps36
      go_wp2_with (first
        | (go_at_call 60; refine (err_any g _ _ _ HH.out).mono ?_; rintro e w' ⟨rfl, rfl⟩)
        | (go_at_call 62; refine (take_at l _ c g _ HW.out hlc HM.out HT.out).mono ?_; rintro e w' ⟨rfl, rfl⟩))
      go_ret
      exact ⟨rfl, rdr_cut HH.out hlc HB.out HC.out hnl HM.out (off + n) (.inl rfl), turn_set (World.grownBy.refl _ _) 0 _⟩

/-- Num of any reader. -/
theorem num_any (g : Nat) (l : List UInt8) (e : Int) (w : World) (h : Rdr w g l e) :
    Calls Tryd.prog 36 #[.pointer (some ⟨g, 0, none⟩)] w (Did g (.int .u64 (rdNum l e).1) (rdNum l e).2 w) := by
  by_cases he : e = 0
  · subst he
    have hr := tk_range l
    rcases ht : tk l with ⟨u, n, er⟩
    rw [ht] at hr
    by_cases h0 : er = 0
    · subst h0
      have := num_ok g l w h u n ht
      simpa [rdNum, ht] using this
    · obtain ⟨rfl, rfl⟩ := hr.2.2.2 h0
      have := num_bad g l w h er ht h0
      simpa [rdNum, ht, h0] using this
  · have := num_err g l e w h he
    simpa [rdNum, he] using this
theorem num_nil (w : World) : Calls Tryd.prog 36 #[.pointer none] w fun e w' => e = .returned (.int .u64 0) ∧ w = w' := by
  go_enter Tryd.func36, Tryd.ntmps36
  go_wp2_with (go_at_call 60; refine (err_nil _).mono ?_; rintro e w' ⟨rfl, rfl⟩)
  go_ret
  exact ⟨rfl, rfl⟩
theorem num_at (g : Nat) (l : List UInt8) (e : Int) (w : World) (h : Rdr w g l e) {u : Nat} {l' : List UInt8} {e' : Int} (hd : rdNum l e = (u, l', e')) :
    Calls Tryd.prog 36 #[.pointer (some ⟨g, 0, none⟩)] w (Did g (.int .u64 u) (l', e') w) := by
  have k := num_any g l e w h
  rw [hd] at k
  exact k
theorem rdNum_lt (l : List UInt8) (e : Int) : (rdNum l e).1 ≤ 18446744073709551615 := by
  have h := (tk_range l).1
  have e8 : (256 : Nat) ^ 8 = 18446744073709551616 := by decide
  unfold rdNum
  split
  · split
    · dsimp only; omega
    · exact Nat.zero_le _
  · exact Nat.zero_le _

/-- A reader's answer to 'the next moment'. -/
def rdMoment (l : List UInt8) (e : Int) : Int × List UInt8 × Int :=
  if (rdNum l e).1 ≤ 9223372036854775807 then ((rdNum l e).1, (rdNum l e).2) else (0, [], 13)
/-- A reader's answer to 'the next text, of so many bytes at most'. -/
def rdText (l : List UInt8) (e most : Int) : List UInt8 × List UInt8 × Int :=
  if (rdNum l e).2.2 = 0 then
    if ((rdNum l e).1 : Int) ≤ max most 0 then
      if (rdNum l e).1 ≤ (rdNum l e).2.1.length then ((rdNum l e).2.1.take (rdNum l e).1, (rdNum l e).2.1.drop (rdNum l e).1, 0)
      else ([], [], 10)
    else ([], [], 13)
  else ([], (rdNum l e).2)

set_option maxRecDepth 100000 in
set_option maxHeartbeats 1000000 in
theorem text_err (g : Nat) (l : List UInt8) (e most : Int) (w : World) (h : Rdr w g l e) {u : Nat} {l' : List UInt8} {e' : Int} (hd : rdNum l e = (u, l', e')) (he : ¬ e' = 0) :
    Calls Tryd.prog 34 #[.pointer (some ⟨g, 0, none⟩), .int .i64 most] w (Did g (.string (mkB [])) (l', e') w) := by
  have HR := Lib.hid h
  have HD := Lib.hid hd
  have h1 : (e' != 0) = true := by simp [he]
  clear h hd he
  go_enter Tryd.func34, Tryd.ntmps34
  go_wp2_with (first
    | (go_at_call 36; refine (num_at g _ _ _ HR.out HD.out).mono ?_; rintro e w' ⟨rfl, hr1, hg1⟩; have HR1 := Lib.hid hr1; obtain ⟨v1, hh1, hl1, hm1⟩ := hr1; have HH1 := Lib.hid hh1; clear hh1 hl1 hm1)
    | (go_at_call 60; refine (err_any g _ _ _ HH1.out).mono ?_; rintro e w' ⟨rfl, rfl⟩))
  go_ret
  exact ⟨rfl, HR1.out, hg1⟩

set_option maxRecDepth 100000 in
set_option maxHeartbeats 1000000 in
theorem text_long (g : Nat) (l : List UInt8) (e most : Int) (w : World) (h : Rdr w g l e) {u : Nat} {l' : List UInt8} (hd : rdNum l e = (u, l', 0)) (hu : ¬ (u : Int) ≤ max most 0) (hm1 : -9223372036854775808 ≤ most) (hm2 : most ≤ 9223372036854775807) :
    Calls Tryd.prog 34 #[.pointer (some ⟨g, 0, none⟩), .int .i64 most] w (Did g (.string (mkB [])) ([], 13) w) := by
  have HR := Lib.hid h
  have HD := Lib.hid hd
  clear h hd
  by_cases hp : 0 ≤ most
  · rw [Int.max_eq_left hp] at hu
    go_enter Tryd.func34, Tryd.ntmps34
    go_wp2_with (first
      | (go_at_call 36; refine (num_at g _ _ _ HR.out HD.out).mono ?_; rintro e w' ⟨rfl, hr1, hg1⟩; have HR1 := Lib.hid hr1; obtain ⟨v1, hh1, hl1, hm1⟩ := hr1; have HH1 := Lib.hid hh1; clear hh1 hl1 hm1)
      | (go_at_call 60; refine (err_any g _ _ _ HH1.out).mono ?_; rintro e w' ⟨rfl, rfl⟩)
      | (go_at_call 61; refine (fail_any g _ _ _ _ HH1.out).mono ?_; rintro e w' ⟨rfl, hr2, hg2⟩))
    go_ret
    exact ⟨rfl, hr2, hg1.trans hg2⟩
  · rw [Int.max_eq_right (by omega)] at hu
    go_enter Tryd.func34, Tryd.ntmps34
    go_wp2_with (first
      | (go_at_call 36; refine (num_at g _ _ _ HR.out HD.out).mono ?_; rintro e w' ⟨rfl, hr1, hg1⟩; have HR1 := Lib.hid hr1; obtain ⟨v1, hh1, hl1, hm1⟩ := hr1; have HH1 := Lib.hid hh1; clear hh1 hl1 hm1)
      | (go_at_call 60; refine (err_any g _ _ _ HH1.out).mono ?_; rintro e w' ⟨rfl, rfl⟩)
      | (go_at_call 61; refine (fail_any g _ _ _ _ HH1.out).mono ?_; rintro e w' ⟨rfl, hr2, hg2⟩))
    go_ret
    exact ⟨rfl, hr2, hg1.trans hg2⟩

set_option maxRecDepth 100000 in
set_option maxHeartbeats 1000000 in
theorem text_short (g : Nat) (l : List UInt8) (e most : Int) (w : World) (h : Rdr w g l e) {u : Nat} {l' : List UInt8} (hd : rdNum l e = (u, l', 0)) (hu : (u : Int) ≤ max most 0) (hl : ¬ u ≤ l'.length) (hm1 : -9223372036854775808 ≤ most) (hm2 : most ≤ 9223372036854775807) :
    Calls Tryd.prog 34 #[.pointer (some ⟨g, 0, none⟩), .int .i64 most] w (Did g (.string (mkB [])) ([], 10) w) := by
  have HR := Lib.hid h
  have HD := Lib.hid hd
  clear h hd
  have hp : 0 ≤ most := by omega
  rw [Int.max_eq_left hp] at hu
  go_enter Tryd.func34, Tryd.ntmps34
  go_wp2_with (first
    | (go_at_call 36; refine (num_at g _ _ _ HR.out HD.out).mono ?_; rintro e w' ⟨rfl, hr1, hg1⟩; obtain ⟨v1, hh1, hl1, hm1⟩ := hr1; have HH1 := Lib.hid hh1; have hc1 := heap_cell hh1 0; clear hh1; rcases hl1 with ⟨rfl, rfl⟩ | ⟨b, off, c, rfl, hlc, hb, hcs⟩)
    | (go_at_call 60; refine (err_any g _ _ _ HH1.out).mono ?_; rintro e w' ⟨rfl, rfl⟩)
    | (go_at_call 61; refine (fail_any g _ _ _ _ HH1.out).mono ?_; rintro e w' ⟨rfl, hr2, hg2⟩))
  all_goals
    go_ret
    exact ⟨rfl, hr2, hg1.trans hg2⟩

set_option maxRecDepth 100000 in
set_option maxHeartbeats 2000000 in
theorem text_ok (g : Nat) (l : List UInt8) (e most : Int) (w : World) (h : Rdr w g l e) {u : Nat} {l' : List UInt8} (hd : rdNum l e = (u, l', 0)) (hu : (u : Int) ≤ max most 0) (hl : u ≤ l'.length) (hm1 : -9223372036854775808 ≤ most) (hm2 : most ≤ 9223372036854775807) :
    Calls Tryd.prog 34 #[.pointer (some ⟨g, 0, none⟩), .int .i64 most] w (Did g (.string (mkB (l'.take u))) (l'.drop u, 0) w) := by
  have HR := Lib.hid h
  have HD := Lib.hid hd
  clear h hd
  by_cases hp : 0 ≤ most
  all_goals
    first
    | rw [Int.max_eq_left hp] at hu
    | rw [Int.max_eq_right (by omega)] at hu
    go_enter Tryd.func34, Tryd.ntmps34
    go_wp2_with (first
      | (go_at_call 36; refine (num_at g _ _ _ HR.out HD.out).mono ?_; rintro e w1 ⟨rfl, hr1, hg1⟩; obtain ⟨v1, hh1, hl1, hm3⟩ := hr1; have HH1 := Lib.hid hh1; have hc1 := heap_cell hh1 0; have hf1 := heap_frozen hh1 0; clear hh1
         rcases hl1 with ⟨rfl, rfl⟩ | ⟨b, off, c, rfl, hlc, hb, hcs⟩
         all_goals first
           | (revert hcs; intro hcs
              have hcv := run_str (cap := c) u hl hcs
              have HC := Lib.hid hcs
              clear hcs
              by_cases hcn : c = u
              all_goals first | subst hcn | skip)
           | (obtain rfl : u = 0 := Nat.le_zero.1 hl
              have hcv := run_str_nil w1 0 0))
      | (go_at_call 60; refine (err_any g _ _ _ HH1.out).mono ?_; rintro e w' ⟨rfl, rfl⟩))
    · go_ret
      exact ⟨rfl, ⟨_, heap_set HH1.out 0 _, .inl ⟨rfl, rfl⟩, by simp⟩, hg1.trans (turn_set (World.grownBy.refl _ _) 0 _)⟩
    · go_ret
      have k := rdr_cut HH1.out hlc hb HC.out hl hm3 off (.inr rfl)
      rw [show l'.length - c = 0 by omega, Nat.sub_self] at k
      exact ⟨rfl, k, hg1.trans (turn_set (World.grownBy.refl _ _) 0 _)⟩
    · go_ret
      exact ⟨rfl, rdr_cut HH1.out hlc hb HC.out hl hm3 (off + u) (.inl rfl), hg1.trans (turn_set (World.grownBy.refl _ _) 0 _)⟩
end Go.Proofs.YthnkiabhfcddaaaDoor
