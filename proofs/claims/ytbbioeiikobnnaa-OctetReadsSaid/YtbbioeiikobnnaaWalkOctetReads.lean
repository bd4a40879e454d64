/-
  The walk of the law OctetReads.
-/
import Derived.Test.YtbbioeiikobnnaaAwake
import Derived.Test.YtbbioeiikobnnaaRefRead
import Derived.Test.YtbbioeiikobnnaaWalkOctetBack
namespace Go.Proofs.Ytbbioeiikobnnaa
open Go.RowKit
set_option linter.unusedVariables false

/-- The law's middle: block g holds a reader, block h the reference's, both of the bytes l with first error e. -/
def Both (W : World) (g h : Nat) (l : List UInt8) (e : Int) (w : World) : Prop :=
  Rdr w g l e ∧ w.heap[h]? = some (.cells #[.string (mkB l), .int .i64 e] 43 (0, 0)) ∧ Below W.heap.size W w ∧ W.heap.size ≤ g ∧ g < h ∧ l.length ≤ 600

theorem rdMoment_len (l : List UInt8) (e : Int) : (rdMoment l e).2.1.length ≤ l.length := by
  unfold rdMoment
  split
  · exact rdNum_len l e
  · exact Nat.zero_le _
theorem rdText_len (l : List UInt8) (e most : Int) : (rdText l e most).2.1.length ≤ l.length := by
  have h := rdNum_len l e
  unfold rdText
  split
  · split
    · split
      · dsimp only; rw [List.length_drop]; omega
      · exact Nat.zero_le _
    · exact Nat.zero_le _
  · exact h

/-- Between the two calls of a round: the reader has gone on, the reference not yet. -/
def Half (W : World) (g h : Nat) (l l' : List UInt8) (e e' : Int) (w : World) : Prop :=
  Rdr w g l' e' ∧ w.heap[h]? = some (.cells #[.string (mkB l), .int .i64 e] 43 (0, 0)) ∧ Below W.heap.size W w ∧ W.heap.size ≤ g ∧ g < h ∧ l.length ≤ 600
theorem Both.half {W w w' : World} {g h : Nat} {l l' : List UInt8} {e e' : Int} {r : Value} {x : Ending} (hb : Both W g h l e w) (hd : Did g r (l', e') w x w') : Half W g h l l' e e' w' := by
  obtain ⟨h1, h2, h3, h4, h5, h6⟩ := hb
  refine ⟨hd.2.1, ?_, hd.below h3 (Nat.le_refl _) h4, h4, h5, h6⟩
  rw [hd.2.2.block h (heap_lt h2) (by intro e; cases e; omega)]
  exact h2
theorem Half.keep {W w w' : World} {g h : Nat} {l l' : List UInt8} {e e' : Int} (hh : Half W g h l l' e e' w) (hb : Below w.heap.size w w') : Half W g h l l' e e' w' := by
  obtain ⟨h1, h2, h3, h4, h5, h6⟩ := hh
  exact ⟨h1.keep h1.lt hb, (hb.block h (heap_lt h2)).trans h2, h3.trans (hb.mono h3.size), h4, h5, h6⟩
theorem Half.cells {W w : World} {g h : Nat} {l l' : List UInt8} {e e' : Int} (hh : Half W g h l l' e e' w) :
    w.cell? ⟨h, 0, none⟩ = some (.string (mkB l)) ∧ w.cell? ⟨h, 1, none⟩ = some (.int .i64 e) ∧ w.frozen? ⟨h, 0, none⟩ = false ∧ w.frozen? ⟨h, 1, none⟩ = false ∧ h < w.heap.size :=
  ⟨heap_cell hh.2.1 0, heap_cell hh.2.1 1, heap_frozen hh.2.1 0, heap_frozen hh.2.1 1, heap_lt hh.2.1⟩

section
variable {W w w' : World} {g h : Nat} {l l' : List UInt8} {e e' : Int}
theorem Half.done (hh : Half W g h l l' e e' w) (hl : l'.length ≤ l.length) (o : Obj) :
    Hid (Both W g h l' e' (((w.setCell ⟨h, 0, none⟩ (.string (mkB l'))).setCell ⟨h, 1, none⟩ (.int .i64 e')).alloc o)) := by
  obtain ⟨h1, h2, h3, h4, h5, h6⟩ := hh
  have hlt := heap_lt h2
  have hb : Below h w (((w.setCell ⟨h, 0, none⟩ (.string (mkB l'))).setCell ⟨h, 1, none⟩ (.int .i64 e')).alloc o) :=
    (((Below.refl h w).setCell (p := ⟨h, 0, none⟩) (Nat.le_refl h) _).setCell (p := ⟨h, 1, none⟩) (Nat.le_refl h) _).alloc (by simp [World.setCell]; omega) _
  refine ⟨h1.keep h5 hb, ?_, h3.trans (hb.mono (by omega)), h4, h5, by omega⟩
  rw [Below.heap_alloc _ _ _ (by simp [World.setCell]; omega)]
  have h7 := heap_set (heap_set h2 0 (.string (mkB l'))) 1 (.int .i64 e')
  exact h7
theorem Half.done0 (hh : Half W g h l l' e e' w) (hl : l'.length ≤ l.length) :
    Hid (Both W g h l' e' ((w.setCell ⟨h, 0, none⟩ (.string (mkB l'))).setCell ⟨h, 1, none⟩ (.int .i64 e'))) := by
  obtain ⟨h1, h2, h3, h4, h5, h6⟩ := hh
  have hlt := heap_lt h2
  have hb : Below h w ((w.setCell ⟨h, 0, none⟩ (.string (mkB l'))).setCell ⟨h, 1, none⟩ (.int .i64 e')) :=
    ((Below.refl h w).setCell (p := ⟨h, 0, none⟩) (Nat.le_refl h) _).setCell (p := ⟨h, 1, none⟩) (Nat.le_refl h) _
  refine ⟨h1.keep h5 hb, ?_, h3.trans (hb.mono (by omega)), h4, h5, by omega⟩
  have h7 := heap_set (heap_set h2 0 (.string (mkB l'))) 1 (.int .i64 e')
  exact h7
theorem Both.rdr (hb : Hid (Both W g h l e w)) : Rdr w g l e := hb.1
theorem Both.cells (hb : Hid (Both W g h l e w)) : w.cell? ⟨h, 0, none⟩ = some (.string (mkB l)) ∧ w.cell? ⟨h, 1, none⟩ = some (.int .i64 e) ∧ Hid (Both W g h l e w) :=
  ⟨heap_cell hb.2.1 0, heap_cell hb.2.1 1, hb⟩
theorem Both.of_S (hs : w.cell? ⟨h, 0, none⟩ = some (.string (mkB l)) ∧ w.cell? ⟨h, 1, none⟩ = some (.int .i64 e) ∧ Hid (Both W g h l e w)) : Hid (Both W g h l e w) := hs.2.2
theorem Both.drew (hb : Hid (Both W g h l e w)) : Hid (Both W g h l e w.drew) := by
  obtain ⟨⟨v, h0, h1, h1'⟩, h2, h3, h4, h5, h6⟩ := hb
  refine ⟨⟨v, h0, ?_, h1'⟩, h2, h3.drew, h4, h5, h6⟩
  exact h1.keep (fun k _ => rfl)
theorem Both.keep (hb : Hid (Both W g h l e w)) (hw : Below w.heap.size w w') : Hid (Both W g h l e w') := by
  obtain ⟨h1, h2, h3, h4, h5, h6⟩ := hb
  exact ⟨h1.keep h1.lt hw, (hw.block h (heap_lt h2)).trans h2, h3.trans (hw.mono h3.size), h4, h5, h6⟩
theorem Half.S {b i : Nat} {o : Int} (hw : Hid (b < W.heap.size ∧ W.cell? ⟨b, i, none⟩ = some (.int .i8 o))) (hh : Hid (Half W g h l l' e e' w)) :
    w.cell? ⟨h, 0, none⟩ = some (.string (mkB l)) ∧ w.cell? ⟨h, 1, none⟩ = some (.int .i64 e) ∧ w.cell? ⟨b, i, none⟩ = some (.int .i8 o) ∧ Hid (Half W g h l l' e e' w) :=
  ⟨heap_cell hh.2.1 0, heap_cell hh.2.1 1, (hh.2.2.1.cell (p := ⟨b, i, none⟩) hw.1).trans hw.2, hh⟩
theorem Half.of_S {b i : Nat} {o : Int} (hs : w.cell? ⟨h, 0, none⟩ = some (.string (mkB l)) ∧ w.cell? ⟨h, 1, none⟩ = some (.int .i64 e) ∧ w.cell? ⟨b, i, none⟩ = some (.int .i8 o) ∧ Hid (Half W g h l l' e e' w)) : Hid (Half W g h l l' e e' w) := hs.2.2.2
theorem Half.drew (hh : Hid (Half W g h l l' e e' w)) : Hid (Half W g h l l' e e' w.drew) := by
  obtain ⟨⟨v, h0, h1, h1'⟩, h2, h3, h4, h5, h6⟩ := hh
  exact ⟨⟨v, h0, h1.keep (fun k _ => rfl), h1'⟩, h2, h3.drew, h4, h5, h6⟩
theorem Half.alloc (hh : Hid (Half W g h l l' e e' w)) (o : Obj) : Hid (Half W g h l l' e e' (w.alloc o)) := Half.keep hh ((Below.refl _ _).alloc (Nat.le_refl _) o)
theorem Half.set2 {q : Nat} (hh : Hid (Half W g h l l' e e' w)) (hq : h < q) (x y : Value) : Hid (Half W g h l l' e e' ((w.setCell ⟨q, 0, none⟩ x).setCell ⟨q, 1, none⟩ y)) := by
  obtain ⟨h1, h2, h3, h4, h5, h6⟩ := hh
  have hb : Below (h + 1) w ((w.setCell ⟨q, 0, none⟩ x).setCell ⟨q, 1, none⟩ y) := ((Below.refl (h + 1) w).setCell (p := ⟨q, 0, none⟩) hq _).setCell (p := ⟨q, 1, none⟩) hq _
  exact ⟨h1.keep (by omega) hb, (hb.block h (by omega)).trans h2, h3.trans (hb.mono (by omega)), h4, h5, h6⟩
theorem rend_at (l : List UInt8) (e : Int) (w : World) :
    Calls Try.prog 31 #[.agg #[.string (mkB l), .int .i64 e]] w fun x w' => x = .returned (.int .i64 (rdEnd l e)) ∧ Below w.heap.size w w' := rend_any (mkB l) e w
theorem rread_at (l : List UInt8) (e : Int) (w : World) (hs : l.length ≤ 600) {u : Nat} {l' : List UInt8} {e' : Int} (hd : rdNum l e = (u, l', e')) :
    Calls Try.prog 22 #[.agg #[.string (mkB l), .int .i64 e]] w (RDid (.int .u64 u) (l', e') w) := rread_any (mkB l) e w (by rw [mkB_size]; omega) hd
theorem rmoment_at (l : List UInt8) (e : Int) (w : World) (hs : l.length ≤ 600) {u : Int} {l' : List UInt8} {e' : Int} (hd : rdMoment l e = (u, l', e')) :
    Calls Try.prog 25 #[.agg #[.string (mkB l), .int .i64 e]] w (RDid (.int .i64 u) (l', e') w) := by
  have k := rmoment_any (mkB l) e w (by rw [mkB_size]; omega)
  have e1 : (mkB l).data.toList = l := rfl
  rw [e1, hd] at k
  exact k
theorem rtext_at (l : List UInt8) (e most : Int) (w : World) (hs : l.length ≤ 600) (hm1 : -9223372036854775808 ≤ most) (hm2 : most ≤ 9223372036854775807) {u l' : List UInt8} {e' : Int} (hd : rdText l e most = (u, l', e')) :
    Calls Try.prog 27 #[.agg #[.string (mkB l), .int .i64 e], .int .i64 most] w (RDid (.string (mkB u)) (l', e') w) := by
  have k := rtext2_any (mkB l) e most w (by rw [mkB_size]; omega) hm1 hm2
  have e1 : (mkB l).data.toList = l := rfl
  rw [e1, hd] at k
  exact k
theorem int_at (w : World) (hr : Rdr w g l e) {u : Nat} (hd : rdNum l e = (u, l', e')) :
    Calls Try.prog 23 #[.pointer (some ⟨g, 0, none⟩)] w (Did g (.int .i64 (pln u)) (l', e') w) := by
  have k := int_any g l e w hr
  rw [hd] at k
  exact k
theorem moment_at (w : World) (hr : Rdr w g l e) {u : Int} (hd : rdMoment l e = (u, l', e')) :
    Calls Try.prog 24 #[.pointer (some ⟨g, 0, none⟩)] w (Did g (.int .i64 u) (l', e') w) := by
  have k := moment_any g l e w hr
  rw [hd] at k
  exact k
theorem err_rdr (w : World) (hr : Rdr w g l e) : Calls Try.prog 29 #[.pointer (some ⟨g, 0, none⟩)] w fun x w' => x = .returned (.int .i64 e) ∧ w = w' := by
  obtain ⟨v, h, _⟩ := hr
  exact err_any g v e w h
end

set_option maxRecDepth 100000 in
set_option maxHeartbeats 4000000 in
theorem octetReads_walk (A0 : Option Addr) (c0 : Nat) (z0 : List Int) (A1 : Option Addr) (c1 : Nat) (os : List Int) (W : World)
    (hl0 : z0.length ≤ c0) (hA0 : A0 = none → c0 = 0) (hr0 : Row W W.heap.size A0 (z0.map (Value.int .u8))) (hw0 : ∀ n ∈ z0, (Lit.int .u8 n).wf = true)
    (hl1 : os.length ≤ c1) (hA1 : A1 = none → c1 = 0) (hr1 : Row W W.heap.size A1 (os.map (Value.int .i8))) (hw1 : ∀ n ∈ os, (Lit.int .i8 n).wf = true) :
    Calls Try.prog 5 #[.slice A0 z0.length c0, .slice A1 os.length c1] W fun e w' => e = .returned (.bool true) ∧ Below W.heap.size W w' := by
  obtain ⟨l0, e0, en0⟩ := ints_bc hw0
  rw [e0] at hr0
  rw [en0]
  rw [en0] at hl0
  have R0 := Lib.hid hr0
  have R1 := Lib.hid hr1
  have HN := Lib.hid hw1
  have HA0 := Lib.hid hA0
  clear hA0 hr0 hw0 hl1 hA1 hr1 hw1 e0 en0
  go_enter Try.func5, Try.ntmps5
  go_wp2_with (go_at_call 9; refine (awake_any _).mono ?_; rintro e w1 ⟨rfl, hb1⟩; have HB1 := Lib.hid hb1; clear hb1)
  all_goals first | (go_ret; exact ⟨rfl, HB1.out⟩) | skip
  have n0 : l0.length ≤ 600 := by omega
  have n1 : os.length ≤ 60 := by omega
  refine (open_arg A0 c0 l0 _ ((R0.out.below_ HB1.out).more HB1.out.size) HA0.out hl0 (Fits.of (by omega))).mono ?_
  rintro e w2 ⟨g, rfl, hg, hr2, hb2⟩
  have HR2 := Lib.hid hr2
  have HB2 := Lib.hid (HB1.out.trans (hb2.mono HB1.out.size))
  have HG := Lib.hid (Nat.le_trans HB1.out.size hg)
  have hst := run_str_any (w := w2) c0 (R0.out.below_ HB2.out)
  clear hr2 hb2 hg
  go_wp2
  have HM : Hid (Both W g w2.heap.size l0 0 (w2.alloc (.cells #[.string (mkB l0), .int .i64 0] 43))) := Lib.hid
    ⟨HR2.out.keep HR2.out.lt ((Below.refl _ _).alloc (Nat.le_refl _) _), heap_alloc_new _ _, HB2.out.alloc HB2.out.size _, HG.out, HR2.out.lt, n0⟩
  clear hst
  generalize w2.heap.size = h at HM ⊢
  clear HR2 HB2 HG
  go_loopw [8] (fun i wr => ∃ (k : Nat) (l : List UInt8) (e : Int), k ≤ os.length ∧ i = .int .i64 k ∧ Hid (Both W g h l e wr)) (fun i _ => os.length - (intOf i).toNat)
  case atStart => exact ⟨0, l0, 0, Nat.zero_le _, rfl, HM⟩
  case round =>
    obtain ⟨k, l, e, hk, rfl, HB⟩ := hrel
    by_cases hlt : k < os.length
    · obtain ⟨b, off, rfl, hb, hcW⟩ := R1.out.at_ k (by simpa using hlt)
      simp only [List.getElem_map] at hcW
      have ho := bounds_i8 (HN.out os[k] (List.getElem_mem hlt))
      generalize os[k] = o at hcW ho
      have hc := (HB.out.2.2.1.cell (p := ⟨b, off + k, none⟩) hb).trans hcW
      have HW := Lib.hid (And.intro hb hcW)
      clear hb hcW
      by_cases h0 : o = 0
      · subst h0
        rcases hd : rdNum l e with ⟨u, l', e'⟩
        have HD := Lib.hid hd
        clear hd
        go_wp2_with (first
          | (go_at_call 21; refine (num_at g l e _ HB.out.1 HD.out).mono ?_; rintro _ w3 hd; have HH := Lib.hid (HB.out.half hd); obtain ⟨rfl, _, _⟩ := hd; obtain ⟨a1, a2, a3, a4, a5⟩ := HH.out.cells)
          | (go_at_call 22; refine (rread_at l e _ HB.out.2.2.2.2.2 HD.out).mono ?_; rintro _ w4 ⟨rfl, hb4⟩; have HH2 := Lib.hid (HH.out.keep hb4); clear a1 a2 a3 a4 a5 hb4; obtain ⟨a1, a2, a3, a4, a5⟩ := HH2.out.cells))
        have HB2 := HH2.out.done (by have := rdNum_len l e; rw [HD.out] at this; exact this) (.cells #[.string (mkB l'), .int .i64 e'] 43)
        generalize (((w4.setCell ⟨h, 0, none⟩ (.string (mkB l'))).setCell ⟨h, 1, none⟩ (.int .i64 e')).alloc (.cells #[.string (mkB l'), .int .i64 e'] 43)) = wx at HB2 ⊢
        obtain ⟨q1, q2, _⟩ := Both.cells HB2
        have hsz := mkB_size l'
        go_region_held3 (fun w' => w'.cell? ⟨h, 0, none⟩ = some (.string (mkB l')) ∧ w'.cell? ⟨h, 1, none⟩ = some (.int .i64 e') ∧ Hid (Both W g h l' e' w'))
          (first | assumption | exact Both.cells (by assumption) | exact Both.cells (Both.drew (Both.of_S (by assumption))) | exact Both.cells (Both.drew (by assumption)))
          (first
            | (go_at_call 28; refine (left_any g l' e' _ (Both.rdr (Both.of_S (h := h) (W := W) (by assumption)))).mono ?_; rintro _ w' ⟨rfl, rfl⟩)
            | (go_at_call 29; refine (err_rdr (l := l') _ (Both.rdr (Both.of_S (h := h) (W := W) (by assumption)))).mono ?_; rintro _ w' ⟨rfl, rfl⟩)
            | (go_at_call 30; refine (end_any g l' e' _ (Both.rdr (Both.of_S (h := h) (W := W) (by assumption)))).mono ?_; rintro _ w' ⟨rfl, rfl⟩)
            | (go_at_call 31; refine (rend_at l' e' _).mono ?_; rintro _ w' ⟨rfl, hb7⟩; have HB7 := Both.keep (Both.of_S (l := l') (e := e') (g := g) (h := h) (W := W) (by assumption)) hb7))
        go_wp2
        go_roundw
        case rel => exact ⟨k + 1, l', e', by omega, by go_num, by assumption⟩
        case measure => simp [intOf]; omega
      · by_cases h1 : o = 1
        · subst h1
          rcases hd : rdNum l e with ⟨u, l', e'⟩
          have HD := Lib.hid hd
          have HU : Hid (u ≤ 18446744073709551615) := Lib.hid (by have := rdNum_lt l e; rw [hd] at this; exact this)
          clear hd
          go_wp2_with (first
            | (go_at_call 23; refine (int_at _ HB.out.1 HD.out).mono ?_; rintro _ w3 hd; have HH := Lib.hid (HB.out.half hd); obtain ⟨rfl, _, _⟩ := hd; obtain ⟨a1, a2, a3, a4, a5⟩ := HH.out.cells)
            | (go_at_call 22; refine (rread_at l e _ HB.out.2.2.2.2.2 HD.out).mono ?_; rintro _ w4 ⟨rfl, hb4⟩; have HH2 := Lib.hid (HH.out.keep hb4); clear a1 a2 a3 a4 a5 hb4; obtain ⟨a1, a2, a3, a4, a5⟩ := HH2.out.cells)
            | (go_at_call 19; refine (rplain_any _ _ (by omega) (by have := HU.out; omega)).mono ?_; rintro _ w' ⟨rfl, rfl⟩))
          have HB2 := HH2.out.done (by have := rdNum_len l e; rw [HD.out] at this; exact this) (.cells #[.string (mkB l'), .int .i64 e'] 43)
          generalize (((w4.setCell ⟨h, 0, none⟩ (.string (mkB l'))).setCell ⟨h, 1, none⟩ (.int .i64 e')).alloc (.cells #[.string (mkB l'), .int .i64 e'] 43)) = wx at HB2 ⊢
          obtain ⟨q1, q2, _⟩ := Both.cells HB2
          have hsz := mkB_size l'
          go_region_held3 (fun w' => w'.cell? ⟨h, 0, none⟩ = some (.string (mkB l')) ∧ w'.cell? ⟨h, 1, none⟩ = some (.int .i64 e') ∧ Hid (Both W g h l' e' w'))
            (first | assumption | exact Both.cells (by assumption) | exact Both.cells (Both.drew (Both.of_S (by assumption))) | exact Both.cells (Both.drew (by assumption)))
            (first
              | (go_at_call 28; refine (left_any g l' e' _ (Both.rdr (Both.of_S (h := h) (W := W) (by assumption)))).mono ?_; rintro _ w' ⟨rfl, rfl⟩)
              | (go_at_call 29; refine (err_rdr (l := l') _ (Both.rdr (Both.of_S (h := h) (W := W) (by assumption)))).mono ?_; rintro _ w' ⟨rfl, rfl⟩)
              | (go_at_call 30; refine (end_any g l' e' _ (Both.rdr (Both.of_S (h := h) (W := W) (by assumption)))).mono ?_; rintro _ w' ⟨rfl, rfl⟩)
              | (go_at_call 31; refine (rend_at l' e' _).mono ?_; rintro _ w' ⟨rfl, hb7⟩; have HB7 := Both.keep (Both.of_S (l := l') (e := e') (g := g) (h := h) (W := W) (by assumption)) hb7))
          go_wp2
          go_roundw
          case rel => exact ⟨k + 1, l', e', by omega, by go_num, by assumption⟩
          case measure => simp [intOf]; omega
        · by_cases h2 : o = 2
          · subst h2
            rcases hd : rdMoment l e with ⟨u, l', e'⟩
            have HD := Lib.hid hd
            clear hd
            go_wp2_with (first
              | (go_at_call 24; refine (moment_at _ HB.out.1 HD.out).mono ?_; rintro _ w3 hd; have HH := Lib.hid (HB.out.half hd); obtain ⟨rfl, _, _⟩ := hd; obtain ⟨a1, a2, a3, a4, a5⟩ := HH.out.cells)
              | (go_at_call 25; refine (rmoment_at l e _ HB.out.2.2.2.2.2 HD.out).mono ?_; rintro _ w4 ⟨rfl, hb4⟩; have HH2 := Lib.hid (HH.out.keep hb4); clear a1 a2 a3 a4 a5 hb4; obtain ⟨a1, a2, a3, a4, a5⟩ := HH2.out.cells))
            have HB2 := HH2.out.done (by have := rdMoment_len l e; rw [HD.out] at this; exact this) (.cells #[.string (mkB l'), .int .i64 e'] 43)
            generalize (((w4.setCell ⟨h, 0, none⟩ (.string (mkB l'))).setCell ⟨h, 1, none⟩ (.int .i64 e')).alloc (.cells #[.string (mkB l'), .int .i64 e'] 43)) = wx at HB2 ⊢
            obtain ⟨q1, q2, _⟩ := Both.cells HB2
            have hsz := mkB_size l'
            go_region_held3 (fun w' => w'.cell? ⟨h, 0, none⟩ = some (.string (mkB l')) ∧ w'.cell? ⟨h, 1, none⟩ = some (.int .i64 e') ∧ Hid (Both W g h l' e' w'))
              (first | assumption | exact Both.cells (by assumption) | exact Both.cells (Both.drew (Both.of_S (by assumption))) | exact Both.cells (Both.drew (by assumption)))
              (first
                | (go_at_call 28; refine (left_any g l' e' _ (Both.rdr (Both.of_S (h := h) (W := W) (by assumption)))).mono ?_; rintro _ w' ⟨rfl, rfl⟩)
                | (go_at_call 29; refine (err_rdr (l := l') _ (Both.rdr (Both.of_S (h := h) (W := W) (by assumption)))).mono ?_; rintro _ w' ⟨rfl, rfl⟩)
                | (go_at_call 30; refine (end_any g l' e' _ (Both.rdr (Both.of_S (h := h) (W := W) (by assumption)))).mono ?_; rintro _ w' ⟨rfl, rfl⟩)
                | (go_at_call 31; refine (rend_at l' e' _).mono ?_; rintro _ w' ⟨rfl, hb7⟩; have HB7 := Both.keep (Both.of_S (l := l') (e := e') (g := g) (h := h) (W := W) (by assumption)) hb7))
            go_wp2
            go_roundw
            case rel => exact ⟨k + 1, l', e', by omega, by go_num, by assumption⟩
            case measure => simp [intOf]; omega
          · rcases hd : rdText l e (o - 4) with ⟨u, l', e'⟩
            have HD := Lib.hid hd
            clear hd
            have HL6 : Hid (l.length ≤ 600) := Lib.hid HB.out.2.2.2.2.2
            have hw0 : IntKind.i64.wrap o = o := IntWalk.i64_in _ (by omega)
            have hw : IntKind.i64.wrap (o - 4) = o - 4 := IntWalk.i64_in _ (by omega)
            have g0 : (o == 0) = false := by simp [h0]
            have g1 : (o == 1) = false := by simp [h1]
            have g2 : (o == 2) = false := by simp [h2]
            clear h0 h1 h2
            go_wp2_with (first
              | (go_at_call 26; refine (text_at g l e (o - 4) _ HB.out.1 (by omega) (by omega) HD.out).mono ?_; rintro _ w3 hd; have HH := Lib.hid (HB.out.half hd); obtain ⟨rfl, _, _⟩ := hd; obtain ⟨a1, a2, a3, a4, a5⟩ := HH.out.cells))
            clear a1 a2 a3 a4 hc
            obtain ⟨a1, a2, a3, _⟩ := Half.S HW HH
            go_region_held3 (fun w' => w'.cell? ⟨h, 0, none⟩ = some (.string (mkB l)) ∧ w'.cell? ⟨h, 1, none⟩ = some (.int .i64 e) ∧ w'.cell? ⟨b, off + k, none⟩ = some (.int .i8 o) ∧ Hid (Half W g h l l' e e' w'))
              (with_reducible first | assumption | exact Half.S HW (by assumption) | exact Half.S HW (Half.drew (by assumption)) | exact Half.S HW (Half.alloc (Half.of_S (by assumption)) _) | exact Half.S HW (Half.alloc (by assumption) _) | exact Half.S HW (Half.set2 (by assumption) a5 _ _) | exact Half.S HW (Half.set2 (Half.of_S (by assumption)) a5 _ _))
              (first
                | (go_at_call 27; ((with_reducible refine (rtext_at l e (o - 4) _ HL6.out (by omega) (by omega) HD.out).mono ?_); rintro _ w4 ⟨rfl, hb4⟩; obtain ⟨hcA, hfA⟩ := below_cells hb4; have hzA := hb4.size; have HH2 : Hid (Half W g h l l' e e' w4) := Half.keep (Half.of_S (b := b) (i := off + k) (o := o) (by assumption)) hb4)))
            all_goals
              obtain ⟨_, _, f1, f2, _⟩ := HH.out.cells
              obtain ⟨b1, b2, b3, b4, b5⟩ := HH2.out.cells
              go_wp2
            · clear hcA hfA hzA f1 f2 b1 b2 b3 b4 b5 a1 a2 a3 hw hw0
              have HB2 := HH2.out.done (by have := rdText_len l e (o - 4); rw [HD.out] at this; exact this) (.cells #[.string (mkB l'), .int .i64 e'] 43)
              generalize (((w4.setCell ⟨h, 0, none⟩ (.string (mkB l'))).setCell ⟨h, 1, none⟩ (.int .i64 e')).alloc (.cells #[.string (mkB l'), .int .i64 e'] 43)) = wx at HB2 ⊢
              obtain ⟨q1, q2, _⟩ := Both.cells HB2
              have hsz := mkB_size l'
              go_region_held3 (fun w' => w'.cell? ⟨h, 0, none⟩ = some (.string (mkB l')) ∧ w'.cell? ⟨h, 1, none⟩ = some (.int .i64 e') ∧ Hid (Both W g h l' e' w'))
                (first | assumption | exact Both.cells (by assumption) | exact Both.cells (Both.drew (Both.of_S (by assumption))) | exact Both.cells (Both.drew (by assumption)))
                (first
                  | (go_at_call 28; refine (left_any g l' e' _ (Both.rdr (Both.of_S (h := h) (W := W) (by assumption)))).mono ?_; rintro _ w' ⟨rfl, rfl⟩)
                  | (go_at_call 29; refine (err_rdr (l := l') _ (Both.rdr (Both.of_S (h := h) (W := W) (by assumption)))).mono ?_; rintro _ w' ⟨rfl, rfl⟩)
                  | (go_at_call 30; refine (end_any g l' e' _ (Both.rdr (Both.of_S (h := h) (W := W) (by assumption)))).mono ?_; rintro _ w' ⟨rfl, rfl⟩)
                  | (go_at_call 31; refine (rend_at l' e' _).mono ?_; rintro _ w' ⟨rfl, hb7⟩; have HB7 := Both.keep (Both.of_S (l := l') (e := e') (g := g) (h := h) (W := W) (by assumption)) hb7))
              go_wp2
              go_roundw
              case rel => exact ⟨k + 1, l', e', by omega, by go_num, by assumption⟩
              case measure => simp [intOf]; omega
            · have HH3 := Half.set2 HH2 a5 (.string (mkB l')) (.int .i64 e')
              clear hcA hfA hzA f1 f2 b1 b2 b3 b4 b5 a1 a2 a3 hw hw0
              have HB2 := HH3.out.done0 (by have := rdText_len l e (o - 4); rw [HD.out] at this; exact this)
              generalize ((((w4.setCell ⟨w3.heap.size, 0, none⟩ (.string (mkB l'))).setCell ⟨w3.heap.size, 1, none⟩ (.int .i64 e')).setCell ⟨h, 0, none⟩ (.string (mkB l'))).setCell ⟨h, 1, none⟩ (.int .i64 e')) = wx at HB2 ⊢
              obtain ⟨q1, q2, _⟩ := Both.cells HB2
              have hsz := mkB_size l'
              go_region_held3 (fun w' => w'.cell? ⟨h, 0, none⟩ = some (.string (mkB l')) ∧ w'.cell? ⟨h, 1, none⟩ = some (.int .i64 e') ∧ Hid (Both W g h l' e' w'))
                (first | assumption | exact Both.cells (by assumption) | exact Both.cells (Both.drew (Both.of_S (by assumption))) | exact Both.cells (Both.drew (by assumption)))
                (first
                  | (go_at_call 28; refine (left_any g l' e' _ (Both.rdr (Both.of_S (h := h) (W := W) (by assumption)))).mono ?_; rintro _ w' ⟨rfl, rfl⟩)
                  | (go_at_call 29; refine (err_rdr (l := l') _ (Both.rdr (Both.of_S (h := h) (W := W) (by assumption)))).mono ?_; rintro _ w' ⟨rfl, rfl⟩)
                  | (go_at_call 30; refine (end_any g l' e' _ (Both.rdr (Both.of_S (h := h) (W := W) (by assumption)))).mono ?_; rintro _ w' ⟨rfl, rfl⟩)
                  | (go_at_call 31; refine (rend_at l' e' _).mono ?_; rintro _ w' ⟨rfl, hb7⟩; have HB7 := Both.keep (Both.of_S (l := l') (e := e') (g := g) (h := h) (W := W) (by assumption)) hb7))
              go_wp2
              go_roundw
              case rel => exact ⟨k + 1, l', e', by omega, by go_num, by assumption⟩
              case measure => simp [intOf]; omega
    · have hE : (mkB []).toList.isEmpty = true := by rw [ByteArray.toList_eq]; rfl
      go_wp2_with (first
        | (go_at_call 21; refine (num_nil _).mono ?_; rintro _ w' ⟨rfl, rfl⟩)
        | (go_at_call 23; refine (int_nil _).mono ?_; rintro _ w' ⟨rfl, rfl⟩)
        | (go_at_call 24; refine (moment_nil _).mono ?_; rintro _ w' ⟨rfl, rfl⟩)
        | (go_at_call 26; refine (text_nil _ _).mono ?_; rintro _ w' ⟨rfl, rfl⟩)
        | (go_at_call 28; refine (left_nil _).mono ?_; rintro _ w' ⟨rfl, rfl⟩)
        | (go_at_call 29; refine (err_nil _).mono ?_; rintro _ w' ⟨rfl, rfl⟩)
        | (go_at_call 30; refine (end_nil _).mono ?_; rintro _ w' ⟨rfl, rfl⟩))
      go_ret
      exact ⟨rfl, HB.out.2.2.1⟩
end Go.Proofs.Ytbbioeiikobnnaa
