/-
  A law's arguments of slices within slices, of structs that hold slices of bytes, out of their readings as data.
-/
import Derived.Test.YthnkiabhfcddaaaDoorArgsSlice
import Derived.Test.YthnkiabhfcddaaaDoorPackL
import Derived.Test.YthnkiabhfcddaaaDoorPackF
import Derived.Deep.Slices
import Derived.Deep.Fields
import Derived.ChangeSame
import Derived.SizedLaws
namespace Go.Proofs.YthnkiabhfcddaaaDoor
open Go.ChangeShapes Go.WideShapes Go.ChangeAt Go.RowKit Go.Deep
set_option linter.unusedVariables false

theorem liesB_of_row {W : World} {A : Option Addr} {c : Nat} {l : List UInt8} (hr : Row W W.heap.size A (bc l)) (hc : l.length ≤ c) (hA : A = none → c = 0) : LiesB W W.heap.size (.slice A l.length c) l := by
  by_cases hl : l = []
  · subst hl
    exact .inl ⟨rfl, A, c, rfl, hA⟩
  · obtain ⟨b, off, rfl, hb, hcs⟩ := hr (by intro e; apply hl; cases l with | nil => rfl | cons x l => simp [bc] at e)
    exact .inr ⟨b, off, c, rfl, hc, hb, fun i hi => hcs i _ (bc_get l i hi)⟩
section
variable {H : Type} {enc : TypeId × Value → H} {W : World} {base : Nat} {t e u : TypeId} {v : Value} {d : DataW H} {p : List MemPlace}
set_option maxRecDepth 100000 in
/-- A slice of bytes, read. -/
theorem lies_trod {fuel : Nat} {x : Value} {y : DataW H × List MemPlace} (ht : Tryd.prog.underlying t = some (.slice e)) (he : Tryd.prog.underlying e = some (.int .u8)) (hc : Tryd.prog.cellsOf e = 1)
    (hf : DataW.trod enc Tryd.prog W 0 (fun _ => true) true fuel t [x] = some y) : ∃ l : List UInt8, LiesB W W.heap.size x l := by
  rcases open_ints ht he hc hf with ⟨hcs, _⟩ | ⟨a, l, c, zs, hcs, _, hl, hm, hz, _, hcell, hwz⟩
  · simp at hcs
    subst hcs
    exact ⟨[], .inl ⟨rfl, none, 0, rfl, fun _ => rfl⟩⟩
  · simp at hcs
    subst hcs
    have hz2 : zs.length = c := by simpa using hz
    have hlen : (zs.take l).length = l := by rw [List.length_take]; omega
    obtain ⟨bs, e1, e2⟩ := ints_bc (zs := zs.take l) fun n hn => hwz n (List.mem_of_mem_take hn)
    have hbl : bs.length = l := by rw [← e2, hlen]
    refine ⟨bs, ?_⟩
    have hr : Row W W.heap.size (some a) (bc bs) := by
      rw [← e1]
      refine row_of_cells fun i u hu => ?_
      have hi : i < l := by
        have := (List.getElem?_eq_some_iff.1 hu).1
        rw [List.length_map, hlen] at this
        exact this
      rw [hcell i (by omega), ← hu]
      have h1 : i < zs.length := by omega
      simp [List.getD, hi, h1]
    have := liesB_of_row (c := c) hr (by omega) (fun h => by cases h)
    rwa [hbl] at this
set_option maxRecDepth 100000 in
/-- Slices of slices of bytes. -/
theorem arg_blobs (ht : Tryd.prog.underlying t = some (.slice e)) (he : Tryd.prog.underlying e = some (.slice u)) (hu : Tryd.prog.underlying u = some (.int .u8)) (ce : Tryd.prog.cellsOf e = 1) (cu : Tryd.prog.cellsOf u = 1) (hv : Value.okWide Tryd.prog W .any base t v)
    (h : DataW.Trod enc Tryd.prog W 0 (fun _ => true) true t v d p) : ∃ ls : List (List UInt8), Blobs W W.heap.size v ls ∧ SlicedAs d ls.length := by
  obtain ⟨A, len, c, rfl, hc, hA, hd, hx⟩ := arg_slice (by omega) ht ce hv h
  have each : ∀ i, i < len → ∃ q : Value × List UInt8, (∀ b off, A = some ⟨b, off, none⟩ → W.cell? ⟨b, off + i, none⟩ = some q.1) ∧ LiesB W W.heap.size q.1 q.2 := by
    intro i hi
    obtain ⟨b, off, n, cs', y, rfl, hb, hl, hcell, htr⟩ := hx i hi
    match cs', hl with
    | [x], _ =>
      obtain ⟨l, hl⟩ := lies_trod he hu cu htr
      have c0 := hcell 0 (by omega)
      refine ⟨(x, l), fun b' off' e => ?_, hl⟩
      simp only [Option.some.injEq, Addr.mk.injEq] at e
      obtain ⟨rfl, rfl, _⟩ := e
      simpa using c0
  obtain ⟨q, hq⟩ := choose_lt each
  have hlen : ((List.range len).map fun i => (q i).2).length = len := by simp
  refine ⟨(List.range len).map fun i => (q i).2, ⟨(List.range len).map fun i => (q i).1, ⟨by simp, ?_⟩, fun i hi x hx => ?_⟩, by rw [hlen]; exact hd⟩
  · rw [hlen]
    by_cases h0 : len = 0
    · subst h0
      exact .inl ⟨rfl, A, c, rfl, hA⟩
    · obtain ⟨b, off, n, cs', y, rfl, hb, _⟩ := hx 0 (by omega)
      refine .inr ⟨b, off, c, rfl, hc, hb, fun i u hu => ?_⟩
      have hi : i < len := by have := (List.getElem?_eq_some_iff.1 hu).1; simpa using this
      simp [hi] at hu
      rw [← hu]
      exact (hq i hi).1 b off rfl
  · have hi2 : i < len := by rwa [hlen] at hi
    simp [hi2] at hx
    subst hx
    simpa using (hq i hi2).2
set_option maxRecDepth 100000 in
/-- Slices of structs of a byte and a slice of bytes. -/
theorem arg_frames {f0 f1 : Field} (ht : Tryd.prog.underlying t = some (.slice e)) (he : Tryd.prog.underlying e = some (.struct #[f0, f1])) (hone : oneCellFields Tryd.prog #[f0, f1] = true) (ce : Tryd.prog.cellsOf e = 2)
    (h0 : Tryd.prog.underlying f0.type = some (.int .u8)) (h1 : Tryd.prog.underlying f1.type = some (.slice u)) (hu : Tryd.prog.underlying u = some (.int .u8)) (cu : Tryd.prog.cellsOf u = 1) (hv : Value.okWide Tryd.prog W .any base t v)
    (h : DataW.Trod enc Tryd.prog W 0 (fun _ => true) true t v d p) : ∃ ls : List (UInt8 × List UInt8), SeqP W W.heap.size v ls ∧ SlicedAs d ls.length := by
  obtain ⟨A, len, c, rfl, hc, hA, hd, hx⟩ := arg_slice (by omega) ht ce hv h
  have each : ∀ i, i < len → ∃ q : UInt8 × Value × List UInt8, (∀ b off, A = some ⟨b, off, none⟩ → W.cell? ⟨b, off + i * 2, none⟩ = some (.int .u8 (q.1.toNat : Int)) ∧ W.cell? ⟨b, off + (i * 2 + 1), none⟩ = some q.2.1) ∧ LiesB W W.heap.size q.2.1 q.2.2 := by
    intro i hi
    obtain ⟨b, off, n, cs', y, rfl, hb, hl, hcell, htr⟩ := hx i hi
    obtain ⟨ys, n', _, _, _, hyl, hf⟩ := DataW.trod_struct he htr
    match cs', hl with
    | [x0, x1], _ =>
      obtain ⟨o0, k0⟩ := hone_of hone 0 f0 rfl
      obtain ⟨o1, k1⟩ := hone_of hone 1 f1 rfl
      have g0 := hf 0 f0 rfl
      have g1 := hf 1 f1 rfl
      rw [o0, k0] at g0
      rw [o1, k1] at g1
      match ys, hyl with
      | [y0, y1], _ =>
        simp at g0 g1
        obtain ⟨n0, e0, _, w0⟩ := DataW.trod_int h0 g0
        simp at e0
        subst e0
        obtain ⟨l, hl⟩ := lies_trod h1 hu cu g1
        have b0 := bounds_u8 w0
        have k0 : ((UInt8.ofNat n0.toNat).toNat : Int) = n0 := by rw [u8_nat _ (by omega)]; omega
        have c0 := hcell 0 (by omega)
        have c1 := hcell 1 (by omega)
        refine ⟨(UInt8.ofNat n0.toNat, x1, l), fun b' off' e => ?_, hl⟩
        simp only [Option.some.injEq, Addr.mk.injEq] at e
        obtain ⟨rfl, rfl, _⟩ := e
        dsimp only
        rw [k0]
        exact ⟨by simpa using c0, by simpa using c1⟩
  obtain ⟨q, hq⟩ := choose_lt each
  have hlen : ((List.range len).map fun i => ((q i).1, (q i).2.2)).length = len := by simp
  refine ⟨(List.range len).map fun i => ((q i).1, (q i).2.2), ⟨(List.range len).map fun i => (q i).2.1, by simp, ⟨by rw [cells2_length _ _ (by simp)], ?_⟩, fun i hi x hx => ?_⟩, by rw [hlen]; exact hd⟩
  · rw [hlen]
    by_cases h0 : len = 0
    · subst h0
      exact .inl ⟨rfl, A, c, rfl, hA⟩
    · obtain ⟨b, off, n, cs', y, rfl, hb, _⟩ := hx 0 (by omega)
      refine .inr ⟨b, off, c, rfl, hc, hb, fun i u hu => ?_⟩
      have hi : i < len * 2 := by have h := (List.getElem?_eq_some_iff.1 hu).1; rw [cells2_length _ _ (by simp), hlen] at h; exact h
      have hi2 : i / 2 < len := by omega
      obtain ⟨q0, q1⟩ := cells2_at ((List.range len).map fun i => ((q i).1, (q i).2.2)) ((List.range len).map fun i => (q i).2.1) (i / 2) (by simp) (by rw [hlen]; exact hi2)
      have hq' := (hq (i / 2) hi2).1 b off rfl
      by_cases hp : i % 2 = 0
      · rw [show i = i / 2 * 2 by omega] at hu ⊢
        rw [q0] at hu
        rw [hq'.1, ← hu]
        simp
      · rw [show i = i / 2 * 2 + 1 by omega] at hu ⊢
        rw [q1] at hu
        rw [hq'.2, ← hu, List.getElem?_map, List.getElem?_range hi2]
        rfl
  · have hi2 : i < len := by rwa [hlen] at hi
    simp [hi2] at hx
    subst hx
    simpa using (hq i hi2).2
set_option maxRecDepth 100000 in
/-- A struct of a byte and a slice of bytes, by value. -/
theorem arg_frame {f0 f1 : Field} (he : Tryd.prog.underlying t = some (.struct #[f0, f1])) (hone : oneCellFields Tryd.prog #[f0, f1] = true) (ce : Tryd.prog.cellsOf t = 2)
    (h0 : Tryd.prog.underlying f0.type = some (.int .u8)) (h1 : Tryd.prog.underlying f1.type = some (.slice u)) (hu : Tryd.prog.underlying u = some (.int .u8)) (cu : Tryd.prog.cellsOf u = 1) (hv : Value.okWide Tryd.prog W .any base t v)
    (h : DataW.Trod enc Tryd.prog W 0 (fun _ => true) true t v d p) : ∃ (k : UInt8) (A : Option Addr) (c : Nat) (l : List UInt8), v = .agg #[.int .u8 (k.toNat : Int), .slice A l.length c] ∧ LiesB W W.heap.size (.slice A l.length c) l := by
  obtain ⟨cs, rfl, hsz⟩ := okWide_struct he hv
  obtain ⟨fuel, hf⟩ := h
  obtain ⟨ys, n', _, _, _, hyl, hf⟩ := DataW.trod_struct he hf
  obtain ⟨cs⟩ := cs
  match cs, hsz.trans ce, ys, hyl with
  | [x0, x1], _, [y0, y1], _ =>
    obtain ⟨o0, k0⟩ := hone_of hone 0 f0 rfl
    obtain ⟨o1, k1⟩ := hone_of hone 1 f1 rfl
    have g0 := hf 0 f0 rfl
    have g1 := hf 1 f1 rfl
    rw [o0, k0] at g0
    rw [o1, k1] at g1
    simp [Value.cells] at g0 g1
    obtain ⟨n0, e0, _, w0⟩ := DataW.trod_int h0 g0
    simp at e0
    subst e0
    obtain ⟨l, hl⟩ := lies_trod h1 hu cu g1
    obtain ⟨A, c, rfl, _⟩ := liesB_row hl
    have b0 := bounds_u8 w0
    have k0 : ((UInt8.ofNat n0.toNat).toNat : Int) = n0 := by rw [u8_nat _ (by omega)]; omega
    exact ⟨UInt8.ofNat n0.toNat, A, c, l, by rw [k0], hl⟩
set_option maxRecDepth 100000 in
/-- A slice of bytes. -/
theorem arg_bytes (ht : Tryd.prog.underlying t = some (.slice e)) (he : Tryd.prog.underlying e = some (.int .u8)) (hc : Tryd.prog.cellsOf e = 1) (hv : Value.okWide Tryd.prog W .any base t v)
    (h : DataW.Trod enc Tryd.prog W 0 (fun _ => true) true t v d p) : ∃ (A : Option Addr) (c : Nat) (l : List UInt8), v = .slice A l.length c ∧ LiesB W W.heap.size (.slice A l.length c) l := by
  obtain ⟨A, c, zs, rfl, hlc, _, hA, hr, hw⟩ := arg_ints ht he hc hv h
  obtain ⟨l, e1, e2⟩ := ints_bc hw
  rw [e1] at hr
  rw [e2] at hlc ⊢
  exact ⟨A, c, l, rfl, liesB_of_row hr hlc hA⟩
end
theorem byte_of {a : Int} (h : (Lit.int .u8 a).wf = true) : ∃ t : UInt8, a = (t.toNat : Int) := by
  have b := bounds_u8 h
  exact ⟨UInt8.ofNat a.toNat, by rw [u8_nat _ (by omega)]; omega⟩
theorem nat16_of {a : Int} (h : (Lit.int .u16 a).wf = true) : ∃ p : Nat, p < 65536 ∧ a = (p : Int) := by
  have b := bounds_u16 h
  exact ⟨a.toNat, by omega, by omega⟩
end Go.Proofs.YthnkiabhfcddaaaDoor
