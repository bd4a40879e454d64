/-
  Layer 5's laws' arguments out of their readings as data: slices of propositions, a proposition, an atom, a text.
-/
import Derived.Test.YtiflpjdiokloaaaDoorArgsSlice
import Derived.Test.YtiflpjdiokloaaaDoorPackG
import Derived.Lib.SmallJoins
import Derived.ChangeMaps5
namespace Go.Proofs.YtiflpjdiokloaaaDoor
open Go.ChangeShapes Go.WideShapes Go.ChangeAt Go.RowKit Go.Deep Go.Joins
set_option linter.unusedVariables false

theorem mkB_data2 (s : ByteArray) : mkB s.data.toList = s := rfl
theorem txt_of (s : ByteArray) : ∃ l : List UInt8, s = mkB l := ⟨s.data.toList, rfl⟩
section
variable {H : Type} {enc : TypeId × Value → H} {W : World} {base : Nat} {t e u : TypeId} {v : Value} {d : DataW H} {p : List MemPlace}
set_option maxRecDepth 100000 in
/-- Slices of propositions. -/
theorem arg_props {f0 f1 : Field} (ht : Tryd.prog.underlying t = some (.slice e)) (he : Tryd.prog.underlying e = some (.struct #[f0, f1])) (hone : oneCellFields Tryd.prog #[f0, f1] = true) (ce : Tryd.prog.cellsOf e = 2)
    (h0 : Tryd.prog.underlying f0.type = some .string) (h1 : Tryd.prog.underlying f1.type = some (.int .i64)) (hv : Value.okWide Tryd.prog W .any base t v)
    (h : DataW.Trod enc Tryd.prog W 0 (fun _ => true) true t v d p) : ∃ ls : List Pr, Props W W.heap.size v ls ∧ SlicedAs d ls.length := by
  obtain ⟨A, len, c, rfl, hc, hA, hd, hx⟩ := arg_slice (by omega) ht ce hv h
  have each : ∀ i, i < len → ∃ q : Pr, ∀ b off, A = some ⟨b, off, none⟩ → W.cell? ⟨b, off + i * 2, none⟩ = some (.string (mkB q.name)) ∧ W.cell? ⟨b, off + (i * 2 + 1), none⟩ = some (.int .i64 q.val) := by
    intro i hi
    obtain ⟨b, off, n, cs', y, rfl, hb, hl, hcell, htr⟩ := hx i hi
    obtain ⟨ys, n', _, _, _, hyl, hf⟩ := DataW.trod_struct he htr
    match cs', hl with
    | [x0, x1], _ =>
      obtain ⟨o0, k0⟩ := hone_of hone 0 f0 rfl
      obtain ⟨o1, k1⟩ := hone_of hone 1 f1 rfl
      have g0 := hf 0 f0 rfl
      have g1 := hf 1 f1 rfl
      rw [o0, k0] at g0
      rw [o1, k1] at g1
      match ys, hyl with
      | [y0, y1], _ =>
        simp at g0 g1
        obtain ⟨s0, e0, _, w0⟩ := DataW.trod_string h0 g0
        obtain ⟨n1, e1, _, w1⟩ := DataW.trod_int h1 g1
        simp at e0 e1
        subst e0
        subst e1
        have c0 := hcell 0 (by omega)
        have c1 := hcell 1 (by omega)
        refine ⟨⟨s0.data.toList, n1⟩, fun b' off' e => ?_⟩
        simp only [Option.some.injEq, Addr.mk.injEq] at e
        obtain ⟨rfl, rfl, _⟩ := e
        dsimp only
        rw [mkB_data2]
        exact ⟨by simpa using c0, by simpa using c1⟩
  haveI : Inhabited Pr := ⟨⟨[], 0⟩⟩
  obtain ⟨q, hq⟩ := choose_lt each
  have hlen : ((List.range len).map q).length = len := by simp
  refine ⟨(List.range len).map q, ⟨prC_length _, ?_⟩, by rw [hlen]; exact hd⟩
  rw [hlen]
  by_cases h0 : len = 0
  · subst h0
    exact .inl ⟨rfl, A, c, rfl, hA⟩
  · obtain ⟨b, off, n, cs', y, rfl, hb, _⟩ := hx 0 (by omega)
    refine .inr ⟨b, off, c, rfl, hc, hb, fun i u hu => ?_⟩
    have hi : i < len * 2 := by have h := (List.getElem?_eq_some_iff.1 hu).1; rw [prC_length, hlen] at h; exact h
    have hi2 : i / 2 < len := by omega
    obtain ⟨q0, q1⟩ := prC_at ((List.range len).map q) (i / 2) (by rw [hlen]; exact hi2)
    have hq' := hq (i / 2) hi2 b off rfl
    by_cases hp : i % 2 = 0
    · rw [show i = i / 2 * 2 by omega] at hu ⊢
      rw [q0] at hu
      rw [hq'.1, ← hu]
      simp
    · rw [show i = i / 2 * 2 + 1 by omega] at hu ⊢
      rw [q1] at hu
      rw [hq'.2, ← hu]
      simp
set_option maxRecDepth 100000 in
/-- A proposition by value. -/
theorem arg_prop {f0 f1 : Field} (he : Tryd.prog.underlying t = some (.struct #[f0, f1])) (hone : oneCellFields Tryd.prog #[f0, f1] = true) (ce : Tryd.prog.cellsOf t = 2)
    (h0 : Tryd.prog.underlying f0.type = some .string) (h1 : Tryd.prog.underlying f1.type = some (.int .i64)) (hv : Value.okWide Tryd.prog W .any base t v)
    (h : DataW.Trod enc Tryd.prog W 0 (fun _ => true) true t v d p) : ∃ (nm : List UInt8) (a : Int), v = .agg #[.string (mkB nm), .int .i64 a] := by
  obtain ⟨cs, rfl, hsz⟩ := okWide_struct he hv
  obtain ⟨fuel, hf⟩ := h
  obtain ⟨ys, n', _, _, _, hyl, hf⟩ := DataW.trod_struct he hf
  obtain ⟨cs⟩ := cs
  match cs, hsz.trans ce, ys, hyl with
  | [x0, x1], _, [y0, y1], _ =>
    obtain ⟨o0, k0⟩ := hone_of hone 0 f0 rfl
    obtain ⟨o1, k1⟩ := hone_of hone 1 f1 rfl
    have g0 := hf 0 f0 rfl
    have g1 := hf 1 f1 rfl
    rw [o0, k0] at g0
    rw [o1, k1] at g1
    simp [Value.cells] at g0 g1
    obtain ⟨s0, e0, _, w0⟩ := DataW.trod_string h0 g0
    obtain ⟨n1, e1, _, w1⟩ := DataW.trod_int h1 g1
    simp at e0 e1
    subst e0
    subst e1
    exact ⟨s0.data.toList, n1, rfl⟩
set_option maxRecDepth 100000 in
/-- An atom by value. -/
theorem arg_atom {f0 f1 f2 : Field} (he : Tryd.prog.underlying t = some (.struct #[f0, f1, f2])) (hone : oneCellFields Tryd.prog #[f0, f1, f2] = true) (ce : Tryd.prog.cellsOf t = 3)
    (h0 : Tryd.prog.underlying f0.type = some .string) (h1 : Tryd.prog.underlying f1.type = some (.int .i64)) (h2 : Tryd.prog.underlying f2.type = some (.int .i64)) (hv : Value.okWide Tryd.prog W .any base t v)
    (h : DataW.Trod enc Tryd.prog W 0 (fun _ => true) true t v d p) : ∃ (nm : List UInt8) (a b : Int), v = .agg #[.string (mkB nm), .int .i64 a, .int .i64 b] := by
  obtain ⟨cs, rfl, hsz⟩ := okWide_struct he hv
  obtain ⟨fuel, hf⟩ := h
  obtain ⟨ys, n', _, _, _, hyl, hf⟩ := DataW.trod_struct he hf
  obtain ⟨cs⟩ := cs
  match cs, hsz.trans ce, ys, hyl with
  | [x0, x1, x2], _, [y0, y1, y2], _ =>
    obtain ⟨o0, k0⟩ := hone_of hone 0 f0 rfl
    obtain ⟨o1, k1⟩ := hone_of hone 1 f1 rfl
    obtain ⟨o2, k2⟩ := hone_of hone 2 f2 rfl
    have g0 := hf 0 f0 rfl
    have g1 := hf 1 f1 rfl
    have g2 := hf 2 f2 rfl
    rw [o0, k0] at g0
    rw [o1, k1] at g1
    rw [o2, k2] at g2
    simp [Value.cells] at g0 g1 g2
    obtain ⟨s0, e0, _, w0⟩ := DataW.trod_string h0 g0
    obtain ⟨n1, e1, _, w1⟩ := DataW.trod_int h1 g1
    obtain ⟨n2, e2, _, w2⟩ := DataW.trod_int h2 g2
    simp at e0 e1 e2
    subst e0
    subst e1
    subst e2
    exact ⟨s0.data.toList, n1, n2, rfl⟩
end
end Go.Proofs.YtiflpjdiokloaaaDoor
