/-
  Layer 7's laws' arguments out of their readings as data: a record by value, slices of records.
-/
import Derived.Test.YthnkiabhfcddaaaDoorArgsSlice
import Derived.Test.YthnkiabhfcddaaaDoorPackO
import Derived.Lib.SmallJoins
import Derived.ChangeMaps5
namespace Go.Proofs.YthnkiabhfcddaaaDoor
open Go.ChangeShapes Go.WideShapes Go.ChangeAt Go.RowKit Go.Deep Go.Joins
set_option linter.unusedVariables false

theorem mkB_data7 (s : ByteArray) : mkB s.data.toList = s := by
  obtain ⟨⟨l⟩⟩ := s; rfl
section
variable {H : Type} {enc : TypeId × Value → H} {W : World} {base : Nat} {t e u : TypeId} {v : Value} {d : DataW H} {p : List MemPlace}
set_option maxRecDepth 100000 in
/-- The eight fields of a record. -/
theorem rec_fields {f0 f1 f2 f3 f4 f5 f6 f7 : Field} {n : Nat} {x0 x1 x2 x3 x4 x5 x6 x7 : Value} {y : DataW H × List MemPlace} (he : Tryd.prog.underlying t = some (.struct #[f0, f1, f2, f3, f4, f5, f6, f7])) (hone : oneCellFields Tryd.prog #[f0, f1, f2, f3, f4, f5, f6, f7] = true)
    (h0 : Tryd.prog.underlying f0.type = some (.int .u8))
    (h1 : Tryd.prog.underlying f1.type = some (.int .i64))
    (h2 : Tryd.prog.underlying f2.type = some (.int .u64))
    (h3 : Tryd.prog.underlying f3.type = some (.int .i64))
    (h4 : Tryd.prog.underlying f4.type = some (.int .i64))
    (h5 : Tryd.prog.underlying f5.type = some (.int .i64))
    (h6 : Tryd.prog.underlying f6.type = some .bool)
    (h7 : Tryd.prog.underlying f7.type = some .string)
    (hf : DataW.trod enc Tryd.prog W 0 (fun _ => true) true n t [x0, x1, x2, x3, x4, x5, x6, x7] = some y) :
    ∃ m : Rec, m.In ∧ m.text.length ≤ 9223372036854775807 ∧ x0 = .int .u8 (m.kind : Int) ∧ x1 = .int .i64 m.src ∧ x2 = .int .u64 (m.seq : Int) ∧ x3 = .int .i64 m.at_ ∧ x4 = .int .i64 m.num ∧ x5 = .int .i64 m.code ∧ x6 = .bool m.yes ∧ x7 = .string (mkB m.text) := by
  obtain ⟨ys, n', _, _, _, hyl, hf⟩ := DataW.trod_struct he hf
  match ys, hyl with
  | [y0, y1, y2, y3, y4, y5, y6, y7], _ =>
    obtain ⟨o0, k0⟩ := hone_of hone 0 f0 rfl
    obtain ⟨o1, k1⟩ := hone_of hone 1 f1 rfl
    obtain ⟨o2, k2⟩ := hone_of hone 2 f2 rfl
    obtain ⟨o3, k3⟩ := hone_of hone 3 f3 rfl
    obtain ⟨o4, k4⟩ := hone_of hone 4 f4 rfl
    obtain ⟨o5, k5⟩ := hone_of hone 5 f5 rfl
    obtain ⟨o6, k6⟩ := hone_of hone 6 f6 rfl
    obtain ⟨o7, k7⟩ := hone_of hone 7 f7 rfl
    have g0 := hf 0 f0 rfl
    have g1 := hf 1 f1 rfl
    have g2 := hf 2 f2 rfl
    have g3 := hf 3 f3 rfl
    have g4 := hf 4 f4 rfl
    have g5 := hf 5 f5 rfl
    have g6 := hf 6 f6 rfl
    have g7 := hf 7 f7 rfl
    rw [o0, k0] at g0
    rw [o1, k1] at g1
    rw [o2, k2] at g2
    rw [o3, k3] at g3
    rw [o4, k4] at g4
    rw [o5, k5] at g5
    rw [o6, k6] at g6
    rw [o7, k7] at g7
    simp at g0 g1 g2 g3 g4 g5 g6 g7
    obtain ⟨n0, e0, _, w0⟩ := DataW.trod_int h0 g0
    obtain ⟨n1, e1, _, w1⟩ := DataW.trod_int h1 g1
    obtain ⟨n2, e2, _, w2⟩ := DataW.trod_int h2 g2
    obtain ⟨n3, e3, _, w3⟩ := DataW.trod_int h3 g3
    obtain ⟨n4, e4, _, w4⟩ := DataW.trod_int h4 g4
    obtain ⟨n5, e5, _, w5⟩ := DataW.trod_int h5 g5
    obtain ⟨n6, e6, _⟩ := DataW.trod_bool h6 g6
    obtain ⟨n7, e7, _, w7⟩ := DataW.trod_string h7 g7
    simp at e0 e1 e2 e3 e4 e5 e6 e7
    subst e0
    subst e1
    subst e2
    subst e3
    subst e4
    subst e5
    subst e6
    subst e7
    have b0 := bounds_u8 w0
    have b1 := bounds_i64 w1
    have b2 := bounds_u64 w2
    have b3 := bounds_i64 w3
    have b4 := bounds_i64 w4
    have b5 := bounds_i64 w5
    refine ⟨⟨n0.toNat, n1, n2.toNat, n3, n4, n5, n6, n7.data.toList⟩, ⟨by show n0.toNat < 256; omega, ⟨b1.1, b1.2⟩, by show n2.toNat ≤ _; omega, ⟨b3.1, b3.2⟩, ⟨b4.1, b4.2⟩, ⟨b5.1, b5.2⟩⟩, ?_, by show Value.int _ _ = Value.int _ ((n0.toNat : Nat) : Int); rw [Int.toNat_of_nonneg b0.1], rfl, by show Value.int _ _ = Value.int _ ((n2.toNat : Nat) : Int); rw [Int.toNat_of_nonneg b2.1], rfl, rfl, rfl, rfl, by show Value.string _ = Value.string (mkB n7.data.toList); rw [mkB_data7]⟩
    show n7.data.toList.length ≤ 9223372036854775807
    have h7 : n7.data.toList.length = n7.size := by rw [Array.length_toList]; rfl
    rw [h7]
    exact w7
set_option maxRecDepth 100000 in
/-- A record by value. -/
theorem arg_rec {f0 f1 f2 f3 f4 f5 f6 f7 : Field} (he : Tryd.prog.underlying t = some (.struct #[f0, f1, f2, f3, f4, f5, f6, f7])) (hone : oneCellFields Tryd.prog #[f0, f1, f2, f3, f4, f5, f6, f7] = true) (ce : Tryd.prog.cellsOf t = 8)
    (h0 : Tryd.prog.underlying f0.type = some (.int .u8))
    (h1 : Tryd.prog.underlying f1.type = some (.int .i64))
    (h2 : Tryd.prog.underlying f2.type = some (.int .u64))
    (h3 : Tryd.prog.underlying f3.type = some (.int .i64))
    (h4 : Tryd.prog.underlying f4.type = some (.int .i64))
    (h5 : Tryd.prog.underlying f5.type = some (.int .i64))
    (h6 : Tryd.prog.underlying f6.type = some .bool)
    (h7 : Tryd.prog.underlying f7.type = some .string)
    (hv : Value.okWide Tryd.prog W .any base t v) (h : DataW.Trod enc Tryd.prog W 0 (fun _ => true) true t v d p) :
    ∃ m : Rec, v = .agg #[.int .u8 (m.kind : Int), .int .i64 m.src, .int .u64 (m.seq : Int), .int .i64 m.at_, .int .i64 m.num, .int .i64 m.code, .bool m.yes, .string (mkB m.text)] ∧ m.In ∧ m.text.length ≤ 9223372036854775807 := by
  obtain ⟨cs, rfl, hsz⟩ := okWide_struct he hv
  obtain ⟨fuel, hf⟩ := h
  obtain ⟨cs⟩ := cs
  match cs, hsz.trans ce with
  | [x0, x1, x2, x3, x4, x5, x6, x7], _ =>
    obtain ⟨m, hm, ht, rfl, rfl, rfl, rfl, rfl, rfl, rfl, rfl⟩ := rec_fields he hone h0 h1 h2 h3 h4 h5 h6 h7 (by simpa [Value.cells] using hf)
    exact ⟨m, rfl, hm, ht⟩
set_option maxRecDepth 100000 in
/-- Slices of records. -/
theorem arg_recs {s : TypeId} {f0 f1 f2 f3 f4 f5 f6 f7 : Field} (hs : Tryd.prog.underlying s = some (.slice t)) (he : Tryd.prog.underlying t = some (.struct #[f0, f1, f2, f3, f4, f5, f6, f7])) (hone : oneCellFields Tryd.prog #[f0, f1, f2, f3, f4, f5, f6, f7] = true) (ce : Tryd.prog.cellsOf t = 8)
    (h0 : Tryd.prog.underlying f0.type = some (.int .u8))
    (h1 : Tryd.prog.underlying f1.type = some (.int .i64))
    (h2 : Tryd.prog.underlying f2.type = some (.int .u64))
    (h3 : Tryd.prog.underlying f3.type = some (.int .i64))
    (h4 : Tryd.prog.underlying f4.type = some (.int .i64))
    (h5 : Tryd.prog.underlying f5.type = some (.int .i64))
    (h6 : Tryd.prog.underlying f6.type = some .bool)
    (h7 : Tryd.prog.underlying f7.type = some .string)
    (hv : Value.okWide Tryd.prog W .any base s v) (h : DataW.Trod enc Tryd.prog W 0 (fun _ => true) true s v d p) :
    ∃ (A : Option Addr) (c : Nat) (ms : List Rec), v = .slice A ms.length c ∧ RecsIn W v ms ∧ (∀ m ∈ ms, m.In) ∧ ∀ m ∈ ms, m.text.length ≤ 9223372036854775807 := by
  obtain ⟨A, len, c, rfl, hc, hA, hd, hx⟩ := arg_slice (by omega) hs ce hv h
  have each : ∀ i, i < len → ∃ q : Rec, q.In ∧ q.text.length ≤ 9223372036854775807 ∧ ∃ b off, A = some ⟨b, off, none⟩ ∧ b < W.heap.size ∧ ∀ k, k < 8 → W.cell? ⟨b, off + (i * 8 + k), none⟩ = (recc q)[k]? := by
    intro i hi
    obtain ⟨b, off, n, cs', y, rfl, hb, hl, hcell, htr⟩ := hx i hi
    match cs', hl with
    | [x0, x1, x2, x3, x4, x5, x6, x7], _ =>
      obtain ⟨m, hm, ht, rfl, rfl, rfl, rfl, rfl, rfl, rfl, rfl⟩ := rec_fields he hone h0 h1 h2 h3 h4 h5 h6 h7 htr
      exact ⟨m, hm, ht, b, off, rfl, hb, fun k hk => hcell k hk⟩
  haveI : Inhabited Rec := ⟨noRec⟩
  obtain ⟨q, hq⟩ := choose_lt each
  have hlen : ((List.range len).map q).length = len := by simp
  refine ⟨A, c, (List.range len).map q, by rw [hlen], ⟨A, c, by rw [hlen], fun i hi => ?_⟩, fun m hm => ?_, fun m hm => ?_⟩
  · have hi2 : i < len := by rwa [hlen] at hi
    obtain ⟨_, _, b, off, e, hb, hk⟩ := hq i hi2
    have h1 : ∀ k, k < 8 → W.cell? ⟨b, off + i * 8 + k, none⟩ = (recc (q i))[k]? := fun k hk8 => by rw [Nat.add_assoc]; exact hk k hk8
    refine ⟨b, off, e, hb, ?_⟩
    have e2 : ((List.range len).map q)[i] = q i := by simp
    rw [e2]
    exact ⟨h1 0 (by omega), h1 1 (by omega), h1 2 (by omega), h1 3 (by omega), h1 4 (by omega), h1 5 (by omega), h1 6 (by omega), h1 7 (by omega)⟩
  · obtain ⟨i, hi, rfl⟩ := List.mem_map.1 hm
    exact (hq i (List.mem_range.1 hi)).1
  · obtain ⟨i, hi, rfl⟩ := List.mem_map.1 hm
    exact (hq i (List.mem_range.1 hi)).2.1
end
end Go.Proofs.YthnkiabhfcddaaaDoor
