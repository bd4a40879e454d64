/-
  Layer 6's laws' arguments out of their readings as data: a message by value, slices of messages.
-/
import Derived.Test.YtiflpjdiokloaaaDoorArgsSlice
import Derived.Test.YtiflpjdiokloaaaDoorPackI
import Derived.Test.YtiflpjdiokloaaaDoorArgsProps
namespace Go.Proofs.YtiflpjdiokloaaaDoor
open Go.ChangeShapes Go.WideShapes Go.ChangeAt Go.RowKit Go.Deep Go.Joins
set_option linter.unusedVariables false

section
variable {H : Type} {enc : TypeId × Value → H} {W : World} {base : Nat} {t e u : TypeId} {v : Value} {d : DataW H} {p : List MemPlace}
set_option maxRecDepth 100000 in
/-- A slice within another value, element by element. -/
theorem slice_trod {z fuel : Nat} {x : Value} {y : DataW H × List MemPlace} (hz : 0 < z) (ht : Tryd.prog.underlying t = some (.slice e)) (ce : Tryd.prog.cellsOf e = z)
    (hf : DataW.trod enc Tryd.prog W 0 (fun _ => true) true fuel t [x] = some y) : ∃ (A : Option Addr) (len c : Nat), x = .slice A len c ∧ len ≤ c ∧ (A = none → c = 0) ∧
      ∀ i, i < len → ∃ (b off n : Nat) (cs' : List Value) (y : DataW H × List MemPlace), A = some ⟨b, off, none⟩ ∧ b < W.heap.size ∧ cs'.length = z ∧ (∀ j (hj : j < z), W.cell? ⟨b, off + (i * z + j), none⟩ = cs'[j]?) ∧ DataW.trod enc Tryd.prog W 0 (fun _ => true) true n e cs' = some y := by
  rcases open_slice ht hf with ⟨hcs, _⟩ | ⟨a, len, cap, m, n, D, Pl, hcs, _, hl, hm, hmm, hd, hx⟩
  · simp at hcs
    subst hcs
    exact ⟨none, 0, 0, rfl, Nat.le_refl _, fun _ => rfl, fun i hi => by omega⟩
  · simp at hcs
    subst hcs
    have hm2 : m = cap := by simpa using hmm
    refine ⟨some a, len, cap, rfl, hl, fun h => (by cases h), fun i hi => ?_⟩
    obtain ⟨cs0, h10, _⟩ := hx 0 (by omega)
    rw [ce] at h10
    obtain ⟨_, hlen0, hcell0⟩ := World.cells?_some h10
    have h0 := hcell0 0 hz
    rw [add_add, List.getElem?_eq_getElem (show 0 < cs0.length by omega)] at h0
    have h0' : W.cell? a = some cs0[0] := by simpa [Addr.add] using h0
    have hb := World.block_lt_of_cell? _ _ h0'
    obtain ⟨b, off, spot⟩ := a
    obtain rfl : spot = none := World.cell?_spot h0'
    obtain ⟨cs', h1, h2⟩ := hx i (by omega)
    rw [ce] at h1
    obtain ⟨_, hlen, hcell⟩ := World.cells?_some h1
    refine ⟨b, off, n, cs', _, rfl, hb, hlen, fun j hj => ?_, h2⟩
    have hj' := hcell j hj
    rw [add_add, Addr.add_lit] at hj'
    exact hj'
set_option maxRecDepth 100000 in
/-- A slice of propositions within another value. -/
theorem props_trod {f0 f1 : Field} {fuel : Nat} {x : Value} {y : DataW H × List MemPlace} (ht : Tryd.prog.underlying t = some (.slice e)) (he : Tryd.prog.underlying e = some (.struct #[f0, f1])) (hone : oneCellFields Tryd.prog #[f0, f1] = true) (ce : Tryd.prog.cellsOf e = 2)
    (h0 : Tryd.prog.underlying f0.type = some .string) (h1 : Tryd.prog.underlying f1.type = some (.int .i64))
    (hf : DataW.trod enc Tryd.prog W 0 (fun _ => true) true fuel t [x] = some y) : ∃ ls : List Pr, Props W W.heap.size x ls ∧ ∀ q ∈ ls, -9223372036854775808 ≤ q.val ∧ q.val ≤ 9223372036854775807 := by
  obtain ⟨A, len, c, rfl, hc, hA, hx⟩ := slice_trod (by omega) ht ce hf
  have each : ∀ i, i < len → ∃ q : Pr, (∀ b off, A = some ⟨b, off, none⟩ → W.cell? ⟨b, off + i * 2, none⟩ = some (.string (mkB q.name)) ∧ W.cell? ⟨b, off + (i * 2 + 1), none⟩ = some (.int .i64 q.val)) ∧ -9223372036854775808 ≤ q.val ∧ q.val ≤ 9223372036854775807 := by
    intro i hi
    obtain ⟨b, off, n, cs', y, rfl, hb, hl, hcell, htr⟩ := hx i hi
    obtain ⟨ys, n', _, _, _, hyl, hf⟩ := DataW.trod_struct he htr
    match cs', hl with
    | [x0, x1], _ =>
      obtain ⟨o0, k0⟩ := hone_of hone 0 f0 rfl
      obtain ⟨o1, k1⟩ := hone_of hone 1 f1 rfl
      have g0 := hf 0 f0 rfl
      have g1 := hf 1 f1 rfl
      rw [o0, k0] at g0
      rw [o1, k1] at g1
      match ys, hyl with
      | [y0, y1], _ =>
        simp at g0 g1
        obtain ⟨s0, e0, _, w0⟩ := DataW.trod_string h0 g0
        obtain ⟨n1, e1, _, w1⟩ := DataW.trod_int h1 g1
        simp at e0 e1
        subst e0
        subst e1
        have c0 := hcell 0 (by omega)
        have c1 := hcell 1 (by omega)
        have b1 := bounds_i64 w1
        refine ⟨⟨s0.data.toList, n1⟩, fun b' off' e => ?_, b1.1, b1.2⟩
        simp only [Option.some.injEq, Addr.mk.injEq] at e
        obtain ⟨rfl, rfl, _⟩ := e
        dsimp only
        rw [mkB_data2]
        exact ⟨by simpa using c0, by simpa using c1⟩
  haveI : Inhabited Pr := ⟨⟨[], 0⟩⟩
  obtain ⟨q, hq⟩ := choose_lt each
  have hlen : ((List.range len).map q).length = len := by simp
  refine ⟨(List.range len).map q, ⟨prC_length _, ?_⟩, fun x hx => ?_⟩
  · rw [hlen]
    by_cases h0 : len = 0
    · subst h0
      exact .inl ⟨rfl, A, c, rfl, hA⟩
    · obtain ⟨b, off, n, cs', y, rfl, hb, _⟩ := hx 0 (by omega)
      refine .inr ⟨b, off, c, rfl, hc, hb, fun i u hu => ?_⟩
      have hi : i < len * 2 := by have h := (List.getElem?_eq_some_iff.1 hu).1; rw [prC_length, hlen] at h; exact h
      have hi2 : i / 2 < len := by omega
      obtain ⟨q0, q1⟩ := prC_at ((List.range len).map q) (i / 2) (by rw [hlen]; exact hi2)
      have hq' := (hq (i / 2) hi2).1 b off rfl
      by_cases hp : i % 2 = 0
      · rw [show i = i / 2 * 2 by omega] at hu ⊢
        rw [q0] at hu
        rw [hq'.1, ← hu]
        simp
      · rw [show i = i / 2 * 2 + 1 by omega] at hu ⊢
        rw [q1] at hu
        rw [hq'.2, ← hu]
        simp
  · obtain ⟨i, hi, rfl⟩ := List.mem_map.1 hx
    exact (hq i (List.mem_range.1 hi)).2
set_option maxRecDepth 100000 in
/-- The four fields of a message. -/
theorem msg_fields {f0 f1 f2 f3 g0 g1 : Field} {fs : Array Field} {n : Nat} {x0 x1 x2 x3 : Value} {y : DataW H × List MemPlace} (he : Tryd.prog.underlying t = some (.struct #[f0, f1, f2, f3])) (hone : oneCellFields Tryd.prog #[f0, f1, f2, f3] = true)
    (h0 : Tryd.prog.underlying f0.type = some (.int .u8)) (h1 : Tryd.prog.underlying f1.type = some (.int .u64)) (h2 : Tryd.prog.underlying f2.type = some (.int .i64)) (h3 : Tryd.prog.underlying f3.type = some (.slice e))
    (hp : Tryd.prog.underlying e = some (.struct #[g0, g1])) (hpone : oneCellFields Tryd.prog #[g0, g1] = true) (cp : Tryd.prog.cellsOf e = 2) (p0 : Tryd.prog.underlying g0.type = some .string) (p1 : Tryd.prog.underlying g1.type = some (.int .i64))
    (hf : DataW.trod enc Tryd.prog W 0 (fun _ => true) true n t [x0, x1, x2, x3] = some y) :
    ∃ m : Msg, m.In ∧ x0 = .int .u8 (m.kind : Int) ∧ x1 = .int .u64 (m.seq : Int) ∧ x2 = .int .i64 m.at_ ∧ Props W W.heap.size x3 m.props := by
  obtain ⟨ys, n', _, _, _, hyl, hf⟩ := DataW.trod_struct he hf
  match ys, hyl with
  | [y0, y1, y2, y3], _ =>
    obtain ⟨o0, k0⟩ := hone_of hone 0 f0 rfl
    obtain ⟨o1, k1⟩ := hone_of hone 1 f1 rfl
    obtain ⟨o2, k2⟩ := hone_of hone 2 f2 rfl
    obtain ⟨o3, k3⟩ := hone_of hone 3 f3 rfl
    have g0 := hf 0 f0 rfl
    have g1 := hf 1 f1 rfl
    have g2 := hf 2 f2 rfl
    have g3 := hf 3 f3 rfl
    rw [o0, k0] at g0
    rw [o1, k1] at g1
    rw [o2, k2] at g2
    rw [o3, k3] at g3
    simp at g0 g1 g2 g3
    obtain ⟨n0, e0, _, w0⟩ := DataW.trod_int h0 g0
    obtain ⟨n1, e1, _, w1⟩ := DataW.trod_int h1 g1
    obtain ⟨n2, e2, _, w2⟩ := DataW.trod_int h2 g2
    simp at e0 e1 e2
    subst e0
    subst e1
    subst e2
    obtain ⟨l, hl, hb⟩ := props_trod h3 hp hpone cp p0 p1 g3
    have b0 := bounds_u8 w0
    have b1 := bounds_u64 w1
    have b2 := bounds_i64 w2
    exact ⟨⟨n0.toNat, n1.toNat, n2, l⟩, ⟨by show n0.toNat < 256; omega, by show n1.toNat ≤ _; omega, ⟨b2.1, b2.2⟩, hb⟩, by show Value.int _ _ = Value.int _ ((n0.toNat : Nat) : Int); rw [Int.toNat_of_nonneg b0.1], by show Value.int _ _ = Value.int _ ((n1.toNat : Nat) : Int); rw [Int.toNat_of_nonneg b1.1], rfl, hl⟩
set_option maxRecDepth 100000 in
/-- A message by value. -/
theorem arg_msg {f0 f1 f2 f3 g0 g1 : Field} (he : Tryd.prog.underlying t = some (.struct #[f0, f1, f2, f3])) (hone : oneCellFields Tryd.prog #[f0, f1, f2, f3] = true) (ce : Tryd.prog.cellsOf t = 4)
    (h0 : Tryd.prog.underlying f0.type = some (.int .u8)) (h1 : Tryd.prog.underlying f1.type = some (.int .u64)) (h2 : Tryd.prog.underlying f2.type = some (.int .i64)) (h3 : Tryd.prog.underlying f3.type = some (.slice e))
    (hp : Tryd.prog.underlying e = some (.struct #[g0, g1])) (hpone : oneCellFields Tryd.prog #[g0, g1] = true) (cp : Tryd.prog.cellsOf e = 2) (p0 : Tryd.prog.underlying g0.type = some .string) (p1 : Tryd.prog.underlying g1.type = some (.int .i64))
    (hv : Value.okWide Tryd.prog W .any base t v) (h : DataW.Trod enc Tryd.prog W 0 (fun _ => true) true t v d p) :
    ∃ (m : Msg) (A : Option Addr) (n c : Nat), v = .agg #[.int .u8 (m.kind : Int), .int .u64 (m.seq : Int), .int .i64 m.at_, .slice A n c] ∧ m.In ∧ Props W W.heap.size (.slice A n c) m.props := by
  obtain ⟨cs, rfl, hsz⟩ := okWide_struct he hv
  obtain ⟨fuel, hf⟩ := h
  obtain ⟨cs⟩ := cs
  match cs, hsz.trans ce with
  | [x0, x1, x2, x3], _ =>
    obtain ⟨m, hm, rfl, rfl, rfl, hpr⟩ := msg_fields (fs := #[]) he hone h0 h1 h2 h3 hp hpone cp p0 p1 (by simpa [Value.cells] using hf)
    obtain ⟨A, c, rfl, _⟩ := hpr.open_
    exact ⟨m, A, _, c, rfl, hm, hpr⟩
set_option maxRecDepth 100000 in
/-- Slices of messages. -/
theorem arg_msgs {s : TypeId} {f0 f1 f2 f3 g0 g1 : Field} (hs : Tryd.prog.underlying s = some (.slice t)) (he : Tryd.prog.underlying t = some (.struct #[f0, f1, f2, f3])) (hone : oneCellFields Tryd.prog #[f0, f1, f2, f3] = true) (ce : Tryd.prog.cellsOf t = 4)
    (h0 : Tryd.prog.underlying f0.type = some (.int .u8)) (h1 : Tryd.prog.underlying f1.type = some (.int .u64)) (h2 : Tryd.prog.underlying f2.type = some (.int .i64)) (h3 : Tryd.prog.underlying f3.type = some (.slice e))
    (hp : Tryd.prog.underlying e = some (.struct #[g0, g1])) (hpone : oneCellFields Tryd.prog #[g0, g1] = true) (cp : Tryd.prog.cellsOf e = 2) (p0 : Tryd.prog.underlying g0.type = some .string) (p1 : Tryd.prog.underlying g1.type = some (.int .i64))
    (hv : Value.okWide Tryd.prog W .any base s v) (h : DataW.Trod enc Tryd.prog W 0 (fun _ => true) true s v d p) :
    ∃ ms : List Msg, MsgsIn W W.heap.size v ms ∧ ∀ m ∈ ms, m.In := by
  obtain ⟨A, len, c, rfl, hc, hA, hd, hx⟩ := arg_slice (by omega) hs ce hv h
  have each : ∀ i, i < len → ∃ q : Msg, q.In ∧ ∃ b off u, A = some ⟨b, off, none⟩ ∧ MsgLies W W.heap.size b (off + i * 4) q u := by
    intro i hi
    obtain ⟨b, off, n, cs', y, rfl, hb, hl, hcell, htr⟩ := hx i hi
    match cs', hl with
    | [x0, x1, x2, x3], _ =>
      obtain ⟨m, hm, rfl, rfl, rfl, hpr⟩ := msg_fields (fs := #[]) he hone h0 h1 h2 h3 hp hpone cp p0 p1 htr
      have c0 := hcell 0 (by omega)
      have c1 := hcell 1 (by omega)
      have c2 := hcell 2 (by omega)
      have c3 := hcell 3 (by omega)
      exact ⟨m, hm, b, off, x3, rfl, hb, by simpa using c0, by rw [← Nat.add_assoc] at c1; simpa using c1, by rw [← Nat.add_assoc] at c2; simpa using c2, by rw [← Nat.add_assoc] at c3; simpa using c3, hpr⟩
  haveI : Inhabited Msg := ⟨⟨0, 0, 0, []⟩⟩
  obtain ⟨q, hq⟩ := choose_lt each
  have hlen : ((List.range len).map q).length = len := by simp
  refine ⟨(List.range len).map q, ⟨A, c, by rw [hlen], fun i hi => ?_⟩, fun m hm => ?_⟩
  · have hi2 : i < len := by rwa [hlen] at hi
    obtain ⟨_, b, off, u, e1, hl⟩ := hq i hi2
    exact ⟨b, off, u, e1, by simpa using hl⟩
  · obtain ⟨i, hi, rfl⟩ := List.mem_map.1 hm
    exact (hq i (List.mem_range.1 hi)).1
end
end Go.Proofs.YtiflpjdiokloaaaDoor
