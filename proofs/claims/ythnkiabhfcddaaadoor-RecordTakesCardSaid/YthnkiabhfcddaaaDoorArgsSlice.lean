/-
  A law's argument that is a slice, element by element, out of its reading as data.
-/
import Derived.Test.YthnkiabhfcddaaaDoorArgs
import Derived.Deep.Slices
import Derived.Deep.Fields
import Derived.ChangeSame
import Derived.SizedLaws
namespace Go.Proofs.YthnkiabhfcddaaaDoor
open Go.ChangeShapes Go.WideShapes Go.ChangeAt Go.RowKit Go.Deep
set_option linter.unusedVariables false

section
variable {H : Type} {enc : TypeId × Value → H} {W : World} {base : Nat} {t e u : TypeId} {v : Value} {d : DataW H} {p : List MemPlace}
/-- What an argument's slice is as a datum. -/
def SlicedAs (d : DataW H) (n : Nat) : Prop := n = 0 ∨ ∃ es sp, d = .slice es sp ∧ es.length = n
set_option maxRecDepth 100000 in
theorem SlicedAs.le {P : Program} {ts : List TypeId} {ds : List (DataW H)} {n : Nat} (h : SlicedAs d n) (hsz : (DataW.weightsEach P ts ds).all (· ≤ reachBytes) = true) {j : Nat} {t e : TypeId} (ht : ts[j]? = some t) (hd : ds[j]? = some d) (hu : P.underlying t = some (.slice e)) (hb : 0 < P.bytesOf e) : n ≤ 4611686018427387904 := by
  rcases h with rfl | ⟨es, sp, rfl, rfl⟩
  · omega
  · have h1 := sized_slice hsz ht hd hu
    have h2 := reachBytes_lt
    have h3 := Nat.le_mul_of_pos_right (es.length + sp.length) hb
    omega
set_option maxRecDepth 100000 in
theorem arg_slice {z : Nat} (hz : 0 < z) (ht : Tryd.prog.underlying t = some (.slice e)) (ce : Tryd.prog.cellsOf e = z) (hv : Value.okWide Tryd.prog W .any base t v)
    (h : DataW.Trod enc Tryd.prog W 0 (fun _ => true) true t v d p) : ∃ (A : Option Addr) (len c : Nat), v = .slice A len c ∧ len ≤ c ∧ (A = none → c = 0) ∧ SlicedAs d len ∧
      ∀ i, i < len → ∃ (b off n : Nat) (cs' : List Value) (y : DataW H × List MemPlace), A = some ⟨b, off, none⟩ ∧ b < W.heap.size ∧ cs'.length = z ∧ (∀ j (hj : j < z), W.cell? ⟨b, off + (i * z + j), none⟩ = cs'[j]?) ∧ DataW.trod enc Tryd.prog W 0 (fun _ => true) true n e cs' = some y := by
  obtain ⟨a0, len0, cap0, rfl⟩ := okWide_slice ht hv
  obtain ⟨fuel, hf⟩ := h
  rcases open_slice ht hf with ⟨hcs, _⟩ | ⟨a, len, cap, m, n, D, Pl, hcs, _, hl, hm, hmm, hd, hx⟩
  · simp [Value.cells] at hcs
    obtain ⟨rfl, rfl, rfl⟩ := hcs
    exact ⟨none, 0, 0, rfl, Nat.le_refl _, fun _ => rfl, .inl rfl, fun i hi => by omega⟩
  · simp [Value.cells] at hcs
    obtain ⟨rfl, rfl, rfl⟩ := hcs
    have hm2 : m = cap0 := by simpa using hmm
    simp only [Prod.mk.injEq] at hd
    refine ⟨some a, len0, cap0, rfl, hl, fun h => (by cases h), .inr ⟨_, _, hd.1, by simp⟩, fun i hi => ?_⟩
    obtain ⟨cs0, h10, _⟩ := hx 0 (by omega)
    rw [ce] at h10
    obtain ⟨_, hlen0, hcell0⟩ := World.cells?_some h10
    have h0 := hcell0 0 hz
    rw [add_add, List.getElem?_eq_getElem (show 0 < cs0.length by omega)] at h0
    have h0' : W.cell? a = some cs0[0] := by simpa [Addr.add] using h0
    have hb := World.block_lt_of_cell? _ _ h0'
    obtain ⟨b, off, spot⟩ := a
    obtain rfl : spot = none := World.cell?_spot h0'
    obtain ⟨cs', h1, h2⟩ := hx i (by omega)
    rw [ce] at h1
    obtain ⟨_, hlen, hcell⟩ := World.cells?_some h1
    refine ⟨b, off, n, cs', _, rfl, hb, hlen, fun j hj => ?_, h2⟩
    have hj' := hcell j hj
    rw [add_add, Addr.add_lit] at hj'
    exact hj'
end
end Go.Proofs.YthnkiabhfcddaaaDoor
