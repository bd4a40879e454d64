/-
  A law's argument of pairs of bytes, out of its reading as data.
-/
import Derived.Test.YtegipekekdpenaaDoorArgs
import Derived.Test.YtegipekekdpenaaDoorBlob
import Derived.Test.YtegipekekdpenaaDoorFlat
import Derived.Deep.Slices
namespace Go.Proofs.YtegipekekdpenaaDoor
open Go.ChangeShapes Go.WideShapes Go.ChangeAt Go.RowKit Go.Deep
set_option linter.unusedVariables false

section
variable {H : Type} {enc : TypeId × Value → H} {W : World} {base : Nat} {t e u : TypeId} {v : Value} {d : DataW H} {p : List MemPlace}
theorem arg_flat (ht : Tryd.prog.underlying t = some (.slice e)) (he : Tryd.prog.underlying e = some (.array 2 u)) (hu : Tryd.prog.underlying u = some (.int .u8)) (ce : Tryd.prog.cellsOf e = 2) (cu : Tryd.prog.cellsOf u = 1) (hv : Value.okWide Tryd.prog W .any base t v)
    (h : DataW.Trod enc Tryd.prog W 0 (fun _ => true) true t v d p) :
    ∃ (A : Option Addr) (c : Nat) (ps : List (UInt8 × UInt8)), v = .slice A ps.length c ∧ ps.length ≤ c ∧ (A = none → c = 0) ∧ Row W W.heap.size A (bc (flat ps)) := by
  obtain ⟨a0, len0, cap0, rfl⟩ := okWide_slice ht hv
  obtain ⟨fuel, hf⟩ := h
  rcases open_slice ht hf with ⟨hcs, _⟩ | ⟨a, len, cap, m, n, D, Pl, hcs, _, hl, hm, hmm, _, hx⟩
  · simp [Value.cells] at hcs
    obtain ⟨rfl, rfl, rfl⟩ := hcs
    exact ⟨none, 0, [], rfl, Nat.le_refl _, fun _ => rfl, fun hne => absurd rfl hne⟩
  · simp [Value.cells] at hcs
    obtain ⟨rfl, rfl, rfl⟩ := hcs
    have hm2 : m = cap0 := by simpa using hmm
    have each : ∀ i, i < len0 → ∃ q : UInt8 × UInt8, W.cell? (a.add (i * 2)) = some (.int .u8 (q.1.toNat : Int)) ∧ W.cell? (a.add (i * 2 + 1)) = some (.int .u8 (q.2.toNat : Int)) := by
      intro i hi
      obtain ⟨cs', h1, h2⟩ := hx i (by omega)
      rw [ce] at h1
      obtain ⟨_, hlen, hcell⟩ := World.cells?_some h1
      obtain ⟨xs, k, _, _, _, hxl, hel⟩ := DataW.trod_array he h2
      match xs, hxl, cs', hlen with
      | [y0, y1], _, [v0, v1], _ =>
        have g0 := hel 0 (by omega)
        have g1 := hel 1 (by omega)
        simp [cu] at g0 g1
        obtain ⟨n0, e0, _, w0⟩ := DataW.trod_int hu g0
        obtain ⟨n1, e1, _, w1⟩ := DataW.trod_int hu g1
        simp at e0 e1
        subst e0; subst e1
        have b0 := bounds_u8 w0
        have b1 := bounds_u8 w1
        have c0 := hcell 0 (by omega)
        have c1 := hcell 1 (by omega)
        rw [add_add] at c0 c1
        have k0 : ((UInt8.ofNat n0.toNat).toNat : Int) = n0 := by rw [u8_nat _ (by omega)]; omega
        have k1 : ((UInt8.ofNat n1.toNat).toNat : Int) = n1 := by rw [u8_nat _ (by omega)]; omega
        exact ⟨(UInt8.ofNat n0.toNat, UInt8.ofNat n1.toNat), by dsimp only; rw [k0]; simpa using c0, by dsimp only; rw [k1]; simpa using c1⟩
    obtain ⟨q, hq⟩ := choose_lt each
    have hlen : ((List.range len0).map q).length = len0 := by simp
    refine ⟨some a, cap0, (List.range len0).map q, by rw [hlen], by omega, fun h => (by cases h), row_of_cells fun i u hu => ?_⟩
    have hi : i < 2 * len0 := by
      have := (List.getElem?_eq_some_iff.1 hu).1
      rw [bc_length, flat_length, hlen] at this
      exact this
    have hk : i / 2 < ((List.range len0).map q).length := by rw [hlen]; omega
    obtain ⟨f0, f1⟩ := flat_get ((List.range len0).map q) (i / 2) hk
    obtain ⟨q0, q1⟩ := hq (i / 2) (by omega)
    have hqe : ((List.range len0).map q)[i / 2] = q (i / 2) := by simp
    rw [hqe] at f0 f1
    by_cases hp : i % 2 = 0
    · have e : i = 2 * (i / 2) := by omega
      have e2 : a.add i = a.add (i / 2 * 2) := by congr 1; omega
      rw [e2, q0, ← hu]
      conv => rhs; rw [e]
      simp [bc, f0]
    · have e : i = 2 * (i / 2) + 1 := by omega
      have e2 : a.add i = a.add (i / 2 * 2 + 1) := by congr 1; omega
      rw [e2, q1, ← hu]
      conv => rhs; rw [e]
      simp [bc, f1]
end
end Go.Proofs.YtegipekekdpenaaDoor
