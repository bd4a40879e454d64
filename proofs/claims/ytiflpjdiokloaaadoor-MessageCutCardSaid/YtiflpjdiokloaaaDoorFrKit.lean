/-
  Layer 4, of no reference: what size, pass and told answer, over lists; a decoder's state; items as cells.
-/
import Derived.Test.YtiflpjdiokloaaaDoorPackM
import Derived.Test.YtiflpjdiokloaaaDoorPackL
import Derived.Test.YtiflpjdiokloaaaDoorPackG
import Derived.Test.YtiflpjdiokloaaaDoorPackA
import Derived.Deep.QuietTactic
import Derived.BigQuiet
import Derived.Laws.DeepStrings4
namespace Go.Proofs.YtiflpjdiokloaaaDoor
open Go.RowKit
set_option linter.unusedVariables false
/-- The reference's items as cells. -/
def itc (x : It) : List Value := [.int .i64 (x.skip : Int), .int .u8 (x.kind.toNat : Int), .string (mkB x.body)]
def itC (l : List It) : List Value := l.flatMap itc
theorem itC_length (l : List It) : (itC l).length = l.length * 3 := by
  induction l with
  | nil => rfl
  | cons x l ih => simp only [itC, List.flatMap_cons, List.length_append, List.length_cons] at ih ⊢; rw [ih]; simp [itc]; omega
theorem itC_append (a b : List It) : itC (a ++ b) = itC a ++ itC b := by simp [itC]
theorem itC_one (l : List It) : ∀ y ∈ itC l, y.oneCell' = true := by
  intro y hy
  obtain ⟨x, _, hx⟩ := List.mem_flatMap.1 hy
  simp [itc] at hx
  rcases hx with rfl | rfl | rfl <;> rfl
/-- A slice of items. -/
def SeqI (w : World) (B : Nat) (v : Value) (l : List It) : Prop := Seq w B 3 v l.length (itC l)
theorem skip_cells (k : Nat) (hk : 0 < k) : itC (skipI k) = [.int .i64 (k : Int), .int .u8 0, .string ⟨#[]⟩] := by
  unfold skipI; rw [if_pos hk]; rfl
/-- What size answers. -/
def szI : Sz → Int
  | .no => 0
  | .wait => -1
  | .frame n => (n : Int) + 7

theorem below_drewN {W w : World} (h : Below W.heap.size W w) (n : Nat) : Below W.heap.size W (w.drewN n) := ⟨h.os, h.tape, h.output, h.size, h.block⟩
theorem toList_get (t : ByteArray) (c : UInt8) (r : List UInt8) (h : t.data.toList = c :: r) (i : Nat) (hi : i < t.size) : t[i] = (c :: r).getD i 0 := by
  have e : t.data.toList.getD i 0 = t[i] := by
    have hi2 : i < t.data.toList.length := by rw [size_toList]; exact hi
    have hd : t.data[i]? = some t[i] := Array.getElem?_eq_getElem (show i < t.data.size from hi)
    simp [List.getD, hd]
  rw [← e, h]

theorem size_facts (n s : Nat) (hb : ¬ (256 : Int) < (n : Int)) (q5 : ¬ (s : Int) < (n : Int) + 7) :
    IntKind.i64.wrap ((n : Int) + 7) = (n : Int) + 7 ∧ (0 ≤ (n : Int) + 7 ∧ (n : Int) + 7 ≤ (s : Int)) ∧ ((0 : Int) ≤ 1 ∧ (1 : Int) ≤ (n : Int) + 7) ∧ ((n : Int) + 7).toNat = n + 7 :=
  ⟨IntWalk.i64_in _ (by omega), by omega, by omega, by omega⟩
def strLen (w : World) (g : Nat) : Nat := match w.cell? ⟨g, 0, none⟩ with | some (.string t) => t.size | _ => 0
section
variable {w wr : World} {ov : Bool} {s0 s : List UInt8} {k0 k : Nat} {l0 l : List It} {t : ByteArray} {v0 v : Value}
end

theorem mkB_of {t : ByteArray} {s : List UInt8} (h : t.data.toList = s) : t = mkB s := by subst h; rfl
theorem empty_not {t : ByteArray} (h : t.data.toList = []) : (!t.toList.isEmpty) = false := by rw [ByteArray.toList_eq, h]; rfl
theorem empty_yes {t : ByteArray} {c : UInt8} {r : List UInt8} (h : t.data.toList = c :: r) : (!t.toList.isEmpty) = true := by rw [ByteArray.toList_eq, h]; rfl

/-- A slice lies where another one lay, or in a block from n on. -/
def From (v0 v : Value) (n : Nat) : Prop := ∀ b, v.ownBlock = some b → v0.ownBlock = some b ∨ n ≤ b
/-- What pass leaves. -/
def PassDid (ov : Bool) (v0 : Value) (s0 : List UInt8) (k0 : Nat) (l0 : List It) (w : World) (e : Ending) (w' : World) : Prop := ∃ v', e = .returned (.agg #[.string (mkB (passF ov s0 k0).1), .int .i64 ((passF ov s0 k0).2.1 : Int), v', .bool ov]) ∧ SeqI w' w'.heap.size v' (l0 ++ (passF ov s0 k0).2.2) ∧ From v0 v' w.heap.size ∧ Below w.heap.size w w'
theorem skipI_length (k : Nat) : (skipI k).length ≤ 1 := by unfold skipI; split <;> simp
theorem frame_cells {t : ByteArray} {ch : UInt8} {r : List UInt8} {m : Nat} {x1 : Int} {x : It} (h : t.data.toList = ch :: r) (hm : m + 7 ≤ t.size) (hx1 : (t[1].toNat : Int) = x1) (hx : x = ⟨0, kindF (ch :: r), bodyF (ch :: r) m⟩) :
    [Value.int IntKind.i64 0, Value.int IntKind.u8 x1, Value.string (t.extract 4 (m + 4))] = itC [x] := by
  subst hx
  have e1 : t[1] = kindF (ch :: r) := by rw [toList_get t ch r h 1 (by omega)]; rfl
  have e2 : t.extract 4 (m + 4) = mkB (bodyF (ch :: r) m) := by
    apply mkB_of
    have e := extract_toList t 4 (m + 4)
    rw [ByteArray.toList_eq, h] at e
    rw [e]
    unfold bodyF
    rw [show m + 4 - 4 = m by omega]
  rw [← hx1, e1, e2]
  rfl
theorem tail_of {t : ByteArray} {c : UInt8} {r : List UInt8} (h : t.data.toList = c :: r) : (t.extract 1 t.size).data.toList = r := by
  have e := extract_toList t 1 t.size
  rw [ByteArray.toList_eq, h] at e
  rw [e, ← size_toList, h]
  simp

theorem drop_of {t : ByteArray} {c : UInt8} {r : List UInt8} (m : Nat) (h : t.data.toList = c :: r) : (t.extract (m + 7) t.size).data.toList = r.drop (m + 6) := by
  have e := extract_toList t (m + 7) t.size
  rw [ByteArray.toList_eq, h] at e
  rw [e, ← size_toList, h, show m + 7 = (m + 6) + 1 by omega, List.drop_succ_cons]
  rw [List.take_of_length_le]
  rw [List.length_drop, List.length_cons]
  omega
/-- A decoder's state: what waits, how many were skipped since the last frame, the items that weren't told, whether no more comes. -/
structure DS where
  wait : List UInt8
  skip : Nat
  items : List It
  over : Bool
def newS : DS := ⟨[], 0, [], false⟩
def giveS (d : DS) (b : List UInt8) : DS := if d.over = true then d else ⟨(passF false (d.wait ++ b) d.skip).1, (passF false (d.wait ++ b) d.skip).2.1, d.items ++ (passF false (d.wait ++ b) d.skip).2.2, false⟩
def endS (d : DS) : DS := if d.over = true then d else ⟨(passF true d.wait d.skip).1, 0, d.items ++ (passF true d.wait d.skip).2.2 ++ skipI (passF true d.wait d.skip).2.1, true⟩
def noIt : It := ⟨0, 0, []⟩
def nextS (d : DS) : DS × It × Bool := match d.items with | [] => (d, noIt, false) | x :: l => ({ d with items := l }, x, true)
/-- How large a state is at most. -/
def DS.small (d : DS) (n : Nat) : Prop := d.wait.length ≤ n ∧ d.skip ≤ n ∧ d.items.length ≤ n
/-- The value v is a reference's decoder in state d. -/
def DVal (w : World) (B : Nat) (v : Value) (d : DS) : Prop := ∃ A n c, v = .agg #[.string (mkB d.wait), .int .i64 (d.skip : Int), .slice A n c, .bool d.over] ∧ SeqI w B (.slice A n c) d.items
/-- A call's answer is a reference's decoder in state d. -/
def DDid (d : DS) (v0 : Value) (w : World) (e : Ending) (w' : World) : Prop := ∃ A n c, e = .returned (.agg #[.string (mkB d.wait), .int .i64 (d.skip : Int), .slice A n c, .bool d.over]) ∧ SeqI w' w'.heap.size (.slice A n c) d.items ∧ From v0 (.slice A n c) w.heap.size ∧ Below w.heap.size w w'

theorem give_end {w w1 w2 : World} {v : Value} {l : List It} {A : Option Addr} {n c : Nat} {d : DS} (hv : SeqI w w.heap.size v l) (hs : SeqI w1 w1.heap.size (.slice A n c) d.items) (hf : From v (.slice A n c) w2.heap.size) (hW : Below w.heap.size w w1) (hz : w2.heap.size = w.heap.size + 2) {a0 a1 a2 a3 : Value} :
    DDid d v w (.returned (.agg #[.string (mkB d.wait), .int .i64 (d.skip : Int), .slice A n c, .bool d.over])) (set4 w1 (w.heap.size + 1) a0 a1 a2 a3) := by
  have hx : ∀ b, (Value.slice A n c).ownBlock = some b → v.ownBlock = some b ∧ b < w.heap.size ∨ w.heap.size + 2 ≤ b := fun b hb => (hf b hb).elim (fun x => .inl ⟨x, hv.old b x⟩) (fun x => .inr (by omega))
  refine ⟨A, n, c, rfl, ?_, fun b hb => (hx b hb).elim (fun x => .inl x.1) (fun x => .inr (by omega)), set4_below hW (by omega) _ _ _ _⟩
  rw [set4_size]
  exact hs.keep_ fun b hb => set4_far _ _ _ _ _ _ _ (by have := hx b hb; omega)

/-- What Next leaves. -/
def NDid (d : DS) (v0 : Value) (w : World) (e : Ending) (w' : World) : Prop := ∃ A n c, e = .returned (.tuple #[.agg #[.string (mkB (nextS d).1.wait), .int .i64 ((nextS d).1.skip : Int), .slice A n c, .bool (nextS d).1.over], .agg #[.int .i64 ((nextS d).2.1.skip : Int), .int .u8 ((nextS d).2.1.kind.toNat : Int), .string (mkB (nextS d).2.1.body)], .bool (nextS d).2.2]) ∧ SeqI w' w'.heap.size (.slice A n c) (nextS d).1.items ∧ From v0 (.slice A n c) w.heap.size ∧ Below w.heap.size w w'

theorem four_blocks {w w1 : World} {o1 o2 o3 o4 : Obj} (hb : Below ((((w.alloc o1).alloc o2).alloc o3).alloc o4).heap.size ((((w.alloc o1).alloc o2).alloc o3).alloc o4) w1) :
    w1.heap[w.heap.size]? = some o1 ∧ w1.heap[w.heap.size + 1]? = some o2 ∧ w1.heap[w.heap.size + 1 + 1]? = some o3 ∧ w1.heap[w.heap.size + 1 + 1 + 1]? = some o4 ∧ Below w.heap.size w w1 ∧ w.heap.size + 4 ≤ w1.heap.size := by
  have h := one_block (w := ((w.alloc o1).alloc o2).alloc o3) (o1 := o4) hb
  have h0 := three_blocks (w := w) h.2.1
  have e : (((w.alloc o1).alloc o2).alloc o3).heap.size = w.heap.size + 3 := by simp
  rw [e] at h
  exact ⟨h0.1, h0.2.1, h0.2.2.1, h.1, h0.2.2.2.1, h.2.2⟩
theorem tail_seq {w : World} {b off n c : Nat} {x : It} {l : List It} (hn : n = l.length + 1) (hv : SeqI w w.heap.size (.slice (some ⟨b, off, none⟩) n c) (x :: l)) (o2 : Nat) (ho : o2 = off + 3 ∨ c = 1 ∧ o2 = off) :
    Seq w w.heap.size 3 (.slice (some ⟨b, o2, none⟩) (n - 1) (c - 1)) (n - 1) (itC l) := by
  obtain ⟨h1, h2⟩ := hv
  rcases h2 with ⟨h, _⟩ | ⟨b', off', c', e, hnc, hb, hc⟩
  · cases h
  · simp only [Value.slice.injEq, Option.some.injEq, Addr.mk.injEq] at e
    obtain ⟨⟨rfl, rfl, _⟩, hl, rfl⟩ := e
    refine ⟨by rw [itC_length]; omega, .inr ⟨b, o2, c - 1, rfl, by omega, hb, fun i u hu => ?_⟩⟩
    have hi : i < l.length * 3 := by rw [← itC_length]; exact (List.getElem?_eq_some_iff.1 hu).1
    rcases ho with rfl | ⟨h1, rfl⟩
    · have := hc (i + 3) u (by show (itc x ++ itC l)[i + 3]? = _; rw [List.getElem?_append_right (by simp [itc])]; simpa [itc] using hu)
      rw [show off + 3 + i = off + (i + 3) by omega]
      exact this
    · simp only [List.length_cons] at hnc
      omega

theorem sumI_len (l : List It) : l.length ≤ sumI l := by
  induction l with
  | nil => exact Nat.le_refl _
  | cons x l ih =>
    have : 1 ≤ wtI x := by unfold wtI; split <;> omega
    simp only [List.length_cons, sumI]
    omega
theorem pass_small (ov : Bool) (s : List UInt8) (k : Nat) : (passF ov s k).1.length ≤ s.length + k ∧ (passF ov s k).2.1 ≤ s.length + k ∧ (passF ov s k).2.2.length ≤ s.length + k := by
  have h := pass_sum ov _ s k (Nat.le_refl _)
  have := sumI_len (passF ov s k).2.2
  omega
end Go.Proofs.YtiflpjdiokloaaaDoor
