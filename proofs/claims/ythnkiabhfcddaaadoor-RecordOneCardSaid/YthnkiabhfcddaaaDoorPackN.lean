/-
  Texts of the proofs, put together: FrKit, RefTold, RefSize, RefPass, RefDec.
-/
import Derived.Test.YthnkiabhfcddaaaDoorPackM
import Derived.Test.YthnkiabhfcddaaaDoorPackF
import Derived.Test.YthnkiabhfcddaaaDoorPackI
import Derived.Test.YthnkiabhfcddaaaDoorPackA
import Derived.Deep.QuietTactic
import Derived.BigQuiet
import Derived.Laws.DeepStrings4
/-
  Layer 4, of no reference: what size, pass and told answer, over lists; a decoder's state; items as cells.
-/
namespace Go.Proofs.YthnkiabhfcddaaaDoor
open Go.RowKit
set_option linter.unusedVariables false
/-- The reference's items as cells. -/
def itc (x : It) : List Value := [.int .i64 (x.skip : Int), .int .u8 (x.kind.toNat : Int), .string (mkB x.body)]
def itC (l : List It) : List Value := l.flatMap itc
theorem itC_length (l : List It) : (itC l).length = l.length * 3 := by
  induction l with
  | nil => rfl
  | cons x l ih => simp only [itC, List.flatMap_cons, List.length_append, List.length_cons] at ih ⊢; rw [ih]; simp [itc]; omega
theorem itC_append (a b : List It) : itC (a ++ b) = itC a ++ itC b := by simp [itC]
theorem itC_one (l : List It) : ∀ y ∈ itC l, y.oneCell' = true := by
  intro y hy
  obtain ⟨x, _, hx⟩ := List.mem_flatMap.1 hy
  simp [itc] at hx
  rcases hx with rfl | rfl | rfl <;> rfl
/-- A slice of items. -/
def SeqI (w : World) (B : Nat) (v : Value) (l : List It) : Prop := Seq w B 3 v l.length (itC l)
theorem skip_cells (k : Nat) (hk : 0 < k) : itC (skipI k) = [.int .i64 (k : Int), .int .u8 0, .string ⟨#[]⟩] := by
  unfold skipI; rw [if_pos hk]; rfl
/-- What size answers. -/
def szI : Sz → Int
  | .no => 0
  | .wait => -1
  | .frame n => (n : Int) + 7

theorem below_drewN {W w : World} (h : Below W.heap.size W w) (n : Nat) : Below W.heap.size W (w.drewN n) := ⟨h.os, h.tape, h.output, h.size, h.block⟩
theorem toList_get (t : ByteArray) (c : UInt8) (r : List UInt8) (h : t.data.toList = c :: r) (i : Nat) (hi : i < t.size) : t[i] = (c :: r).getD i 0 := by
  have e : t.data.toList.getD i 0 = t[i] := by
    have hi2 : i < t.data.toList.length := by rw [size_toList]; exact hi
    have hd : t.data[i]? = some t[i] := Array.getElem?_eq_getElem (show i < t.data.size from hi)
    simp [List.getD, hd]
  rw [← e, h]

theorem size_facts (n s : Nat) (hb : ¬ (256 : Int) < (n : Int)) (q5 : ¬ (s : Int) < (n : Int) + 7) :
    IntKind.i64.wrap ((n : Int) + 7) = (n : Int) + 7 ∧ (0 ≤ (n : Int) + 7 ∧ (n : Int) + 7 ≤ (s : Int)) ∧ ((0 : Int) ≤ 1 ∧ (1 : Int) ≤ (n : Int) + 7) ∧ ((n : Int) + 7).toNat = n + 7 :=
  ⟨IntWalk.i64_in _ (by omega), by omega, by omega, by omega⟩
def strLen (w : World) (g : Nat) : Nat := match w.cell? ⟨g, 0, none⟩ with | some (.string t) => t.size | _ => 0
section
variable {w wr : World} {ov : Bool} {s0 s : List UInt8} {k0 k : Nat} {l0 l : List It} {t : ByteArray} {v0 v : Value}
end

theorem mkB_of {t : ByteArray} {s : List UInt8} (h : t.data.toList = s) : t = mkB s := by subst h; rfl
theorem empty_not {t : ByteArray} (h : t.data.toList = []) : (!t.toList.isEmpty) = false := by rw [ByteArray.toList_eq, h]; rfl
theorem empty_yes {t : ByteArray} {c : UInt8} {r : List UInt8} (h : t.data.toList = c :: r) : (!t.toList.isEmpty) = true := by rw [ByteArray.toList_eq, h]; rfl

/-- A slice lies where another one lay, or in a block from n on. -/
def From (v0 v : Value) (n : Nat) : Prop := ∀ b, v.ownBlock = some b → v0.ownBlock = some b ∨ n ≤ b
/-- What pass leaves. -/
def PassDid (ov : Bool) (v0 : Value) (s0 : List UInt8) (k0 : Nat) (l0 : List It) (w : World) (e : Ending) (w' : World) : Prop := ∃ v', e = .returned (.agg #[.string (mkB (passF ov s0 k0).1), .int .i64 ((passF ov s0 k0).2.1 : Int), v', .bool ov]) ∧ SeqI w' w'.heap.size v' (l0 ++ (passF ov s0 k0).2.2) ∧ From v0 v' w.heap.size ∧ Below w.heap.size w w'
theorem skipI_length (k : Nat) : (skipI k).length ≤ 1 := by unfold skipI; split <;> simp
theorem frame_cells {t : ByteArray} {ch : UInt8} {r : List UInt8} {m : Nat} {x1 : Int} {x : It} (h : t.data.toList = ch :: r) (hm : m + 7 ≤ t.size) (hx1 : (t[1].toNat : Int) = x1) (hx : x = ⟨0, kindF (ch :: r), bodyF (ch :: r) m⟩) :
    [Value.int IntKind.i64 0, Value.int IntKind.u8 x1, Value.string (t.extract 4 (m + 4))] = itC [x] := by
  subst hx
  have e1 : t[1] = kindF (ch :: r) := by rw [toList_get t ch r h 1 (by omega)]; rfl
  have e2 : t.extract 4 (m + 4) = mkB (bodyF (ch :: r) m) := by
    apply mkB_of
    have e := extract_toList t 4 (m + 4)
    rw [ByteArray.toList_eq, h] at e
    rw [e]
    unfold bodyF
    rw [show m + 4 - 4 = m by omega]
  rw [← hx1, e1, e2]
  rfl
theorem tail_of {t : ByteArray} {c : UInt8} {r : List UInt8} (h : t.data.toList = c :: r) : (t.extract 1 t.size).data.toList = r := by
  have e := extract_toList t 1 t.size
  rw [ByteArray.toList_eq, h] at e
  rw [e, ← size_toList, h]
  simp

theorem drop_of {t : ByteArray} {c : UInt8} {r : List UInt8} (m : Nat) (h : t.data.toList = c :: r) : (t.extract (m + 7) t.size).data.toList = r.drop (m + 6) := by
  have e := extract_toList t (m + 7) t.size
  rw [ByteArray.toList_eq, h] at e
  rw [e, ← size_toList, h, show m + 7 = (m + 6) + 1 by omega, List.drop_succ_cons]
  rw [List.take_of_length_le]
  rw [List.length_drop, List.length_cons]
  omega
/-- A decoder's state: what waits, how many were skipped since the last frame, the items that weren't told, whether no more comes. -/
structure DS where
  wait : List UInt8
  skip : Nat
  items : List It
  over : Bool
def newS : DS := ⟨[], 0, [], false⟩
def giveS (d : DS) (b : List UInt8) : DS := if d.over = true then d else ⟨(passF false (d.wait ++ b) d.skip).1, (passF false (d.wait ++ b) d.skip).2.1, d.items ++ (passF false (d.wait ++ b) d.skip).2.2, false⟩
def endS (d : DS) : DS := if d.over = true then d else ⟨(passF true d.wait d.skip).1, 0, d.items ++ (passF true d.wait d.skip).2.2 ++ skipI (passF true d.wait d.skip).2.1, true⟩
def noIt : It := ⟨0, 0, []⟩
def nextS (d : DS) : DS × It × Bool := match d.items with | [] => (d, noIt, false) | x :: l => ({ d with items := l }, x, true)
/-- How large a state is at most. -/
def DS.small (d : DS) (n : Nat) : Prop := d.wait.length ≤ n ∧ d.skip ≤ n ∧ d.items.length ≤ n
/-- The value v is a reference's decoder in state d. -/
def DVal (w : World) (B : Nat) (v : Value) (d : DS) : Prop := ∃ A n c, v = .agg #[.string (mkB d.wait), .int .i64 (d.skip : Int), .slice A n c, .bool d.over] ∧ SeqI w B (.slice A n c) d.items
/-- A call's answer is a reference's decoder in state d. -/
def DDid (d : DS) (v0 : Value) (w : World) (e : Ending) (w' : World) : Prop := ∃ A n c, e = .returned (.agg #[.string (mkB d.wait), .int .i64 (d.skip : Int), .slice A n c, .bool d.over]) ∧ SeqI w' w'.heap.size (.slice A n c) d.items ∧ From v0 (.slice A n c) w.heap.size ∧ Below w.heap.size w w'

theorem give_end {w w1 w2 : World} {v : Value} {l : List It} {A : Option Addr} {n c : Nat} {d : DS} (hv : SeqI w w.heap.size v l) (hs : SeqI w1 w1.heap.size (.slice A n c) d.items) (hf : From v (.slice A n c) w2.heap.size) (hW : Below w.heap.size w w1) (hz : w2.heap.size = w.heap.size + 2) {a0 a1 a2 a3 : Value} :
    DDid d v w (.returned (.agg #[.string (mkB d.wait), .int .i64 (d.skip : Int), .slice A n c, .bool d.over])) (set4 w1 (w.heap.size + 1) a0 a1 a2 a3) := by
  have hx : ∀ b, (Value.slice A n c).ownBlock = some b → v.ownBlock = some b ∧ b < w.heap.size ∨ w.heap.size + 2 ≤ b := fun b hb => (hf b hb).elim (fun x => .inl ⟨x, hv.old b x⟩) (fun x => .inr (by omega))
  refine ⟨A, n, c, rfl, ?_, fun b hb => (hx b hb).elim (fun x => .inl x.1) (fun x => .inr (by omega)), set4_below hW (by omega) _ _ _ _⟩
  rw [set4_size]
  exact hs.keep_ fun b hb => set4_far _ _ _ _ _ _ _ (by have := hx b hb; omega)

/-- What Next leaves. -/
def NDid (d : DS) (v0 : Value) (w : World) (e : Ending) (w' : World) : Prop := ∃ A n c, e = .returned (.tuple #[.agg #[.string (mkB (nextS d).1.wait), .int .i64 ((nextS d).1.skip : Int), .slice A n c, .bool (nextS d).1.over], .agg #[.int .i64 ((nextS d).2.1.skip : Int), .int .u8 ((nextS d).2.1.kind.toNat : Int), .string (mkB (nextS d).2.1.body)], .bool (nextS d).2.2]) ∧ SeqI w' w'.heap.size (.slice A n c) (nextS d).1.items ∧ From v0 (.slice A n c) w.heap.size ∧ Below w.heap.size w w'

theorem four_blocks {w w1 : World} {o1 o2 o3 o4 : Obj} (hb : Below ((((w.alloc o1).alloc o2).alloc o3).alloc o4).heap.size ((((w.alloc o1).alloc o2).alloc o3).alloc o4) w1) :
    w1.heap[w.heap.size]? = some o1 ∧ w1.heap[w.heap.size + 1]? = some o2 ∧ w1.heap[w.heap.size + 1 + 1]? = some o3 ∧ w1.heap[w.heap.size + 1 + 1 + 1]? = some o4 ∧ Below w.heap.size w w1 ∧ w.heap.size + 4 ≤ w1.heap.size := by
  have h := one_block (w := ((w.alloc o1).alloc o2).alloc o3) (o1 := o4) hb
  have h0 := three_blocks (w := w) h.2.1
  have e : (((w.alloc o1).alloc o2).alloc o3).heap.size = w.heap.size + 3 := by simp
  rw [e] at h
  exact ⟨h0.1, h0.2.1, h0.2.2.1, h.1, h0.2.2.2.1, h.2.2⟩
theorem tail_seq {w : World} {b off n c : Nat} {x : It} {l : List It} (hn : n = l.length + 1) (hv : SeqI w w.heap.size (.slice (some ⟨b, off, none⟩) n c) (x :: l)) (o2 : Nat) (ho : o2 = off + 3 ∨ c = 1 ∧ o2 = off) :
    Seq w w.heap.size 3 (.slice (some ⟨b, o2, none⟩) (n - 1) (c - 1)) (n - 1) (itC l) := by
  obtain ⟨h1, h2⟩ := hv
  rcases h2 with ⟨h, _⟩ | ⟨b', off', c', e, hnc, hb, hc⟩
  · cases h
  · simp only [Value.slice.injEq, Option.some.injEq, Addr.mk.injEq] at e
    obtain ⟨⟨rfl, rfl, _⟩, hl, rfl⟩ := e
    refine ⟨by rw [itC_length]; omega, .inr ⟨b, o2, c - 1, rfl, by omega, hb, fun i u hu => ?_⟩⟩
    have hi : i < l.length * 3 := by rw [← itC_length]; exact (List.getElem?_eq_some_iff.1 hu).1
    rcases ho with rfl | ⟨h1, rfl⟩
    · have := hc (i + 3) u (by show (itc x ++ itC l)[i + 3]? = _; rw [List.getElem?_append_right (by simp [itc])]; simpa [itc] using hu)
      rw [show off + 3 + i = off + (i + 3) by omega]
      exact this
    · simp only [List.length_cons] at hnc
      omega

theorem sumI_len (l : List It) : l.length ≤ sumI l := by
  induction l with
  | nil => exact Nat.le_refl _
  | cons x l ih =>
    have : 1 ≤ wtI x := by unfold wtI; split <;> omega
    simp only [List.length_cons, sumI]
    omega
theorem pass_small (ov : Bool) (s : List UInt8) (k : Nat) : (passF ov s k).1.length ≤ s.length + k ∧ (passF ov s k).2.1 ≤ s.length + k ∧ (passF ov s k).2.2.length ≤ s.length + k := by
  have h := pass_sum ov _ s k (Nat.le_refl _)
  have := sumI_len (passF ov s k).2.2
  omega
end Go.Proofs.YthnkiabhfcddaaaDoor
/-
  Contracts of layer 4's reference: told; its items as cells.
-/
namespace Go.Proofs.YthnkiabhfcddaaaDoor
open Go.RowKit
set_option linter.unusedVariables false
def OwnI (w : World) (base : Nat) (v : Value) (l : List It) : Prop := w.ownsRow base 99 3 v l.length (itC l)
theorem info_I : (Tryd.prog.info? 99).map (fun i => (i.zero, i.size, i.bytes)) = some (some (.agg #[.int .i64 0, .int .u8 0, .string ByteArray.empty]), 3, 32) := by kernel_rfl
theorem OwnI.nil_ (w : World) (base : Nat) : OwnI w base (.slice none 0 0) [] := World.ownsRow_nil w base _ 3
theorem OwnI.join {w : World} {base n m : Nat} {v : Value} {l j : List It} (h : w.ownsRow base 99 3 v (n + m) (itC l ++ itC j)) (hn : n = l.length) (hm : m = j.length) : OwnI w base v (l ++ j) := by
  subst hn; subst hm
  unfold OwnI
  rw [itC_append, List.length_append]
  exact h

set_option maxRecDepth 100000 in
theorem told_pos (s : ByteArray) (k : Nat) (v : Value) (l : List It) (ov : Bool) (w : World) (hk : 0 < k) (hk2 : k ≤ 1000000) (hl : l.length ≤ 1000000) (hv : SeqI w w.heap.size v l) :
    Calls Tryd.prog 69 #[.agg #[.string s, .int .i64 (k : Int), v, .bool ov]] w fun e w' => ∃ v', e = .returned (.agg #[.string s, .int .i64 0, v', .bool ov]) ∧ OwnI w' w.heap.size v' (l ++ skipI k) ∧ Below w.heap.size w w' := by
  have HV := Lib.hid hv
  have HL := Lib.hid hl
  have h1 : (0 : Int) < (k : Int) := by omega
  have HK := Lib.hid (skip_cells k hk)
  clear hv hl hk
  go_enter Tryd.func69, Tryd.ntmps69
  go_wp2_with (first
    | (at_builtin; refine wp_app_seq rfl (.tmp 4) (.tmp 6) 93 99 _ 3 32 Tryd.underlying93 info_I rfl (by omega) rfl _ (.slice none 0 0) v 0 l.length [] (itC l) rfl rfl (OwnI.nil_ _ _) (HV.out.over (Nat.le_refl _) (bmore (bmore (bself w) _) _)) (itC_one l) (by have := HL.out; omega) (Nat.le_refl _) ?_; intro v1 w1 hg1; obtain ⟨hA, hB, hW, hz⟩ := two_blocks hg1.2.2.2; obtain ⟨a0, a1, a2, a3, _, _, _, _⟩ := blk4 hA; have HA := Lib.hid hA; have HB := Lib.hid hB; have HW := Lib.hid hW; have HG := Lib.hid hg1; clear hA hB hW hg1)
    | (at_builtin; refine wp_app_seq rfl (.tmp 11) (.tmp 15) 93 99 _ 3 32 Tryd.underlying93 info_I rfl (by omega) rfl _ v1 _ (0 + l.length) 1 (itC l) _ rfl rfl (ownsRow_over HG.out.1 (bmore (bself w1) _)) (Seq.lit_ w1 [.int .i64 (k : Int), .int .u8 0, .string ⟨#[]⟩] _) (by rw [← HK.out]; exact itC_one _) (by have := HL.out; omega) (Nat.le_trans HG.out.2.1.size (by simp)) ?_; intro v2 w2 hg2; have hbb := (HG.out.2.2.2.alloc HG.out.2.2.2.size _).trans hg2.2.2.2; obtain ⟨hA, hB, hW, hz⟩ := two_blocks hbb; clear a0 a1 a2 a3; obtain ⟨a0, a1, a2, a3, _, _, _, _⟩ := blk4 hA; obtain ⟨b0, b1, b2, b3, f0, f1, f2, f3⟩ := blk4 hB; have HW2 := Lib.hid hW; have HO := Lib.hid (OwnI.join (l := l) (j := skipI k) (v := v2) (by have h := hg2.1; rw [← HK.out] at h; exact h) (by omega) (by unfold skipI; rw [if_pos (by omega)]; rfl)); obtain ⟨A2, n2, c2, rfl⟩ := own_slice HO.out; clear hA hB hW hg2 hbb HG HA HB HW))
  refine bodyPost_ret (v := .agg #[.string s, .int .i64 0, .slice A2 n2 c2, .bool ov]) (by simp [results, Tryd.results69, go_sem, b0, b1, b2, b3]) rfl ?_
  have hz2 : ((w.alloc (Obj.cells #[Value.string s, Value.int IntKind.i64 (k : Int), v, Value.bool ov] 95)).alloc (Obj.cells #[Value.string { data := #[] }, Value.int IntKind.i64 0, Value.slice none 0 0, Value.bool false] 95)).heap.size = w.heap.size + 2 := by simp
  have HO2 := HO.out
  rw [hz2] at HO2
  have p0 : w.heap.size + 1 < w.heap.size + 2 := by omega
  have p1 : w.heap.size ≤ w.heap.size + 1 := by omega
  exact ⟨_, rfl, ownsRow_mono (ownsRow_setCell_below (ownsRow_setCell_below (ownsRow_setCell_below (ownsRow_setCell_below HO2 p0 _) p0 _) p0 _) p0 _) (by omega), (((HW2.out.setCell p1 _).setCell p1 _).setCell p1 _).setCell p1 _⟩

set_option maxRecDepth 100000 in
theorem told_zero (s : ByteArray) (v : Value) (l : List It) (ov : Bool) (w : World) (hl : l.length ≤ 1000000) (hv : SeqI w w.heap.size v l) :
    Calls Tryd.prog 69 #[.agg #[.string s, .int .i64 0, v, .bool ov]] w fun e w' => ∃ v', e = .returned (.agg #[.string s, .int .i64 0, v', .bool ov]) ∧ OwnI w' w.heap.size v' (l ++ skipI 0) ∧ Below w.heap.size w w' := by
  have HV := Lib.hid hv
  have HL := Lib.hid hl
  clear hv hl
  go_enter Tryd.func69, Tryd.ntmps69
  go_wp2_with (first
    | (at_builtin; refine wp_app_seq rfl (.tmp 4) (.tmp 6) 93 99 _ 3 32 Tryd.underlying93 info_I rfl (by omega) rfl _ (.slice none 0 0) v 0 l.length [] (itC l) rfl rfl (OwnI.nil_ _ _) (HV.out.over (Nat.le_refl _) (bmore (bmore (bself w) _) _)) (itC_one l) (by have := HL.out; omega) (Nat.le_refl _) ?_; intro v1 w1 hg1; obtain ⟨hA, hB, hW, hz⟩ := two_blocks hg1.2.2.2; obtain ⟨a0, a1, a2, a3, _, _, _, _⟩ := blk4 hA; obtain ⟨b0, b1, b2, b3, f0, f1, f2, f3⟩ := blk4 hB; have HW := Lib.hid hW; have HO := Lib.hid (OwnI.join (l := []) (j := l) hg1.1 rfl rfl); obtain ⟨A2, n2, c2, rfl⟩ := own_slice HO.out; clear hA hB hW hg1))
  refine bodyPost_ret (v := .agg #[.string s, .int .i64 0, .slice A2 n2 c2, .bool ov]) (by simp [results, Tryd.results69, go_sem, b0, b1, b2, b3]) rfl ?_
  have hz2 : ((w.alloc (Obj.cells #[Value.string s, Value.int IntKind.i64 0, v, Value.bool ov] 95)).alloc (Obj.cells #[Value.string { data := #[] }, Value.int IntKind.i64 0, Value.slice none 0 0, Value.bool false] 95)).heap.size = w.heap.size + 2 := by simp
  have HO2 := HO.out
  rw [hz2] at HO2
  have p0 : w.heap.size + 1 < w.heap.size + 2 := by omega
  have p1 : w.heap.size ≤ w.heap.size + 1 := by omega
  have hs : l ++ skipI 0 = [] ++ l := by simp [skipI]
  exact ⟨_, rfl, by rw [hs]; exact ownsRow_mono (ownsRow_setCell_below (ownsRow_setCell_below (ownsRow_setCell_below (ownsRow_setCell_below HO2 p0 _) p0 _) p0 _) p0 _) (by omega), (((HW.out.setCell p1 _).setCell p1 _).setCell p1 _).setCell p1 _⟩

/-- What told leaves. -/
def ToldDid (s : ByteArray) (ov : Bool) (l : List It) (w : World) (e : Ending) (w' : World) : Prop := ∃ A n c, e = .returned (.agg #[.string s, .int .i64 0, .slice A n c, .bool ov]) ∧ OwnI w' w.heap.size (.slice A n c) l ∧ Below w.heap.size w w'
theorem told_any (s : ByteArray) (k : Nat) (v : Value) (l : List It) (ov : Bool) (w : World) (hk : k ≤ 1000000) (hl : l.length ≤ 1000000) (hv : SeqI w w.heap.size v l) {j : List It} (hj : l ++ skipI k = j) :
    Calls Tryd.prog 69 #[.agg #[.string s, .int .i64 (k : Int), v, .bool ov]] w (ToldDid s ov j w) := by
  subst hj
  have h : Calls Tryd.prog 69 #[.agg #[.string s, .int .i64 (k : Int), v, .bool ov]] w fun e w' => ∃ v', e = .returned (.agg #[.string s, .int .i64 0, v', .bool ov]) ∧ OwnI w' w.heap.size v' (l ++ skipI k) ∧ Below w.heap.size w w' := by
    by_cases h0 : 0 < k
    · exact told_pos s k v l ov w h0 hk hl hv
    · obtain rfl : k = 0 := by omega
      exact told_zero s v l ov w hl hv
  refine h.mono fun e w' h => ?_
  obtain ⟨v', rfl, h1, h2⟩ := h
  obtain ⟨A, n, c, rfl⟩ := own_slice h1
  exact ⟨A, n, c, rfl, h1, h2⟩
end Go.Proofs.YthnkiabhfcddaaaDoor
/-
  Contract of layer 4's reference size: what bytes begin with.
-/
namespace Go.Proofs.YthnkiabhfcddaaaDoor
open Go.RowKit
set_option linter.unusedVariables false
theorem rfits_at (t : ByteArray) (w : World) (hl : t.size ≤ 1000000) {q : Bool} (h : fitsC t.data.toList = q) :
    Calls Tryd.prog 87 #[.string t] w fun e w' => e = .returned (.bool q) ∧ Below w.heap.size w w' := by
  subst h; exact rfits_any t w hl
set_option maxRecDepth 100000 in
theorem rsize_full (t : ByteArray) (n : Nat) (x2 x3 : Int) (v : Int) (q : Bool) (w : World) (hl : t.size ≤ 1000000) (g0 : 0 < t.size) (g2 : 2 < t.size) (g3 : 3 < t.size)
    (q0 : (t[0].toNat : Int) = 165) (hx2 : (t[2].toNat : Int) = x2) (hx3 : (t[3].toNat : Int) = x3)
    (d2 : 0 ≤ x2 ∧ x2 < 256) (d3 : 0 ≤ x3 ∧ x3 < 256) (q3 : x2 * 256 + x3 = (n : Int)) (hb : ¬ (256 : Int) < (n : Int)) (q5 : ¬ (t.size : Int) < (n : Int) + 7)
    (hf : fitsC (t.extract 1 (n + 7)).data.toList = q) (hv : (if q then (n : Int) + 7 else 0) = v) :
    Calls Tryd.prog 78 #[.string t] w fun e w' => e = .returned (.int .i64 v) ∧ Below w.heap.size w w' := by
  have HX := Lib.hid (show (t.extract 1 (n + 7)).size ≤ 1000000 by rw [ByteArray.size_extract]; omega)
  have HF := Lib.hid hf
  have HV := Lib.hid hv
  have k0 : wrap64 x2 = x2 := by unfold wrap64; omega
  have k1 : wrap64 x3 = x3 := by unfold wrap64; omega
  have k2 : wrap64 (x2 * 256) = x2 * 256 := by unfold wrap64; omega
  have k3 : wrap64 (n : Int) = (n : Int) := by unfold wrap64; omega
  have K := Lib.hid (size_facts n t.size hb q5)
  have M := Lib.hid (And.intro (show ¬ (t.size : Int) < 4 by omega) (And.intro hb (And.intro q5 (And.intro q3 k3))))
  clear d2 d3 hf hv hb q5 q3 k3
  have q4 := M.out.1
  go_enter Tryd.func78, Tryd.ntmps78
  go_wp2
  clear q4
  go_quiet (fail)
  obtain ⟨q4, hb, q5, q3, k3⟩ := M.out
  (try simp only [k0, k1, k2, q3, k3])
  clear k0 k1 k2 k3 q3 g0 g2 g3 q0 hx2 hx3 q4 M
  obtain ⟨k7, k8, k9, k10⟩ := K.out
  clear K
  go_wp2_with (go_at_call 87; (with_reducible refine (rfits_at _ _ HX.out HF.out).mono ?_); rintro e w1 ⟨rfl, hb1⟩)
  · rename_i h9
    go_ret
    have hq : q = false := by clear HX HF HV; revert h9; cases q <;> simp
    exact ⟨by rw [← HV.out, hq, if_neg (by decide)]; rfl, bstep (below_drewN (bself _) _) hb1⟩
  · rename_i h9
    go_ret
    have hq : q = true := by clear HX HF HV; revert h9; cases q <;> simp
    exact ⟨by rw [← HV.out, hq, if_pos rfl]; rfl, bstep (below_drewN (bself _) _) hb1⟩

set_option maxRecDepth 100000 in
theorem rsize_few (t : ByteArray) (n : Nat) (x2 x3 : Int) (v : Int) (w : World) (g0 : 0 < t.size) (g2 : 2 < t.size) (g3 : 3 < t.size)
    (q0 : (t[0].toNat : Int) = 165) (hx2 : (t[2].toNat : Int) = x2) (hx3 : (t[3].toNat : Int) = x3)
    (d2 : 0 ≤ x2 ∧ x2 < 256) (d3 : 0 ≤ x3 ∧ x3 < 256) (q3 : x2 * 256 + x3 = (n : Int)) (q4 : ¬ (t.size : Int) < 4)
    (hv : (256 : Int) < (n : Int) ∧ v = 0 ∨ ¬ (256 : Int) < (n : Int) ∧ (t.size : Int) < (n : Int) + 7 ∧ v = -1) :
    Calls Tryd.prog 78 #[.string t] w fun e w' => e = .returned (.int .i64 v) ∧ Below w.heap.size w w' := by
  have k0 : wrap64 x2 = x2 := by unfold wrap64; omega
  have k1 : wrap64 x3 = x3 := by unfold wrap64; omega
  have k2 : wrap64 (x2 * 256) = x2 * 256 := by unfold wrap64; omega
  have k3 : wrap64 (n : Int) = (n : Int) := by unfold wrap64; omega
  have k7 : ¬ (256 : Int) < (n : Int) → IntKind.i64.wrap ((n : Int) + 7) = (n : Int) + 7 := fun h => IntWalk.i64_in _ (by clear k0 k1 k2 k3 q3 hv; omega)
  have M := Lib.hid (And.intro hv (And.intro k7 (And.intro q3 k3)))
  clear d2 d3 q3 hv k3 k7
  go_enter Tryd.func78, Tryd.ntmps78
  go_wp2
  clear q4
  go_quiet (fail)
  obtain ⟨hv, k7, q3, k3⟩ := M.out
  (try simp only [k0, k1, k2, q3, k3])
  clear k0 k1 k2 k3 q3 g0 g2 g3 q0 hx2 hx3 M
  rcases hv with ⟨hb, hv⟩ | ⟨hb, q5, hv⟩
  · clear k7
    go_wp2
    go_ret
    exact ⟨by rw [hv]; rfl, below_drewN (bself _) _⟩
  · replace k7 := k7 hb
    go_wp2
    go_ret
    exact ⟨by rw [hv]; rfl, below_drewN (bself _) _⟩

set_option maxRecDepth 100000 in
set_option maxHeartbeats 1000000 in
theorem rsize_any (t : ByteArray) (c : UInt8) (r : List UInt8) (w : World) (ht : t.data.toList = c :: r) (hl : t.size ≤ 1000000) :
    Calls Tryd.prog 78 #[.string t] w fun e w' => e = .returned (.int .i64 (szI (szF (c :: r)))) ∧ Below w.heap.size w w' := by
  have hs : t.size = r.length + 1 := by rw [← size_toList, ht]; rfl
  have h0 : t[0]'(by omega) = c := toList_get t c r ht 0 (by omega)
  have hz : 0 < t.size := by omega
  by_cases hc : c = 165
  · by_cases h4 : r.length < 3
    · have HE := Lib.hid (show szF (c :: r) = .wait by rw [sz_cons, if_pos hc, if_pos h4])
      have q0 : (t[0].toNat : Int) = 165 := by rw [h0, hc]; rfl
      have q1 : (t.size : Int) < 4 := by omega
      clear h0 hs ht hc
      go_enter Tryd.func78, Tryd.ntmps78
      go_wp2
      go_ret
      exact ⟨by rw [HE.out]; rfl, Below.refl _ _⟩
    · obtain ⟨n, hn⟩ : ∃ n, n = lenF r := ⟨_, rfl⟩
      have q0 : (t[0].toNat : Int) = 165 := by rw [h0, hc]; rfl
      have q1 : ¬ (t.size : Int) < 4 := by omega
      have g2 : 2 < t.size := by omega
      have g3 : 3 < t.size := by omega
      have q2 : ((t[2].toNat : Int)) * 256 + (t[3].toNat : Int) = (n : Int) := by
        rw [toList_get t c r ht 2 g2, toList_get t c r ht 3 g3, hn]
        unfold lenF
        simp [List.getD]
      obtain ⟨x2, hx2⟩ : ∃ x2 : Int, (t[2].toNat : Int) = x2 := ⟨_, rfl⟩
      obtain ⟨x3, hx3⟩ : ∃ x3 : Int, (t[3].toNat : Int) = x3 := ⟨_, rfl⟩
      have d2 : 0 ≤ x2 ∧ x2 < 256 := by rw [← hx2]; have := t[2].toNat_lt; omega
      have d3 : 0 ≤ x3 ∧ x3 < 256 := by rw [← hx3]; have := t[3].toNat_lt; omega
      have q3 : x2 * 256 + x3 = (n : Int) := by rw [← hx2, ← hx3]; exact q2
      by_cases hb : 256 < n
      · have HE : szF (c :: r) = .no := by rw [sz_cons, if_pos hc, if_neg h4, ← hn, if_pos hb]
        rw [HE]
        exact rsize_few t n x2 x3 _ w hz g2 g3 q0 hx2 hx3 d2 d3 q3 q1 (Or.inl ⟨Int.ofNat_lt.2 hb, rfl⟩)
      · have hb2 : ¬ (256 : Int) < (n : Int) := fun h => hb (Int.ofNat_lt.1 h)
        by_cases hw : r.length < n + 6
        · have HE : szF (c :: r) = .wait := by rw [sz_cons, if_pos hc, if_neg h4, ← hn, if_neg hb, if_pos hw]
          rw [HE]
          exact rsize_few t n x2 x3 _ w hz g2 g3 q0 hx2 hx3 d2 d3 q3 q1 (Or.inr ⟨hb2, by rw [hs]; clear q3 q2 d2 d3; omega, rfl⟩)
        · have hex : (t.extract 1 (n + 7)).data.toList = r.take (n + 6) := by
            have := extract_toList t 1 (n + 7)
            rw [ByteArray.toList_eq, ht] at this
            rw [this]
            simp
          refine rsize_full t n x2 x3 _ (fitsC (r.take (n + 6))) w hl hz g2 g3 q0 hx2 hx3 d2 d3 q3 hb2 (by rw [hs]; clear q3 q2 d2 d3; omega) (by rw [hex]) ?_
          rw [sz_cons, if_pos hc, if_neg h4, ← hn, if_neg hb, if_neg hw]
          cases fitsC (r.take (n + 6)) <;> rfl
  · have HE := Lib.hid (show szF (c :: r) = .no by rw [sz_cons, if_neg hc])
    have q0 : ¬ (t[0].toNat : Int) = 165 := by rw [h0]; intro e; exact hc (UInt8.toNat_inj.1 (by show c.toNat = 165; omega))
    clear h0 hs ht hc
    go_enter Tryd.func78, Tryd.ntmps78
    go_wp2
    go_ret
    exact ⟨by rw [HE.out]; rfl, Below.refl _ _⟩
end Go.Proofs.YthnkiabhfcddaaaDoor
/-
  Contracts of layer 4's reference: pass.
-/
namespace Go.Proofs.YthnkiabhfcddaaaDoor
open Go.RowKit
set_option linter.unusedVariables false
/-- Where pass stands: what waits, how many were skipped, the items so far; g: its variable's block, the result's is the next one. -/
structure PassAt (w wr : World) (ov : Bool) (v0 : Value) (s0 : List UInt8) (k0 : Nat) (l0 : List It) (t : ByteArray) (s : List UInt8) (k : Nat) (v : Value) (l : List It) : Prop where
  hs : t.data.toList = s
  hA : wr.heap[w.heap.size]? = some (.cells #[.string t, .int .i64 (k : Int), v, .bool ov] 95 (0, 0))
  hB : wr.heap[w.heap.size + 1]? = some (.cells #[.string ⟨#[]⟩, .int .i64 0, .slice none 0 0, .bool false] 95 (0, 0))
  hW : Below w.heap.size w wr
  hz : w.heap.size + 2 ≤ wr.heap.size
  hV : SeqI wr wr.heap.size v l
  hX : ∀ b, v.ownBlock = some b → b < w.heap.size ∧ v0.ownBlock = some b ∨ w.heap.size + 2 ≤ b
  hQ : (passF ov s0 k0).1 = (passF ov s k).1 ∧ (passF ov s0 k0).2.1 = (passF ov s k).2.1 ∧ l0 ++ (passF ov s0 k0).2.2 = l ++ (passF ov s k).2.2
  hn : k + s.length ≤ k0 + s0.length ∧ l.length + 2 * s.length ≤ l0.length + 2 * s0.length ∧ s.length ≤ s0.length
  hm : s0.length ≤ 100000 ∧ k0 ≤ 100000 ∧ l0.length ≤ 100000
section
variable {w wr : World} {ov : Bool} {s0 s : List UInt8} {k0 k : Nat} {l0 l : List It} {t : ByteArray} {v0 v : Value}
theorem PassAt.over (h : PassAt w wr ov v0 s0 k0 l0 t s k v l) {w' : World} (hb : Below wr.heap.size wr w') : PassAt w w' ov v0 s0 k0 l0 t s k v l :=
  ⟨h.hs, (hb.block _ (by have := h.hz; omega)).trans h.hA, (hb.block _ (by have := h.hz; omega)).trans h.hB, bstep h.hW hb, Nat.le_trans h.hz hb.size, h.hV.over (Nat.le_refl _) hb, h.hX, h.hQ, h.hn, h.hm⟩
theorem PassAt.size (h : PassAt w wr ov v0 s0 k0 l0 t s k v l) : strLen wr w.heap.size = s.length := by
  unfold strLen
  rw [heap_cell h.hA]
  show t.size = _
  rw [← size_toList, h.hs]
end

theorem rsize_at (t : ByteArray) (c : UInt8) (r : List UInt8) (z : Int) (w : World) (ht : t.data.toList = c :: r) (hl : t.size ≤ 1000000) (h : szI (szF (c :: r)) = z) :
    Calls Tryd.prog 78 #[.string t] w fun e w' => e = .returned (.int .i64 z) ∧ Below w.heap.size w w' := by
  subst h; exact rsize_any t c r w ht hl
theorem PassAt.ends {w wr : World} {ov : Bool} {s0 s : List UInt8} {k0 k : Nat} {l0 l : List It} {t : ByteArray} {v0 v : Value} (h : PassAt w wr ov v0 s0 k0 l0 t s k v l) (hst : passF ov s k = (s, k, [])) :
    PassDid ov v0 s0 k0 l0 w (.returned (.agg #[.string t, .int .i64 (k : Int), v, .bool ov])) (set4 wr (w.heap.size + 1) (.string t) (.int .i64 (k : Int)) v (.bool ov)) := by
  obtain ⟨q1, q2, q3⟩ := h.hQ
  rw [hst] at q1 q2 q3
  dsimp only at q1 q2 q3
  refine ⟨v, by rw [q1, q2, mkB_of h.hs], ?_, fun b hb => (h.hX b hb).elim (fun x => .inl x.2) (fun x => .inr (by omega)), set4_below h.hW (by omega) _ _ _ _⟩
  rw [q3, List.append_nil, set4_size]
  exact h.hV.keep_ fun b hb => set4_far _ _ _ _ _ _ _ (by have := h.hX b hb; omega)

theorem PassAt.skip {w wr : World} {ov : Bool} {s0 r : List UInt8} {ch : UInt8} {k0 k : Nat} {l0 l : List It} {t : ByteArray} {v0 v : Value} (h : PassAt w wr ov v0 s0 k0 l0 t (ch :: r) k v l) (hst : passF ov (ch :: r) k = passF ov r (k + 1)) (t' : ByteArray) (ht' : t'.data.toList = r) (z : Int) (hz : z = ((k + 1 : Nat) : Int)) :
    PassAt w ((wr.setCell ⟨w.heap.size, 1, none⟩ (.int .i64 z)).setCell ⟨w.heap.size, 0, none⟩ (.string t')) ov v0 s0 k0 l0 t' r (k + 1) v l := by
  subst hz
  have hq := h.hQ
  rw [hst] at hq
  have hn := h.hn
  simp only [List.length_cons] at hn
  refine ⟨ht', heap_set (heap_set h.hA 1 _) 0 _, ?_, (h.hW.setCell (Nat.le_refl _) _).setCell (Nat.le_refl _) _, ?_, ?_, h.hX, hq, by omega, h.hm⟩
  · rw [heap_far _ _ _ (by omega), heap_far _ _ _ (by omega)]
    exact h.hB
  · rw [setCell_size, setCell_size]
    exact h.hz
  · rw [setCell_size, setCell_size]
    exact h.hV.keep_ fun b hb => by rw [heap_far _ _ _ (by have := h.hX b hb; omega), heap_far _ _ _ (by have := h.hX b hb; omega)]
/-- Behind told: the variable's block, the result's. -/
structure MidAt (w wr : World) (base : Nat) (ov : Bool) (t : ByteArray) (v : Value) : Prop where
  hA : wr.heap[w.heap.size]? = some (.cells #[.string t, .int .i64 0, v, .bool ov] 95 (0, 0))
  hB : wr.heap[w.heap.size + 1]? = some (.cells #[.string ⟨#[]⟩, .int .i64 0, .slice none 0 0, .bool false] 95 (0, 0))
  hW : Below w.heap.size w wr
  hz : w.heap.size + 2 ≤ base ∧ base ≤ wr.heap.size
theorem MidAt.over {w wr w' : World} {base : Nat} {ov : Bool} {t : ByteArray} {v : Value} (h : MidAt w wr base ov t v) (hb : Below base wr w') : MidAt w w' base ov t v :=
  ⟨(hb.block _ (by have := h.hz; omega)).trans h.hA, (hb.block _ (by have := h.hz; omega)).trans h.hB, h.hW.trans (hb.mono (by have := h.hz; omega)), h.hz.1, Nat.le_trans h.hz.2 hb.size⟩
theorem PassAt.mid {w wr w2 : World} {ov : Bool} {s0 s : List UInt8} {k0 k : Nat} {l0 l l2 : List It} {t : ByteArray} {v0 v v2 : Value} (h : PassAt w wr ov v0 s0 k0 l0 t s k v l) (ho : OwnI w2 wr.heap.size v2 l2) (hb : Below wr.heap.size wr w2) :
    MidAt w (set4 w2 w.heap.size (.string t) (.int .i64 0) v2 (.bool ov)) wr.heap.size ov t v2 ∧ OwnI (set4 w2 w.heap.size (.string t) (.int .i64 0) v2 (.bool ov)) wr.heap.size v2 l2 := by
  have hp := h.over hb
  have hz := h.hz
  refine ⟨⟨set4_heap hp.hA, ?_, set4_below hp.hW (Nat.le_refl _) _ _ _ _, hz, ?_⟩, ownsRow_below ho fun b hb => set4_far _ _ _ _ _ _ _ (by have := (ownsRow_old ho b hb).1; omega)⟩
  · rw [set4_far _ _ _ _ _ _ _ (by omega)]
    exact hp.hB
  · rw [set4_size]
    exact hb.size
theorem PassAt.framed {w wr w4 : World} {base : Nat} {ov : Bool} {s0 r : List UInt8} {ch : UInt8} {k0 k m : Nat} {l0 l : List It} {t : ByteArray} {v0 v v2 v4 : Value} {x : It} (h : PassAt w wr ov v0 s0 k0 l0 t (ch :: r) k v l)
    (hst : passF ov (ch :: r) k = ((passF ov (r.drop (m + 6)) 0).1, (passF ov (r.drop (m + 6)) 0).2.1, skipI k ++ ⟨0, kindF (ch :: r), bodyF (ch :: r) m⟩ :: (passF ov (r.drop (m + 6)) 0).2.2))
    (hf : ch = 165 ∧ m = lenF r ∧ m ≤ 256 ∧ m + 6 ≤ r.length ∧ fitsC (r.take (m + 6)) = true) (hm2 : m + 7 ≤ t.size) (hx : x = ⟨0, kindF (ch :: r), bodyF (ch :: r) m⟩)
    (hm : MidAt w w4 base ov t v2) (ho : OwnI w4 base v4 (l ++ skipI k ++ [x])) (hb : w.heap.size + 2 ≤ base) :
    PassAt w ((w4.setCell ⟨w.heap.size, 2, none⟩ v4).setCell ⟨w.heap.size, 0, none⟩ (.string (t.extract (m + 7) t.size))) ov v0 s0 k0 l0 (t.extract (m + 7) t.size) (r.drop (m + 6)) 0 v4 (l ++ skipI k ++ [x]) := by
  subst hx
  have hq := h.hQ
  rw [hst] at hq
  dsimp only at hq
  have hn := h.hn
  have hr := hf.2.2.2.1
  have hsl := skipI_length k
  simp only [List.length_cons] at hn
  have hx : ∀ b, v4.ownBlock = some b → b < w.heap.size ∧ v0.ownBlock = some b ∨ w.heap.size + 2 ≤ b := fun b hb2 => .inr (by have := (ownsRow_old ho b hb2).1; omega)
  refine ⟨drop_of m h.hs, heap_set (heap_set hm.hA 2 _) 0 _, ?_, (hm.hW.setCell (Nat.le_refl _) _).setCell (Nat.le_refl _) _, ?_, ?_, hx, ⟨hq.1, hq.2.1, ?_⟩, ?_, h.hm⟩
  · rw [heap_far _ _ _ (by omega), heap_far _ _ _ (by omega)]
    exact hm.hB
  · rw [setCell_size, setCell_size]
    have := hm.hz
    omega
  · rw [setCell_size, setCell_size]
    exact (Seq.own ho).keep_ fun b hb2 => by rw [heap_far _ _ _ (by have := hx b hb2; omega), heap_far _ _ _ (by have := hx b hb2; omega)]
  · rw [hq.2.2]
    simp
  · simp only [List.length_append, List.length_drop, List.length_cons, List.length_nil]
    omega

set_option maxRecDepth 100000 in
set_option maxHeartbeats 1000000 in
theorem rpass_any (t0 : ByteArray) (s0 : List UInt8) (k0 : Nat) (v0 : Value) (l0 : List It) (ov : Bool) (w : World) (hs0 : t0.data.toList = s0) (hm : s0.length ≤ 100000 ∧ k0 ≤ 100000 ∧ l0.length ≤ 100000) (hv : SeqI w w.heap.size v0 l0) :
    Calls Tryd.prog 70 #[.agg #[.string t0, .int .i64 (k0 : Int), v0, .bool ov]] w (PassDid ov v0 s0 k0 l0 w) := by
  have HV := Lib.hid hv
  have HM := Lib.hid hm
  have HS0 := Lib.hid hs0
  clear hv hm hs0
  go_enter Tryd.func70, Tryd.ntmps70
  go_wp2
  go_loopw [3, 4] (fun _ _ wr => ∃ t s k v l, Hid (PassAt w wr ov v0 s0 k0 l0 t s k v l)) (fun _ _ wr => strLen wr w.heap.size)
  case atStart =>
    have hb := bmore (bmore (bself w) (.cells #[.string t0, .int .i64 (k0 : Int), v0, .bool ov] 95)) (.cells #[.string ⟨#[]⟩, .int .i64 0, .slice none 0 0, .bool false] 95)
    obtain ⟨hA, hB, _, hz⟩ := two_blocks (w := w) (o1 := .cells #[.string t0, .int .i64 (k0 : Int), v0, .bool ov] 95) (o2 := .cells #[.string ⟨#[]⟩, .int .i64 0, .slice none 0 0, .bool false] 95) (Below.refl _ _)
    exact ⟨t0, s0, k0, v0, l0, HS0.out, hA, hB, hb, hz, HV.out.over (Nat.le_refl _) hb, fun b hb => .inl ⟨HV.out.old b hb, hb⟩, ⟨rfl, rfl, rfl⟩, ⟨Nat.le_refl _, Nat.le_refl _, Nat.le_refl _⟩, HM.out⟩
  case round =>
    obtain ⟨t, s, k, v, l, HP⟩ := hrel
    obtain ⟨A, n, c, rfl⟩ := seq_slice HP.out.hV
    cases s with
    | nil =>
      have he := empty_not HP.out.hs
      obtain ⟨a0, a1, a2, a3, f0, f1, f2, f3⟩ := blk4 HP.out.hA
      obtain ⟨b0, b1, b2, b3, g0, g1, g2, g3⟩ := blk4 HP.out.hB
      go_wp2
      refine bodyPost_ret (v := .agg #[.string t, .int .i64 (k : Int), .slice A n c, .bool ov]) (by simp [results, Tryd.results70, go_sem, b0, b1, b2, b3]) rfl ?_
      exact HP.out.ends (pass_nil ov k)
    | cons ch r =>
      have he := empty_yes HP.out.hs
      have HZ := Lib.hid (show t.size ≤ 1000000 by rw [← size_toList, HP.out.hs]; have := HP.out.hn; have := HP.out.hm; omega)
      obtain ⟨a0, a1, a2, a3, f0, f1, f2, f3⟩ := blk4 HP.out.hA
      obtain ⟨b0, b1, b2, b3, g0, g1, g2, g3⟩ := blk4 HP.out.hB
      cases hz : szF (ch :: r) with
      | wait =>
        have HS := Lib.hid (show szI (szF (ch :: r)) = -1 by rw [hz]; rfl)
        cases ov with
        | false =>
          have HE := Lib.hid (pass_wait (k := k) hz)
          clear hz
          go_wp2_with (go_at_call 78; ((with_reducible refine (rsize_at t ch r _ _ HP.out.hs HZ.out HS.out).mono ?_); rintro e w1 ⟨rfl, hb⟩; have HP1 := Lib.hid (HP.out.over hb); clear hb a0 a1 a2 a3 f0 f1 f2 f3 b0 b1 b2 b3 g0 g1 g2 g3; obtain ⟨a0, a1, a2, a3, f0, f1, f2, f3⟩ := blk4 HP1.out.hA; obtain ⟨b0, b1, b2, b3, g0, g1, g2, g3⟩ := blk4 HP1.out.hB))
          refine bodyPost_ret (v := .agg #[.string t, .int .i64 (k : Int), .slice A n c, .bool false]) (by simp [results, Tryd.results70, go_sem, b0, b1, b2, b3]) rfl ?_
          exact HP1.out.ends HE.out
        | true =>
          have HE := Lib.hid (pass_over (k := k) hz)
          have hk : (k : Int) ≤ 1000000 := by have := HP.out.hn; have := HP.out.hm; omega
          have hz1 : 1 ≤ t.size := by rw [← size_toList, HP.out.hs]; simp
          clear hz
          go_wp2_with (go_at_call 78; ((with_reducible refine (rsize_at t ch r _ _ HP.out.hs HZ.out HS.out).mono ?_); rintro e w1 ⟨rfl, hb⟩; have HP1 := Lib.hid (HP.out.over hb); clear hb a0 a1 a2 a3 f0 f1 f2 f3 b0 b1 b2 b3 g0 g1 g2 g3; obtain ⟨a0, a1, a2, a3, f0, f1, f2, f3⟩ := blk4 HP1.out.hA; obtain ⟨b0, b1, b2, b3, g0, g1, g2, g3⟩ := blk4 HP1.out.hB))
          go_roundw
          case rel => exact ⟨_, _, _, _, _, HP1.out.skip HE.out _ (tail_of HP.out.hs) _ (by omega)⟩
          case measure => rw [(HP1.out.skip HE.out _ (tail_of HP.out.hs) _ (by omega)).size, HP.out.size]; simp
      | no =>
        have HS := Lib.hid (show szI (szF (ch :: r)) = 0 by rw [hz]; rfl)
        have HE := Lib.hid (pass_no (ov := ov) (k := k) hz)
        have hk : (k : Int) ≤ 1000000 := by have := HP.out.hn; have := HP.out.hm; omega
        have hz1 : 1 ≤ t.size := by rw [← size_toList, HP.out.hs]; simp
        clear hz
        go_wp2_with (go_at_call 78; ((with_reducible refine (rsize_at t ch r _ _ HP.out.hs HZ.out HS.out).mono ?_); rintro e w1 ⟨rfl, hb⟩; have HP1 := Lib.hid (HP.out.over hb); clear hb a0 a1 a2 a3 f0 f1 f2 f3 b0 b1 b2 b3 g0 g1 g2 g3; obtain ⟨a0, a1, a2, a3, f0, f1, f2, f3⟩ := blk4 HP1.out.hA; obtain ⟨b0, b1, b2, b3, g0, g1, g2, g3⟩ := blk4 HP1.out.hB))
        go_roundw
        case rel => exact ⟨_, _, _, _, _, HP1.out.skip HE.out _ (tail_of HP.out.hs) _ (by omega)⟩
        case measure => rw [(HP1.out.skip HE.out _ (tail_of HP.out.hs) _ (by omega)).size, HP.out.size]; simp
      | frame m =>
        have HS := Lib.hid (show szI (szF (ch :: r)) = (m : Int) + 7 by rw [hz]; rfl)
        have HE := Lib.hid (pass_frame (ov := ov) (k := k) hz)
        have HF := Lib.hid (sz_frame hz)
        have hm1 : (m : Int) ≤ 256 := by have := HF.out.2.2.1; omega
        have hm2 : m + 7 ≤ t.size := by rw [← size_toList, HP.out.hs]; have := HF.out.2.2.2.1; simp; omega
        have hk : k ≤ 1000000 ∧ l.length ≤ 1000000 := by have := HP.out.hn; have := HP.out.hm; omega
        have HK := Lib.hid hk
        clear hz hk
        go_wp2_with (first
          | (go_at_call 78; ((with_reducible refine (rsize_at t ch r _ _ HP.out.hs HZ.out HS.out).mono ?_); rintro e w1 ⟨rfl, hb⟩; have HP1 := Lib.hid (HP.out.over hb); clear hb a0 a1 a2 a3 f0 f1 f2 f3 b0 b1 b2 b3 g0 g1 g2 g3; obtain ⟨a0, a1, a2, a3, f0, f1, f2, f3⟩ := blk4 HP1.out.hA; obtain ⟨b0, b1, b2, b3, g0, g1, g2, g3⟩ := blk4 HP1.out.hB))
          | (go_at_call 69; ((with_reducible refine (told_any t k _ l ov _ HK.out.1 HK.out.2 HP1.out.hV rfl).mono ?_); rintro e w2 ⟨A2, n2, c2, rfl, ho, hb⟩; have HM := Lib.hid (HP1.out.mid ho hb); have HP2 := Lib.hid (HP1.out.over hb); clear hb ho a0 a1 a2 a3 f0 f1 f2 f3 b0 b1 b2 b3 g0 g1 g2 g3; obtain ⟨a0, a1, a2, a3, f0, f1, f2, f3⟩ := blk4 HP2.out.hA)))
        have HM3 := Lib.hid HM.out.1
        have HO3 := Lib.hid HM.out.2
        unfold set4 at HM3 HO3
        generalize (((w2.setCell { block := w.heap.size, off := 0 } (Value.string t)).setCell { block := w.heap.size, off := 1 } (Value.int IntKind.i64 0)).setCell { block := w.heap.size, off := 2 } (Value.slice A2 n2 c2)).setCell { block := w.heap.size, off := 3 } (Value.bool ov) = w3 at HM3 HO3 ⊢
        clear HM HP2 a0 a1 a2 a3 f0 f1 f2 f3
        obtain ⟨x1, hx1⟩ : ∃ x1 : Int, (t[1].toNat : Int) = x1 := ⟨_, rfl⟩
        obtain ⟨x, hx⟩ : ∃ x : It, x = ⟨0, kindF (ch :: r), bodyF (ch :: r) m⟩ := ⟨_, rfl⟩
        have HX := Lib.hid hx
        have HXC : Hid ([Value.int IntKind.i64 0, Value.int IntKind.u8 x1, Value.string (t.extract 4 (m + 4))] = itC [x]) := Lib.hid (frame_cells HP.out.hs hm2 hx1 hx)
        have HK2 : Hid ((l ++ skipI k).length ≤ 1000001) := Lib.hid (by have := HK.out; have := skipI_length k; rw [List.length_append]; omega)
        have k1 : IntKind.i64.wrap ((m : Int) + 7 - 3) = (m : Int) + 4 := by rw [show (m : Int) + 7 - 3 = (m : Int) + 4 by omega]; exact IntWalk.i64_in _ (by omega)
        have k2 : ((m : Int) + 4).toNat = m + 4 := by omega
        have k3 : (m : Int) + 4 ≤ (t.size : Int) := by omega
        have k4 : (4 : Int) ≤ (m : Int) + 4 := by omega
        have k6 : (1 : Int) < (t.size : Int) := by omega
        have k5 : (0 : Int) ≤ (m : Int) + 4 := by omega
        clear hx
        refine wp_region_held_drew (S := fun w' => Hid True) (by kernel_rfl) ?_ (fun hHeld => ?_)
        · (try dsimp only)
          exact Lib.hid trivial
        refine wpAnyH_take (i := 0) (v := ?_) rfl (by kernel_rfl) (by kernel_rfl) (by kernel_rfl) (fun _ _ _ h => h) (Or.inl ⟨by rfl, ?_⟩) (by assumption) ?_
        rotate_left
        · intro w hSw
          (try dsimp only at hSw)
          go_simp
          try with_reducible rfl
        (try simp only [Act.put, List.getElem_toArray, List.getElem_cons_zero, List.setIfInBounds_toArray, List.set_cons_zero, List.set_cons_succ])
        refine wpAnyH_take (i := 2) (v := ?_) rfl (by kernel_rfl) (by kernel_rfl) (by kernel_rfl) (fun _ _ _ h => h) (Or.inl ⟨by rfl, ?_⟩) (by assumption) ?_
        rotate_left
        · intro w hSw
          (try dsimp only at hSw)
          go_simp
          try with_reducible rfl
        (try simp only [Act.put, List.getElem_toArray, List.getElem_cons_succ, List.getElem_cons_zero, List.setIfInBounds_toArray, List.set_cons_zero, List.set_cons_succ])
        refine wpAnyH_take (i := 3) (v := ?_) rfl (by kernel_rfl) (by kernel_rfl) (by kernel_rfl) (fun _ _ _ h => h) (Or.inl ⟨by rfl, ?_⟩) (by assumption) ?_
        rotate_left
        · intro w hSw
          (try dsimp only at hSw)
          go_simp
          try with_reducible rfl
        (try simp only [Act.put, List.getElem_toArray, List.getElem_cons_succ, List.getElem_cons_zero, List.setIfInBounds_toArray, List.set_cons_zero, List.set_cons_succ])
        refine wpAnyH_take (i := 4) (v := ?_) rfl (by kernel_rfl) (by kernel_rfl) (by kernel_rfl) (fun _ _ _ h => h) (Or.inl ⟨by rfl, ?_⟩) (by assumption) ?_
        rotate_left
        · intro w hSw
          (try dsimp only at hSw)
          go_simp
          try with_reducible rfl
        (try simp only [Act.put, List.getElem_toArray, List.getElem_cons_succ, List.getElem_cons_zero, List.setIfInBounds_toArray, List.set_cons_zero, List.set_cons_succ])
        refine wpAnyH_take (i := 5) (v := ?_) rfl (by kernel_rfl) (by kernel_rfl) (by kernel_rfl) (fun _ _ _ h => h) (Or.inl ⟨by rfl, ?_⟩) (by assumption) ?_
        rotate_left
        · intro w hSw
          (try dsimp only at hSw)
          go_simp
          try with_reducible rfl
        (try simp only [Act.put, List.getElem_toArray, List.getElem_cons_succ, List.getElem_cons_zero, List.setIfInBounds_toArray, List.set_cons_zero, List.set_cons_succ])
        refine wpAnyH_take (i := 6) (v := ?_) rfl (by kernel_rfl) (by kernel_rfl) (by kernel_rfl) (fun _ _ _ h => h) (Or.inl ⟨by rfl, ?_⟩) (by assumption) ?_
        rotate_left
        · intro w hSw
          (try dsimp only at hSw)
          go_simp
          try with_reducible rfl
        (try simp only [Act.put, List.getElem_toArray, List.getElem_cons_succ, List.getElem_cons_zero, List.setIfInBounds_toArray, List.set_cons_zero, List.set_cons_succ])
        refine wpAnyH_take (i := 7) (v := ?_) rfl (by kernel_rfl) (by kernel_rfl) (by kernel_rfl) (fun _ _ _ h => h) (Or.inl ⟨by rfl, ?_⟩) (by assumption) ?_
        rotate_left
        · intro w hSw
          (try dsimp only at hSw)
          go_simp
          try with_reducible rfl
        (try simp only [Act.put, List.getElem_toArray, List.getElem_cons_succ, List.getElem_cons_zero, List.setIfInBounds_toArray, List.set_cons_zero, List.set_cons_succ])
        refine wpAnyH_take (i := 8) (v := ?_) rfl (by kernel_rfl) (by kernel_rfl) (by kernel_rfl) (fun _ _ _ h => h) (Or.inl ⟨by rfl, ?_⟩) (by assumption) ?_
        rotate_left
        · intro w hSw
          (try dsimp only at hSw)
          go_simp
          try with_reducible rfl
        (try simp only [Act.put, List.getElem_toArray, List.getElem_cons_succ, List.getElem_cons_zero, List.setIfInBounds_toArray, List.set_cons_zero, List.set_cons_succ])
        refine wpAnyH_ready (rs := [1, 9]) (by kernel_rfl) (by simp) ?_
        refine AllReadyH.cons rfl (fun K hK => ?_) (AllReadyH.cons rfl (fun K hK => ?_) AllReadyH.nil)
        · obtain ⟨a0, a1, a2, a3, _, _, _, _⟩ := blk4 (HM3.out.over (w' := w3.drew) (Below.refl _ _).drew).hA
          go_simp
          clear a0 a1 a2 a3
          refine hK.out _ _ ?_ (fun hHeld => ?_)
          · (try dsimp only)
            exact Lib.hid trivial
          clear hK K
          (try simp only [Act.put, List.getElem_toArray, List.getElem_cons_succ, List.getElem_cons_zero, List.setIfInBounds_toArray, List.set_cons_zero, List.set_cons_succ])
          refine wpAnyH_ready (rs := [9]) (by kernel_rfl) (by simp) ?_
          refine AllReadyH.cons rfl (fun K hK => ?_) AllReadyH.nil
          go_simp
          refine hK.out _ _ ?_ (fun hHeld => ?_)
          · (try dsimp only)
            exact Lib.hid trivial
          clear hK K
          (try simp only [Act.put, List.getElem_toArray, List.getElem_cons_succ, List.getElem_cons_zero, List.setIfInBounds_toArray, List.set_cons_zero, List.set_cons_succ])
          refine wpAnyH_ready (rs := [10]) (by kernel_rfl) (by simp) ?_
          refine AllReadyH.cons rfl (fun K hK => ?_) AllReadyH.nil
          rw [if_pos (by rfl)]
          refine wp_app_seq_op (.tmp 34) (.tmp 42) 93 99 _ 3 32 Tryd.underlying93 info_I rfl (by omega) rfl w1.heap.size (.slice A2 n2 c2) _ (l ++ skipI k).length 1 (itC (l ++ skipI k)) _ (by simp [go_sem]) (by simp [go_sem]) (ownsRow_over HO3.out ((bself w3).drew.alloc (Nat.le_refl _) _)) (Seq.lit_ w3.drew [Value.int IntKind.i64 0, Value.int IntKind.u8 x1, Value.string (t.extract 4 (m + 4))] _) (by rw [HXC.out]; exact itC_one _) (by have := HK2.out; omega) (Nat.le_trans HM3.out.hz.2 (by simp)) ?_
          intro v4 w4 hg4
          have HM4 := Lib.hid ((HM3.out.over ((Below.refl _ _).drew.alloc HM3.out.hz.2 _)).over hg4.2.2.2)
          have HO4 := Lib.hid (OwnI.join (l := l ++ skipI k) (j := [x]) (by have h := hg4.1; rw [HXC.out] at h; exact h) rfl rfl)
          obtain ⟨A4, n4, c4, rfl⟩ := own_slice HO4.out
          clear hg4
          refine hK.out _ _ ?_ (fun hHeld => ?_)
          · (try dsimp only)
            exact Lib.hid trivial
          clear hK K
          (try simp only [Act.put, List.getElem_toArray, List.getElem_cons_succ, List.getElem_cons_zero, List.setIfInBounds_toArray, List.set_cons_zero, List.set_cons_succ])
          refine wpAnyH_take (i := 11) (v := ?_) rfl (by kernel_rfl) (by kernel_rfl) (by kernel_rfl) (fun _ _ _ h => h) (Or.inl ⟨by rfl, ?_⟩) (by assumption) ?_
          rotate_left
          · intro w hSw
            (try dsimp only at hSw)
            go_simp
            try with_reducible rfl
          (try simp only [Act.put, List.getElem_toArray, List.getElem_cons_succ, List.getElem_cons_zero, List.setIfInBounds_toArray, List.set_cons_zero, List.set_cons_succ])
          refine wpAnyH_ready (rs := [12]) (by kernel_rfl) (by simp) ?_
          refine AllReadyH.cons rfl (fun K hK => ?_) AllReadyH.nil
          obtain ⟨a0, a1, a2, a3, f0, f1, f2, f3⟩ := blk4 HM4.out.hA
          go_simp
          refine hK.out _ _ ?_ (fun hHeld => ?_)
          · (try dsimp only)
            exact Lib.hid trivial
          clear hK K
          (try simp only [Act.put, List.getElem_toArray, List.getElem_cons_succ, List.getElem_cons_zero, List.setIfInBounds_toArray, List.set_cons_zero, List.set_cons_succ])
          refine wpAnyH_done (by kernel_rfl) ?_ _
          go_wp2
          go_roundw
          case rel => exact ⟨_, _, _, _, _, HP.out.framed HE.out HF.out hm2 HX.out HM4.out HO4.out HM4.out.hz.1⟩
          case measure => rw [(HP.out.framed HE.out HF.out hm2 HX.out HM4.out HO4.out HM4.out.hz.1).size, HP.out.size]; simp; omega
        · go_simp
          refine hK.out _ _ ?_ (fun hHeld => ?_)
          · (try dsimp only)
            exact Lib.hid trivial
          clear hK K
          (try simp only [Act.put, List.getElem_toArray, List.getElem_cons_succ, List.getElem_cons_zero, List.setIfInBounds_toArray, List.set_cons_zero, List.set_cons_succ])
          refine wpAnyH_ready (rs := [1]) (by kernel_rfl) (by simp) ?_
          refine AllReadyH.cons rfl (fun K hK => ?_) AllReadyH.nil
          obtain ⟨a0, a1, a2, a3, _, _, _, _⟩ := blk4 (HM3.out.over (w' := (w3.alloc (Obj.cells #[Value.int IntKind.i64 0, Value.int IntKind.u8 x1, Value.string (t.extract 4 (m + 4))] 99))) ((Below.refl _ _).alloc HM3.out.hz.2 _)).hA
          go_simp
          clear a0 a1 a2 a3
          refine hK.out _ _ ?_ (fun hHeld => ?_)
          · (try dsimp only)
            exact Lib.hid trivial
          clear hK K
          (try simp only [Act.put, List.getElem_toArray, List.getElem_cons_succ, List.getElem_cons_zero, List.setIfInBounds_toArray, List.set_cons_zero, List.set_cons_succ])
          refine wpAnyH_ready (rs := [10]) (by kernel_rfl) (by simp) ?_
          refine AllReadyH.cons rfl (fun K hK => ?_) AllReadyH.nil
          rw [if_pos (by rfl)]
          refine wp_app_seq_op (.tmp 34) (.tmp 42) 93 99 _ 3 32 Tryd.underlying93 info_I rfl (by omega) rfl w1.heap.size (.slice A2 n2 c2) _ (l ++ skipI k).length 1 (itC (l ++ skipI k)) _ (by simp [go_sem]) (by simp [go_sem]) (ownsRow_over HO3.out ((bself w3).drew.alloc (Nat.le_refl _) _)) (Seq.lit_ w3.drew [Value.int IntKind.i64 0, Value.int IntKind.u8 x1, Value.string (t.extract 4 (m + 4))] _) (by rw [HXC.out]; exact itC_one _) (by have := HK2.out; omega) (Nat.le_trans HM3.out.hz.2 (by simp)) ?_
          intro v4 w4 hg4
          have HM4 := Lib.hid ((HM3.out.over ((Below.refl _ _).drew.alloc HM3.out.hz.2 _)).over hg4.2.2.2)
          have HO4 := Lib.hid (OwnI.join (l := l ++ skipI k) (j := [x]) (by have h := hg4.1; rw [HXC.out] at h; exact h) rfl rfl)
          obtain ⟨A4, n4, c4, rfl⟩ := own_slice HO4.out
          clear hg4
          refine hK.out _ _ ?_ (fun hHeld => ?_)
          · (try dsimp only)
            exact Lib.hid trivial
          clear hK K
          (try simp only [Act.put, List.getElem_toArray, List.getElem_cons_succ, List.getElem_cons_zero, List.setIfInBounds_toArray, List.set_cons_zero, List.set_cons_succ])
          refine wpAnyH_take (i := 11) (v := ?_) rfl (by kernel_rfl) (by kernel_rfl) (by kernel_rfl) (fun _ _ _ h => h) (Or.inl ⟨by rfl, ?_⟩) (by assumption) ?_
          rotate_left
          · intro w hSw
            (try dsimp only at hSw)
            go_simp
            try with_reducible rfl
          (try simp only [Act.put, List.getElem_toArray, List.getElem_cons_succ, List.getElem_cons_zero, List.setIfInBounds_toArray, List.set_cons_zero, List.set_cons_succ])
          refine wpAnyH_ready (rs := [12]) (by kernel_rfl) (by simp) ?_
          refine AllReadyH.cons rfl (fun K hK => ?_) AllReadyH.nil
          obtain ⟨a0, a1, a2, a3, f0, f1, f2, f3⟩ := blk4 HM4.out.hA
          go_simp
          refine hK.out _ _ ?_ (fun hHeld => ?_)
          · (try dsimp only)
            exact Lib.hid trivial
          clear hK K
          (try simp only [Act.put, List.getElem_toArray, List.getElem_cons_succ, List.getElem_cons_zero, List.setIfInBounds_toArray, List.set_cons_zero, List.set_cons_succ])
          refine wpAnyH_done (by kernel_rfl) ?_ _
          go_wp2
          go_roundw
          case rel => exact ⟨_, _, _, _, _, HP.out.framed HE.out HF.out hm2 HX.out HM4.out HO4.out HM4.out.hz.1⟩
          case measure => rw [(HP.out.framed HE.out HF.out hm2 HX.out HM4.out HO4.out HM4.out.hz.1).size, HP.out.size]; simp; omega
end Go.Proofs.YthnkiabhfcddaaaDoor
/-
  Contracts of layer 4's reference: Give, End, Next; a decoder's state.
-/
namespace Go.Proofs.YthnkiabhfcddaaaDoor
open Go.RowKit
set_option linter.unusedVariables false
theorem rpass_at (s0 : List UInt8) (k0 : Nat) (v0 : Value) (l0 : List It) (ov : Bool) (w : World) (hm : s0.length ≤ 100000 ∧ k0 ≤ 100000 ∧ l0.length ≤ 100000) (hv : SeqI w w.heap.size v0 l0) (d : DS) (hd : d = ⟨(passF ov s0 k0).1, (passF ov s0 k0).2.1, l0 ++ (passF ov s0 k0).2.2, ov⟩) :
    Calls Tryd.prog 70 #[.agg #[.string (mkB s0), .int .i64 (k0 : Int), v0, .bool ov]] w (DDid d v0 w) := by
  subst hd
  refine (rpass_any (mkB s0) s0 k0 v0 l0 ov w rfl hm hv).mono fun e w' h => ?_
  obtain ⟨v', rfl, h1, h2, h3⟩ := h
  obtain ⟨A, n, c, rfl⟩ := seq_slice h1
  exact ⟨A, n, c, rfl, h1, h2, h3⟩

set_option maxRecDepth 100000 in
theorem rgive_over (a b : List UInt8) (k : Nat) (A : Option Addr) (n c : Nat) (l : List It) (w : World) (hv : SeqI w w.heap.size (.slice A n c) l) :
    Calls Tryd.prog 48 #[.agg #[.string (mkB a), .int .i64 (k : Int), .slice A n c, .bool true], .string (mkB b)] w (DDid ⟨a, k, l, true⟩ (.slice A n c) w) := by
  have HV := Lib.hid hv
  clear hv
  go_enter Tryd.func48, Tryd.ntmps48
  go_wp2
  refine bodyPost_ret (v := .agg #[.string (mkB a), .int .i64 (k : Int), .slice A n c, .bool true]) (by simp [results, Tryd.results48, go_sem]) rfl ?_
  have hb := bmore (bmore (bself w) (.cells #[.string (mkB a), .int .i64 (k : Int), .slice A n c, .bool true] 95)) (.cells #[.string (mkB a), .int .i64 (k : Int), .slice A n c, .bool true] 95)
  exact ⟨A, n, c, rfl, HV.out.over (Nat.le_refl _) hb, fun b h => .inl h, hb⟩

set_option maxRecDepth 100000 in
theorem rgive_open (a b : List UInt8) (k : Nat) (A : Option Addr) (n c : Nat) (l : List It) (w : World) (hm : a.length + b.length ≤ 100000 ∧ k ≤ 100000 ∧ l.length ≤ 100000) (hv : SeqI w w.heap.size (.slice A n c) l) (d : DS) (hd : giveS ⟨a, k, l, false⟩ b = d) :
    Calls Tryd.prog 48 #[.agg #[.string (mkB a), .int .i64 (k : Int), .slice A n c, .bool false], .string (mkB b)] w (DDid d (.slice A n c) w) := by
  have HV := Lib.hid hv
  have HM := Lib.hid (show (a ++ b).length ≤ 100000 ∧ k ≤ 100000 ∧ l.length ≤ 100000 by rw [List.length_append]; exact hm)
  have HD := Lib.hid (show d = ⟨(passF false (a ++ b) k).1, (passF false (a ++ b) k).2.1, l ++ (passF false (a ++ b) k).2.2, false⟩ from hd.symm.trans rfl)
  have hadd : ∀ w : World, (Op.stringOp .add (mkB a) (mkB b)).run Tryd.prog w = .ok (.string (mkB (a ++ b))) w := fun w => run_add w a b (by omega)
  clear hv hm hd
  go_enter Tryd.func48, Tryd.ntmps48
  go_wp2_with (go_at_call 70; ((with_reducible refine Calls.mono (rpass_at (a ++ b) k _ l false _ HM.out ?_ d HD.out) ?_); (exact HV.out.over (Nat.le_refl _) (bmore (bmore (bself w) _) _)); rintro e w1 ⟨A2, n2, c2, rfl, hs, hfr, hb⟩; obtain ⟨hA, hB, hW, hz⟩ := two_blocks hb; have HS := Lib.hid hs; have HF := Lib.hid hfr; have HW := Lib.hid hW; obtain ⟨b0, b1, b2, b3, f0, f1, f2, f3⟩ := blk4 hB; clear hA hB hW hb hs hfr))
  refine bodyPost_ret (v := .agg #[.string (mkB d.wait), .int .i64 (d.skip : Int), .slice A2 n2 c2, .bool d.over]) (by simp [results, Tryd.results48, go_sem, b0, b1, b2, b3]) rfl ?_
  exact give_end HV.out HS.out HF.out HW.out (by simp)

set_option maxRecDepth 100000 in
theorem rend_over (a : List UInt8) (k : Nat) (A : Option Addr) (n c : Nat) (l : List It) (w : World) (hv : SeqI w w.heap.size (.slice A n c) l) :
    Calls Tryd.prog 47 #[.agg #[.string (mkB a), .int .i64 (k : Int), .slice A n c, .bool true]] w (DDid ⟨a, k, l, true⟩ (.slice A n c) w) := by
  have HV := Lib.hid hv
  clear hv
  go_enter Tryd.func47, Tryd.ntmps47
  go_wp2
  refine bodyPost_ret (v := .agg #[.string (mkB a), .int .i64 (k : Int), .slice A n c, .bool true]) (by simp [results, Tryd.results47, go_sem]) rfl ?_
  have hb := bmore (bmore (bself w) (.cells #[.string (mkB a), .int .i64 (k : Int), .slice A n c, .bool true] 95)) (.cells #[.string (mkB a), .int .i64 (k : Int), .slice A n c, .bool true] 95)
  exact ⟨A, n, c, rfl, HV.out.over (Nat.le_refl _) hb, fun b h => .inl h, hb⟩

set_option maxRecDepth 100000 in
theorem rend_open (a : List UInt8) (k : Nat) (A : Option Addr) (n c : Nat) (l : List It) (w : World) (hm : a.length ≤ 100000 ∧ k ≤ 100000 ∧ l.length ≤ 100000) (hv : SeqI w w.heap.size (.slice A n c) l) (p d : DS) (hp : p = ⟨(passF true a k).1, (passF true a k).2.1, l ++ (passF true a k).2.2, true⟩) (hd : endS ⟨a, k, l, false⟩ = d) (hpm : p.skip ≤ 1000000 ∧ p.items.length ≤ 1000000) :
    Calls Tryd.prog 47 #[.agg #[.string (mkB a), .int .i64 (k : Int), .slice A n c, .bool false]] w (DDid d (.slice A n c) w) := by
  have HV := Lib.hid hv
  have HM := Lib.hid hm
  have HP := Lib.hid hp
  have HPM := Lib.hid hpm
  have hq : p.over = true := by rw [hp]
  have HD := Lib.hid (show d = ⟨p.wait, 0, p.items ++ skipI p.skip, p.over⟩ by rw [← hd, hp]; rfl)
  clear hv hm hd hp hpm hq
  go_enter Tryd.func47, Tryd.ntmps47
  go_wp2_with (first
    | (go_at_call 70; ((with_reducible refine Calls.mono (rpass_at a k _ l true _ HM.out ?_ p HP.out) ?_); (exact HV.out.over (Nat.le_refl _) (bmore (bmore (bself w) _) _)); rintro e w1 ⟨A2, n2, c2, rfl, hs, hfr, hb⟩; have HS := Lib.hid hs; have HF := Lib.hid hfr; have HB := Lib.hid hb; clear hb hs hfr))
    | (go_at_call 69; ((with_reducible refine (told_any (mkB p.wait) p.skip _ p.items p.over w1 HPM.out.1 HPM.out.2 HS.out rfl).mono ?_); rintro e w2 ⟨A3, n3, c3, rfl, ho, hb⟩; obtain ⟨hA, hB, hW, hz⟩ := two_blocks (HB.out.trans (hb.mono HB.out.size)); have HO := Lib.hid ho; have HW := Lib.hid hW; obtain ⟨b0, b1, b2, b3, f0, f1, f2, f3⟩ := blk4 hB; clear hA hB hW hb ho)))
  refine bodyPost_ret (v := .agg #[.string (mkB p.wait), .int .i64 0, .slice A3 n3 c3, .bool p.over]) (by simp [results, Tryd.results47, go_sem, b0, b1, b2, b3]) rfl ?_
  rw [HD.out]
  have hz1 := HB.out.size
  simp only [World.size_alloc] at hz1
  exact give_end (d := ⟨p.wait, 0, p.items ++ skipI p.skip, p.over⟩) (w2 := (w.alloc (.cells #[] 0)).alloc (.cells #[] 0)) HV.out (Seq.own HO.out) (fun b hb => .inr (by have := (ownsRow_old HO.out b hb).1; simp only [World.size_alloc]; omega)) HW.out (by simp)

theorem rgive_any (d : DS) (A : Option Addr) (n c : Nat) (b : List UInt8) (w : World) (hm : d.wait.length + b.length ≤ 100000 ∧ d.skip ≤ 100000 ∧ d.items.length ≤ 100000) (hv : SeqI w w.heap.size (.slice A n c) d.items) (d' : DS) (hd : giveS d b = d') :
    Calls Tryd.prog 48 #[.agg #[.string (mkB d.wait), .int .i64 (d.skip : Int), .slice A n c, .bool d.over], .string (mkB b)] w (DDid d' (.slice A n c) w) := by
  obtain ⟨a, k, l, ov⟩ := d
  cases ov
  · exact rgive_open a b k A n c l w hm hv d' hd
  · subst hd
    exact rgive_over a b k A n c l w hv
theorem rdend_any (d : DS) (A : Option Addr) (n c : Nat) (w : World) (hm : d.wait.length ≤ 100000 ∧ d.skip ≤ 100000 ∧ d.items.length ≤ 100000) (hv : SeqI w w.heap.size (.slice A n c) d.items) (d' : DS) (hd : endS d = d') :
    Calls Tryd.prog 47 #[.agg #[.string (mkB d.wait), .int .i64 (d.skip : Int), .slice A n c, .bool d.over]] w (DDid d' (.slice A n c) w) := by
  obtain ⟨a, k, l, ov⟩ := d
  cases ov
  · have := pass_small true a k
    dsimp only at hm
    exact rend_open a k A n c l w hm hv _ d' rfl hd (by dsimp only; rw [List.length_append]; omega)
  · subst hd
    exact rend_over a k A n c l w hv
end Go.Proofs.YthnkiabhfcddaaaDoor
