/-
  Contracts of layer 4's reference: told; its items as cells.
-/
import Derived.Test.YtpgainalimmecaaDoorFrameMath
import Derived.Test.YtpgainalimmecaaDoorSeq
import Derived.Test.YtpgainalimmecaaDoorStr
import Derived.Test.YtpgainalimmecaaDoorPairs
import Derived.Test.YtpgainalimmecaaDoorBlocks
namespace Go.Proofs.YtpgainalimmecaaDoor
open Go.RowKit
set_option linter.unusedVariables false

/-- The reference's items as cells. -/
def itc (x : It) : List Value := [.int .i64 (x.skip : Int), .int .u8 (x.kind.toNat : Int), .string (mkB x.body)]
def itC (l : List It) : List Value := l.flatMap itc
theorem itC_length (l : List It) : (itC l).length = l.length * 3 := by
  induction l with
  | nil => rfl
  | cons x l ih => simp only [itC, List.flatMap_cons, List.length_append, List.length_cons] at ih ⊢; rw [ih]; simp [itc]; omega
theorem itC_append (a b : List It) : itC (a ++ b) = itC a ++ itC b := by simp [itC]
theorem itC_one (l : List It) : ∀ y ∈ itC l, y.oneCell' = true := by
  intro y hy
  obtain ⟨x, _, hx⟩ := List.mem_flatMap.1 hy
  simp [itc] at hx
  rcases hx with rfl | rfl | rfl <;> rfl
/-- A slice of items. -/
def SeqI (w : World) (B : Nat) (v : Value) (l : List It) : Prop := Seq w B 3 v l.length (itC l)
def OwnI (w : World) (base : Nat) (v : Value) (l : List It) : Prop := w.ownsRow base 46 3 v l.length (itC l)
theorem info_I : (Tryd.prog.info? 46).map (fun i => (i.zero, i.size, i.bytes)) = some (some (.agg #[.int .i64 0, .int .u8 0, .string ByteArray.empty]), 3, 32) := by kernel_rfl
theorem OwnI.nil_ (w : World) (base : Nat) : OwnI w base (.slice none 0 0) [] := World.ownsRow_nil w base _ 3
theorem skip_cells (k : Nat) (hk : 0 < k) : itC (skipI k) = [.int .i64 (k : Int), .int .u8 0, .string ⟨#[]⟩] := by
  unfold skipI; rw [if_pos hk]; rfl

theorem OwnI.join {w : World} {base n m : Nat} {v : Value} {l j : List It} (h : w.ownsRow base 46 3 v (n + m) (itC l ++ itC j)) (hn : n = l.length) (hm : m = j.length) : OwnI w base v (l ++ j) := by
  subst hn; subst hm
  unfold OwnI
  rw [itC_append, List.length_append]
  exact h

set_option maxRecDepth 100000 in
theorem told_pos (s : ByteArray) (k : Nat) (v : Value) (l : List It) (ov : Bool) (w : World) (hk : 0 < k) (hk2 : k ≤ 1000000) (hl : l.length ≤ 1000000) (hv : SeqI w w.heap.size v l) :
    Calls Tryd.prog 35 #[.agg #[.string s, .int .i64 (k : Int), v, .bool ov]] w fun e w' => ∃ v', e = .returned (.agg #[.string s, .int .i64 0, v', .bool ov]) ∧ OwnI w' w.heap.size v' (l ++ skipI k) ∧ Below w.heap.size w w' := by
  have HV := Lib.hid hv
  have HL := Lib.hid hl
  have h1 : (0 : Int) < (k : Int) := by omega
  have HK := Lib.hid (skip_cells k hk)
  clear hv hl hk
  go_enter Tryd.func35, Tryd.ntmps35
  go_wp2_with (first
    | (at_builtin; refine wp_app_seq rfl (.tmp 4) (.tmp 6) 34 46 _ 3 32 Tryd.underlying34 info_I rfl (by omega) rfl _ (.slice none 0 0) v 0 l.length [] (itC l) rfl rfl (OwnI.nil_ _ _) (HV.out.over (Nat.le_refl _) (bmore (bmore (bself w) _) _)) (itC_one l) (by have := HL.out; omega) (Nat.le_refl _) ?_; intro v1 w1 hg1; obtain ⟨hA, hB, hW, hz⟩ := two_blocks hg1.2.2.2; obtain ⟨a0, a1, a2, a3, _, _, _, _⟩ := blk4 hA; have HA := Lib.hid hA; have HB := Lib.hid hB; have HW := Lib.hid hW; have HG := Lib.hid hg1; clear hA hB hW hg1)
    | (at_builtin; refine wp_app_seq rfl (.tmp 11) (.tmp 15) 34 46 _ 3 32 Tryd.underlying34 info_I rfl (by omega) rfl _ v1 _ (0 + l.length) 1 (itC l) _ rfl rfl (ownsRow_over HG.out.1 (bmore (bself w1) _)) (Seq.lit_ w1 [.int .i64 (k : Int), .int .u8 0, .string ⟨#[]⟩] _) (by rw [← HK.out]; exact itC_one _) (by have := HL.out; omega) (Nat.le_trans HG.out.2.1.size (by simp)) ?_; intro v2 w2 hg2; have hbb := (HG.out.2.2.2.alloc HG.out.2.2.2.size _).trans hg2.2.2.2; obtain ⟨hA, hB, hW, hz⟩ := two_blocks hbb; clear a0 a1 a2 a3; obtain ⟨a0, a1, a2, a3, _, _, _, _⟩ := blk4 hA; obtain ⟨b0, b1, b2, b3, f0, f1, f2, f3⟩ := blk4 hB; have HW2 := Lib.hid hW; have HO := Lib.hid (OwnI.join (l := l) (j := skipI k) (v := v2) (by have h := hg2.1; rw [← HK.out] at h; exact h) (by omega) (by unfold skipI; rw [if_pos (by omega)]; rfl)); obtain ⟨A2, n2, c2, rfl⟩ := own_slice HO.out; clear hA hB hW hg2 hbb HG HA HB HW))
  refine bodyPost_ret (v := .agg #[.string s, .int .i64 0, .slice A2 n2 c2, .bool ov]) (by simp [results, Tryd.results35, go_sem, b0, b1, b2, b3]) rfl ?_
  have hz2 : ((w.alloc (Obj.cells #[Value.string s, Value.int IntKind.i64 (k : Int), v, Value.bool ov] 36)).alloc (Obj.cells #[Value.string { data := #[] }, Value.int IntKind.i64 0, Value.slice none 0 0, Value.bool false] 36)).heap.size = w.heap.size + 2 := by simp
  have HO2 := HO.out
  rw [hz2] at HO2
  have p0 : w.heap.size + 1 < w.heap.size + 2 := by omega
  have p1 : w.heap.size ≤ w.heap.size + 1 := by omega
  exact ⟨_, rfl, ownsRow_mono (ownsRow_setCell_below (ownsRow_setCell_below (ownsRow_setCell_below (ownsRow_setCell_below HO2 p0 _) p0 _) p0 _) p0 _) (by omega), (((HW2.out.setCell p1 _).setCell p1 _).setCell p1 _).setCell p1 _⟩

set_option maxRecDepth 100000 in
theorem told_zero (s : ByteArray) (v : Value) (l : List It) (ov : Bool) (w : World) (hl : l.length ≤ 1000000) (hv : SeqI w w.heap.size v l) :
    Calls Tryd.prog 35 #[.agg #[.string s, .int .i64 0, v, .bool ov]] w fun e w' => ∃ v', e = .returned (.agg #[.string s, .int .i64 0, v', .bool ov]) ∧ OwnI w' w.heap.size v' (l ++ skipI 0) ∧ Below w.heap.size w w' := by
  have HV := Lib.hid hv
  have HL := Lib.hid hl
  clear hv hl
  go_enter Tryd.func35, Tryd.ntmps35
  go_wp2_with (first
    | (at_builtin; refine wp_app_seq rfl (.tmp 4) (.tmp 6) 34 46 _ 3 32 Tryd.underlying34 info_I rfl (by omega) rfl _ (.slice none 0 0) v 0 l.length [] (itC l) rfl rfl (OwnI.nil_ _ _) (HV.out.over (Nat.le_refl _) (bmore (bmore (bself w) _) _)) (itC_one l) (by have := HL.out; omega) (Nat.le_refl _) ?_; intro v1 w1 hg1; obtain ⟨hA, hB, hW, hz⟩ := two_blocks hg1.2.2.2; obtain ⟨a0, a1, a2, a3, _, _, _, _⟩ := blk4 hA; obtain ⟨b0, b1, b2, b3, f0, f1, f2, f3⟩ := blk4 hB; have HW := Lib.hid hW; have HO := Lib.hid (OwnI.join (l := []) (j := l) hg1.1 rfl rfl); obtain ⟨A2, n2, c2, rfl⟩ := own_slice HO.out; clear hA hB hW hg1))
  refine bodyPost_ret (v := .agg #[.string s, .int .i64 0, .slice A2 n2 c2, .bool ov]) (by simp [results, Tryd.results35, go_sem, b0, b1, b2, b3]) rfl ?_
  have hz2 : ((w.alloc (Obj.cells #[Value.string s, Value.int IntKind.i64 0, v, Value.bool ov] 36)).alloc (Obj.cells #[Value.string { data := #[] }, Value.int IntKind.i64 0, Value.slice none 0 0, Value.bool false] 36)).heap.size = w.heap.size + 2 := by simp
  have HO2 := HO.out
  rw [hz2] at HO2
  have p0 : w.heap.size + 1 < w.heap.size + 2 := by omega
  have p1 : w.heap.size ≤ w.heap.size + 1 := by omega
  have hs : l ++ skipI 0 = [] ++ l := by simp [skipI]
  exact ⟨_, rfl, by rw [hs]; exact ownsRow_mono (ownsRow_setCell_below (ownsRow_setCell_below (ownsRow_setCell_below (ownsRow_setCell_below HO2 p0 _) p0 _) p0 _) p0 _) (by omega), (((HW.out.setCell p1 _).setCell p1 _).setCell p1 _).setCell p1 _⟩

/-- What told leaves. -/
def ToldDid (s : ByteArray) (ov : Bool) (l : List It) (w : World) (e : Ending) (w' : World) : Prop := ∃ A n c, e = .returned (.agg #[.string s, .int .i64 0, .slice A n c, .bool ov]) ∧ OwnI w' w.heap.size (.slice A n c) l ∧ Below w.heap.size w w'
theorem told_any (s : ByteArray) (k : Nat) (v : Value) (l : List It) (ov : Bool) (w : World) (hk : k ≤ 1000000) (hl : l.length ≤ 1000000) (hv : SeqI w w.heap.size v l) {j : List It} (hj : l ++ skipI k = j) :
    Calls Tryd.prog 35 #[.agg #[.string s, .int .i64 (k : Int), v, .bool ov]] w (ToldDid s ov j w) := by
  subst hj
  have h : Calls Tryd.prog 35 #[.agg #[.string s, .int .i64 (k : Int), v, .bool ov]] w fun e w' => ∃ v', e = .returned (.agg #[.string s, .int .i64 0, v', .bool ov]) ∧ OwnI w' w.heap.size v' (l ++ skipI k) ∧ Below w.heap.size w w' := by
    by_cases h0 : 0 < k
    · exact told_pos s k v l ov w h0 hk hl hv
    · obtain rfl : k = 0 := by omega
      exact told_zero s v l ov w hl hv
  refine h.mono fun e w' h => ?_
  obtain ⟨v', rfl, h1, h2⟩ := h
  obtain ⟨A, n, c, rfl⟩ := own_slice h1
  exact ⟨A, n, c, rfl, h1, h2⟩
end Go.Proofs.YtpgainalimmecaaDoor
