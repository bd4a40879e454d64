/-
  Contract of layer 6's reference: Take.
-/
import Derived.Test.YtiflpjdiokloaaaDoorPackJ
import Derived.Test.YtiflpjdiokloaaaDoorRefFrameM
import Derived.Deep.Cut
namespace Go.Proofs.YtiflpjdiokloaaaDoor
open Go.RowKit
set_option linter.unusedVariables false

/-- Where Take stands: the blocks of the answer, of the message so far, of the reader. -/
structure TkAt (w wr : World) (g : Nat) (x0 x1 x2 x3 s e : Value) : Prop where
  hg : g = w.heap.size
  hR : wr.heap[g]? = some (.cells #[.int .u8 0, .int .u64 0, .int .i64 0, .slice none 0 0] 28 (0, 0))
  hM : wr.heap[g + 1]? = some (.cells #[x0, x1, x2, x3] 28 (0, 0))
  hS : wr.heap[g + 1 + 1]? = some (.cells #[s, e] 80 (0, 0))
  hW : Below w.heap.size w wr
  hz : g + 3 ≤ wr.heap.size
theorem tk_start (w : World) (g : Nat) (hg : g = w.heap.size) (x0 x1 x2 x3 s e : Value) : TkAt w (((w.alloc (.cells #[.int .u8 0, .int .u64 0, .int .i64 0, .slice none 0 0] 28)).alloc (.cells #[x0, x1, x2, x3] 28)).alloc (.cells #[s, e] 80)) g x0 x1 x2 x3 s e := by
  obtain ⟨q1, q2, q3, q4, q5⟩ := three_blocks (w := w) (o1 := .cells #[.int .u8 0, .int .u64 0, .int .i64 0, .slice none 0 0] 28) (o2 := .cells #[x0, x1, x2, x3] 28) (o3 := .cells #[s, e] 80) (Below.refl _ _)
  exact ⟨hg, hg ▸ q1, hg ▸ q2, hg ▸ q3, q4, by rw [hg]; exact q5⟩
section
variable {w wr w' : World} {g : Nat} {x0 x1 x2 x3 s e : Value}
theorem TkAt.over (h : TkAt w wr g x0 x1 x2 x3 s e) (hb : Below wr.heap.size wr w') : TkAt w w' g x0 x1 x2 x3 s e := by
  have hz := h.hz
  exact ⟨h.hg, (hb.block g (by omega)).trans h.hR, (hb.block (g + 1) (by omega)).trans h.hM, (hb.block (g + 1 + 1) (by omega)).trans h.hS, bstep h.hW hb, Nat.le_trans hz hb.size⟩
theorem TkAt.over3 (h : TkAt w wr g x0 x1 x2 x3 s e) (hb : Below (g + 3) wr w') : TkAt w w' g x0 x1 x2 x3 s e := by
  have hz := h.hz
  exact ⟨h.hg, (hb.block g (by omega)).trans h.hR, (hb.block (g + 1) (by omega)).trans h.hM, (hb.block (g + 1 + 1) (by omega)).trans h.hS, h.hW.trans (hb.mono (by have := h.hg; omega)), Nat.le_trans hz hb.size⟩
theorem TkAt.setM (h : TkAt w wr g x0 x1 x2 x3 s e) (i : Nat) (u : Value) {y0 y1 y2 y3 : Value} (hy : (#[x0, x1, x2, x3] : Array Value).setIfInBounds i u = #[y0, y1, y2, y3]) : TkAt w (wr.setCell ⟨g + 1, i, none⟩ u) g y0 y1 y2 y3 s e := by
  have far : ∀ j, j ≠ g + 1 → (wr.setCell ⟨g + 1, i, none⟩ u).heap[j]? = wr.heap[j]? := fun j hj => heap_far _ _ _ hj
  exact ⟨h.hg, (far g (by omega)).trans h.hR, (heap_set h.hM i u).trans (by rw [hy]), (far (g + 1 + 1) (by omega)).trans h.hS, h.hW.setCell (by have := h.hg; dsimp only; omega) _, by rw [setCell_size]; exact h.hz⟩
theorem TkAt.setS (h : TkAt w wr g x0 x1 x2 x3 s e) (s' e' : Value) : TkAt w ((wr.setCell ⟨g + 1 + 1, 0, none⟩ s').setCell ⟨g + 1 + 1, 1, none⟩ e') g x0 x1 x2 x3 s' e' := by
  have far : ∀ j, j ≠ g + 1 + 1 → ((wr.setCell ⟨g + 1 + 1, 0, none⟩ s').setCell ⟨g + 1 + 1, 1, none⟩ e').heap[j]? = wr.heap[j]? := fun j hj => (heap_far _ _ _ hj).trans (heap_far _ _ _ hj)
  exact ⟨h.hg, (far g (by omega)).trans h.hR, (far (g + 1) (by omega)).trans h.hM, heap_set (heap_set h.hS 0 s') 1 e', (h.hW.setCell (by have := h.hg; dsimp only; omega) _).setCell (by have := h.hg; dsimp only; omega) _, by rw [setCell_size, setCell_size]; exact h.hz⟩
/-- The answer's block set, at the end. -/
theorem TkAt.setR (h : TkAt w wr g x0 x1 x2 x3 s e) (y0 y1 y2 y3 : Value) : (set4 wr g y0 y1 y2 y3).heap[g]? = some (.cells #[y0, y1, y2, y3] 28 (0, 0)) ∧ Below w.heap.size w (set4 wr g y0 y1 y2 y3) ∧ (∀ j, j ≠ g → (set4 wr g y0 y1 y2 y3).heap[j]? = wr.heap[j]?) ∧ (set4 wr g y0 y1 y2 y3).heap.size = wr.heap.size :=
  ⟨set4_heap h.hR, set4_below h.hW (by have := h.hg; omega) _ _ _ _, fun j hj => set4_far _ _ _ _ _ _ j hj, set4_size _ _ _ _ _ _⟩
end
/-- What Take leaves. -/
def TookM (r : Msg × Int) (w : World) (e : Ending) (w' : World) : Prop := ∃ A n c, e = .returned (.tuple #[.agg #[.int .u8 (r.1.kind : Int), .int .u64 (r.1.seq : Int), .int .i64 r.1.at_, .slice A n c], .int .i64 r.2]) ∧ Props w' w'.heap.size (.slice A n c) r.1.props ∧ Below w.heap.size w w'
theorem rend_at (l : List UInt8) (e x : Int) (w : World) (h : rdEnd l e = x) : Calls Tryd.prog 45 #[.agg #[.string (mkB l), .int .i64 e]] w fun y w' => y = .returned (.int .i64 x) ∧ Below w.heap.size w w' := by
  subst h; exact rend_any (mkB l) e w
theorem rread_at (l : List UInt8) (e : Int) (w : World) (hs : l.length ≤ 100000) {u : Nat} {l' : List UInt8} {e' : Int} (hd : rdNum l e = (u, l', e')) :
    Calls Tryd.prog 41 #[.agg #[.string (mkB l), .int .i64 e]] w (RDid (.int .u64 u) (l', e') w) := rread_any (mkB l) e w (by rw [mkB_size]; omega) hd
theorem rmoment_at (l : List UInt8) (e : Int) (w : World) (hs : l.length ≤ 100000) {u : Int} {l' : List UInt8} {e' : Int} (hd : rdMoment l e = (u, l', e')) :
    Calls Tryd.prog 42 #[.agg #[.string (mkB l), .int .i64 e]] w (RDid (.int .i64 u) (l', e') w) := by
  have h := rmoment_any (mkB l) e w (by rw [mkB_size]; omega)
  have e2 : rdMoment (mkB l).data.toList e = (u, l', e') := hd
  rw [e2] at h
  exact h

set_option maxRecDepth 100000 in
set_option maxHeartbeats 1000000 in
theorem rtakem_bye (b : List UInt8) (w : World) (hl : b.length ≤ 100000) :
    Calls Tryd.prog 18 #[.int .u8 4, .string (mkB b)] w (TookM (takeM 4 b) w) := by
  rw [take_bye]
  have HPl : Hid (([] : List Pr).length ≤ 100000) := Lib.hid (by simp)
  obtain ⟨x, hx⟩ : ∃ x, rdEnd b 0 = x := ⟨_, rfl⟩
  have HEnd := Lib.hid (fun w => rend_at b 0 x w hx)
  by_cases hx0 : x = 0
  · have hx1 : (x != 0) = false := by rw [hx0]; rfl
    cases hr : mayL ⟨4, 0, 0, []⟩ with
    | false =>
      have HM : Hid (∀ w : World, Props w w.heap.size (.slice none 0 0) [] → Calls Tryd.prog 11 #[.agg #[.int .u8 4, .int .u64 0, .int .i64 0, .slice none 0 0]] w fun e w' => e = .returned (.bool false) ∧ Below w.heap.size w w') := Lib.hid fun w h => rmay_any 4 0 0 none 0 0 [] w h HPl.out hr
      have HE : finM ⟨4, 0, 0, []⟩ b 0 = (noMsg, 11) := by unfold finM; rw [hx, hx0, if_pos rfl, hr]; rfl
      rw [HE]
      clear hr HE hx hx0
      obtain ⟨g, hg⟩ : ∃ g, g = w.heap.size := ⟨_, rfl⟩
      have HT := Lib.hid (tk_start w g hg (.int .u8 4) (.int .u64 0) (.int .i64 0) (.slice none 0 0) (.string (mkB b)) (.int .i64 0))
      have hg2 := hg
      clear hg2
      go_enter Tryd.func18, Tryd.ntmps18
      go_upto_region 25 with (fail)
      rw [← hg]
      generalize (((w.alloc (Obj.cells #[Value.int IntKind.u8 0, Value.int IntKind.u64 0, Value.int IntKind.i64 0, Value.slice none 0 0] 28)).alloc (Obj.cells #[Value.int IntKind.u8 4, Value.int IntKind.u64 0, Value.int IntKind.i64 0, Value.slice none 0 0] 28)).alloc (Obj.cells #[Value.string (mkB b), Value.int IntKind.i64 0] 80)) = wt at HT ⊢
      clear hg
      have HPr : Hid (Props wt wt.heap.size (.slice none 0 0) []) := Lib.hid (props_nil _ _)
      have s0 := (heap_cell HT.out.hS 0).trans rfl
      have s1 := (heap_cell HT.out.hS 1).trans rfl
      go_upto_region 26 with (go_at_call 45; (with_reducible refine (HEnd.out _).mono ?_); rintro e wu ⟨rfl, hb⟩; have HT := Lib.hid (HT.out.over hb); have HPr := Lib.hid (HPr.out.over (Nat.le_refl _) hb); clear hb s0 s1)
      obtain ⟨y0, y1, y2, y3, _, _, _, _⟩ := blk4 HT.out.hM
      go_upto_region 29 with (go_at_call 11; (with_reducible refine (HM.out _ HPr.out).mono ?_); rintro e wu ⟨rfl, hb⟩; have HT := Lib.hid (HT.out.over hb); clear hb y0 y1 y2 y3)
      obtain ⟨m0, m1, m2, m3, f0, f1, f2, f3⟩ := blk4 HT.out.hR
      go_wp2
      have HZ := Lib.hid (HT.out.setR (.int .u8 0) (.int .u64 0) (.int .i64 0) (.slice none 0 0))
      unfold set4 at HZ
      generalize (((wu.setCell { block := g, off := 0 } (Value.int IntKind.u8 0)).setCell { block := g, off := 1 } (Value.int IntKind.u64 0)).setCell { block := g, off := 2 } (Value.int IntKind.i64 0)).setCell { block := g, off := 3 } (Value.slice none 0 0) = wv at HZ ⊢
      clear m0 m1 m2 m3 f0 f1 f2 f3
      obtain ⟨m0, m1, m2, m3, _, _, _, _⟩ := blk4 HZ.out.1
      refine bodyPost_ret (v := .tuple #[.agg #[.int .u8 0, .int .u64 0, .int .i64 0, .slice none 0 0], .int .i64 11]) (by simp [results, Tryd.results18, go_sem, m0, m1, m2, m3]) rfl ?_
      exact ⟨none, 0, 0, rfl, props_nil _ _, HZ.out.2.1⟩
    | true =>
      have HM : Hid (∀ w : World, Props w w.heap.size (.slice none 0 0) [] → Calls Tryd.prog 11 #[.agg #[.int .u8 4, .int .u64 0, .int .i64 0, .slice none 0 0]] w fun e w' => e = .returned (.bool true) ∧ Below w.heap.size w w') := Lib.hid fun w h => rmay_any 4 0 0 none 0 0 [] w h HPl.out hr
      have HE : finM ⟨4, 0, 0, []⟩ b 0 = (⟨4, 0, 0, []⟩, 0) := by unfold finM; rw [hx, hx0, if_pos rfl, hr]; rfl
      rw [HE]
      clear hr HE hx hx0
      obtain ⟨g, hg⟩ : ∃ g, g = w.heap.size := ⟨_, rfl⟩
      have HT := Lib.hid (tk_start w g hg (.int .u8 4) (.int .u64 0) (.int .i64 0) (.slice none 0 0) (.string (mkB b)) (.int .i64 0))
      have hg2 := hg
      clear hg2
      go_enter Tryd.func18, Tryd.ntmps18
      go_upto_region 25 with (fail)
      rw [← hg]
      generalize (((w.alloc (Obj.cells #[Value.int IntKind.u8 0, Value.int IntKind.u64 0, Value.int IntKind.i64 0, Value.slice none 0 0] 28)).alloc (Obj.cells #[Value.int IntKind.u8 4, Value.int IntKind.u64 0, Value.int IntKind.i64 0, Value.slice none 0 0] 28)).alloc (Obj.cells #[Value.string (mkB b), Value.int IntKind.i64 0] 80)) = wt at HT ⊢
      clear hg
      have HPr : Hid (Props wt wt.heap.size (.slice none 0 0) []) := Lib.hid (props_nil _ _)
      have s0 := (heap_cell HT.out.hS 0).trans rfl
      have s1 := (heap_cell HT.out.hS 1).trans rfl
      go_upto_region 26 with (go_at_call 45; (with_reducible refine (HEnd.out _).mono ?_); rintro e wu ⟨rfl, hb⟩; have HT := Lib.hid (HT.out.over hb); have HPr := Lib.hid (HPr.out.over (Nat.le_refl _) hb); clear hb s0 s1)
      obtain ⟨y0, y1, y2, y3, _, _, _, _⟩ := blk4 HT.out.hM
      go_upto_region 30 with (go_at_call 11; (with_reducible refine (HM.out _ HPr.out).mono ?_); rintro e wu ⟨rfl, hb⟩; have HT := Lib.hid (HT.out.over hb); have HPr := Lib.hid (HPr.out.over (Nat.le_refl _) hb); clear hb y0 y1 y2 y3)
      obtain ⟨y0, y1, y2, y3, _, _, _, _⟩ := blk4 HT.out.hM
      obtain ⟨m0, m1, m2, m3, f0, f1, f2, f3⟩ := blk4 HT.out.hR
      go_wp2
      have HZ := Lib.hid (HT.out.setR (.int .u8 4) (.int .u64 0) (.int .i64 0) (.slice none 0 0))
      unfold set4 at HZ
      generalize (((wu.setCell { block := g, off := 0 } (Value.int IntKind.u8 4)).setCell { block := g, off := 1 } (Value.int IntKind.u64 0)).setCell { block := g, off := 2 } (Value.int IntKind.i64 0)).setCell { block := g, off := 3 } (Value.slice none 0 0) = wv at HZ ⊢
      clear m0 m1 m2 m3 f0 f1 f2 f3
      obtain ⟨m0, m1, m2, m3, _, _, _, _⟩ := blk4 HZ.out.1
      clear y0 y1 y2 y3
      refine bodyPost_ret (v := .tuple #[.agg #[.int .u8 4, .int .u64 0, .int .i64 0, .slice none 0 0], .int .i64 0]) (by simp [results, Tryd.results18, go_sem, m0, m1, m2, m3]) rfl ?_
      exact ⟨_, _, _, rfl, props_nil _ _, HZ.out.2.1⟩
  · have HE : finM ⟨4, 0, 0, []⟩ b 0 = (noMsg, x) := by unfold finM; rw [hx, if_neg hx0]
    rw [HE]
    have hx1 : (x != 0) = true := by simp [hx0]
    clear HE hx hx0
    obtain ⟨g, hg⟩ : ∃ g, g = w.heap.size := ⟨_, rfl⟩
    have HT := Lib.hid (tk_start w g hg (.int .u8 4) (.int .u64 0) (.int .i64 0) (.slice none 0 0) (.string (mkB b)) (.int .i64 0))
    have hg2 := hg
    clear hg2
    go_enter Tryd.func18, Tryd.ntmps18
    go_upto_region 25 with (fail)
    rw [← hg]
    generalize (((w.alloc (Obj.cells #[Value.int IntKind.u8 0, Value.int IntKind.u64 0, Value.int IntKind.i64 0, Value.slice none 0 0] 28)).alloc (Obj.cells #[Value.int IntKind.u8 4, Value.int IntKind.u64 0, Value.int IntKind.i64 0, Value.slice none 0 0] 28)).alloc (Obj.cells #[Value.string (mkB b), Value.int IntKind.i64 0] 80)) = wt at HT ⊢
    clear hg
    have HPr : Hid (Props wt wt.heap.size (.slice none 0 0) []) := Lib.hid (props_nil _ _)
    have s0 := (heap_cell HT.out.hS 0).trans rfl
    have s1 := (heap_cell HT.out.hS 1).trans rfl
    go_upto_region 27 with (go_at_call 45; (with_reducible refine (HEnd.out _).mono ?_); rintro e wu ⟨rfl, hb⟩; have HT := Lib.hid (HT.out.over hb); clear hb s0 s1)
    obtain ⟨m0, m1, m2, m3, f0, f1, f2, f3⟩ := blk4 HT.out.hR
    go_wp2
    have HZ := Lib.hid (HT.out.setR (.int .u8 0) (.int .u64 0) (.int .i64 0) (.slice none 0 0))
    unfold set4 at HZ
    generalize (((wu.setCell { block := g, off := 0 } (Value.int IntKind.u8 0)).setCell { block := g, off := 1 } (Value.int IntKind.u64 0)).setCell { block := g, off := 2 } (Value.int IntKind.i64 0)).setCell { block := g, off := 3 } (Value.slice none 0 0) = wv at HZ ⊢
    clear m0 m1 m2 m3 f0 f1 f2 f3
    obtain ⟨m0, m1, m2, m3, _, _, _, _⟩ := blk4 HZ.out.1
    refine bodyPost_ret (v := .tuple #[.agg #[.int .u8 0, .int .u64 0, .int .i64 0, .slice none 0 0], .int .i64 x]) (by simp [results, Tryd.results18, go_sem, m0, m1, m2, m3]) rfl ?_
    exact ⟨none, 0, 0, rfl, props_nil _ _, HZ.out.2.1⟩
set_option maxRecDepth 100000 in
set_option maxHeartbeats 1000000 in
theorem rtakem_hello (b : List UInt8) (w : World) (hl : b.length ≤ 100000) :
    Calls Tryd.prog 18 #[.int .u8 1, .string (mkB b)] w (TookM (takeM 1 b) w) := by
  rcases h1 : rdNum b 0 with ⟨q, l1, e1⟩
  rw [take_hello h1]
  have HC := Lib.hid (fun w => rread_at b 0 w hl h1)
  have HPl : Hid (([] : List Pr).length ≤ 100000) := Lib.hid (by simp)
  clear h1
  obtain ⟨x, hx⟩ : ∃ x, rdEnd l1 e1 = x := ⟨_, rfl⟩
  have HEnd := Lib.hid (fun w => rend_at l1 e1 x w hx)
  by_cases hx0 : x = 0
  · have hx1 : (x != 0) = false := by rw [hx0]; rfl
    cases hr : mayL ⟨1, q, 0, []⟩ with
    | false =>
      have HM : Hid (∀ w : World, Props w w.heap.size (.slice none 0 0) [] → Calls Tryd.prog 11 #[.agg #[.int .u8 1, .int .u64 q, .int .i64 0, .slice none 0 0]] w fun e w' => e = .returned (.bool false) ∧ Below w.heap.size w w') := Lib.hid fun w h => rmay_any 1 q 0 none 0 0 [] w h HPl.out hr
      have HE : finM ⟨1, q, 0, []⟩ l1 e1 = (noMsg, 11) := by unfold finM; rw [hx, hx0, if_pos rfl, hr]; rfl
      rw [HE]
      clear hr HE hx hx0
      obtain ⟨g, hg⟩ : ∃ g, g = w.heap.size := ⟨_, rfl⟩
      have HT := Lib.hid (tk_start w g hg (.int .u8 1) (.int .u64 0) (.int .i64 0) (.slice none 0 0) (.string (mkB b)) (.int .i64 0))
      have hg2 := hg
      clear hg2
      go_enter Tryd.func18, Tryd.ntmps18
      go_upto_region 6 with (fail)
      rw [← hg]
      generalize (((w.alloc (Obj.cells #[Value.int IntKind.u8 0, Value.int IntKind.u64 0, Value.int IntKind.i64 0, Value.slice none 0 0] 28)).alloc (Obj.cells #[Value.int IntKind.u8 1, Value.int IntKind.u64 0, Value.int IntKind.i64 0, Value.slice none 0 0] 28)).alloc (Obj.cells #[Value.string (mkB b), Value.int IntKind.i64 0] 80)) = wt at HT ⊢
      clear hg
      have s0 := (heap_cell HT.out.hS 0).trans rfl
      have s1 := (heap_cell HT.out.hS 1).trans rfl
      go_upto_region 7 with (go_at_call 41; (with_reducible refine (HC.out _).mono ?_); rintro e w1 ⟨rfl, hb⟩; have HT := Lib.hid (HT.out.over hb); clear hb s0 s1)
      obtain ⟨z, hz⟩ : ∃ z, z = w1.heap.size := ⟨_, rfl⟩
      have HB : Hid ((w1.alloc (.cells #[.string (mkB l1), .int .i64 e1] 80)).heap[z]? = some (.cells #[.string (mkB l1), .int .i64 e1] 80 (0, 0)) ∧ g + 3 ≤ z) := Lib.hid ⟨by rw [hz]; exact heap_alloc_new w1 _, by rw [hz]; exact HT.out.hz⟩
      have HT := Lib.hid (HT.out.over (bmore (bself w1) (.cells #[.string (mkB l1), .int .i64 e1] 80)))
      rw [← hz]
      clear hz
      generalize w1.alloc (Obj.cells #[Value.string (mkB l1), Value.int IntKind.i64 e1] 80) = w2 at HT HB ⊢
      obtain ⟨_, _, _, _, f0, f1, f2, f3⟩ := blk4 HT.out.hM
      go_upto_region 8 with (fail)
      have HB := Lib.hid (And.intro ((heap_far _ _ _ (by have := HB.out.2; omega) : (w2.setCell ⟨g + 1, 1, none⟩ (.int .u64 (q : Int))).heap[z]? = w2.heap[z]?).trans HB.out.1) HB.out.2)
      have HT := Lib.hid (HT.out.setM 1 (.int .u64 (q : Int)) rfl)
      generalize w2.setCell { block := g + 1, off := 1 } (Value.int IntKind.u64 (q : Int)) = w3 at HT HB ⊢
      clear f0 f1 f2 f3
      have z0 := (heap_cell HB.out.1 0).trans rfl
      have z1 := (heap_cell HB.out.1 1).trans rfl
      have c0 := (heap_cell HT.out.hS 0).trans rfl
      have c1 := (heap_cell HT.out.hS 1).trans rfl
      have f0 := heap_frozen HT.out.hS 0
      have f1 := heap_frozen HT.out.hS 1
      go_upto_region 25 with (fail)
      have HT := Lib.hid (HT.out.setS (.string (mkB l1)) (.int .i64 e1))
      generalize (w3.setCell { block := g + 1 + 1, off := 0 } (Value.string (mkB l1))).setCell { block := g + 1 + 1, off := 1 } (Value.int IntKind.i64 e1) = wt at HT ⊢
      clear f0 f1 z0 z1 c0 c1 HB
      have HPr : Hid (Props wt wt.heap.size (.slice none 0 0) []) := Lib.hid (props_nil _ _)
      have s0 := (heap_cell HT.out.hS 0).trans rfl
      have s1 := (heap_cell HT.out.hS 1).trans rfl
      go_upto_region 26 with (go_at_call 45; (with_reducible refine (HEnd.out _).mono ?_); rintro e wu ⟨rfl, hb⟩; have HT := Lib.hid (HT.out.over hb); have HPr := Lib.hid (HPr.out.over (Nat.le_refl _) hb); clear hb s0 s1)
      obtain ⟨y0, y1, y2, y3, _, _, _, _⟩ := blk4 HT.out.hM
      go_upto_region 29 with (go_at_call 11; (with_reducible refine (HM.out _ HPr.out).mono ?_); rintro e wu ⟨rfl, hb⟩; have HT := Lib.hid (HT.out.over hb); clear hb y0 y1 y2 y3)
      obtain ⟨m0, m1, m2, m3, f0, f1, f2, f3⟩ := blk4 HT.out.hR
      go_wp2
      have HZ := Lib.hid (HT.out.setR (.int .u8 0) (.int .u64 0) (.int .i64 0) (.slice none 0 0))
      unfold set4 at HZ
      generalize (((wu.setCell { block := g, off := 0 } (Value.int IntKind.u8 0)).setCell { block := g, off := 1 } (Value.int IntKind.u64 0)).setCell { block := g, off := 2 } (Value.int IntKind.i64 0)).setCell { block := g, off := 3 } (Value.slice none 0 0) = wv at HZ ⊢
      clear m0 m1 m2 m3 f0 f1 f2 f3
      obtain ⟨m0, m1, m2, m3, _, _, _, _⟩ := blk4 HZ.out.1
      refine bodyPost_ret (v := .tuple #[.agg #[.int .u8 0, .int .u64 0, .int .i64 0, .slice none 0 0], .int .i64 11]) (by simp [results, Tryd.results18, go_sem, m0, m1, m2, m3]) rfl ?_
      exact ⟨none, 0, 0, rfl, props_nil _ _, HZ.out.2.1⟩
    | true =>
      have HM : Hid (∀ w : World, Props w w.heap.size (.slice none 0 0) [] → Calls Tryd.prog 11 #[.agg #[.int .u8 1, .int .u64 q, .int .i64 0, .slice none 0 0]] w fun e w' => e = .returned (.bool true) ∧ Below w.heap.size w w') := Lib.hid fun w h => rmay_any 1 q 0 none 0 0 [] w h HPl.out hr
      have HE : finM ⟨1, q, 0, []⟩ l1 e1 = (⟨1, q, 0, []⟩, 0) := by unfold finM; rw [hx, hx0, if_pos rfl, hr]; rfl
      rw [HE]
      clear hr HE hx hx0
      obtain ⟨g, hg⟩ : ∃ g, g = w.heap.size := ⟨_, rfl⟩
      have HT := Lib.hid (tk_start w g hg (.int .u8 1) (.int .u64 0) (.int .i64 0) (.slice none 0 0) (.string (mkB b)) (.int .i64 0))
      have hg2 := hg
      clear hg2
      go_enter Tryd.func18, Tryd.ntmps18
      go_upto_region 6 with (fail)
      rw [← hg]
      generalize (((w.alloc (Obj.cells #[Value.int IntKind.u8 0, Value.int IntKind.u64 0, Value.int IntKind.i64 0, Value.slice none 0 0] 28)).alloc (Obj.cells #[Value.int IntKind.u8 1, Value.int IntKind.u64 0, Value.int IntKind.i64 0, Value.slice none 0 0] 28)).alloc (Obj.cells #[Value.string (mkB b), Value.int IntKind.i64 0] 80)) = wt at HT ⊢
      clear hg
      have s0 := (heap_cell HT.out.hS 0).trans rfl
      have s1 := (heap_cell HT.out.hS 1).trans rfl
      go_upto_region 7 with (go_at_call 41; (with_reducible refine (HC.out _).mono ?_); rintro e w1 ⟨rfl, hb⟩; have HT := Lib.hid (HT.out.over hb); clear hb s0 s1)
      obtain ⟨z, hz⟩ : ∃ z, z = w1.heap.size := ⟨_, rfl⟩
      have HB : Hid ((w1.alloc (.cells #[.string (mkB l1), .int .i64 e1] 80)).heap[z]? = some (.cells #[.string (mkB l1), .int .i64 e1] 80 (0, 0)) ∧ g + 3 ≤ z) := Lib.hid ⟨by rw [hz]; exact heap_alloc_new w1 _, by rw [hz]; exact HT.out.hz⟩
      have HT := Lib.hid (HT.out.over (bmore (bself w1) (.cells #[.string (mkB l1), .int .i64 e1] 80)))
      rw [← hz]
      clear hz
      generalize w1.alloc (Obj.cells #[Value.string (mkB l1), Value.int IntKind.i64 e1] 80) = w2 at HT HB ⊢
      obtain ⟨_, _, _, _, f0, f1, f2, f3⟩ := blk4 HT.out.hM
      go_upto_region 8 with (fail)
      have HB := Lib.hid (And.intro ((heap_far _ _ _ (by have := HB.out.2; omega) : (w2.setCell ⟨g + 1, 1, none⟩ (.int .u64 (q : Int))).heap[z]? = w2.heap[z]?).trans HB.out.1) HB.out.2)
      have HT := Lib.hid (HT.out.setM 1 (.int .u64 (q : Int)) rfl)
      generalize w2.setCell { block := g + 1, off := 1 } (Value.int IntKind.u64 (q : Int)) = w3 at HT HB ⊢
      clear f0 f1 f2 f3
      have z0 := (heap_cell HB.out.1 0).trans rfl
      have z1 := (heap_cell HB.out.1 1).trans rfl
      have c0 := (heap_cell HT.out.hS 0).trans rfl
      have c1 := (heap_cell HT.out.hS 1).trans rfl
      have f0 := heap_frozen HT.out.hS 0
      have f1 := heap_frozen HT.out.hS 1
      go_upto_region 25 with (fail)
      have HT := Lib.hid (HT.out.setS (.string (mkB l1)) (.int .i64 e1))
      generalize (w3.setCell { block := g + 1 + 1, off := 0 } (Value.string (mkB l1))).setCell { block := g + 1 + 1, off := 1 } (Value.int IntKind.i64 e1) = wt at HT ⊢
      clear f0 f1 z0 z1 c0 c1 HB
      have HPr : Hid (Props wt wt.heap.size (.slice none 0 0) []) := Lib.hid (props_nil _ _)
      have s0 := (heap_cell HT.out.hS 0).trans rfl
      have s1 := (heap_cell HT.out.hS 1).trans rfl
      go_upto_region 26 with (go_at_call 45; (with_reducible refine (HEnd.out _).mono ?_); rintro e wu ⟨rfl, hb⟩; have HT := Lib.hid (HT.out.over hb); have HPr := Lib.hid (HPr.out.over (Nat.le_refl _) hb); clear hb s0 s1)
      obtain ⟨y0, y1, y2, y3, _, _, _, _⟩ := blk4 HT.out.hM
      go_upto_region 30 with (go_at_call 11; (with_reducible refine (HM.out _ HPr.out).mono ?_); rintro e wu ⟨rfl, hb⟩; have HT := Lib.hid (HT.out.over hb); have HPr := Lib.hid (HPr.out.over (Nat.le_refl _) hb); clear hb y0 y1 y2 y3)
      obtain ⟨y0, y1, y2, y3, _, _, _, _⟩ := blk4 HT.out.hM
      obtain ⟨m0, m1, m2, m3, f0, f1, f2, f3⟩ := blk4 HT.out.hR
      go_wp2
      have HZ := Lib.hid (HT.out.setR (.int .u8 1) (.int .u64 q) (.int .i64 0) (.slice none 0 0))
      unfold set4 at HZ
      generalize (((wu.setCell { block := g, off := 0 } (Value.int IntKind.u8 1)).setCell { block := g, off := 1 } (Value.int IntKind.u64 q)).setCell { block := g, off := 2 } (Value.int IntKind.i64 0)).setCell { block := g, off := 3 } (Value.slice none 0 0) = wv at HZ ⊢
      clear m0 m1 m2 m3 f0 f1 f2 f3
      obtain ⟨m0, m1, m2, m3, _, _, _, _⟩ := blk4 HZ.out.1
      clear y0 y1 y2 y3
      refine bodyPost_ret (v := .tuple #[.agg #[.int .u8 1, .int .u64 q, .int .i64 0, .slice none 0 0], .int .i64 0]) (by simp [results, Tryd.results18, go_sem, m0, m1, m2, m3]) rfl ?_
      exact ⟨_, _, _, rfl, props_nil _ _, HZ.out.2.1⟩
  · have HE : finM ⟨1, q, 0, []⟩ l1 e1 = (noMsg, x) := by unfold finM; rw [hx, if_neg hx0]
    rw [HE]
    have hx1 : (x != 0) = true := by simp [hx0]
    clear HE hx hx0
    obtain ⟨g, hg⟩ : ∃ g, g = w.heap.size := ⟨_, rfl⟩
    have HT := Lib.hid (tk_start w g hg (.int .u8 1) (.int .u64 0) (.int .i64 0) (.slice none 0 0) (.string (mkB b)) (.int .i64 0))
    have hg2 := hg
    clear hg2
    go_enter Tryd.func18, Tryd.ntmps18
    go_upto_region 6 with (fail)
    rw [← hg]
    generalize (((w.alloc (Obj.cells #[Value.int IntKind.u8 0, Value.int IntKind.u64 0, Value.int IntKind.i64 0, Value.slice none 0 0] 28)).alloc (Obj.cells #[Value.int IntKind.u8 1, Value.int IntKind.u64 0, Value.int IntKind.i64 0, Value.slice none 0 0] 28)).alloc (Obj.cells #[Value.string (mkB b), Value.int IntKind.i64 0] 80)) = wt at HT ⊢
    clear hg
    have s0 := (heap_cell HT.out.hS 0).trans rfl
    have s1 := (heap_cell HT.out.hS 1).trans rfl
    go_upto_region 7 with (go_at_call 41; (with_reducible refine (HC.out _).mono ?_); rintro e w1 ⟨rfl, hb⟩; have HT := Lib.hid (HT.out.over hb); clear hb s0 s1)
    obtain ⟨z, hz⟩ : ∃ z, z = w1.heap.size := ⟨_, rfl⟩
    have HB : Hid ((w1.alloc (.cells #[.string (mkB l1), .int .i64 e1] 80)).heap[z]? = some (.cells #[.string (mkB l1), .int .i64 e1] 80 (0, 0)) ∧ g + 3 ≤ z) := Lib.hid ⟨by rw [hz]; exact heap_alloc_new w1 _, by rw [hz]; exact HT.out.hz⟩
    have HT := Lib.hid (HT.out.over (bmore (bself w1) (.cells #[.string (mkB l1), .int .i64 e1] 80)))
    rw [← hz]
    clear hz
    generalize w1.alloc (Obj.cells #[Value.string (mkB l1), Value.int IntKind.i64 e1] 80) = w2 at HT HB ⊢
    obtain ⟨_, _, _, _, f0, f1, f2, f3⟩ := blk4 HT.out.hM
    go_upto_region 8 with (fail)
    have HB := Lib.hid (And.intro ((heap_far _ _ _ (by have := HB.out.2; omega) : (w2.setCell ⟨g + 1, 1, none⟩ (.int .u64 (q : Int))).heap[z]? = w2.heap[z]?).trans HB.out.1) HB.out.2)
    have HT := Lib.hid (HT.out.setM 1 (.int .u64 (q : Int)) rfl)
    generalize w2.setCell { block := g + 1, off := 1 } (Value.int IntKind.u64 (q : Int)) = w3 at HT HB ⊢
    clear f0 f1 f2 f3
    have z0 := (heap_cell HB.out.1 0).trans rfl
    have z1 := (heap_cell HB.out.1 1).trans rfl
    have c0 := (heap_cell HT.out.hS 0).trans rfl
    have c1 := (heap_cell HT.out.hS 1).trans rfl
    have f0 := heap_frozen HT.out.hS 0
    have f1 := heap_frozen HT.out.hS 1
    go_upto_region 25 with (fail)
    have HT := Lib.hid (HT.out.setS (.string (mkB l1)) (.int .i64 e1))
    generalize (w3.setCell { block := g + 1 + 1, off := 0 } (Value.string (mkB l1))).setCell { block := g + 1 + 1, off := 1 } (Value.int IntKind.i64 e1) = wt at HT ⊢
    clear f0 f1 z0 z1 c0 c1 HB
    have HPr : Hid (Props wt wt.heap.size (.slice none 0 0) []) := Lib.hid (props_nil _ _)
    have s0 := (heap_cell HT.out.hS 0).trans rfl
    have s1 := (heap_cell HT.out.hS 1).trans rfl
    go_upto_region 27 with (go_at_call 45; (with_reducible refine (HEnd.out _).mono ?_); rintro e wu ⟨rfl, hb⟩; have HT := Lib.hid (HT.out.over hb); clear hb s0 s1)
    obtain ⟨m0, m1, m2, m3, f0, f1, f2, f3⟩ := blk4 HT.out.hR
    go_wp2
    have HZ := Lib.hid (HT.out.setR (.int .u8 0) (.int .u64 0) (.int .i64 0) (.slice none 0 0))
    unfold set4 at HZ
    generalize (((wu.setCell { block := g, off := 0 } (Value.int IntKind.u8 0)).setCell { block := g, off := 1 } (Value.int IntKind.u64 0)).setCell { block := g, off := 2 } (Value.int IntKind.i64 0)).setCell { block := g, off := 3 } (Value.slice none 0 0) = wv at HZ ⊢
    clear m0 m1 m2 m3 f0 f1 f2 f3
    obtain ⟨m0, m1, m2, m3, _, _, _, _⟩ := blk4 HZ.out.1
    refine bodyPost_ret (v := .tuple #[.agg #[.int .u8 0, .int .u64 0, .int .i64 0, .slice none 0 0], .int .i64 x]) (by simp [results, Tryd.results18, go_sem, m0, m1, m2, m3]) rfl ?_
    exact ⟨none, 0, 0, rfl, props_nil _ _, HZ.out.2.1⟩
set_option maxRecDepth 100000 in
set_option maxHeartbeats 1000000 in
theorem rtakem_beat (b : List UInt8) (w : World) (hl : b.length ≤ 100000) :
    Calls Tryd.prog 18 #[.int .u8 3, .string (mkB b)] w (TookM (takeM 3 b) w) := by
  rcases h1 : rdMoment b 0 with ⟨a, l1, e1⟩
  rw [take_beat h1]
  have HC := Lib.hid (fun w => rmoment_at b 0 w hl h1)
  have HPl : Hid (([] : List Pr).length ≤ 100000) := Lib.hid (by simp)
  clear h1
  obtain ⟨x, hx⟩ : ∃ x, rdEnd l1 e1 = x := ⟨_, rfl⟩
  have HEnd := Lib.hid (fun w => rend_at l1 e1 x w hx)
  by_cases hx0 : x = 0
  · have hx1 : (x != 0) = false := by rw [hx0]; rfl
    cases hr : mayL ⟨3, 0, a, []⟩ with
    | false =>
      have HM : Hid (∀ w : World, Props w w.heap.size (.slice none 0 0) [] → Calls Tryd.prog 11 #[.agg #[.int .u8 3, .int .u64 0, .int .i64 a, .slice none 0 0]] w fun e w' => e = .returned (.bool false) ∧ Below w.heap.size w w') := Lib.hid fun w h => rmay_any 3 0 a none 0 0 [] w h HPl.out hr
      have HE : finM ⟨3, 0, a, []⟩ l1 e1 = (noMsg, 11) := by unfold finM; rw [hx, hx0, if_pos rfl, hr]; rfl
      rw [HE]
      clear hr HE hx hx0
      obtain ⟨g, hg⟩ : ∃ g, g = w.heap.size := ⟨_, rfl⟩
      have HT := Lib.hid (tk_start w g hg (.int .u8 3) (.int .u64 0) (.int .i64 0) (.slice none 0 0) (.string (mkB b)) (.int .i64 0))
      have hg2 := hg
      clear hg2
      go_enter Tryd.func18, Tryd.ntmps18
      go_upto_region 10 with (fail)
      rw [← hg]
      generalize (((w.alloc (Obj.cells #[Value.int IntKind.u8 0, Value.int IntKind.u64 0, Value.int IntKind.i64 0, Value.slice none 0 0] 28)).alloc (Obj.cells #[Value.int IntKind.u8 3, Value.int IntKind.u64 0, Value.int IntKind.i64 0, Value.slice none 0 0] 28)).alloc (Obj.cells #[Value.string (mkB b), Value.int IntKind.i64 0] 80)) = wt at HT ⊢
      clear hg
      have s0 := (heap_cell HT.out.hS 0).trans rfl
      have s1 := (heap_cell HT.out.hS 1).trans rfl
      go_upto_region 11 with (go_at_call 42; (with_reducible refine (HC.out _).mono ?_); rintro e w1 ⟨rfl, hb⟩; have HT := Lib.hid (HT.out.over hb); clear hb s0 s1)
      obtain ⟨z, hz⟩ : ∃ z, z = w1.heap.size := ⟨_, rfl⟩
      have HB : Hid ((w1.alloc (.cells #[.string (mkB l1), .int .i64 e1] 80)).heap[z]? = some (.cells #[.string (mkB l1), .int .i64 e1] 80 (0, 0)) ∧ g + 3 ≤ z) := Lib.hid ⟨by rw [hz]; exact heap_alloc_new w1 _, by rw [hz]; exact HT.out.hz⟩
      have HT := Lib.hid (HT.out.over (bmore (bself w1) (.cells #[.string (mkB l1), .int .i64 e1] 80)))
      rw [← hz]
      clear hz
      generalize w1.alloc (Obj.cells #[Value.string (mkB l1), Value.int IntKind.i64 e1] 80) = w2 at HT HB ⊢
      obtain ⟨_, _, _, _, f0, f1, f2, f3⟩ := blk4 HT.out.hM
      go_upto_region 12 with (fail)
      have HB := Lib.hid (And.intro ((heap_far _ _ _ (by have := HB.out.2; omega) : (w2.setCell ⟨g + 1, 2, none⟩ (.int .i64 a)).heap[z]? = w2.heap[z]?).trans HB.out.1) HB.out.2)
      have HT := Lib.hid (HT.out.setM 2 (.int .i64 a) rfl)
      generalize w2.setCell { block := g + 1, off := 2 } (Value.int IntKind.i64 a) = w3 at HT HB ⊢
      clear f0 f1 f2 f3
      have z0 := (heap_cell HB.out.1 0).trans rfl
      have z1 := (heap_cell HB.out.1 1).trans rfl
      have c0 := (heap_cell HT.out.hS 0).trans rfl
      have c1 := (heap_cell HT.out.hS 1).trans rfl
      have f0 := heap_frozen HT.out.hS 0
      have f1 := heap_frozen HT.out.hS 1
      go_upto_region 25 with (fail)
      have HT := Lib.hid (HT.out.setS (.string (mkB l1)) (.int .i64 e1))
      generalize (w3.setCell { block := g + 1 + 1, off := 0 } (Value.string (mkB l1))).setCell { block := g + 1 + 1, off := 1 } (Value.int IntKind.i64 e1) = wt at HT ⊢
      clear f0 f1 z0 z1 c0 c1 HB
      have HPr : Hid (Props wt wt.heap.size (.slice none 0 0) []) := Lib.hid (props_nil _ _)
      have s0 := (heap_cell HT.out.hS 0).trans rfl
      have s1 := (heap_cell HT.out.hS 1).trans rfl
      go_upto_region 26 with (go_at_call 45; (with_reducible refine (HEnd.out _).mono ?_); rintro e wu ⟨rfl, hb⟩; have HT := Lib.hid (HT.out.over hb); have HPr := Lib.hid (HPr.out.over (Nat.le_refl _) hb); clear hb s0 s1)
      obtain ⟨y0, y1, y2, y3, _, _, _, _⟩ := blk4 HT.out.hM
      go_upto_region 29 with (go_at_call 11; (with_reducible refine (HM.out _ HPr.out).mono ?_); rintro e wu ⟨rfl, hb⟩; have HT := Lib.hid (HT.out.over hb); clear hb y0 y1 y2 y3)
      obtain ⟨m0, m1, m2, m3, f0, f1, f2, f3⟩ := blk4 HT.out.hR
      go_wp2
      have HZ := Lib.hid (HT.out.setR (.int .u8 0) (.int .u64 0) (.int .i64 0) (.slice none 0 0))
      unfold set4 at HZ
      generalize (((wu.setCell { block := g, off := 0 } (Value.int IntKind.u8 0)).setCell { block := g, off := 1 } (Value.int IntKind.u64 0)).setCell { block := g, off := 2 } (Value.int IntKind.i64 0)).setCell { block := g, off := 3 } (Value.slice none 0 0) = wv at HZ ⊢
      clear m0 m1 m2 m3 f0 f1 f2 f3
      obtain ⟨m0, m1, m2, m3, _, _, _, _⟩ := blk4 HZ.out.1
      refine bodyPost_ret (v := .tuple #[.agg #[.int .u8 0, .int .u64 0, .int .i64 0, .slice none 0 0], .int .i64 11]) (by simp [results, Tryd.results18, go_sem, m0, m1, m2, m3]) rfl ?_
      exact ⟨none, 0, 0, rfl, props_nil _ _, HZ.out.2.1⟩
    | true =>
      have HM : Hid (∀ w : World, Props w w.heap.size (.slice none 0 0) [] → Calls Tryd.prog 11 #[.agg #[.int .u8 3, .int .u64 0, .int .i64 a, .slice none 0 0]] w fun e w' => e = .returned (.bool true) ∧ Below w.heap.size w w') := Lib.hid fun w h => rmay_any 3 0 a none 0 0 [] w h HPl.out hr
      have HE : finM ⟨3, 0, a, []⟩ l1 e1 = (⟨3, 0, a, []⟩, 0) := by unfold finM; rw [hx, hx0, if_pos rfl, hr]; rfl
      rw [HE]
      clear hr HE hx hx0
      obtain ⟨g, hg⟩ : ∃ g, g = w.heap.size := ⟨_, rfl⟩
      have HT := Lib.hid (tk_start w g hg (.int .u8 3) (.int .u64 0) (.int .i64 0) (.slice none 0 0) (.string (mkB b)) (.int .i64 0))
      have hg2 := hg
      clear hg2
      go_enter Tryd.func18, Tryd.ntmps18
      go_upto_region 10 with (fail)
      rw [← hg]
      generalize (((w.alloc (Obj.cells #[Value.int IntKind.u8 0, Value.int IntKind.u64 0, Value.int IntKind.i64 0, Value.slice none 0 0] 28)).alloc (Obj.cells #[Value.int IntKind.u8 3, Value.int IntKind.u64 0, Value.int IntKind.i64 0, Value.slice none 0 0] 28)).alloc (Obj.cells #[Value.string (mkB b), Value.int IntKind.i64 0] 80)) = wt at HT ⊢
      clear hg
      have s0 := (heap_cell HT.out.hS 0).trans rfl
      have s1 := (heap_cell HT.out.hS 1).trans rfl
      go_upto_region 11 with (go_at_call 42; (with_reducible refine (HC.out _).mono ?_); rintro e w1 ⟨rfl, hb⟩; have HT := Lib.hid (HT.out.over hb); clear hb s0 s1)
      obtain ⟨z, hz⟩ : ∃ z, z = w1.heap.size := ⟨_, rfl⟩
      have HB : Hid ((w1.alloc (.cells #[.string (mkB l1), .int .i64 e1] 80)).heap[z]? = some (.cells #[.string (mkB l1), .int .i64 e1] 80 (0, 0)) ∧ g + 3 ≤ z) := Lib.hid ⟨by rw [hz]; exact heap_alloc_new w1 _, by rw [hz]; exact HT.out.hz⟩
      have HT := Lib.hid (HT.out.over (bmore (bself w1) (.cells #[.string (mkB l1), .int .i64 e1] 80)))
      rw [← hz]
      clear hz
      generalize w1.alloc (Obj.cells #[Value.string (mkB l1), Value.int IntKind.i64 e1] 80) = w2 at HT HB ⊢
      obtain ⟨_, _, _, _, f0, f1, f2, f3⟩ := blk4 HT.out.hM
      go_upto_region 12 with (fail)
      have HB := Lib.hid (And.intro ((heap_far _ _ _ (by have := HB.out.2; omega) : (w2.setCell ⟨g + 1, 2, none⟩ (.int .i64 a)).heap[z]? = w2.heap[z]?).trans HB.out.1) HB.out.2)
      have HT := Lib.hid (HT.out.setM 2 (.int .i64 a) rfl)
      generalize w2.setCell { block := g + 1, off := 2 } (Value.int IntKind.i64 a) = w3 at HT HB ⊢
      clear f0 f1 f2 f3
      have z0 := (heap_cell HB.out.1 0).trans rfl
      have z1 := (heap_cell HB.out.1 1).trans rfl
      have c0 := (heap_cell HT.out.hS 0).trans rfl
      have c1 := (heap_cell HT.out.hS 1).trans rfl
      have f0 := heap_frozen HT.out.hS 0
      have f1 := heap_frozen HT.out.hS 1
      go_upto_region 25 with (fail)
      have HT := Lib.hid (HT.out.setS (.string (mkB l1)) (.int .i64 e1))
      generalize (w3.setCell { block := g + 1 + 1, off := 0 } (Value.string (mkB l1))).setCell { block := g + 1 + 1, off := 1 } (Value.int IntKind.i64 e1) = wt at HT ⊢
      clear f0 f1 z0 z1 c0 c1 HB
      have HPr : Hid (Props wt wt.heap.size (.slice none 0 0) []) := Lib.hid (props_nil _ _)
      have s0 := (heap_cell HT.out.hS 0).trans rfl
      have s1 := (heap_cell HT.out.hS 1).trans rfl
      go_upto_region 26 with (go_at_call 45; (with_reducible refine (HEnd.out _).mono ?_); rintro e wu ⟨rfl, hb⟩; have HT := Lib.hid (HT.out.over hb); have HPr := Lib.hid (HPr.out.over (Nat.le_refl _) hb); clear hb s0 s1)
      obtain ⟨y0, y1, y2, y3, _, _, _, _⟩ := blk4 HT.out.hM
      go_upto_region 30 with (go_at_call 11; (with_reducible refine (HM.out _ HPr.out).mono ?_); rintro e wu ⟨rfl, hb⟩; have HT := Lib.hid (HT.out.over hb); have HPr := Lib.hid (HPr.out.over (Nat.le_refl _) hb); clear hb y0 y1 y2 y3)
      obtain ⟨y0, y1, y2, y3, _, _, _, _⟩ := blk4 HT.out.hM
      obtain ⟨m0, m1, m2, m3, f0, f1, f2, f3⟩ := blk4 HT.out.hR
      go_wp2
      have HZ := Lib.hid (HT.out.setR (.int .u8 3) (.int .u64 0) (.int .i64 a) (.slice none 0 0))
      unfold set4 at HZ
      generalize (((wu.setCell { block := g, off := 0 } (Value.int IntKind.u8 3)).setCell { block := g, off := 1 } (Value.int IntKind.u64 0)).setCell { block := g, off := 2 } (Value.int IntKind.i64 a)).setCell { block := g, off := 3 } (Value.slice none 0 0) = wv at HZ ⊢
      clear m0 m1 m2 m3 f0 f1 f2 f3
      obtain ⟨m0, m1, m2, m3, _, _, _, _⟩ := blk4 HZ.out.1
      clear y0 y1 y2 y3
      refine bodyPost_ret (v := .tuple #[.agg #[.int .u8 3, .int .u64 0, .int .i64 a, .slice none 0 0], .int .i64 0]) (by simp [results, Tryd.results18, go_sem, m0, m1, m2, m3]) rfl ?_
      exact ⟨_, _, _, rfl, props_nil _ _, HZ.out.2.1⟩
  · have HE : finM ⟨3, 0, a, []⟩ l1 e1 = (noMsg, x) := by unfold finM; rw [hx, if_neg hx0]
    rw [HE]
    have hx1 : (x != 0) = true := by simp [hx0]
    clear HE hx hx0
    obtain ⟨g, hg⟩ : ∃ g, g = w.heap.size := ⟨_, rfl⟩
    have HT := Lib.hid (tk_start w g hg (.int .u8 3) (.int .u64 0) (.int .i64 0) (.slice none 0 0) (.string (mkB b)) (.int .i64 0))
    have hg2 := hg
    clear hg2
    go_enter Tryd.func18, Tryd.ntmps18
    go_upto_region 10 with (fail)
    rw [← hg]
    generalize (((w.alloc (Obj.cells #[Value.int IntKind.u8 0, Value.int IntKind.u64 0, Value.int IntKind.i64 0, Value.slice none 0 0] 28)).alloc (Obj.cells #[Value.int IntKind.u8 3, Value.int IntKind.u64 0, Value.int IntKind.i64 0, Value.slice none 0 0] 28)).alloc (Obj.cells #[Value.string (mkB b), Value.int IntKind.i64 0] 80)) = wt at HT ⊢
    clear hg
    have s0 := (heap_cell HT.out.hS 0).trans rfl
    have s1 := (heap_cell HT.out.hS 1).trans rfl
    go_upto_region 11 with (go_at_call 42; (with_reducible refine (HC.out _).mono ?_); rintro e w1 ⟨rfl, hb⟩; have HT := Lib.hid (HT.out.over hb); clear hb s0 s1)
    obtain ⟨z, hz⟩ : ∃ z, z = w1.heap.size := ⟨_, rfl⟩
    have HB : Hid ((w1.alloc (.cells #[.string (mkB l1), .int .i64 e1] 80)).heap[z]? = some (.cells #[.string (mkB l1), .int .i64 e1] 80 (0, 0)) ∧ g + 3 ≤ z) := Lib.hid ⟨by rw [hz]; exact heap_alloc_new w1 _, by rw [hz]; exact HT.out.hz⟩
    have HT := Lib.hid (HT.out.over (bmore (bself w1) (.cells #[.string (mkB l1), .int .i64 e1] 80)))
    rw [← hz]
    clear hz
    generalize w1.alloc (Obj.cells #[Value.string (mkB l1), Value.int IntKind.i64 e1] 80) = w2 at HT HB ⊢
    obtain ⟨_, _, _, _, f0, f1, f2, f3⟩ := blk4 HT.out.hM
    go_upto_region 12 with (fail)
    have HB := Lib.hid (And.intro ((heap_far _ _ _ (by have := HB.out.2; omega) : (w2.setCell ⟨g + 1, 2, none⟩ (.int .i64 a)).heap[z]? = w2.heap[z]?).trans HB.out.1) HB.out.2)
    have HT := Lib.hid (HT.out.setM 2 (.int .i64 a) rfl)
    generalize w2.setCell { block := g + 1, off := 2 } (Value.int IntKind.i64 a) = w3 at HT HB ⊢
    clear f0 f1 f2 f3
    have z0 := (heap_cell HB.out.1 0).trans rfl
    have z1 := (heap_cell HB.out.1 1).trans rfl
    have c0 := (heap_cell HT.out.hS 0).trans rfl
    have c1 := (heap_cell HT.out.hS 1).trans rfl
    have f0 := heap_frozen HT.out.hS 0
    have f1 := heap_frozen HT.out.hS 1
    go_upto_region 25 with (fail)
    have HT := Lib.hid (HT.out.setS (.string (mkB l1)) (.int .i64 e1))
    generalize (w3.setCell { block := g + 1 + 1, off := 0 } (Value.string (mkB l1))).setCell { block := g + 1 + 1, off := 1 } (Value.int IntKind.i64 e1) = wt at HT ⊢
    clear f0 f1 z0 z1 c0 c1 HB
    have HPr : Hid (Props wt wt.heap.size (.slice none 0 0) []) := Lib.hid (props_nil _ _)
    have s0 := (heap_cell HT.out.hS 0).trans rfl
    have s1 := (heap_cell HT.out.hS 1).trans rfl
    go_upto_region 27 with (go_at_call 45; (with_reducible refine (HEnd.out _).mono ?_); rintro e wu ⟨rfl, hb⟩; have HT := Lib.hid (HT.out.over hb); clear hb s0 s1)
    obtain ⟨m0, m1, m2, m3, f0, f1, f2, f3⟩ := blk4 HT.out.hR
    go_wp2
    have HZ := Lib.hid (HT.out.setR (.int .u8 0) (.int .u64 0) (.int .i64 0) (.slice none 0 0))
    unfold set4 at HZ
    generalize (((wu.setCell { block := g, off := 0 } (Value.int IntKind.u8 0)).setCell { block := g, off := 1 } (Value.int IntKind.u64 0)).setCell { block := g, off := 2 } (Value.int IntKind.i64 0)).setCell { block := g, off := 3 } (Value.slice none 0 0) = wv at HZ ⊢
    clear m0 m1 m2 m3 f0 f1 f2 f3
    obtain ⟨m0, m1, m2, m3, _, _, _, _⟩ := blk4 HZ.out.1
    refine bodyPost_ret (v := .tuple #[.agg #[.int .u8 0, .int .u64 0, .int .i64 0, .slice none 0 0], .int .i64 x]) (by simp [results, Tryd.results18, go_sem, m0, m1, m2, m3]) rfl ?_
    exact ⟨none, 0, 0, rfl, props_nil _ _, HZ.out.2.1⟩
theorem OwnsP.over {w w' : World} {base : Nat} {v : Value} {l : List Pr} (h : OwnsP w base v l) (hb : Below w.heap.size w w') : OwnsP w' base v l := ownsRow_over h hb
theorem rtext2_at (l : List UInt8) (e : Int) (w : World) (hs : l.length ≤ 100000) {t l' : List UInt8} {e' : Int} (hd : rdText l e 12 = (t, l', e')) :
    Calls Tryd.prog 43 #[.agg #[.string (mkB l), .int .i64 e], .int .i64 12] w (RDid (.string (mkB t)) (l', e') w) := by
  have h := rtext2_any (mkB l) e 12 w (by rw [mkB_size]; omega) (by omega) (by omega)
  have e2 : rdText (mkB l).data.toList e 12 = (t, l', e') := hd
  rw [e2] at h
  exact h
theorem rdProps_step {j : Nat} {l : List UInt8} {e : Int} {ps : List Pr} {lj : List UInt8} {ej : Int} (h : rdProps j l e = (ps, lj, ej)) {t l1 : List UInt8} {e1 : Int} (h1 : rdText lj ej 12 = (t, l1, e1)) {u : Nat} {l2 : List UInt8} {e2 : Int} (h2 : rdNum l1 e1 = (u, l2, e2)) :
    rdProps (j + 1) l e = (ps ++ [⟨t, pln u⟩], l2, e2) := by
  rw [rdProps_snoc, h]
  dsimp only
  unfold rdProp
  rw [h1]
  dsimp only
  rw [h2]
theorem rdText_len (l : List UInt8) (e most : Int) : (rdText l e most).2.1.length ≤ l.length := by
  have h := rdNum_len l e
  unfold rdText
  split
  · split
    · split
      · dsimp only; rw [List.length_drop]; omega
      · exact Nat.zero_le _
    · exact Nat.zero_le _
  · exact h
theorem rdProps_len : ∀ (n : Nat) (l : List UInt8) (e : Int), (rdProps n l e).2.1.length ≤ l.length
  | 0, _, _ => Nat.le_refl _
  | n + 1, l, e => by
    have h1 := rdText_len l e 12
    have h2 := rdNum_len (rdText l e 12).2.1 (rdText l e 12).2.2
    have h3 := rdProps_len n (rdProp l e).2.1 (rdProp l e).2.2
    have h4 : (rdProp l e).2.1.length ≤ l.length := Nat.le_trans h2 h1
    exact Nat.le_trans h3 h4
theorem rdMoment_len (l : List UInt8) (e : Int) : (rdMoment l e).2.1.length ≤ l.length := by
  unfold rdMoment
  split
  · exact rdNum_len l e
  · exact Nat.zero_le _

set_option maxRecDepth 100000 in
set_option maxHeartbeats 1000000 in
theorem rtakem_event (b : List UInt8) (w : World) (hl : b.length ≤ 100000) :
    Calls Tryd.prog 18 #[.int .u8 2, .string (mkB b)] w (TookM (takeM 2 b) w) := by
  rcases h1 : rdNum b 0 with ⟨q, l1, e1⟩
  rcases h2 : rdMoment l1 e1 with ⟨a, l2, e2⟩
  rcases h3 : rdNum l2 e2 with ⟨n, l3, e3⟩
  rcases h4 : rdProps n l3 e3 with ⟨ps, l4, e4⟩
  have z1 : l1.length ≤ 100000 := by have := rdNum_len b 0; rw [h1] at this; dsimp only at this; omega
  have z2 : l2.length ≤ 100000 := by have := rdMoment_len l1 e1; rw [h2] at this; dsimp only at this; omega
  have z3 : l3.length ≤ 100000 := by have := rdNum_len l2 e2; rw [h3] at this; dsimp only at this; omega
  have HC := Lib.hid (fun w => rread_at b 0 w hl h1)
  have HC2 := Lib.hid (fun w => rmoment_at l1 e1 w z1 h2)
  have HC3 := Lib.hid (fun w => rread_at l2 e2 w z2 h3)
  obtain ⟨r, hr⟩ : ∃ r, takeM 2 b = r := ⟨_, rfl⟩
  rw [hr]
  rw [take_event h1 h2 h3 h4] at hr
  have HR := Lib.hid hr
  have HZ3 := Lib.hid z3
  clear hr
  have HN0 : Hid (e3 ≠ 0 → n = 0) := Lib.hid fun h => by have := rdNum_zero (l := l2) (e := e2) (by rw [h3]; exact h); rw [h3] at this; exact this
  have Hq : Hid (n ≤ 18446744073709551615) := Lib.hid (by have := rdNum_lt l2 e2; rw [h3] at this; exact this)
  have H4 := Lib.hid h4
  clear h1 h2 h3 h4 z1 z2 hl
  obtain ⟨g, hg⟩ : ∃ g, g = w.heap.size := ⟨_, rfl⟩
  have HT := Lib.hid (tk_start w g hg (.int .u8 2) (.int .u64 0) (.int .i64 0) (.slice none 0 0) (.string (mkB b)) (.int .i64 0))
  have hg2 := hg
  clear hg2
  go_enter Tryd.func18, Tryd.ntmps18
  go_upto_region 6 with (fail)
  rw [← hg]
  generalize (((w.alloc (Obj.cells #[Value.int IntKind.u8 0, Value.int IntKind.u64 0, Value.int IntKind.i64 0, Value.slice none 0 0] 28)).alloc (Obj.cells #[Value.int IntKind.u8 2, Value.int IntKind.u64 0, Value.int IntKind.i64 0, Value.slice none 0 0] 28)).alloc (Obj.cells #[Value.string (mkB b), Value.int IntKind.i64 0] 80)) = wt at HT ⊢
  clear hg
  have s0 := (heap_cell HT.out.hS 0).trans rfl
  have s1 := (heap_cell HT.out.hS 1).trans rfl
  go_upto_region 7 with (go_at_call 41; (with_reducible refine (HC.out _).mono ?_); rintro e w1 ⟨rfl, hb⟩; have HT := Lib.hid (HT.out.over hb); clear hb s0 s1)
  obtain ⟨z, hz⟩ : ∃ z, z = w1.heap.size := ⟨_, rfl⟩
  have HB : Hid ((w1.alloc (.cells #[.string (mkB l1), .int .i64 e1] 80)).heap[z]? = some (.cells #[.string (mkB l1), .int .i64 e1] 80 (0, 0)) ∧ g + 3 ≤ z) := Lib.hid ⟨by rw [hz]; exact heap_alloc_new w1 _, by rw [hz]; exact HT.out.hz⟩
  have HT := Lib.hid (HT.out.over (bmore (bself w1) (.cells #[.string (mkB l1), .int .i64 e1] 80)))
  rw [← hz]
  clear hz
  generalize w1.alloc (Obj.cells #[Value.string (mkB l1), Value.int IntKind.i64 e1] 80) = w2 at HT HB ⊢
  obtain ⟨_, _, _, _, f0, f1, f2, f3⟩ := blk4 HT.out.hM
  go_upto_region 8 with (fail)
  have HB := Lib.hid (And.intro ((heap_far _ _ _ (by have := HB.out.2; omega) : (w2.setCell ⟨g + 1, 1, none⟩ (.int .u64 (q : Int))).heap[z]? = w2.heap[z]?).trans HB.out.1) HB.out.2)
  have HT := Lib.hid (HT.out.setM 1 (.int .u64 (q : Int)) rfl)
  generalize w2.setCell { block := g + 1, off := 1 } (Value.int IntKind.u64 (q : Int)) = w3 at HT HB ⊢
  clear f0 f1 f2 f3
  have z0 := (heap_cell HB.out.1 0).trans rfl
  have z1 := (heap_cell HB.out.1 1).trans rfl
  have c0 := (heap_cell HT.out.hS 0).trans rfl
  have c1 := (heap_cell HT.out.hS 1).trans rfl
  have f0 := heap_frozen HT.out.hS 0
  have f1 := heap_frozen HT.out.hS 1
  go_upto_region 10 with (fail)
  have HT := Lib.hid (HT.out.setS (.string (mkB l1)) (.int .i64 e1))
  generalize (w3.setCell { block := g + 1 + 1, off := 0 } (Value.string (mkB l1))).setCell { block := g + 1 + 1, off := 1 } (Value.int IntKind.i64 e1) = wa at HT ⊢
  clear f0 f1 z0 z1 c0 c1 HB
  have s0 := (heap_cell HT.out.hS 0).trans rfl
  have s1 := (heap_cell HT.out.hS 1).trans rfl
  go_upto_region 11 with (go_at_call 42; (with_reducible refine (HC2.out _).mono ?_); rintro e w1 ⟨rfl, hb⟩; have HT := Lib.hid (HT.out.over hb); clear hb s0 s1)
  obtain ⟨z, hz⟩ : ∃ z, z = w1.heap.size := ⟨_, rfl⟩
  have HB : Hid ((w1.alloc (.cells #[.string (mkB l2), .int .i64 e2] 80)).heap[z]? = some (.cells #[.string (mkB l2), .int .i64 e2] 80 (0, 0)) ∧ g + 3 ≤ z) := Lib.hid ⟨by rw [hz]; exact heap_alloc_new w1 _, by rw [hz]; exact HT.out.hz⟩
  have HT := Lib.hid (HT.out.over (bmore (bself w1) (.cells #[.string (mkB l2), .int .i64 e2] 80)))
  rw [← hz]
  clear hz
  generalize w1.alloc (Obj.cells #[Value.string (mkB l2), Value.int IntKind.i64 e2] 80) = w2 at HT HB ⊢
  obtain ⟨_, _, _, _, f0, f1, f2, f3⟩ := blk4 HT.out.hM
  go_upto_region 12 with (fail)
  have HB := Lib.hid (And.intro ((heap_far _ _ _ (by have := HB.out.2; omega) : (w2.setCell ⟨g + 1, 2, none⟩ (.int .i64 a)).heap[z]? = w2.heap[z]?).trans HB.out.1) HB.out.2)
  have HT := Lib.hid (HT.out.setM 2 (.int .i64 a) rfl)
  generalize w2.setCell { block := g + 1, off := 2 } (Value.int IntKind.i64 a) = w3 at HT HB ⊢
  clear f0 f1 f2 f3
  have z0 := (heap_cell HB.out.1 0).trans rfl
  have z1 := (heap_cell HB.out.1 1).trans rfl
  have c0 := (heap_cell HT.out.hS 0).trans rfl
  have c1 := (heap_cell HT.out.hS 1).trans rfl
  have f0 := heap_frozen HT.out.hS 0
  have f1 := heap_frozen HT.out.hS 1
  go_upto_region 14 with (fail)
  have HT := Lib.hid (HT.out.setS (.string (mkB l2)) (.int .i64 e2))
  generalize (w3.setCell { block := g + 1 + 1, off := 0 } (Value.string (mkB l2))).setCell { block := g + 1 + 1, off := 1 } (Value.int IntKind.i64 e2) = wb at HT ⊢
  clear f0 f1 z0 z1 c0 c1 HB
  have s0 := (heap_cell HT.out.hS 0).trans rfl
  have s1 := (heap_cell HT.out.hS 1).trans rfl
  go_upto_region 15 with (go_at_call 41; (with_reducible refine (HC3.out _).mono ?_); rintro e w1 ⟨rfl, hb⟩; have HT := Lib.hid (HT.out.over hb); clear hb s0 s1)
  obtain ⟨z, hz⟩ : ∃ z, z = w1.heap.size := ⟨_, rfl⟩
  have HB : Hid ((w1.alloc (.cells #[.string (mkB l3), .int .i64 e3] 80)).heap[z]? = some (.cells #[.string (mkB l3), .int .i64 e3] 80 (0, 0)) ∧ g + 3 ≤ z) := Lib.hid ⟨by rw [hz]; exact heap_alloc_new w1 _, by rw [hz]; exact HT.out.hz⟩
  have HT := Lib.hid (HT.out.over (bmore (bself w1) (.cells #[.string (mkB l3), .int .i64 e3] 80)))
  rw [← hz]
  clear hz
  generalize w1.alloc (Obj.cells #[Value.string (mkB l3), Value.int IntKind.i64 e3] 80) = w3 at HT HB ⊢
  have z0 := (heap_cell HB.out.1 0).trans rfl
  have z1 := (heap_cell HB.out.1 1).trans rfl
  have c0 := (heap_cell HT.out.hS 0).trans rfl
  have c1 := (heap_cell HT.out.hS 1).trans rfl
  have f0 := heap_frozen HT.out.hS 0
  have f1 := heap_frozen HT.out.hS 1
  go_upto_region 16 with (fail)
  have HT := Lib.hid (HT.out.setS (.string (mkB l3)) (.int .i64 e3))
  generalize (w3.setCell { block := g + 1 + 1, off := 0 } (Value.string (mkB l3))).setCell { block := g + 1 + 1, off := 1 } (Value.int IntKind.i64 e3) = wt at HT ⊢
  clear f0 f1 z0 z1 c0 c1 HB
  by_cases h8 : 8 < n
  · skip
    have H8 := Lib.hid h8
    have e3b : (e3 == 0) = true := by by_cases he : e3 = 0 <;> simp [he]; have := HN0.out he; omega
    have n8b : decide (8 < (n : Int)) = true := decide_eq_true (by omega)
    have HE : Hid (r = (noMsg, 13)) := Lib.hid (by rw [← HR.out, if_pos H8.out])
    clear h8
    have s0 := (heap_cell HT.out.hS 0).trans rfl
    have s1 := (heap_cell HT.out.hS 1).trans rfl
    obtain ⟨m0, m1, m2, m3, f0, f1, f2, f3⟩ := blk4 HT.out.hR
    go_wp2
    clear s0 s1
    have HZ := Lib.hid (HT.out.setR (.int .u8 0) (.int .u64 0) (.int .i64 0) (.slice none 0 0))
    unfold set4 at HZ
    generalize (((wt.setCell { block := g, off := 0 } (Value.int IntKind.u8 0)).setCell { block := g, off := 1 } (Value.int IntKind.u64 0)).setCell { block := g, off := 2 } (Value.int IntKind.i64 0)).setCell { block := g, off := 3 } (Value.slice none 0 0) = wv at HZ ⊢
    clear m0 m1 m2 m3 f0 f1 f2 f3
    obtain ⟨m0, m1, m2, m3, _, _, _, _⟩ := blk4 HZ.out.1
    refine bodyPost_ret (v := .tuple #[.agg #[.int .u8 0, .int .u64 0, .int .i64 0, .slice none 0 0], .int .i64 13]) (by simp [results, Tryd.results18, go_sem, m0, m1, m2, m3]) rfl ?_
    rw [HE.out]
    exact ⟨none, 0, 0, rfl, props_nil _ _, HZ.out.2.1⟩
  · skip
    by_cases he : e3 = 0
    · skip
      have HF : Hid (finM ⟨2, q, a, ps⟩ l4 e4 = r) := Lib.hid (by rw [← HR.out, if_neg h8])
      have hn8 : n ≤ 8 := by omega
      clear HR h8
      have s0 := (heap_cell HT.out.hS 0).trans rfl
      have s1 := (heap_cell HT.out.hS 1).trans rfl
      have e3b : (e3 == 0) = true := by simp [he]
      have n8b : decide (8 < (n : Int)) = false := decide_eq_false (by omega)
      clear he
      go_wp2
      clear s0 s1
      go_loopw [14] (fun i wr => ∃ (j : Nat), j ≤ n ∧ i = .int .u64 j ∧ Hid (∃ ps' lj ej v, rdProps j l3 e3 = (ps', lj, ej) ∧ TkAt w wr g (.int .u8 2) (.int .u64 (q : Int)) (.int .i64 a) v (.string (mkB lj)) (.int .i64 ej) ∧ OwnsP wr (g + 3) v ps')) (fun i _ => n - (intOf i).toNat)
      case atStart => exact ⟨0, Nat.zero_le _, rfl, Lib.hid ⟨[], l3, e3, .slice none 0 0, rfl, HT.out, OwnsP.nil_ _ _⟩⟩
      case round =>
        obtain ⟨j, hj, rfl, HP⟩ := hrel
        obtain ⟨ps2, lj, ej, v, p1, p2, p3⟩ := HP.out
        obtain ⟨A8, n8, c8, rfl⟩ := own_slice p3
        have HT := Lib.hid p2
        have HO := Lib.hid p3
        have HJ := Lib.hid p1
        clear HP p1 p2 p3
        by_cases hlt : j < n
        · skip
          rcases d1 : rdText lj ej 12 with ⟨t, m1, k1⟩
          rcases d2 : rdNum m1 k1 with ⟨u, m2, k2⟩
          have zj : lj.length ≤ 100000 := by have := rdProps_len j l3 e3; have h := HZ3.out; rw [HJ.out] at this; dsimp only at this; omega
          have zm : m1.length ≤ 100000 := by have := rdText_len lj ej 12; rw [d1] at this; dsimp only at this; omega
          have HTx := Lib.hid (fun w => rtext2_at lj ej w zj d1)
          have HNx := Lib.hid (fun w => rread_at m1 k1 w zm d2)
          have hu : u ≤ 18446744073709551615 := by have := rdNum_lt m1 k1; rw [d2] at this; exact this
          have HPn := Lib.hid (fun w => rplain_any (u : Int) w (by omega) (by omega))
          have HStep := Lib.hid (rdProps_step HJ.out d1 d2)
          have HJL : Hid (ps2.length ≤ 8) := Lib.hid (by have := rdProps_length j l3 e3; rw [HJ.out] at this; dsimp only at this; omega)
          have hlt2 : ((j : Nat) : Int) < (n : Int) := by omega
          have hwj : IntKind.u64.wrap ((j : Int) + 1) = (j : Int) + 1 := IntWalk.u64_in _ (by omega)
          clear zj zm d1 d2 hu hlt
          have s0 := (heap_cell HT.out.hS 0).trans rfl
          have s1 := (heap_cell HT.out.hS 1).trans rfl
          go_upto_region 22 with (go_at_call 43; (with_reducible refine (HTx.out _).mono ?_); rintro e w1 ⟨rfl, hb⟩; have HT := Lib.hid (HT.out.over hb); have HO := Lib.hid (OwnsP.over HO.out hb); clear hb s0 s1)
          obtain ⟨z, hz⟩ : ∃ z, z = w1.heap.size := ⟨_, rfl⟩
          have HB : Hid ((w1.alloc (.cells #[.string (mkB m1), .int .i64 k1] 80)).heap[z]? = some (.cells #[.string (mkB m1), .int .i64 k1] 80 (0, 0)) ∧ g + 3 ≤ z) := Lib.hid ⟨by rw [hz]; exact heap_alloc_new w1 _, by rw [hz]; exact HT.out.hz⟩
          have HT := Lib.hid (HT.out.over (bmore (bself w1) (.cells #[.string (mkB m1), .int .i64 k1] 80)))
          have HO := Lib.hid (OwnsP.over HO.out (bmore (bself w1) (.cells #[.string (mkB m1), .int .i64 k1] 80)))
          rw [← hz]
          clear hz
          generalize w1.alloc (Obj.cells #[Value.string (mkB m1), Value.int IntKind.i64 k1] 80) = w2 at HT HO HB ⊢
          have z0 := (heap_cell HB.out.1 0).trans rfl
          have z1 := (heap_cell HB.out.1 1).trans rfl
          go_upto_region 23 with (go_at_call 41; (with_reducible refine (HNx.out _).mono ?_); rintro e w1 ⟨rfl, hb⟩; have HT := Lib.hid (HT.out.over hb); have HO := Lib.hid (OwnsP.over HO.out hb); clear hb z0 z1 HB)
          obtain ⟨z, hz⟩ : ∃ z, z = w1.heap.size := ⟨_, rfl⟩
          have HB : Hid ((w1.alloc (.cells #[.string (mkB m2), .int .i64 k2] 80)).heap[z]? = some (.cells #[.string (mkB m2), .int .i64 k2] 80 (0, 0)) ∧ g + 3 ≤ z) := Lib.hid ⟨by rw [hz]; exact heap_alloc_new w1 _, by rw [hz]; exact HT.out.hz⟩
          have HT := Lib.hid (HT.out.over (bmore (bself w1) (.cells #[.string (mkB m2), .int .i64 k2] 80)))
          have HO := Lib.hid (OwnsP.over HO.out (bmore (bself w1) (.cells #[.string (mkB m2), .int .i64 k2] 80)))
          rw [← hz]
          clear hz
          generalize w1.alloc (Obj.cells #[Value.string (mkB m2), Value.int IntKind.i64 k2] 80) = w3 at HT HO HB ⊢
          have z0 := (heap_cell HB.out.1 0).trans rfl
          have z1 := (heap_cell HB.out.1 1).trans rfl
          have c0 := (heap_cell HT.out.hS 0).trans rfl
          have c1 := (heap_cell HT.out.hS 1).trans rfl
          have f0 := heap_frozen HT.out.hS 0
          have f1 := heap_frozen HT.out.hS 1
          go_upto_region 24 with (fail)
          have HO := Lib.hid (show OwnsP ((w3.setCell ⟨g + 1 + 1, 0, none⟩ (.string (mkB m2))).setCell ⟨g + 1 + 1, 1, none⟩ (.int .i64 k2)) (g + 3) (.slice A8 n8 c8) ps2 from ownsRow_setCell_below (ownsRow_setCell_below HO.out (by first | omega | (dsimp only; omega)) _) (by first | omega | (dsimp only; omega)) _)
          have HT := Lib.hid (HT.out.setS (.string (mkB m2)) (.int .i64 k2))
          generalize (w3.setCell { block := g + 1 + 1, off := 0 } (Value.string (mkB m2))).setCell { block := g + 1 + 1, off := 1 } (Value.int IntKind.i64 k2) = wq at HT HO ⊢
          clear f0 f1 z0 z1 c0 c1 HB
          have HTd := Lib.hid (HT.out.over (bself wq).drew)
          have HOd := Lib.hid (OwnsP.over HO.out (bself wq).drew)
          obtain ⟨_, _, _, m3, _, _, _, _⟩ := blk4 HT.out.hM
          have m3a : ∀ o, (wq.alloc o).cell? ⟨g + 1, 3, none⟩ = some (.slice A8 n8 c8) := fun o => ((bmore (bself wq) o).cell (p := ⟨g + 1, 3, none⟩) (by have := HT.out.hz; dsimp only; omega)).trans m3
          refine wp_region_held_drew (S := fun _ => True) (by kernel_rfl) ?_ (fun hHeld => ?_)
          · (try dsimp only)
            try trivial
          refine wpAnyH_take (i := 0) (v := ?_) rfl (by kernel_rfl) (by kernel_rfl) (by kernel_rfl) (fun _ _ _ h => h) (Or.inl ⟨by rfl, ?_⟩) (by assumption) ?_
          rotate_left
          · intro w hSw
            (try dsimp only at hSw)
            go_simp
            try with_reducible rfl
          (try simp only [Act.put, List.getElem_toArray, List.getElem_cons_zero, List.setIfInBounds_toArray, List.set_cons_zero, List.set_cons_succ])
          refine wpAnyH_take (i := 2) (v := ?_) rfl (by kernel_rfl) (by kernel_rfl) (by kernel_rfl) (fun _ _ _ h => h) (Or.inl ⟨by rfl, ?_⟩) (by assumption) ?_
          rotate_left
          · intro w hSw
            (try dsimp only at hSw)
            go_simp
            try with_reducible rfl
          (try simp only [Act.put, List.getElem_toArray, List.getElem_cons_succ, List.getElem_cons_zero, List.setIfInBounds_toArray, List.set_cons_zero, List.set_cons_succ])
          refine wpAnyH_take (i := 3) (v := ?_) rfl (by kernel_rfl) (by kernel_rfl) (by kernel_rfl) (fun _ _ _ h => h) (Or.inl ⟨by rfl, ?_⟩) (by assumption) ?_
          rotate_left
          · intro w hSw
            (try dsimp only at hSw)
            go_simp
            try with_reducible rfl
          (try simp only [Act.put, List.getElem_toArray, List.getElem_cons_succ, List.getElem_cons_zero, List.setIfInBounds_toArray, List.set_cons_zero, List.set_cons_succ])
          refine wpAnyH_ready (rs := [1, 4]) (by kernel_rfl) (by simp) ?_
          refine AllReadyH.cons rfl (fun K hK => ?_) (AllReadyH.cons rfl (fun K hK => ?_) AllReadyH.nil)
          · go_simp
            refine hK.out _ _ ?_ (fun hHeld => ?_)
            · (try dsimp only)
              try trivial
            clear hK K
            (try simp only [Act.put, List.getElem_toArray, List.getElem_cons_succ, List.getElem_cons_zero, List.setIfInBounds_toArray, List.set_cons_zero, List.set_cons_succ])
            refine wpAnyH_ready (rs := [4]) (by kernel_rfl) (by simp) ?_
            refine AllReadyH.cons rfl (fun K hK => ?_) AllReadyH.nil
            go_simp
            (go_at_call 44; ((with_reducible refine (HPn.out _).mono ?_); rintro e w5 ⟨rfl, rfl⟩))
            go_wp2_with fail
            refine hK.out _ _ ?_ (fun hHeld => ?_)
            · (try dsimp only)
              try trivial
            clear hK K
            (try simp only [Act.put, List.getElem_toArray, List.getElem_cons_succ, List.getElem_cons_zero, List.setIfInBounds_toArray, List.set_cons_zero, List.set_cons_succ])
            refine wpAnyH_take (i := 5) (v := ?_) rfl (by kernel_rfl) (by kernel_rfl) (by kernel_rfl) (fun _ _ _ h => h) (Or.inl ⟨by rfl, ?_⟩) (by assumption) ?_
            rotate_left
            · intro w hSw
              (try dsimp only at hSw)
              go_simp
              try with_reducible rfl
            (try simp only [Act.put, List.getElem_toArray, List.getElem_cons_succ, List.getElem_cons_zero, List.setIfInBounds_toArray, List.set_cons_zero, List.set_cons_succ])
            refine wpAnyH_ready (rs := [6]) (by kernel_rfl) (by simp) ?_
            refine AllReadyH.cons rfl (fun K hK => ?_) AllReadyH.nil
            go_simp
            refine hK.out _ _ ?_ (fun hHeld => ?_)
            · (try dsimp only)
              try trivial
            clear hK K
            (try simp only [Act.put, List.getElem_toArray, List.getElem_cons_succ, List.getElem_cons_zero, List.setIfInBounds_toArray, List.set_cons_zero, List.set_cons_succ])
            refine wpAnyH_ready (rs := [7]) (by kernel_rfl) (by simp) ?_
            refine AllReadyH.cons rfl (fun K hK => ?_) AllReadyH.nil
            rw [if_pos (by rfl)]
            refine wp_app_seq_op (.tmp 92) (.tmp 97) 23 58 _ 2 24 Tryd.underlying23 info_P rfl (by omega) rfl (g + 3) (.slice A8 n8 c8) _ ps2.length 1 (prC ps2) [.string (mkB t), .int .i64 (pln (u : Int))] rfl rfl (ownsRow_over HOd.out (bmore (bself _) _)) (Seq.lit_ wq.drew [.string (mkB t), .int .i64 (pln (u : Int))] _) (by simp [Value.oneCell']) (by have := HJL.out; omega) (Nat.le_trans HTd.out.hz (bmore (bself _) _).size) ?_
            intro v9 w9 hg9
            have HT9 := Lib.hid (HTd.out.over3 (((Below.refl _ _).alloc HTd.out.hz _).trans hg9.2.2.2))
            have HO9 : Hid (OwnsP w9 (g + 3) v9 (ps2 ++ [⟨t, pln u⟩])) := Lib.hid (OwnsP.join hg9.1 rfl rfl)
            clear hg9
            obtain ⟨A9, n9, c9, rfl⟩ := own_slice HO9.out
            clear m3 m3a
            obtain ⟨_, _, _, _, _, _, _, _⟩ := blk4 HT9.out.hM
            refine hK.out _ _ ?_ (fun hHeld => ?_)
            · (try dsimp only)
              try trivial
            clear hK K
            (try simp only [Act.put, List.getElem_toArray, List.getElem_cons_succ, List.getElem_cons_zero, List.setIfInBounds_toArray, List.set_cons_zero, List.set_cons_succ])
            refine wpAnyH_take (i := 8) (v := ?_) rfl (by kernel_rfl) (by kernel_rfl) (by kernel_rfl) (fun _ _ _ h => h) (Or.inl ⟨by rfl, ?_⟩) (by assumption) ?_
            rotate_left
            · intro w hSw
              (try dsimp only at hSw)
              go_simp
              try with_reducible rfl
            (try simp only [Act.put, List.getElem_toArray, List.getElem_cons_succ, List.getElem_cons_zero, List.setIfInBounds_toArray, List.set_cons_zero, List.set_cons_succ])
            refine wpAnyH_ready (rs := [9]) (by kernel_rfl) (by simp) ?_
            refine AllReadyH.cons rfl (fun K hK => ?_) AllReadyH.nil
            go_simp
            refine hK.out _ _ ?_ (fun hHeld => ?_)
            · (try dsimp only)
              try trivial
            clear hK K
            (try simp only [Act.put, List.getElem_toArray, List.getElem_cons_succ, List.getElem_cons_zero, List.setIfInBounds_toArray, List.set_cons_zero, List.set_cons_succ])
            refine wpAnyH_done (by kernel_rfl) ?_ _
            have HP2 : Hid (∃ ps' lj ej v, rdProps (j + 1) l3 e3 = (ps', lj, ej) ∧ TkAt w (w9.setCell ⟨g + 1, 3, none⟩ (.slice A9 n9 c9)) g (.int .u8 2) (.int .u64 (q : Int)) (.int .i64 a) v (.string (mkB lj)) (.int .i64 ej) ∧ OwnsP (w9.setCell ⟨g + 1, 3, none⟩ (.slice A9 n9 c9)) (g + 3) v ps') :=
              Lib.hid ⟨_, _, _, _, HStep.out, HT9.out.setM 3 _ rfl, ownsRow_setCell_below HO9.out (by first | omega | (dsimp only; omega)) _⟩
            generalize w9.setCell { block := g + 1, off := 3 } (Value.slice A9 n9 c9) = wy at HP2 ⊢
            go_wp2
            go_roundw
            case rel => exact ⟨j + 1, by omega, by first | rfl | go_num, HP2⟩
            case measure => simp [intOf]; omega
          · go_simp
            (go_at_call 44; ((with_reducible refine (HPn.out _).mono ?_); rintro e w5 ⟨rfl, rfl⟩))
            go_wp2_with fail
            refine hK.out _ _ ?_ (fun hHeld => ?_)
            · (try dsimp only)
              try trivial
            clear hK K
            (try simp only [Act.put, List.getElem_toArray, List.getElem_cons_succ, List.getElem_cons_zero, List.setIfInBounds_toArray, List.set_cons_zero, List.set_cons_succ])
            refine wpAnyH_take (i := 5) (v := ?_) rfl (by kernel_rfl) (by kernel_rfl) (by kernel_rfl) (fun _ _ _ h => h) (Or.inl ⟨by rfl, ?_⟩) (by assumption) ?_
            rotate_left
            · intro w hSw
              (try dsimp only at hSw)
              go_simp
              try with_reducible rfl
            (try simp only [Act.put, List.getElem_toArray, List.getElem_cons_succ, List.getElem_cons_zero, List.setIfInBounds_toArray, List.set_cons_zero, List.set_cons_succ])
            refine wpAnyH_ready (rs := [1, 6]) (by kernel_rfl) (by simp) ?_
            refine AllReadyH.cons rfl (fun K hK => ?_) (AllReadyH.cons rfl (fun K hK => ?_) AllReadyH.nil)
            · go_simp
              refine hK.out _ _ ?_ (fun hHeld => ?_)
              · (try dsimp only)
                try trivial
              clear hK K
              (try simp only [Act.put, List.getElem_toArray, List.getElem_cons_succ, List.getElem_cons_zero, List.setIfInBounds_toArray, List.set_cons_zero, List.set_cons_succ])
              refine wpAnyH_ready (rs := [6]) (by kernel_rfl) (by simp) ?_
              refine AllReadyH.cons rfl (fun K hK => ?_) AllReadyH.nil
              go_simp
              refine hK.out _ _ ?_ (fun hHeld => ?_)
              · (try dsimp only)
                try trivial
              clear hK K
              (try simp only [Act.put, List.getElem_toArray, List.getElem_cons_succ, List.getElem_cons_zero, List.setIfInBounds_toArray, List.set_cons_zero, List.set_cons_succ])
              refine wpAnyH_ready (rs := [7]) (by kernel_rfl) (by simp) ?_
              refine AllReadyH.cons rfl (fun K hK => ?_) AllReadyH.nil
              rw [if_pos (by rfl)]
              refine wp_app_seq_op (.tmp 92) (.tmp 97) 23 58 _ 2 24 Tryd.underlying23 info_P rfl (by omega) rfl (g + 3) (.slice A8 n8 c8) _ ps2.length 1 (prC ps2) [.string (mkB t), .int .i64 (pln (u : Int))] rfl rfl (ownsRow_over HOd.out (bmore (bself _) _)) (Seq.lit_ wq.drew [.string (mkB t), .int .i64 (pln (u : Int))] _) (by simp [Value.oneCell']) (by have := HJL.out; omega) (Nat.le_trans HTd.out.hz (bmore (bself _) _).size) ?_
              intro v9 w9 hg9
              have HT9 := Lib.hid (HTd.out.over3 (((Below.refl _ _).alloc HTd.out.hz _).trans hg9.2.2.2))
              have HO9 : Hid (OwnsP w9 (g + 3) v9 (ps2 ++ [⟨t, pln u⟩])) := Lib.hid (OwnsP.join hg9.1 rfl rfl)
              clear hg9
              obtain ⟨A9, n9, c9, rfl⟩ := own_slice HO9.out
              clear m3 m3a
              obtain ⟨_, _, _, _, _, _, _, _⟩ := blk4 HT9.out.hM
              refine hK.out _ _ ?_ (fun hHeld => ?_)
              · (try dsimp only)
                try trivial
              clear hK K
              (try simp only [Act.put, List.getElem_toArray, List.getElem_cons_succ, List.getElem_cons_zero, List.setIfInBounds_toArray, List.set_cons_zero, List.set_cons_succ])
              refine wpAnyH_take (i := 8) (v := ?_) rfl (by kernel_rfl) (by kernel_rfl) (by kernel_rfl) (fun _ _ _ h => h) (Or.inl ⟨by rfl, ?_⟩) (by assumption) ?_
              rotate_left
              · intro w hSw
                (try dsimp only at hSw)
                go_simp
                try with_reducible rfl
              (try simp only [Act.put, List.getElem_toArray, List.getElem_cons_succ, List.getElem_cons_zero, List.setIfInBounds_toArray, List.set_cons_zero, List.set_cons_succ])
              refine wpAnyH_ready (rs := [9]) (by kernel_rfl) (by simp) ?_
              refine AllReadyH.cons rfl (fun K hK => ?_) AllReadyH.nil
              go_simp
              refine hK.out _ _ ?_ (fun hHeld => ?_)
              · (try dsimp only)
                try trivial
              clear hK K
              (try simp only [Act.put, List.getElem_toArray, List.getElem_cons_succ, List.getElem_cons_zero, List.setIfInBounds_toArray, List.set_cons_zero, List.set_cons_succ])
              refine wpAnyH_done (by kernel_rfl) ?_ _
              have HP2 : Hid (∃ ps' lj ej v, rdProps (j + 1) l3 e3 = (ps', lj, ej) ∧ TkAt w (w9.setCell ⟨g + 1, 3, none⟩ (.slice A9 n9 c9)) g (.int .u8 2) (.int .u64 (q : Int)) (.int .i64 a) v (.string (mkB lj)) (.int .i64 ej) ∧ OwnsP (w9.setCell ⟨g + 1, 3, none⟩ (.slice A9 n9 c9)) (g + 3) v ps') :=
                Lib.hid ⟨_, _, _, _, HStep.out, HT9.out.setM 3 _ rfl, ownsRow_setCell_below HO9.out (by first | omega | (dsimp only; omega)) _⟩
              generalize w9.setCell { block := g + 1, off := 3 } (Value.slice A9 n9 c9) = wy at HP2 ⊢
              go_wp2
              go_roundw
              case rel => exact ⟨j + 1, by omega, by first | rfl | go_num, HP2⟩
              case measure => simp [intOf]; omega
            · go_simp
              refine hK.out _ _ ?_ (fun hHeld => ?_)
              · (try dsimp only)
                try trivial
              clear hK K
              (try simp only [Act.put, List.getElem_toArray, List.getElem_cons_succ, List.getElem_cons_zero, List.setIfInBounds_toArray, List.set_cons_zero, List.set_cons_succ])
              refine wpAnyH_ready (rs := [1]) (by kernel_rfl) (by simp) ?_
              refine AllReadyH.cons rfl (fun K hK => ?_) AllReadyH.nil
              go_simp
              refine hK.out _ _ ?_ (fun hHeld => ?_)
              · (try dsimp only)
                try trivial
              clear hK K
              (try simp only [Act.put, List.getElem_toArray, List.getElem_cons_succ, List.getElem_cons_zero, List.setIfInBounds_toArray, List.set_cons_zero, List.set_cons_succ])
              refine wpAnyH_ready (rs := [7]) (by kernel_rfl) (by simp) ?_
              refine AllReadyH.cons rfl (fun K hK => ?_) AllReadyH.nil
              rw [if_pos (by rfl)]
              refine wp_app_seq_op (.tmp 92) (.tmp 97) 23 58 _ 2 24 Tryd.underlying23 info_P rfl (by omega) rfl (g + 3) (.slice A8 n8 c8) _ ps2.length 1 (prC ps2) [.string (mkB t), .int .i64 (pln (u : Int))] rfl rfl (ownsRow_over HOd.out (bmore (bself _) _)) (Seq.lit_ wq.drew [.string (mkB t), .int .i64 (pln (u : Int))] _) (by simp [Value.oneCell']) (by have := HJL.out; omega) (Nat.le_trans HTd.out.hz (bmore (bself _) _).size) ?_
              intro v9 w9 hg9
              have HT9 := Lib.hid (HTd.out.over3 (((Below.refl _ _).alloc HTd.out.hz _).trans hg9.2.2.2))
              have HO9 : Hid (OwnsP w9 (g + 3) v9 (ps2 ++ [⟨t, pln u⟩])) := Lib.hid (OwnsP.join hg9.1 rfl rfl)
              clear hg9
              obtain ⟨A9, n9, c9, rfl⟩ := own_slice HO9.out
              clear m3 m3a
              obtain ⟨_, _, _, _, _, _, _, _⟩ := blk4 HT9.out.hM
              refine hK.out _ _ ?_ (fun hHeld => ?_)
              · (try dsimp only)
                try trivial
              clear hK K
              (try simp only [Act.put, List.getElem_toArray, List.getElem_cons_succ, List.getElem_cons_zero, List.setIfInBounds_toArray, List.set_cons_zero, List.set_cons_succ])
              refine wpAnyH_take (i := 8) (v := ?_) rfl (by kernel_rfl) (by kernel_rfl) (by kernel_rfl) (fun _ _ _ h => h) (Or.inl ⟨by rfl, ?_⟩) (by assumption) ?_
              rotate_left
              · intro w hSw
                (try dsimp only at hSw)
                go_simp
                try with_reducible rfl
              (try simp only [Act.put, List.getElem_toArray, List.getElem_cons_succ, List.getElem_cons_zero, List.setIfInBounds_toArray, List.set_cons_zero, List.set_cons_succ])
              refine wpAnyH_ready (rs := [9]) (by kernel_rfl) (by simp) ?_
              refine AllReadyH.cons rfl (fun K hK => ?_) AllReadyH.nil
              go_simp
              refine hK.out _ _ ?_ (fun hHeld => ?_)
              · (try dsimp only)
                try trivial
              clear hK K
              (try simp only [Act.put, List.getElem_toArray, List.getElem_cons_succ, List.getElem_cons_zero, List.setIfInBounds_toArray, List.set_cons_zero, List.set_cons_succ])
              refine wpAnyH_done (by kernel_rfl) ?_ _
              have HP2 : Hid (∃ ps' lj ej v, rdProps (j + 1) l3 e3 = (ps', lj, ej) ∧ TkAt w (w9.setCell ⟨g + 1, 3, none⟩ (.slice A9 n9 c9)) g (.int .u8 2) (.int .u64 (q : Int)) (.int .i64 a) v (.string (mkB lj)) (.int .i64 ej) ∧ OwnsP (w9.setCell ⟨g + 1, 3, none⟩ (.slice A9 n9 c9)) (g + 3) v ps') :=
                Lib.hid ⟨_, _, _, _, HStep.out, HT9.out.setM 3 _ rfl, ownsRow_setCell_below HO9.out (by first | omega | (dsimp only; omega)) _⟩
              generalize w9.setCell { block := g + 1, off := 3 } (Value.slice A9 n9 c9) = wy at HP2 ⊢
              go_wp2
              go_roundw
              case rel => exact ⟨j + 1, by omega, by first | rfl | go_num, HP2⟩
              case measure => simp [intOf]; omega
        · skip
          have hlt2 : ¬ ((j : Nat) : Int) < (n : Int) := by omega
          have hjn : j = n := by omega
          subst hjn
          have hps := HJ.out.symm.trans H4.out
          simp only [Prod.mk.injEq] at hps
          obtain ⟨rfl, rfl, rfl⟩ := hps
          have HPl : Hid (ps2.length ≤ 100000) := Lib.hid (by have := rdProps_length j l3 e3; rw [HJ.out] at this; dsimp only at this; omega)
          have HPr := HO
          clear HO HJ H4 hlt
          go_upto_region 25 with (fail)
          obtain ⟨x, hx⟩ : ∃ x, rdEnd lj ej = x := ⟨_, rfl⟩
          have HEnd := Lib.hid (fun w => rend_at lj ej x w hx)
          by_cases hx0 : x = 0
          · have hx1 : (x != 0) = false := by rw [hx0]; rfl
            cases hr : mayL ⟨2, q, a, ps2⟩ with
            | false =>
              have HM : Hid (∀ w : World, Props w w.heap.size (.slice A8 n8 c8) ps2 → Calls Tryd.prog 11 #[.agg #[.int .u8 2, .int .u64 q, .int .i64 a, .slice A8 n8 c8]] w fun e w' => e = .returned (.bool false) ∧ Below w.heap.size w w') := Lib.hid fun w h => rmay_any 2 q a A8 n8 c8 ps2 w h HPl.out hr
              have HE : Hid (r = (noMsg, 11)) := Lib.hid (by rw [← HF.out]; unfold finM; rw [hx, hx0, if_pos rfl, hr]; rfl)
              clear hr hx hx0
              have s0 := (heap_cell HT.out.hS 0).trans rfl
              have s1 := (heap_cell HT.out.hS 1).trans rfl
              go_upto_region 26 with (go_at_call 45; (with_reducible refine (HEnd.out _).mono ?_); rintro e wu ⟨rfl, hb⟩; have HT := Lib.hid (HT.out.over hb); have HPr := Lib.hid (OwnsP.over HPr.out hb); clear hb s0 s1)
              obtain ⟨y0, y1, y2, y3, _, _, _, _⟩ := blk4 HT.out.hM
              go_upto_region 29 with (go_at_call 11; (with_reducible refine (HM.out _ (OwnsP.props HPr.out)).mono ?_); rintro e wu ⟨rfl, hb⟩; have HT := Lib.hid (HT.out.over hb); clear hb y0 y1 y2 y3)
              obtain ⟨m0, m1, m2, m3, f0, f1, f2, f3⟩ := blk4 HT.out.hR
              go_wp2
              have HZ := Lib.hid (HT.out.setR (.int .u8 0) (.int .u64 0) (.int .i64 0) (.slice none 0 0))
              unfold set4 at HZ
              generalize (((wu.setCell { block := g, off := 0 } (Value.int IntKind.u8 0)).setCell { block := g, off := 1 } (Value.int IntKind.u64 0)).setCell { block := g, off := 2 } (Value.int IntKind.i64 0)).setCell { block := g, off := 3 } (Value.slice none 0 0) = wv at HZ ⊢
              clear m0 m1 m2 m3 f0 f1 f2 f3
              obtain ⟨m0, m1, m2, m3, _, _, _, _⟩ := blk4 HZ.out.1
              refine bodyPost_ret (v := .tuple #[.agg #[.int .u8 0, .int .u64 0, .int .i64 0, .slice none 0 0], .int .i64 11]) (by simp [results, Tryd.results18, go_sem, m0, m1, m2, m3]) rfl ?_
              rw [HE.out]
              exact ⟨none, 0, 0, rfl, props_nil _ _, HZ.out.2.1⟩
            | true =>
              have HM : Hid (∀ w : World, Props w w.heap.size (.slice A8 n8 c8) ps2 → Calls Tryd.prog 11 #[.agg #[.int .u8 2, .int .u64 q, .int .i64 a, .slice A8 n8 c8]] w fun e w' => e = .returned (.bool true) ∧ Below w.heap.size w w') := Lib.hid fun w h => rmay_any 2 q a A8 n8 c8 ps2 w h HPl.out hr
              have HE : Hid (r = (⟨2, q, a, ps2⟩, 0)) := Lib.hid (by rw [← HF.out]; unfold finM; rw [hx, hx0, if_pos rfl, hr]; rfl)
              clear hr hx hx0
              have s0 := (heap_cell HT.out.hS 0).trans rfl
              have s1 := (heap_cell HT.out.hS 1).trans rfl
              go_upto_region 26 with (go_at_call 45; (with_reducible refine (HEnd.out _).mono ?_); rintro e wu ⟨rfl, hb⟩; have HT := Lib.hid (HT.out.over hb); have HPr := Lib.hid (OwnsP.over HPr.out hb); clear hb s0 s1)
              obtain ⟨y0, y1, y2, y3, _, _, _, _⟩ := blk4 HT.out.hM
              go_upto_region 30 with (go_at_call 11; (with_reducible refine (HM.out _ (OwnsP.props HPr.out)).mono ?_); rintro e wu ⟨rfl, hb⟩; have HT := Lib.hid (HT.out.over hb); have HPr := Lib.hid (OwnsP.over HPr.out hb); clear hb y0 y1 y2 y3)
              obtain ⟨y0, y1, y2, y3, _, _, _, _⟩ := blk4 HT.out.hM
              obtain ⟨m0, m1, m2, m3, f0, f1, f2, f3⟩ := blk4 HT.out.hR
              go_wp2
              have HZ := Lib.hid (HT.out.setR (.int .u8 2) (.int .u64 q) (.int .i64 a) (.slice A8 n8 c8))
              unfold set4 at HZ
              generalize (((wu.setCell { block := g, off := 0 } (Value.int IntKind.u8 2)).setCell { block := g, off := 1 } (Value.int IntKind.u64 q)).setCell { block := g, off := 2 } (Value.int IntKind.i64 a)).setCell { block := g, off := 3 } (Value.slice A8 n8 c8) = wv at HZ ⊢
              clear m0 m1 m2 m3 f0 f1 f2 f3
              obtain ⟨m0, m1, m2, m3, _, _, _, _⟩ := blk4 HZ.out.1
              clear y0 y1 y2 y3
              refine bodyPost_ret (v := .tuple #[.agg #[.int .u8 2, .int .u64 q, .int .i64 a, .slice A8 n8 c8], .int .i64 0]) (by simp [results, Tryd.results18, go_sem, m0, m1, m2, m3]) rfl ?_
              rw [HE.out]
              exact ⟨_, _, _, rfl, OwnsP.props (ownsRow_below HPr.out fun j hj => HZ.out.2.2.1 j (by have := (ownsRow_old HPr.out j hj).1; omega)), HZ.out.2.1⟩
          · have HE : Hid (r = (noMsg, x)) := Lib.hid (by rw [← HF.out]; unfold finM; rw [hx, if_neg hx0])
            have hx1 : (x != 0) = true := by simp [hx0]
            clear hx hx0
            have s0 := (heap_cell HT.out.hS 0).trans rfl
            have s1 := (heap_cell HT.out.hS 1).trans rfl
            go_upto_region 27 with (go_at_call 45; (with_reducible refine (HEnd.out _).mono ?_); rintro e wu ⟨rfl, hb⟩; have HT := Lib.hid (HT.out.over hb); clear hb s0 s1)
            obtain ⟨m0, m1, m2, m3, f0, f1, f2, f3⟩ := blk4 HT.out.hR
            go_wp2
            have HZ := Lib.hid (HT.out.setR (.int .u8 0) (.int .u64 0) (.int .i64 0) (.slice none 0 0))
            unfold set4 at HZ
            generalize (((wu.setCell { block := g, off := 0 } (Value.int IntKind.u8 0)).setCell { block := g, off := 1 } (Value.int IntKind.u64 0)).setCell { block := g, off := 2 } (Value.int IntKind.i64 0)).setCell { block := g, off := 3 } (Value.slice none 0 0) = wv at HZ ⊢
            clear m0 m1 m2 m3 f0 f1 f2 f3
            obtain ⟨m0, m1, m2, m3, _, _, _, _⟩ := blk4 HZ.out.1
            refine bodyPost_ret (v := .tuple #[.agg #[.int .u8 0, .int .u64 0, .int .i64 0, .slice none 0 0], .int .i64 x]) (by simp [results, Tryd.results18, go_sem, m0, m1, m2, m3]) rfl ?_
            rw [HE.out]
            exact ⟨none, 0, 0, rfl, props_nil _ _, HZ.out.2.1⟩
    · skip
      have HF : Hid (finM ⟨2, q, a, ps⟩ l4 e4 = r) := Lib.hid (by rw [← HR.out, if_neg h8])
      have hn8 : n ≤ 8 := by omega
      clear HR h8
      have s0 := (heap_cell HT.out.hS 0).trans rfl
      have s1 := (heap_cell HT.out.hS 1).trans rfl
      have e3b : (e3 == 0) = false := by simp [he]
      clear he
      go_wp2
      clear s0 s1
      go_loopw [14] (fun i wr => ∃ (j : Nat), j ≤ n ∧ i = .int .u64 j ∧ Hid (∃ ps' lj ej v, rdProps j l3 e3 = (ps', lj, ej) ∧ TkAt w wr g (.int .u8 2) (.int .u64 (q : Int)) (.int .i64 a) v (.string (mkB lj)) (.int .i64 ej) ∧ OwnsP wr (g + 3) v ps')) (fun i _ => n - (intOf i).toNat)
      case atStart => exact ⟨0, Nat.zero_le _, rfl, Lib.hid ⟨[], l3, e3, .slice none 0 0, rfl, HT.out, OwnsP.nil_ _ _⟩⟩
      case round =>
        obtain ⟨j, hj, rfl, HP⟩ := hrel
        obtain ⟨ps2, lj, ej, v, p1, p2, p3⟩ := HP.out
        obtain ⟨A8, n8, c8, rfl⟩ := own_slice p3
        have HT := Lib.hid p2
        have HO := Lib.hid p3
        have HJ := Lib.hid p1
        clear HP p1 p2 p3
        by_cases hlt : j < n
        · skip
          rcases d1 : rdText lj ej 12 with ⟨t, m1, k1⟩
          rcases d2 : rdNum m1 k1 with ⟨u, m2, k2⟩
          have zj : lj.length ≤ 100000 := by have := rdProps_len j l3 e3; have h := HZ3.out; rw [HJ.out] at this; dsimp only at this; omega
          have zm : m1.length ≤ 100000 := by have := rdText_len lj ej 12; rw [d1] at this; dsimp only at this; omega
          have HTx := Lib.hid (fun w => rtext2_at lj ej w zj d1)
          have HNx := Lib.hid (fun w => rread_at m1 k1 w zm d2)
          have hu : u ≤ 18446744073709551615 := by have := rdNum_lt m1 k1; rw [d2] at this; exact this
          have HPn := Lib.hid (fun w => rplain_any (u : Int) w (by omega) (by omega))
          have HStep := Lib.hid (rdProps_step HJ.out d1 d2)
          have HJL : Hid (ps2.length ≤ 8) := Lib.hid (by have := rdProps_length j l3 e3; rw [HJ.out] at this; dsimp only at this; omega)
          have hlt2 : ((j : Nat) : Int) < (n : Int) := by omega
          have hwj : IntKind.u64.wrap ((j : Int) + 1) = (j : Int) + 1 := IntWalk.u64_in _ (by omega)
          clear zj zm d1 d2 hu hlt
          have s0 := (heap_cell HT.out.hS 0).trans rfl
          have s1 := (heap_cell HT.out.hS 1).trans rfl
          go_upto_region 22 with (go_at_call 43; (with_reducible refine (HTx.out _).mono ?_); rintro e w1 ⟨rfl, hb⟩; have HT := Lib.hid (HT.out.over hb); have HO := Lib.hid (OwnsP.over HO.out hb); clear hb s0 s1)
          obtain ⟨z, hz⟩ : ∃ z, z = w1.heap.size := ⟨_, rfl⟩
          have HB : Hid ((w1.alloc (.cells #[.string (mkB m1), .int .i64 k1] 80)).heap[z]? = some (.cells #[.string (mkB m1), .int .i64 k1] 80 (0, 0)) ∧ g + 3 ≤ z) := Lib.hid ⟨by rw [hz]; exact heap_alloc_new w1 _, by rw [hz]; exact HT.out.hz⟩
          have HT := Lib.hid (HT.out.over (bmore (bself w1) (.cells #[.string (mkB m1), .int .i64 k1] 80)))
          have HO := Lib.hid (OwnsP.over HO.out (bmore (bself w1) (.cells #[.string (mkB m1), .int .i64 k1] 80)))
          rw [← hz]
          clear hz
          generalize w1.alloc (Obj.cells #[Value.string (mkB m1), Value.int IntKind.i64 k1] 80) = w2 at HT HO HB ⊢
          have z0 := (heap_cell HB.out.1 0).trans rfl
          have z1 := (heap_cell HB.out.1 1).trans rfl
          go_upto_region 23 with (go_at_call 41; (with_reducible refine (HNx.out _).mono ?_); rintro e w1 ⟨rfl, hb⟩; have HT := Lib.hid (HT.out.over hb); have HO := Lib.hid (OwnsP.over HO.out hb); clear hb z0 z1 HB)
          obtain ⟨z, hz⟩ : ∃ z, z = w1.heap.size := ⟨_, rfl⟩
          have HB : Hid ((w1.alloc (.cells #[.string (mkB m2), .int .i64 k2] 80)).heap[z]? = some (.cells #[.string (mkB m2), .int .i64 k2] 80 (0, 0)) ∧ g + 3 ≤ z) := Lib.hid ⟨by rw [hz]; exact heap_alloc_new w1 _, by rw [hz]; exact HT.out.hz⟩
          have HT := Lib.hid (HT.out.over (bmore (bself w1) (.cells #[.string (mkB m2), .int .i64 k2] 80)))
          have HO := Lib.hid (OwnsP.over HO.out (bmore (bself w1) (.cells #[.string (mkB m2), .int .i64 k2] 80)))
          rw [← hz]
          clear hz
          generalize w1.alloc (Obj.cells #[Value.string (mkB m2), Value.int IntKind.i64 k2] 80) = w3 at HT HO HB ⊢
          have z0 := (heap_cell HB.out.1 0).trans rfl
          have z1 := (heap_cell HB.out.1 1).trans rfl
          have c0 := (heap_cell HT.out.hS 0).trans rfl
          have c1 := (heap_cell HT.out.hS 1).trans rfl
          have f0 := heap_frozen HT.out.hS 0
          have f1 := heap_frozen HT.out.hS 1
          go_upto_region 24 with (fail)
          have HO := Lib.hid (show OwnsP ((w3.setCell ⟨g + 1 + 1, 0, none⟩ (.string (mkB m2))).setCell ⟨g + 1 + 1, 1, none⟩ (.int .i64 k2)) (g + 3) (.slice A8 n8 c8) ps2 from ownsRow_setCell_below (ownsRow_setCell_below HO.out (by first | omega | (dsimp only; omega)) _) (by first | omega | (dsimp only; omega)) _)
          have HT := Lib.hid (HT.out.setS (.string (mkB m2)) (.int .i64 k2))
          generalize (w3.setCell { block := g + 1 + 1, off := 0 } (Value.string (mkB m2))).setCell { block := g + 1 + 1, off := 1 } (Value.int IntKind.i64 k2) = wq at HT HO ⊢
          clear f0 f1 z0 z1 c0 c1 HB
          have HTd := Lib.hid (HT.out.over (bself wq).drew)
          have HOd := Lib.hid (OwnsP.over HO.out (bself wq).drew)
          obtain ⟨_, _, _, m3, _, _, _, _⟩ := blk4 HT.out.hM
          have m3a : ∀ o, (wq.alloc o).cell? ⟨g + 1, 3, none⟩ = some (.slice A8 n8 c8) := fun o => ((bmore (bself wq) o).cell (p := ⟨g + 1, 3, none⟩) (by have := HT.out.hz; dsimp only; omega)).trans m3
          refine wp_region_held_drew (S := fun _ => True) (by kernel_rfl) ?_ (fun hHeld => ?_)
          · (try dsimp only)
            try trivial
          refine wpAnyH_take (i := 0) (v := ?_) rfl (by kernel_rfl) (by kernel_rfl) (by kernel_rfl) (fun _ _ _ h => h) (Or.inl ⟨by rfl, ?_⟩) (by assumption) ?_
          rotate_left
          · intro w hSw
            (try dsimp only at hSw)
            go_simp
            try with_reducible rfl
          (try simp only [Act.put, List.getElem_toArray, List.getElem_cons_zero, List.setIfInBounds_toArray, List.set_cons_zero, List.set_cons_succ])
          refine wpAnyH_take (i := 2) (v := ?_) rfl (by kernel_rfl) (by kernel_rfl) (by kernel_rfl) (fun _ _ _ h => h) (Or.inl ⟨by rfl, ?_⟩) (by assumption) ?_
          rotate_left
          · intro w hSw
            (try dsimp only at hSw)
            go_simp
            try with_reducible rfl
          (try simp only [Act.put, List.getElem_toArray, List.getElem_cons_succ, List.getElem_cons_zero, List.setIfInBounds_toArray, List.set_cons_zero, List.set_cons_succ])
          refine wpAnyH_take (i := 3) (v := ?_) rfl (by kernel_rfl) (by kernel_rfl) (by kernel_rfl) (fun _ _ _ h => h) (Or.inl ⟨by rfl, ?_⟩) (by assumption) ?_
          rotate_left
          · intro w hSw
            (try dsimp only at hSw)
            go_simp
            try with_reducible rfl
          (try simp only [Act.put, List.getElem_toArray, List.getElem_cons_succ, List.getElem_cons_zero, List.setIfInBounds_toArray, List.set_cons_zero, List.set_cons_succ])
          refine wpAnyH_ready (rs := [1, 4]) (by kernel_rfl) (by simp) ?_
          refine AllReadyH.cons rfl (fun K hK => ?_) (AllReadyH.cons rfl (fun K hK => ?_) AllReadyH.nil)
          · go_simp
            refine hK.out _ _ ?_ (fun hHeld => ?_)
            · (try dsimp only)
              try trivial
            clear hK K
            (try simp only [Act.put, List.getElem_toArray, List.getElem_cons_succ, List.getElem_cons_zero, List.setIfInBounds_toArray, List.set_cons_zero, List.set_cons_succ])
            refine wpAnyH_ready (rs := [4]) (by kernel_rfl) (by simp) ?_
            refine AllReadyH.cons rfl (fun K hK => ?_) AllReadyH.nil
            go_simp
            (go_at_call 44; ((with_reducible refine (HPn.out _).mono ?_); rintro e w5 ⟨rfl, rfl⟩))
            go_wp2_with fail
            refine hK.out _ _ ?_ (fun hHeld => ?_)
            · (try dsimp only)
              try trivial
            clear hK K
            (try simp only [Act.put, List.getElem_toArray, List.getElem_cons_succ, List.getElem_cons_zero, List.setIfInBounds_toArray, List.set_cons_zero, List.set_cons_succ])
            refine wpAnyH_take (i := 5) (v := ?_) rfl (by kernel_rfl) (by kernel_rfl) (by kernel_rfl) (fun _ _ _ h => h) (Or.inl ⟨by rfl, ?_⟩) (by assumption) ?_
            rotate_left
            · intro w hSw
              (try dsimp only at hSw)
              go_simp
              try with_reducible rfl
            (try simp only [Act.put, List.getElem_toArray, List.getElem_cons_succ, List.getElem_cons_zero, List.setIfInBounds_toArray, List.set_cons_zero, List.set_cons_succ])
            refine wpAnyH_ready (rs := [6]) (by kernel_rfl) (by simp) ?_
            refine AllReadyH.cons rfl (fun K hK => ?_) AllReadyH.nil
            go_simp
            refine hK.out _ _ ?_ (fun hHeld => ?_)
            · (try dsimp only)
              try trivial
            clear hK K
            (try simp only [Act.put, List.getElem_toArray, List.getElem_cons_succ, List.getElem_cons_zero, List.setIfInBounds_toArray, List.set_cons_zero, List.set_cons_succ])
            refine wpAnyH_ready (rs := [7]) (by kernel_rfl) (by simp) ?_
            refine AllReadyH.cons rfl (fun K hK => ?_) AllReadyH.nil
            rw [if_pos (by rfl)]
            refine wp_app_seq_op (.tmp 92) (.tmp 97) 23 58 _ 2 24 Tryd.underlying23 info_P rfl (by omega) rfl (g + 3) (.slice A8 n8 c8) _ ps2.length 1 (prC ps2) [.string (mkB t), .int .i64 (pln (u : Int))] rfl rfl (ownsRow_over HOd.out (bmore (bself _) _)) (Seq.lit_ wq.drew [.string (mkB t), .int .i64 (pln (u : Int))] _) (by simp [Value.oneCell']) (by have := HJL.out; omega) (Nat.le_trans HTd.out.hz (bmore (bself _) _).size) ?_
            intro v9 w9 hg9
            have HT9 := Lib.hid (HTd.out.over3 (((Below.refl _ _).alloc HTd.out.hz _).trans hg9.2.2.2))
            have HO9 : Hid (OwnsP w9 (g + 3) v9 (ps2 ++ [⟨t, pln u⟩])) := Lib.hid (OwnsP.join hg9.1 rfl rfl)
            clear hg9
            obtain ⟨A9, n9, c9, rfl⟩ := own_slice HO9.out
            clear m3 m3a
            obtain ⟨_, _, _, _, _, _, _, _⟩ := blk4 HT9.out.hM
            refine hK.out _ _ ?_ (fun hHeld => ?_)
            · (try dsimp only)
              try trivial
            clear hK K
            (try simp only [Act.put, List.getElem_toArray, List.getElem_cons_succ, List.getElem_cons_zero, List.setIfInBounds_toArray, List.set_cons_zero, List.set_cons_succ])
            refine wpAnyH_take (i := 8) (v := ?_) rfl (by kernel_rfl) (by kernel_rfl) (by kernel_rfl) (fun _ _ _ h => h) (Or.inl ⟨by rfl, ?_⟩) (by assumption) ?_
            rotate_left
            · intro w hSw
              (try dsimp only at hSw)
              go_simp
              try with_reducible rfl
            (try simp only [Act.put, List.getElem_toArray, List.getElem_cons_succ, List.getElem_cons_zero, List.setIfInBounds_toArray, List.set_cons_zero, List.set_cons_succ])
            refine wpAnyH_ready (rs := [9]) (by kernel_rfl) (by simp) ?_
            refine AllReadyH.cons rfl (fun K hK => ?_) AllReadyH.nil
            go_simp
            refine hK.out _ _ ?_ (fun hHeld => ?_)
            · (try dsimp only)
              try trivial
            clear hK K
            (try simp only [Act.put, List.getElem_toArray, List.getElem_cons_succ, List.getElem_cons_zero, List.setIfInBounds_toArray, List.set_cons_zero, List.set_cons_succ])
            refine wpAnyH_done (by kernel_rfl) ?_ _
            have HP2 : Hid (∃ ps' lj ej v, rdProps (j + 1) l3 e3 = (ps', lj, ej) ∧ TkAt w (w9.setCell ⟨g + 1, 3, none⟩ (.slice A9 n9 c9)) g (.int .u8 2) (.int .u64 (q : Int)) (.int .i64 a) v (.string (mkB lj)) (.int .i64 ej) ∧ OwnsP (w9.setCell ⟨g + 1, 3, none⟩ (.slice A9 n9 c9)) (g + 3) v ps') :=
              Lib.hid ⟨_, _, _, _, HStep.out, HT9.out.setM 3 _ rfl, ownsRow_setCell_below HO9.out (by first | omega | (dsimp only; omega)) _⟩
            generalize w9.setCell { block := g + 1, off := 3 } (Value.slice A9 n9 c9) = wy at HP2 ⊢
            go_wp2
            go_roundw
            case rel => exact ⟨j + 1, by omega, by first | rfl | go_num, HP2⟩
            case measure => simp [intOf]; omega
          · go_simp
            (go_at_call 44; ((with_reducible refine (HPn.out _).mono ?_); rintro e w5 ⟨rfl, rfl⟩))
            go_wp2_with fail
            refine hK.out _ _ ?_ (fun hHeld => ?_)
            · (try dsimp only)
              try trivial
            clear hK K
            (try simp only [Act.put, List.getElem_toArray, List.getElem_cons_succ, List.getElem_cons_zero, List.setIfInBounds_toArray, List.set_cons_zero, List.set_cons_succ])
            refine wpAnyH_take (i := 5) (v := ?_) rfl (by kernel_rfl) (by kernel_rfl) (by kernel_rfl) (fun _ _ _ h => h) (Or.inl ⟨by rfl, ?_⟩) (by assumption) ?_
            rotate_left
            · intro w hSw
              (try dsimp only at hSw)
              go_simp
              try with_reducible rfl
            (try simp only [Act.put, List.getElem_toArray, List.getElem_cons_succ, List.getElem_cons_zero, List.setIfInBounds_toArray, List.set_cons_zero, List.set_cons_succ])
            refine wpAnyH_ready (rs := [1, 6]) (by kernel_rfl) (by simp) ?_
            refine AllReadyH.cons rfl (fun K hK => ?_) (AllReadyH.cons rfl (fun K hK => ?_) AllReadyH.nil)
            · go_simp
              refine hK.out _ _ ?_ (fun hHeld => ?_)
              · (try dsimp only)
                try trivial
              clear hK K
              (try simp only [Act.put, List.getElem_toArray, List.getElem_cons_succ, List.getElem_cons_zero, List.setIfInBounds_toArray, List.set_cons_zero, List.set_cons_succ])
              refine wpAnyH_ready (rs := [6]) (by kernel_rfl) (by simp) ?_
              refine AllReadyH.cons rfl (fun K hK => ?_) AllReadyH.nil
              go_simp
              refine hK.out _ _ ?_ (fun hHeld => ?_)
              · (try dsimp only)
                try trivial
              clear hK K
              (try simp only [Act.put, List.getElem_toArray, List.getElem_cons_succ, List.getElem_cons_zero, List.setIfInBounds_toArray, List.set_cons_zero, List.set_cons_succ])
              refine wpAnyH_ready (rs := [7]) (by kernel_rfl) (by simp) ?_
              refine AllReadyH.cons rfl (fun K hK => ?_) AllReadyH.nil
              rw [if_pos (by rfl)]
              refine wp_app_seq_op (.tmp 92) (.tmp 97) 23 58 _ 2 24 Tryd.underlying23 info_P rfl (by omega) rfl (g + 3) (.slice A8 n8 c8) _ ps2.length 1 (prC ps2) [.string (mkB t), .int .i64 (pln (u : Int))] rfl rfl (ownsRow_over HOd.out (bmore (bself _) _)) (Seq.lit_ wq.drew [.string (mkB t), .int .i64 (pln (u : Int))] _) (by simp [Value.oneCell']) (by have := HJL.out; omega) (Nat.le_trans HTd.out.hz (bmore (bself _) _).size) ?_
              intro v9 w9 hg9
              have HT9 := Lib.hid (HTd.out.over3 (((Below.refl _ _).alloc HTd.out.hz _).trans hg9.2.2.2))
              have HO9 : Hid (OwnsP w9 (g + 3) v9 (ps2 ++ [⟨t, pln u⟩])) := Lib.hid (OwnsP.join hg9.1 rfl rfl)
              clear hg9
              obtain ⟨A9, n9, c9, rfl⟩ := own_slice HO9.out
              clear m3 m3a
              obtain ⟨_, _, _, _, _, _, _, _⟩ := blk4 HT9.out.hM
              refine hK.out _ _ ?_ (fun hHeld => ?_)
              · (try dsimp only)
                try trivial
              clear hK K
              (try simp only [Act.put, List.getElem_toArray, List.getElem_cons_succ, List.getElem_cons_zero, List.setIfInBounds_toArray, List.set_cons_zero, List.set_cons_succ])
              refine wpAnyH_take (i := 8) (v := ?_) rfl (by kernel_rfl) (by kernel_rfl) (by kernel_rfl) (fun _ _ _ h => h) (Or.inl ⟨by rfl, ?_⟩) (by assumption) ?_
              rotate_left
              · intro w hSw
                (try dsimp only at hSw)
                go_simp
                try with_reducible rfl
              (try simp only [Act.put, List.getElem_toArray, List.getElem_cons_succ, List.getElem_cons_zero, List.setIfInBounds_toArray, List.set_cons_zero, List.set_cons_succ])
              refine wpAnyH_ready (rs := [9]) (by kernel_rfl) (by simp) ?_
              refine AllReadyH.cons rfl (fun K hK => ?_) AllReadyH.nil
              go_simp
              refine hK.out _ _ ?_ (fun hHeld => ?_)
              · (try dsimp only)
                try trivial
              clear hK K
              (try simp only [Act.put, List.getElem_toArray, List.getElem_cons_succ, List.getElem_cons_zero, List.setIfInBounds_toArray, List.set_cons_zero, List.set_cons_succ])
              refine wpAnyH_done (by kernel_rfl) ?_ _
              have HP2 : Hid (∃ ps' lj ej v, rdProps (j + 1) l3 e3 = (ps', lj, ej) ∧ TkAt w (w9.setCell ⟨g + 1, 3, none⟩ (.slice A9 n9 c9)) g (.int .u8 2) (.int .u64 (q : Int)) (.int .i64 a) v (.string (mkB lj)) (.int .i64 ej) ∧ OwnsP (w9.setCell ⟨g + 1, 3, none⟩ (.slice A9 n9 c9)) (g + 3) v ps') :=
                Lib.hid ⟨_, _, _, _, HStep.out, HT9.out.setM 3 _ rfl, ownsRow_setCell_below HO9.out (by first | omega | (dsimp only; omega)) _⟩
              generalize w9.setCell { block := g + 1, off := 3 } (Value.slice A9 n9 c9) = wy at HP2 ⊢
              go_wp2
              go_roundw
              case rel => exact ⟨j + 1, by omega, by first | rfl | go_num, HP2⟩
              case measure => simp [intOf]; omega
            · go_simp
              refine hK.out _ _ ?_ (fun hHeld => ?_)
              · (try dsimp only)
                try trivial
              clear hK K
              (try simp only [Act.put, List.getElem_toArray, List.getElem_cons_succ, List.getElem_cons_zero, List.setIfInBounds_toArray, List.set_cons_zero, List.set_cons_succ])
              refine wpAnyH_ready (rs := [1]) (by kernel_rfl) (by simp) ?_
              refine AllReadyH.cons rfl (fun K hK => ?_) AllReadyH.nil
              go_simp
              refine hK.out _ _ ?_ (fun hHeld => ?_)
              · (try dsimp only)
                try trivial
              clear hK K
              (try simp only [Act.put, List.getElem_toArray, List.getElem_cons_succ, List.getElem_cons_zero, List.setIfInBounds_toArray, List.set_cons_zero, List.set_cons_succ])
              refine wpAnyH_ready (rs := [7]) (by kernel_rfl) (by simp) ?_
              refine AllReadyH.cons rfl (fun K hK => ?_) AllReadyH.nil
              rw [if_pos (by rfl)]
              refine wp_app_seq_op (.tmp 92) (.tmp 97) 23 58 _ 2 24 Tryd.underlying23 info_P rfl (by omega) rfl (g + 3) (.slice A8 n8 c8) _ ps2.length 1 (prC ps2) [.string (mkB t), .int .i64 (pln (u : Int))] rfl rfl (ownsRow_over HOd.out (bmore (bself _) _)) (Seq.lit_ wq.drew [.string (mkB t), .int .i64 (pln (u : Int))] _) (by simp [Value.oneCell']) (by have := HJL.out; omega) (Nat.le_trans HTd.out.hz (bmore (bself _) _).size) ?_
              intro v9 w9 hg9
              have HT9 := Lib.hid (HTd.out.over3 (((Below.refl _ _).alloc HTd.out.hz _).trans hg9.2.2.2))
              have HO9 : Hid (OwnsP w9 (g + 3) v9 (ps2 ++ [⟨t, pln u⟩])) := Lib.hid (OwnsP.join hg9.1 rfl rfl)
              clear hg9
              obtain ⟨A9, n9, c9, rfl⟩ := own_slice HO9.out
              clear m3 m3a
              obtain ⟨_, _, _, _, _, _, _, _⟩ := blk4 HT9.out.hM
              refine hK.out _ _ ?_ (fun hHeld => ?_)
              · (try dsimp only)
                try trivial
              clear hK K
              (try simp only [Act.put, List.getElem_toArray, List.getElem_cons_succ, List.getElem_cons_zero, List.setIfInBounds_toArray, List.set_cons_zero, List.set_cons_succ])
              refine wpAnyH_take (i := 8) (v := ?_) rfl (by kernel_rfl) (by kernel_rfl) (by kernel_rfl) (fun _ _ _ h => h) (Or.inl ⟨by rfl, ?_⟩) (by assumption) ?_
              rotate_left
              · intro w hSw
                (try dsimp only at hSw)
                go_simp
                try with_reducible rfl
              (try simp only [Act.put, List.getElem_toArray, List.getElem_cons_succ, List.getElem_cons_zero, List.setIfInBounds_toArray, List.set_cons_zero, List.set_cons_succ])
              refine wpAnyH_ready (rs := [9]) (by kernel_rfl) (by simp) ?_
              refine AllReadyH.cons rfl (fun K hK => ?_) AllReadyH.nil
              go_simp
              refine hK.out _ _ ?_ (fun hHeld => ?_)
              · (try dsimp only)
                try trivial
              clear hK K
              (try simp only [Act.put, List.getElem_toArray, List.getElem_cons_succ, List.getElem_cons_zero, List.setIfInBounds_toArray, List.set_cons_zero, List.set_cons_succ])
              refine wpAnyH_done (by kernel_rfl) ?_ _
              have HP2 : Hid (∃ ps' lj ej v, rdProps (j + 1) l3 e3 = (ps', lj, ej) ∧ TkAt w (w9.setCell ⟨g + 1, 3, none⟩ (.slice A9 n9 c9)) g (.int .u8 2) (.int .u64 (q : Int)) (.int .i64 a) v (.string (mkB lj)) (.int .i64 ej) ∧ OwnsP (w9.setCell ⟨g + 1, 3, none⟩ (.slice A9 n9 c9)) (g + 3) v ps') :=
                Lib.hid ⟨_, _, _, _, HStep.out, HT9.out.setM 3 _ rfl, ownsRow_setCell_below HO9.out (by first | omega | (dsimp only; omega)) _⟩
              generalize w9.setCell { block := g + 1, off := 3 } (Value.slice A9 n9 c9) = wy at HP2 ⊢
              go_wp2
              go_roundw
              case rel => exact ⟨j + 1, by omega, by first | rfl | go_num, HP2⟩
              case measure => simp [intOf]; omega
        · skip
          have hlt2 : ¬ ((j : Nat) : Int) < (n : Int) := by omega
          have hjn : j = n := by omega
          subst hjn
          have hps := HJ.out.symm.trans H4.out
          simp only [Prod.mk.injEq] at hps
          obtain ⟨rfl, rfl, rfl⟩ := hps
          have HPl : Hid (ps2.length ≤ 100000) := Lib.hid (by have := rdProps_length j l3 e3; rw [HJ.out] at this; dsimp only at this; omega)
          have HPr := HO
          clear HO HJ H4 hlt
          go_upto_region 25 with (fail)
          obtain ⟨x, hx⟩ : ∃ x, rdEnd lj ej = x := ⟨_, rfl⟩
          have HEnd := Lib.hid (fun w => rend_at lj ej x w hx)
          by_cases hx0 : x = 0
          · have hx1 : (x != 0) = false := by rw [hx0]; rfl
            cases hr : mayL ⟨2, q, a, ps2⟩ with
            | false =>
              have HM : Hid (∀ w : World, Props w w.heap.size (.slice A8 n8 c8) ps2 → Calls Tryd.prog 11 #[.agg #[.int .u8 2, .int .u64 q, .int .i64 a, .slice A8 n8 c8]] w fun e w' => e = .returned (.bool false) ∧ Below w.heap.size w w') := Lib.hid fun w h => rmay_any 2 q a A8 n8 c8 ps2 w h HPl.out hr
              have HE : Hid (r = (noMsg, 11)) := Lib.hid (by rw [← HF.out]; unfold finM; rw [hx, hx0, if_pos rfl, hr]; rfl)
              clear hr hx hx0
              have s0 := (heap_cell HT.out.hS 0).trans rfl
              have s1 := (heap_cell HT.out.hS 1).trans rfl
              go_upto_region 26 with (go_at_call 45; (with_reducible refine (HEnd.out _).mono ?_); rintro e wu ⟨rfl, hb⟩; have HT := Lib.hid (HT.out.over hb); have HPr := Lib.hid (OwnsP.over HPr.out hb); clear hb s0 s1)
              obtain ⟨y0, y1, y2, y3, _, _, _, _⟩ := blk4 HT.out.hM
              go_upto_region 29 with (go_at_call 11; (with_reducible refine (HM.out _ (OwnsP.props HPr.out)).mono ?_); rintro e wu ⟨rfl, hb⟩; have HT := Lib.hid (HT.out.over hb); clear hb y0 y1 y2 y3)
              obtain ⟨m0, m1, m2, m3, f0, f1, f2, f3⟩ := blk4 HT.out.hR
              go_wp2
              have HZ := Lib.hid (HT.out.setR (.int .u8 0) (.int .u64 0) (.int .i64 0) (.slice none 0 0))
              unfold set4 at HZ
              generalize (((wu.setCell { block := g, off := 0 } (Value.int IntKind.u8 0)).setCell { block := g, off := 1 } (Value.int IntKind.u64 0)).setCell { block := g, off := 2 } (Value.int IntKind.i64 0)).setCell { block := g, off := 3 } (Value.slice none 0 0) = wv at HZ ⊢
              clear m0 m1 m2 m3 f0 f1 f2 f3
              obtain ⟨m0, m1, m2, m3, _, _, _, _⟩ := blk4 HZ.out.1
              refine bodyPost_ret (v := .tuple #[.agg #[.int .u8 0, .int .u64 0, .int .i64 0, .slice none 0 0], .int .i64 11]) (by simp [results, Tryd.results18, go_sem, m0, m1, m2, m3]) rfl ?_
              rw [HE.out]
              exact ⟨none, 0, 0, rfl, props_nil _ _, HZ.out.2.1⟩
            | true =>
              have HM : Hid (∀ w : World, Props w w.heap.size (.slice A8 n8 c8) ps2 → Calls Tryd.prog 11 #[.agg #[.int .u8 2, .int .u64 q, .int .i64 a, .slice A8 n8 c8]] w fun e w' => e = .returned (.bool true) ∧ Below w.heap.size w w') := Lib.hid fun w h => rmay_any 2 q a A8 n8 c8 ps2 w h HPl.out hr
              have HE : Hid (r = (⟨2, q, a, ps2⟩, 0)) := Lib.hid (by rw [← HF.out]; unfold finM; rw [hx, hx0, if_pos rfl, hr]; rfl)
              clear hr hx hx0
              have s0 := (heap_cell HT.out.hS 0).trans rfl
              have s1 := (heap_cell HT.out.hS 1).trans rfl
              go_upto_region 26 with (go_at_call 45; (with_reducible refine (HEnd.out _).mono ?_); rintro e wu ⟨rfl, hb⟩; have HT := Lib.hid (HT.out.over hb); have HPr := Lib.hid (OwnsP.over HPr.out hb); clear hb s0 s1)
              obtain ⟨y0, y1, y2, y3, _, _, _, _⟩ := blk4 HT.out.hM
              go_upto_region 30 with (go_at_call 11; (with_reducible refine (HM.out _ (OwnsP.props HPr.out)).mono ?_); rintro e wu ⟨rfl, hb⟩; have HT := Lib.hid (HT.out.over hb); have HPr := Lib.hid (OwnsP.over HPr.out hb); clear hb y0 y1 y2 y3)
              obtain ⟨y0, y1, y2, y3, _, _, _, _⟩ := blk4 HT.out.hM
              obtain ⟨m0, m1, m2, m3, f0, f1, f2, f3⟩ := blk4 HT.out.hR
              go_wp2
              have HZ := Lib.hid (HT.out.setR (.int .u8 2) (.int .u64 q) (.int .i64 a) (.slice A8 n8 c8))
              unfold set4 at HZ
              generalize (((wu.setCell { block := g, off := 0 } (Value.int IntKind.u8 2)).setCell { block := g, off := 1 } (Value.int IntKind.u64 q)).setCell { block := g, off := 2 } (Value.int IntKind.i64 a)).setCell { block := g, off := 3 } (Value.slice A8 n8 c8) = wv at HZ ⊢
              clear m0 m1 m2 m3 f0 f1 f2 f3
              obtain ⟨m0, m1, m2, m3, _, _, _, _⟩ := blk4 HZ.out.1
              clear y0 y1 y2 y3
              refine bodyPost_ret (v := .tuple #[.agg #[.int .u8 2, .int .u64 q, .int .i64 a, .slice A8 n8 c8], .int .i64 0]) (by simp [results, Tryd.results18, go_sem, m0, m1, m2, m3]) rfl ?_
              rw [HE.out]
              exact ⟨_, _, _, rfl, OwnsP.props (ownsRow_below HPr.out fun j hj => HZ.out.2.2.1 j (by have := (ownsRow_old HPr.out j hj).1; omega)), HZ.out.2.1⟩
          · have HE : Hid (r = (noMsg, x)) := Lib.hid (by rw [← HF.out]; unfold finM; rw [hx, if_neg hx0])
            have hx1 : (x != 0) = true := by simp [hx0]
            clear hx hx0
            have s0 := (heap_cell HT.out.hS 0).trans rfl
            have s1 := (heap_cell HT.out.hS 1).trans rfl
            go_upto_region 27 with (go_at_call 45; (with_reducible refine (HEnd.out _).mono ?_); rintro e wu ⟨rfl, hb⟩; have HT := Lib.hid (HT.out.over hb); clear hb s0 s1)
            obtain ⟨m0, m1, m2, m3, f0, f1, f2, f3⟩ := blk4 HT.out.hR
            go_wp2
            have HZ := Lib.hid (HT.out.setR (.int .u8 0) (.int .u64 0) (.int .i64 0) (.slice none 0 0))
            unfold set4 at HZ
            generalize (((wu.setCell { block := g, off := 0 } (Value.int IntKind.u8 0)).setCell { block := g, off := 1 } (Value.int IntKind.u64 0)).setCell { block := g, off := 2 } (Value.int IntKind.i64 0)).setCell { block := g, off := 3 } (Value.slice none 0 0) = wv at HZ ⊢
            clear m0 m1 m2 m3 f0 f1 f2 f3
            obtain ⟨m0, m1, m2, m3, _, _, _, _⟩ := blk4 HZ.out.1
            refine bodyPost_ret (v := .tuple #[.agg #[.int .u8 0, .int .u64 0, .int .i64 0, .slice none 0 0], .int .i64 x]) (by simp [results, Tryd.results18, go_sem, m0, m1, m2, m3]) rfl ?_
            rw [HE.out]
            exact ⟨none, 0, 0, rfl, props_nil _ _, HZ.out.2.1⟩

set_option maxRecDepth 100000 in
theorem rtakem_low (b : List UInt8) (w : World) : Calls Tryd.prog 18 #[.int .u8 0, .string (mkB b)] w (TookM (noMsg, 1) w) := by
  have h1 := heap_alloc_new w (.cells #[.int .u8 0, .int .u64 0, .int .i64 0, .slice none 0 0] 28)
  obtain ⟨m0, m1, m2, m3, f0, f1, f2, f3⟩ := blk4 h1
  go_enter Tryd.func18, Tryd.ntmps18
  go_wp2
  refine bodyPost_ret (v := .tuple #[.agg #[.int .u8 0, .int .u64 0, .int .i64 0, .slice none 0 0], .int .i64 1]) (by simp [results, Tryd.results18, go_sem, m0, m1, m2, m3]) rfl ?_
  exact ⟨none, 0, 0, rfl, props_nil _ _, by first | exact bmore (bself w) _ | exact (((((bmore (bself w) _).setCell (by simp) _).setCell (by simp) _).setCell (by simp) _).setCell (by simp) _)⟩

set_option maxRecDepth 100000 in
theorem rtakem_high (k : Nat) (b : List UInt8) (w : World) (k1 : decide ((k : Int) < 1) = false) (k4 : decide (4 < (k : Int)) = true) : Calls Tryd.prog 18 #[.int .u8 (k : Int), .string (mkB b)] w (TookM (noMsg, 1) w) := by
  have h1 := heap_alloc_new w (.cells #[.int .u8 0, .int .u64 0, .int .i64 0, .slice none 0 0] 28)
  obtain ⟨m0, m1, m2, m3, f0, f1, f2, f3⟩ := blk4 h1
  go_enter Tryd.func18, Tryd.ntmps18
  go_wp2
  refine bodyPost_ret (v := .tuple #[.agg #[.int .u8 0, .int .u64 0, .int .i64 0, .slice none 0 0], .int .i64 1]) (by simp [results, Tryd.results18, go_sem, m0, m1, m2, m3]) rfl ?_
  exact ⟨none, 0, 0, rfl, props_nil _ _, by first | exact bmore (bself w) _ | exact (((((bmore (bself w) _).setCell (by simp) _).setCell (by simp) _).setCell (by simp) _).setCell (by simp) _)⟩

theorem rtakem_any (k : Nat) (b : List UInt8) (w : World) (hl : b.length ≤ 100000) : Calls Tryd.prog 18 #[.int .u8 (k : Int), .string (mkB b)] w (TookM (takeM k b) w) := by
  by_cases hk : k < 1 ∨ 4 < k
  · rw [take_none hk]
    rcases hk with h | h
    · obtain rfl : k = 0 := by omega
      exact rtakem_low b w
    · exact rtakem_high k b w (decide_eq_false (by omega)) (decide_eq_true (by omega))
  · obtain rfl | rfl | rfl | rfl : k = 1 ∨ k = 2 ∨ k = 3 ∨ k = 4 := by omega
    · exact rtakem_hello b w hl
    · exact rtakem_event b w hl
    · exact rtakem_beat b w hl
    · exact rtakem_bye b w hl
end Go.Proofs.YtiflpjdiokloaaaDoor
