/-
  Layer 4: the program's decoder in memory; Clone; tellSkipped.
-/
import Derived.Test.YtpgainalimmecaaDoorFrItems
import Derived.Test.YtpgainalimmecaaDoorSeqOff
import Derived.Lib.LazyBuf
namespace Go.Proofs.YtpgainalimmecaaDoor
open Go.RowKit
set_option linter.unusedVariables false

theorem own_empty (w : World) (base : Nat) (hb : base ≤ w.heap.size) : Owns (w.alloc (.cells #[] 5)) base (.slice (some ⟨w.heap.size, 0, none⟩) 0 0) [] :=
  ⟨rfl, .inr ⟨w.heap.size, 0, #[], rfl, hb, heap_alloc_new w _, Nat.le_refl _, Nat.zero_le _, rfl, rfl⟩⟩
/-- What Clone answers: new bytes. -/
def Cloned2 (l : List UInt8) (w : World) (x : Ending) (w' : World) : Prop := ∃ A c, x = .returned (.slice A l.length c) ∧ Owns w' w.heap.size (.slice A l.length c) l ∧ Below w.heap.size w w'
theorem Owns.form {w : World} {base : Nat} {v : Value} {l : List UInt8} (h : Owns w base v l) : ∃ A c, v = .slice A l.length c := by
  rcases h.2 with ⟨rfl, h0⟩ | ⟨g, cap, cur, rfl, _⟩
  · exact ⟨none, 0, by rw [h0]⟩
  · exact ⟨_, _, rfl⟩
set_option maxRecDepth 100000 in
theorem clone_some (ad : Addr) (c : Nat) (l : List UInt8) (w : World) (hr : Row w w.heap.size (some ad) (bc l)) (hf : Fits l.length) : Calls Tryd.prog 31 #[.slice (some ad) l.length c] w (Cloned2 l w) := by
  have HF := Lib.hid hf
  have HR := Lib.hid hr
  clear hf hr
  have hq := Go.run_eql_slice_nil (P := Tryd.prog) w 22 5 (some ad) l.length c Tryd.underlying22
  go_enter Tryd.func31, Tryd.ntmps31
  go_wp2_with (at_builtin; refine wp_app_any rfl (.tmp 5) (.tmp 6) rfl w.heap.size w.heap.size _ [] l (some ad) c rfl (own_empty w _ (Nat.le_refl _)) rfl (fun e => by cases e) (HR.out.below_ (bmore (bself w) _)) (HF.out.le (by simp)) (by simp) ?_; intro v1 w1 ho1 hb1; have HO := Lib.hid ho1; have HB := Lib.hid hb1; clear ho1 hb1)
  obtain ⟨A1, c1, rfl⟩ := HO.out.form
  go_ret
  exact ⟨A1, c1, rfl, HO.out, ((bself w).alloc (Nat.le_refl _) _).trans HB.out⟩

/-- The decoder in block g: its four fields. Items reach through a block of their own; each body has a block of its own, if any. -/
structure Box (w : World) (g : Nat) (hv : Value) (k : Nat) (iv : Value) (l : List It) (bs : List Value) (ov : Bool) : Prop where
  hg : w.heap[g]? = some (.cells #[hv, .int .i64 (k : Int), iv, .bool ov] 75 (0, 0))
  hi : OwnAt w 42 3 iv l.length (cellsF l bs)
  hl : bs.length = l.length
  hb : ∀ i (h : i < l.length) u, bs[i]? = some u → LiesIn w (fun k => u.ownBlock = some k) u l[i].body
  ht : ∀ u ∈ bs, ∀ k, u.ownBlock = some k → ∃ cur, w.heap[k]? = some (.cells cur 5 (0, 0))
  ha : bs.Pairwise Apart
/-- Two blocks of unlike elements are two. -/
theorem far_type {w : World} {i j : Nat} {a b : Array Value} {s t : TypeId} {fi fj : Nat × Nat} (h : w.heap[i]? = some (.cells a s fi)) (k : w.heap[j]? = some (.cells b t fj)) (hne : s ≠ t) : i ≠ j := by
  intro e
  subst e
  rw [h] at k
  injection k with k
  injection k with k1 k2
  exact hne k2
theorem ty_box_item : 75 ≠ 42 := by decide
theorem ty_box_u8 : 75 ≠ 5 := by decide
theorem ty_item_u8 : 42 ≠ 5 := by decide
section
variable {w w' : World} {g k : Nat} {hv iv : Value} {l : List It} {bs : List Value} {ov : Bool}
theorem Box.lt (h : Box w g hv k iv l bs ov) : g < w.heap.size := heap_lt h.hg
theorem Box.blk (h : Box w g hv k iv l bs ov) : Blk4 w g hv (.int .i64 (k : Int)) iv (.bool ov) := blk4 h.hg
theorem Box.iv_ne (h : Box w g hv k iv l bs ov) : ∀ j, iv.ownBlock = some j → j ≠ g := fun j hj => by
  obtain ⟨cur, hc⟩ := h.hi.block j hj
  exact fun e => far_type h.hg hc ty_box_item e.symm
theorem Box.iv_lt (h : Box w g hv k iv l bs ov) : ∀ j, iv.ownBlock = some j → j < w.heap.size := fun j hj => by
  obtain ⟨cur, hc⟩ := h.hi.block j hj
  exact heap_lt hc
/-- A block of bytes is neither the decoder's nor its items'. -/
theorem Box.u8_ne (h : Box w g hv k iv l bs ov) {j : Nat} {cur : Array Value} {fr : Nat × Nat} (hj : w.heap[j]? = some (Obj.cells cur 5 fr)) : j ≠ g ∧ iv.ownBlock ≠ some j := by
  refine ⟨fun e => far_type h.hg hj ty_box_u8 e.symm, fun e => ?_⟩
  obtain ⟨cur2, hc⟩ := h.hi.block j e
  exact far_type hc hj ty_item_u8 rfl
theorem Box.body_ne (h : Box w g hv k iv l bs ov) {u : Value} (hu : u ∈ bs) {j : Nat} (hj : u.ownBlock = some j) : j ≠ g ∧ iv.ownBlock ≠ some j := by
  obtain ⟨cur, hc⟩ := h.ht u hu j hj
  exact h.u8_ne hc
/-- Behind what leaves the decoder's blocks as they were. -/
theorem Box.keep (h : Box w g hv k iv l bs ov) (h1 : w'.heap[g]? = w.heap[g]?) (h2 : ∀ j, iv.ownBlock = some j → w'.heap[j]? = w.heap[j]?) (h3 : ∀ u ∈ bs, ∀ j, u.ownBlock = some j → w'.heap[j]? = w.heap[j]?) : Box w' g hv k iv l bs ov :=
  ⟨h1.trans h.hg, h.hi.keep h2, h.hl, fun i hi u hu => (h.hb i hi u hu).keep fun j hj => h3 u (List.mem_of_getElem? hu) j hj, fun u hu j hj => by obtain ⟨cur, hc⟩ := h.ht u hu j hj; exact ⟨cur, (h3 u hu j hj).trans hc⟩, h.ha⟩
theorem Box.body_lt (h : Box w g hv k iv l bs ov) {u : Value} (hu : u ∈ bs) {j : Nat} (hj : u.ownBlock = some j) : j < w.heap.size := by
  obtain ⟨cur, hc⟩ := h.ht u hu j hj
  exact heap_lt hc
theorem Box.over (h : Box w g hv k iv l bs ov) (hb : Below w.heap.size w w') : Box w' g hv k iv l bs ov :=
  h.keep (hb.block g h.lt) (fun j hj => hb.block j (h.iv_lt j hj)) fun u hu j hj => hb.block j (h.body_lt hu hj)
/-- A field is set. -/
theorem Box.set_ (h : Box w g hv k iv l bs ov) (i : Nat) (u hv' : Value) (k' : Nat) (iv' : Value) (ov' : Bool) (hx : (#[hv, .int .i64 (k : Int), iv, .bool ov] : Array Value).setIfInBounds i u = #[hv', .int .i64 (k' : Int), iv', .bool ov']) (hi : OwnAt w 42 3 iv' l.length (cellsF l bs)) : Box (w.setCell ⟨g, i, none⟩ u) g hv' k' iv' l bs ov' := by
  have far : ∀ j, j ≠ g → (w.setCell ⟨g, i, none⟩ u).heap[j]? = w.heap[j]? := fun j hj => heap_far _ _ _ hj
  refine ⟨by rw [heap_set h.hg i u, hx], hi.keep fun j hj => far j fun e => ?_, h.hl, fun m hm v hv => (h.hb m hm v hv).keep fun j hj => far j (h.body_ne (List.mem_of_getElem? hv) hj).1, fun v hv j hj => ?_, h.ha⟩
  · subst e
    obtain ⟨cur, hc⟩ := hi.block j hj
    exact far_type h.hg hc ty_box_item rfl
  · obtain ⟨cur, hc⟩ := h.ht v hv j hj
    exact ⟨cur, (far j (h.body_ne hv hj).1).trans hc⟩
/-- One more item: the new list, which is then stored. -/
theorem Box.push (h : Box w g hv k iv l bs ov) {wa w1 : World} (hw : Below w.heap.size w wa) {iv' b : Value} {x : It} {n : Nat} {xs : List Value} (hg : GrewAt wa 42 3 iv iv' n xs w1) (hn : n = l.length + 1) (hxs : xs = cellsF l bs ++ cellsF [x] [b])
    (hb : LiesIn w (fun k => b.ownBlock = some k) b x.body) (ht : ∀ j, b.ownBlock = some j → ∃ cur, w.heap[j]? = some (Obj.cells cur 5 (0, 0))) (ha : ∀ u ∈ bs, Apart u b) :
    Box (w1.setCell ⟨g, 2, none⟩ iv') g hv k iv' (l ++ [x]) (bs ++ [b]) ov ∧ Touch (fun j => j = g ∨ iv.ownBlock = some j) w (w1.setCell ⟨g, 2, none⟩ iv') ∧ (∀ j, iv'.ownBlock = some j → iv.ownBlock = some j ∨ w.heap.size ≤ j) := by
  subst hn; subst hxs
  obtain ⟨g1, g2, g3⟩ := hg
  have hba := h.over hw
  have hw1 : ∀ j, j < wa.heap.size → iv.ownBlock ≠ some j → w1.heap[j]? = wa.heap[j]? := fun j hj hne => g2.block j hj fun e => hne e.symm
  have hgb : w1.heap[g]? = some (.cells #[hv, .int .i64 (k : Int), iv, .bool ov] 75 (0, 0)) := (hw1 g hba.lt fun e => hba.iv_ne g e rfl).trans hba.hg
  have far : ∀ j, j ≠ g → (w1.setCell ⟨g, 2, none⟩ iv').heap[j]? = w1.heap[j]? := fun j hj => heap_far _ _ _ hj
  have hu8 : ∀ j, (∃ cur, w.heap[j]? = some (Obj.cells cur 5 (0, 0))) → (w1.setCell ⟨g, 2, none⟩ iv').heap[j]? = w.heap[j]?  := fun j hj8 => by
    obtain ⟨cur, hc⟩ := hj8
    have hne := h.u8_ne hc
    have hlt := heap_lt hc
    rw [far j hne.1, hw1 j (Nat.lt_of_lt_of_le hlt hw.size) hne.2, hw.block j hlt]
  have hmem : ∀ u, u ∈ bs ++ [b] → ∀ j, u.ownBlock = some j → ∃ cur, w.heap[j]? = some (Obj.cells cur 5 (0, 0)) := fun u hu j hj => by
    rcases List.mem_append.1 hu with hu | hu
    · exact h.ht u hu j hj
    · rw [List.mem_singleton] at hu; subst hu; exact ht j hj
  refine ⟨⟨heap_set hgb 2 iv', ?_, by rw [List.length_append, List.length_append, h.hl]; rfl, ?_, ?_, ?_⟩, ⟨?_, ?_, ?_, ?_, ?_⟩, ?_⟩
  · rw [cellsF_append _ _ _ _ h.hl, List.length_append]
    refine g1.keep fun j hj => far j fun e => ?_
    subst e
    obtain ⟨cur, hc⟩ := g1.block j hj
    exact far_type hgb hc ty_box_item rfl
  · intro i hi u hu
    have key : LiesIn w (fun k => u.ownBlock = some k) u (l ++ [x])[i].body := by
      rw [List.length_append, List.length_singleton] at hi
      rcases Nat.lt_or_ge i l.length with h1 | h1
      · rw [List.getElem?_append_left (by rw [h.hl]; exact h1)] at hu
        rw [List.getElem_append_left h1]
        exact h.hb i h1 u hu
      · obtain rfl : i = l.length := by omega
        rw [List.getElem?_append_right (by rw [h.hl]; exact Nat.le_refl _), h.hl] at hu
        simp at hu
        subst hu
        simp only [List.getElem_concat_length]
        exact hb
    exact key.keep fun j hj => hu8 j (hmem u (List.mem_of_getElem? hu) j hj)
  · intro u hu j hj
    obtain ⟨cur, hc⟩ := hmem u hu j hj
    exact ⟨cur, (hu8 j ⟨cur, hc⟩).trans hc⟩
  · rw [List.pairwise_append]
    exact ⟨h.ha, List.pairwise_singleton _ _, fun u hu v hv => by rw [List.mem_singleton] at hv; subst hv; exact ha u hu⟩
  · exact g2.os.trans hw.os
  · exact g2.tape.trans hw.tape
  · exact g2.output.trans hw.output
  · rw [setCell_size]; exact Nat.le_trans hw.size g2.size
  · intro j hj hF
    rw [far j fun e => hF (.inl e), hw1 j (Nat.lt_of_lt_of_le hj hw.size) fun e => hF (.inr e), hw.block j hj]
  · intro j hj
    rcases g3 with e | e
    · exact .inl (e ▸ hj)
    · rw [e] at hj
      injection hj with hj
      exact .inr (by rw [← hj]; exact hw.size)
end
/-- What a step of a decoder leaves. -/
structure Stepped (w : World) (g : Nat) (hv iv : Value) (bs : List Value) (k' : Nat) (l' : List It) (ov : Bool) (w' : World) (iv' : Value) (bs' : List Value) : Prop where
  box : Box w' g hv k' iv' l' bs' ov
  touch : Touch (fun j => j = g ∨ iv.ownBlock = some j) w w'
  at_ : ∀ j, iv'.ownBlock = some j → iv.ownBlock = some j ∨ w.heap.size ≤ j
  new_ : ∃ cs, bs' = bs ++ cs ∧ ∀ u ∈ cs, ∀ j, u.ownBlock = some j → w.heap.size ≤ j
theorem Stepped.trans {w w1 w2 : World} {g : Nat} {hv iv iv1 iv2 : Value} {bs bs1 bs2 : List Value} {k1 k2 : Nat} {l1 l2 : List It} {ov : Bool} (h : Stepped w g hv iv bs k1 l1 ov w1 iv1 bs1) (k : Stepped w1 g hv iv1 bs1 k2 l2 ov w2 iv2 bs2) : Stepped w g hv iv bs k2 l2 ov w2 iv2 bs2 := by
  obtain ⟨c1, e1, n1⟩ := h.new_
  obtain ⟨c2, e2, n2⟩ := k.new_
  have hs := h.touch.size
  refine ⟨k.box, h.touch.trans k.touch fun j hj => hj.elim (fun e => .inl (.inl e)) fun e => (h.at_ j e).elim (fun q => .inl (.inr q)) .inr, fun j hj => (k.at_ j hj).elim (fun e => h.at_ j e) fun q => .inr (Nat.le_trans hs q), c1 ++ c2, by rw [e2, e1, List.append_assoc], fun u hu j hj => ?_⟩
  rcases List.mem_append.1 hu with hu | hu
  · exact n1 u hu j hj
  · exact Nat.le_trans hs (n2 u hu j hj)
theorem Stepped.refl {w : World} {g : Nat} {hv iv : Value} {bs : List Value} {k : Nat} {l : List It} {ov : Bool} (h : Box w g hv k iv l bs ov) : Stepped w g hv iv bs k l ov w iv bs :=
  ⟨h, Touch.refl _ _, fun j hj => .inl hj, [], by simp, fun u hu => by cases hu⟩
end Go.Proofs.YtpgainalimmecaaDoor
