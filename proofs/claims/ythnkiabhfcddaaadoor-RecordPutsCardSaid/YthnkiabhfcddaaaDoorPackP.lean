/-
  Texts of the proofs, put together: FrBox, FrTell, FrFound.
-/
import Derived.Test.YthnkiabhfcddaaaDoorFrItems
import Derived.Test.YthnkiabhfcddaaaDoorPackI
import Derived.Lib.LazyBuf
/-
  Layer 4: the program's decoder in memory; Clone; tellSkipped.
-/
namespace Go.Proofs.YthnkiabhfcddaaaDoor
open Go.RowKit
set_option linter.unusedVariables false

theorem own_empty (w : World) (base : Nat) (hb : base ≤ w.heap.size) : Owns (w.alloc (.cells #[] 5)) base (.slice (some ⟨w.heap.size, 0, none⟩) 0 0) [] :=
  ⟨rfl, .inr ⟨w.heap.size, 0, #[], rfl, hb, heap_alloc_new w _, Nat.le_refl _, Nat.zero_le _, rfl, rfl⟩⟩
/-- What Clone answers: new bytes. -/
def Cloned2 (l : List UInt8) (w : World) (x : Ending) (w' : World) : Prop := ∃ A c, x = .returned (.slice A l.length c) ∧ Owns w' w.heap.size (.slice A l.length c) l ∧ Below w.heap.size w w'
theorem Owns.form {w : World} {base : Nat} {v : Value} {l : List UInt8} (h : Owns w base v l) : ∃ A c, v = .slice A l.length c := by
  rcases h.2 with ⟨rfl, h0⟩ | ⟨g, cap, cur, rfl, _⟩
  · exact ⟨none, 0, by rw [h0]⟩
  · exact ⟨_, _, rfl⟩
set_option maxRecDepth 100000 in
theorem clone_some (ad : Addr) (c : Nat) (l : List UInt8) (w : World) (hr : Row w w.heap.size (some ad) (bc l)) (hf : Fits l.length) : Calls Tryd.prog 59 #[.slice (some ad) l.length c] w (Cloned2 l w) := by
  have HF := Lib.hid hf
  have HR := Lib.hid hr
  clear hf hr
  have hq := Go.run_eql_slice_nil (P := Tryd.prog) w 30 5 (some ad) l.length c Tryd.underlying30
  go_enter Tryd.func59, Tryd.ntmps59
  go_wp2_with (at_builtin; refine wp_app_any rfl (.tmp 5) (.tmp 6) rfl w.heap.size w.heap.size _ [] l (some ad) c rfl (own_empty w _ (Nat.le_refl _)) rfl (fun e => by cases e) (HR.out.below_ (bmore (bself w) _)) (HF.out.le (by simp)) (by simp) ?_; intro v1 w1 ho1 hb1; have HO := Lib.hid ho1; have HB := Lib.hid hb1; clear ho1 hb1)
  obtain ⟨A1, c1, rfl⟩ := HO.out.form
  go_ret
  exact ⟨A1, c1, rfl, HO.out, ((bself w).alloc (Nat.le_refl _) _).trans HB.out⟩

/-- The decoder in block g: its four fields. Items reach through a block of their own; each body has a block of its own, if any. -/
structure Box (w : World) (g : Nat) (hv : Value) (k : Nat) (iv : Value) (l : List It) (bs : List Value) (ov : Bool) : Prop where
  hg : w.heap[g]? = some (.cells #[hv, .int .i64 (k : Int), iv, .bool ov] 122 (0, 0))
  hi : OwnAt w 92 3 iv l.length (cellsF l bs)
  hl : bs.length = l.length
  hb : ∀ i (h : i < l.length) u, bs[i]? = some u → LiesIn w (fun k => u.ownBlock = some k) u l[i].body
  ht : ∀ u ∈ bs, ∀ k, u.ownBlock = some k → ∃ cur, w.heap[k]? = some (.cells cur 5 (0, 0))
  ha : bs.Pairwise Apart
/-- Two blocks of unlike elements are two. -/
theorem far_type {w : World} {i j : Nat} {a b : Array Value} {s t : TypeId} {fi fj : Nat × Nat} (h : w.heap[i]? = some (.cells a s fi)) (k : w.heap[j]? = some (.cells b t fj)) (hne : s ≠ t) : i ≠ j := by
  intro e
  subst e
  rw [h] at k
  injection k with k
  injection k with k1 k2
  exact hne k2
theorem ty_box_item : 122 ≠ 92 := by decide
theorem ty_box_u8 : 122 ≠ 5 := by decide
theorem ty_item_u8 : 92 ≠ 5 := by decide
section
variable {w w' : World} {g k : Nat} {hv iv : Value} {l : List It} {bs : List Value} {ov : Bool}
theorem Box.lt (h : Box w g hv k iv l bs ov) : g < w.heap.size := heap_lt h.hg
theorem Box.blk (h : Box w g hv k iv l bs ov) : Blk4 w g hv (.int .i64 (k : Int)) iv (.bool ov) := blk4 h.hg
theorem Box.iv_ne (h : Box w g hv k iv l bs ov) : ∀ j, iv.ownBlock = some j → j ≠ g := fun j hj => by
  obtain ⟨cur, hc⟩ := h.hi.block j hj
  exact fun e => far_type h.hg hc ty_box_item e.symm
theorem Box.iv_lt (h : Box w g hv k iv l bs ov) : ∀ j, iv.ownBlock = some j → j < w.heap.size := fun j hj => by
  obtain ⟨cur, hc⟩ := h.hi.block j hj
  exact heap_lt hc
/-- A block of bytes is neither the decoder's nor its items'. -/
theorem Box.u8_ne (h : Box w g hv k iv l bs ov) {j : Nat} {cur : Array Value} {fr : Nat × Nat} (hj : w.heap[j]? = some (Obj.cells cur 5 fr)) : j ≠ g ∧ iv.ownBlock ≠ some j := by
  refine ⟨fun e => far_type h.hg hj ty_box_u8 e.symm, fun e => ?_⟩
  obtain ⟨cur2, hc⟩ := h.hi.block j e
  exact far_type hc hj ty_item_u8 rfl
theorem Box.body_ne (h : Box w g hv k iv l bs ov) {u : Value} (hu : u ∈ bs) {j : Nat} (hj : u.ownBlock = some j) : j ≠ g ∧ iv.ownBlock ≠ some j := by
  obtain ⟨cur, hc⟩ := h.ht u hu j hj
  exact h.u8_ne hc
/-- Behind what leaves the decoder's blocks as they were. -/
theorem Box.keep (h : Box w g hv k iv l bs ov) (h1 : w'.heap[g]? = w.heap[g]?) (h2 : ∀ j, iv.ownBlock = some j → w'.heap[j]? = w.heap[j]?) (h3 : ∀ u ∈ bs, ∀ j, u.ownBlock = some j → w'.heap[j]? = w.heap[j]?) : Box w' g hv k iv l bs ov :=
  ⟨h1.trans h.hg, h.hi.keep h2, h.hl, fun i hi u hu => (h.hb i hi u hu).keep fun j hj => h3 u (List.mem_of_getElem? hu) j hj, fun u hu j hj => by obtain ⟨cur, hc⟩ := h.ht u hu j hj; exact ⟨cur, (h3 u hu j hj).trans hc⟩, h.ha⟩
theorem Box.body_lt (h : Box w g hv k iv l bs ov) {u : Value} (hu : u ∈ bs) {j : Nat} (hj : u.ownBlock = some j) : j < w.heap.size := by
  obtain ⟨cur, hc⟩ := h.ht u hu j hj
  exact heap_lt hc
theorem Box.over (h : Box w g hv k iv l bs ov) (hb : Below w.heap.size w w') : Box w' g hv k iv l bs ov :=
  h.keep (hb.block g h.lt) (fun j hj => hb.block j (h.iv_lt j hj)) fun u hu j hj => hb.block j (h.body_lt hu hj)
/-- A field is set. -/
theorem Box.set_ (h : Box w g hv k iv l bs ov) (i : Nat) (u hv' : Value) (k' : Nat) (iv' : Value) (ov' : Bool) (hx : (#[hv, .int .i64 (k : Int), iv, .bool ov] : Array Value).setIfInBounds i u = #[hv', .int .i64 (k' : Int), iv', .bool ov']) (hi : OwnAt w 92 3 iv' l.length (cellsF l bs)) : Box (w.setCell ⟨g, i, none⟩ u) g hv' k' iv' l bs ov' := by
  have far : ∀ j, j ≠ g → (w.setCell ⟨g, i, none⟩ u).heap[j]? = w.heap[j]? := fun j hj => heap_far _ _ _ hj
  refine ⟨by rw [heap_set h.hg i u, hx], hi.keep fun j hj => far j fun e => ?_, h.hl, fun m hm v hv => (h.hb m hm v hv).keep fun j hj => far j (h.body_ne (List.mem_of_getElem? hv) hj).1, fun v hv j hj => ?_, h.ha⟩
  · subst e
    obtain ⟨cur, hc⟩ := hi.block j hj
    exact far_type h.hg hc ty_box_item rfl
  · obtain ⟨cur, hc⟩ := h.ht v hv j hj
    exact ⟨cur, (far j (h.body_ne hv hj).1).trans hc⟩
/-- One more item: the new list, which is then stored. -/
theorem Box.push (h : Box w g hv k iv l bs ov) {wa w1 : World} (hw : Below w.heap.size w wa) {iv' b : Value} {x : It} {n : Nat} {xs : List Value} (hg : GrewAt wa 92 3 iv iv' n xs w1) (hn : n = l.length + 1) (hxs : xs = cellsF l bs ++ cellsF [x] [b])
    (hb : LiesIn w (fun k => b.ownBlock = some k) b x.body) (ht : ∀ j, b.ownBlock = some j → ∃ cur, w.heap[j]? = some (Obj.cells cur 5 (0, 0))) (ha : ∀ u ∈ bs, Apart u b) :
    Box (w1.setCell ⟨g, 2, none⟩ iv') g hv k iv' (l ++ [x]) (bs ++ [b]) ov ∧ Touch (fun j => j = g ∨ iv.ownBlock = some j) w (w1.setCell ⟨g, 2, none⟩ iv') ∧ (∀ j, iv'.ownBlock = some j → iv.ownBlock = some j ∨ w.heap.size ≤ j) := by
  subst hn; subst hxs
  obtain ⟨g1, g2, g3⟩ := hg
  have hba := h.over hw
  have hw1 : ∀ j, j < wa.heap.size → iv.ownBlock ≠ some j → w1.heap[j]? = wa.heap[j]? := fun j hj hne => g2.block j hj fun e => hne e.symm
  have hgb : w1.heap[g]? = some (.cells #[hv, .int .i64 (k : Int), iv, .bool ov] 122 (0, 0)) := (hw1 g hba.lt fun e => hba.iv_ne g e rfl).trans hba.hg
  have far : ∀ j, j ≠ g → (w1.setCell ⟨g, 2, none⟩ iv').heap[j]? = w1.heap[j]? := fun j hj => heap_far _ _ _ hj
  have hu8 : ∀ j, (∃ cur, w.heap[j]? = some (Obj.cells cur 5 (0, 0))) → (w1.setCell ⟨g, 2, none⟩ iv').heap[j]? = w.heap[j]?  := fun j hj8 => by
    obtain ⟨cur, hc⟩ := hj8
    have hne := h.u8_ne hc
    have hlt := heap_lt hc
    rw [far j hne.1, hw1 j (Nat.lt_of_lt_of_le hlt hw.size) hne.2, hw.block j hlt]
  have hmem : ∀ u, u ∈ bs ++ [b] → ∀ j, u.ownBlock = some j → ∃ cur, w.heap[j]? = some (Obj.cells cur 5 (0, 0)) := fun u hu j hj => by
    rcases List.mem_append.1 hu with hu | hu
    · exact h.ht u hu j hj
    · rw [List.mem_singleton] at hu; subst hu; exact ht j hj
  refine ⟨⟨heap_set hgb 2 iv', ?_, by rw [List.length_append, List.length_append, h.hl]; rfl, ?_, ?_, ?_⟩, ⟨?_, ?_, ?_, ?_, ?_⟩, ?_⟩
  · rw [cellsF_append _ _ _ _ h.hl, List.length_append]
    refine g1.keep fun j hj => far j fun e => ?_
    subst e
    obtain ⟨cur, hc⟩ := g1.block j hj
    exact far_type hgb hc ty_box_item rfl
  · intro i hi u hu
    have key : LiesIn w (fun k => u.ownBlock = some k) u (l ++ [x])[i].body := by
      rw [List.length_append, List.length_singleton] at hi
      rcases Nat.lt_or_ge i l.length with h1 | h1
      · rw [List.getElem?_append_left (by rw [h.hl]; exact h1)] at hu
        rw [List.getElem_append_left h1]
        exact h.hb i h1 u hu
      · obtain rfl : i = l.length := by omega
        rw [List.getElem?_append_right (by rw [h.hl]; exact Nat.le_refl _), h.hl] at hu
        simp at hu
        subst hu
        simp only [List.getElem_concat_length]
        exact hb
    exact key.keep fun j hj => hu8 j (hmem u (List.mem_of_getElem? hu) j hj)
  · intro u hu j hj
    obtain ⟨cur, hc⟩ := hmem u hu j hj
    exact ⟨cur, (hu8 j ⟨cur, hc⟩).trans hc⟩
  · rw [List.pairwise_append]
    exact ⟨h.ha, List.pairwise_singleton _ _, fun u hu v hv => by rw [List.mem_singleton] at hv; subst hv; exact ha u hu⟩
  · exact g2.os.trans hw.os
  · exact g2.tape.trans hw.tape
  · exact g2.output.trans hw.output
  · rw [setCell_size]; exact Nat.le_trans hw.size g2.size
  · intro j hj hF
    rw [far j fun e => hF (.inl e), hw1 j (Nat.lt_of_lt_of_le hj hw.size) fun e => hF (.inr e), hw.block j hj]
  · intro j hj
    rcases g3 with e | e
    · exact .inl (e ▸ hj)
    · rw [e] at hj
      injection hj with hj
      exact .inr (by rw [← hj]; exact hw.size)
end
/-- What a step of a decoder leaves. -/
structure Stepped (w : World) (g : Nat) (hv iv : Value) (bs : List Value) (k' : Nat) (l' : List It) (ov : Bool) (w' : World) (iv' : Value) (bs' : List Value) : Prop where
  box : Box w' g hv k' iv' l' bs' ov
  touch : Touch (fun j => j = g ∨ iv.ownBlock = some j) w w'
  at_ : ∀ j, iv'.ownBlock = some j → iv.ownBlock = some j ∨ w.heap.size ≤ j
  new_ : ∃ cs, bs' = bs ++ cs ∧ ∀ u ∈ cs, ∀ j, u.ownBlock = some j → w.heap.size ≤ j
theorem Stepped.trans {w w1 w2 : World} {g : Nat} {hv iv iv1 iv2 : Value} {bs bs1 bs2 : List Value} {k1 k2 : Nat} {l1 l2 : List It} {ov : Bool} (h : Stepped w g hv iv bs k1 l1 ov w1 iv1 bs1) (k : Stepped w1 g hv iv1 bs1 k2 l2 ov w2 iv2 bs2) : Stepped w g hv iv bs k2 l2 ov w2 iv2 bs2 := by
  obtain ⟨c1, e1, n1⟩ := h.new_
  obtain ⟨c2, e2, n2⟩ := k.new_
  have hs := h.touch.size
  refine ⟨k.box, h.touch.trans k.touch fun j hj => hj.elim (fun e => .inl (.inl e)) fun e => (h.at_ j e).elim (fun q => .inl (.inr q)) .inr, fun j hj => (k.at_ j hj).elim (fun e => h.at_ j e) fun q => .inr (Nat.le_trans hs q), c1 ++ c2, by rw [e2, e1, List.append_assoc], fun u hu j hj => ?_⟩
  rcases List.mem_append.1 hu with hu | hu
  · exact n1 u hu j hj
  · exact Nat.le_trans hs (n2 u hu j hj)
theorem Stepped.refl {w : World} {g : Nat} {hv iv : Value} {bs : List Value} {k : Nat} {l : List It} {ov : Bool} (h : Box w g hv k iv l bs ov) : Stepped w g hv iv bs k l ov w iv bs :=
  ⟨h, Touch.refl _ _, fun j hj => .inl hj, [], by simp, fun u hu => by cases hu⟩
end Go.Proofs.YthnkiabhfcddaaaDoor
/-
  Layer 4: contract of the program's tellSkipped.
-/
namespace Go.Proofs.YthnkiabhfcddaaaDoor
open Go.RowKit
set_option linter.unusedVariables false

theorem info_item : (Tryd.prog.info? 92).map (fun i => (i.zero, i.size, i.bytes)) = some (some (.agg #[.int .i64 0, .int .u8 0, .slice none 0 0]), 3, 40) := by kernel_rfl
theorem Box.push_g {w wa w1 : World} {g k n : Nat} {hv iv v1 : Value} {l : List It} {bs xs : List Value} {ov : Bool} (h : Box w g hv k iv l bs ov) (hw : Below w.heap.size w wa) (hg : GrewAt wa 92 3 iv v1 n xs w1) : w1.heap[g]? = some (.cells #[hv, .int .i64 (k : Int), iv, .bool ov] 122 (0, 0)) :=
  (hg.grown.block g (h.over hw).lt fun e => h.iv_ne g e.symm rfl).trans (h.over hw).hg
/-- What tellSkipped leaves. -/
def TellDid (g : Nat) (hv : Value) (k : Nat) (iv : Value) (l : List It) (bs : List Value) (ov : Bool) (w : World) (e : Ending) (w' : World) : Prop := ∃ iv' bs', e = .returned (.tuple #[]) ∧ Stepped w g hv iv bs 0 (l ++ skipI k) ov w' iv' bs'
theorem tell_end {w w2 : World} {g k : Nat} {hv iv v1 : Value} {l : List It} {bs : List Value} {ov : Bool} (hk : 0 < k)
    (h : Box w2 g hv k v1 (l ++ [⟨k, 0, []⟩]) (bs ++ [.slice none 0 0]) ov ∧ Touch (fun j => j = g ∨ iv.ownBlock = some j) w w2 ∧ (∀ j, v1.ownBlock = some j → iv.ownBlock = some j ∨ w.heap.size ≤ j)) :
    TellDid g hv k iv l bs ov w (.returned (.tuple #[])) (w2.setCell ⟨g, 1, none⟩ (.int .i64 0)) := by
  have hs : l ++ skipI k = l ++ [⟨k, 0, []⟩] := by unfold skipI; rw [if_pos hk]
  refine ⟨v1, bs ++ [.slice none 0 0], rfl, ?_, h.2.1.set (.inl (.inl rfl)) _, h.2.2, [.slice none 0 0], rfl, fun u hu j hj => ?_⟩
  · rw [hs]
    exact h.1.set_ 1 _ hv 0 v1 ov rfl h.1.hi
  · rw [List.mem_singleton] at hu; subst hu; simp [Value.ownBlock] at hj

set_option maxRecDepth 100000 in
set_option maxHeartbeats 1000000 in
theorem tells_pos (g k : Nat) (hv iv : Value) (l : List It) (bs : List Value) (ov : Bool) (w : World) (hB : Box w g hv k iv l bs ov) (hk : 0 < k) (hl : l.length ≤ 1000000) :
    Calls Tryd.prog 66 #[.pointer (some ⟨g, 0, none⟩)] w (TellDid g hv k iv l bs ov w) := by
  obtain ⟨A, c, rfl, hnc⟩ := hB.hi.open_
  have HB := Lib.hid hB
  have HK := Lib.hid hk
  have HL := Lib.hid hl
  have h1 : (0 : Int) < (k : Int) := by omega
  obtain ⟨a0, a1, a2, a3, f0, f1, f2, f3⟩ := hB.blk
  have d1 : ∀ o, (w.alloc o).cell? ⟨g, 1, none⟩ = some (.int .i64 (k : Int)) := fun o => ((bmore (bself w) o).cell hB.lt).trans a1
  have d2 : ∀ o, (w.alloc o).cell? ⟨g, 2, none⟩ = some (.slice A l.length c) := fun o => ((bmore (bself w) o).cell hB.lt).trans a2
  clear hB hk hl hnc
  go_enter Tryd.func66, Tryd.ntmps66
  go_wp2
  refine wp_region_held_drew (S := fun w' => Hid True) (by kernel_rfl) ?_ (fun hHeld => ?_)
  · (try dsimp only)
    exact Lib.hid trivial
  refine wpAnyH_take (i := 0) (v := ?_) rfl (by kernel_rfl) (by kernel_rfl) (by kernel_rfl) (fun _ _ _ h => h) (Or.inl ⟨by rfl, ?_⟩) (by assumption) ?_
  rotate_left
  · intro w hSw
    (try dsimp only at hSw)
    go_simp
    try with_reducible rfl
  (try simp only [Act.put, List.getElem_toArray, List.getElem_cons_zero, List.setIfInBounds_toArray, List.set_cons_zero, List.set_cons_succ])
  refine wpAnyH_take (i := 1) (v := ?_) rfl (by kernel_rfl) (by kernel_rfl) (by kernel_rfl) (fun _ _ _ h => h) (Or.inl ⟨by rfl, ?_⟩) (by assumption) ?_
  rotate_left
  · intro w hSw
    (try dsimp only at hSw)
    go_simp
    try with_reducible rfl
  (try simp only [Act.put, List.getElem_toArray, List.getElem_cons_succ, List.getElem_cons_zero, List.setIfInBounds_toArray, List.set_cons_zero, List.set_cons_succ])
  refine wpAnyH_take (i := 2) (v := ?_) rfl (by kernel_rfl) (by kernel_rfl) (by kernel_rfl) (fun _ _ _ h => h) (Or.inl ⟨by rfl, ?_⟩) (by assumption) ?_
  rotate_left
  · intro w hSw
    (try dsimp only at hSw)
    go_simp
    try with_reducible rfl
  (try simp only [Act.put, List.getElem_toArray, List.getElem_cons_succ, List.getElem_cons_zero, List.setIfInBounds_toArray, List.set_cons_zero, List.set_cons_succ])
  refine wpAnyH_take (i := 3) (v := ?_) rfl (by kernel_rfl) (by kernel_rfl) (by kernel_rfl) (fun _ _ _ h => h) (Or.inl ⟨by rfl, ?_⟩) (by assumption) ?_
  rotate_left
  · intro w hSw
    (try dsimp only at hSw)
    go_simp
    try with_reducible rfl
  (try simp only [Act.put, List.getElem_toArray, List.getElem_cons_succ, List.getElem_cons_zero, List.setIfInBounds_toArray, List.set_cons_zero, List.set_cons_succ])
  refine wpAnyH_take (i := 5) (v := ?_) rfl (by kernel_rfl) (by kernel_rfl) (by kernel_rfl) (fun _ _ _ h => h) (Or.inl ⟨by rfl, ?_⟩) (by assumption) ?_
  rotate_left
  · intro w hSw
    (try dsimp only at hSw)
    go_simp
    try with_reducible rfl
  (try simp only [Act.put, List.getElem_toArray, List.getElem_cons_succ, List.getElem_cons_zero, List.setIfInBounds_toArray, List.set_cons_zero, List.set_cons_succ])
  refine wpAnyH_take (i := 6) (v := ?_) rfl (by kernel_rfl) (by kernel_rfl) (by kernel_rfl) (fun _ _ _ h => h) (Or.inl ⟨by rfl, ?_⟩) (by assumption) ?_
  rotate_left
  · intro w hSw
    (try dsimp only at hSw)
    go_simp
    try with_reducible rfl
  (try simp only [Act.put, List.getElem_toArray, List.getElem_cons_succ, List.getElem_cons_zero, List.setIfInBounds_toArray, List.set_cons_zero, List.set_cons_succ])
  refine wpAnyH_take (i := 7) (v := ?_) rfl (by kernel_rfl) (by kernel_rfl) (by kernel_rfl) (fun _ _ _ h => h) (Or.inl ⟨by rfl, ?_⟩) (by assumption) ?_
  rotate_left
  · intro w hSw
    (try dsimp only at hSw)
    go_simp
    try with_reducible rfl
  (try simp only [Act.put, List.getElem_toArray, List.getElem_cons_succ, List.getElem_cons_zero, List.setIfInBounds_toArray, List.set_cons_zero, List.set_cons_succ])
  refine wpAnyH_ready (rs := [4, 8]) (by kernel_rfl) (by simp) ?_
  refine AllReadyH.cons rfl (fun K hK => ?_) (AllReadyH.cons rfl (fun K hK => ?_) AllReadyH.nil)
  · go_simp
    refine hK.out _ _ ?_ (fun hHeld => ?_)
    · (try dsimp only)
      exact Lib.hid trivial
    clear hK K
    (try simp only [Act.put, List.getElem_toArray, List.getElem_cons_succ, List.getElem_cons_zero, List.setIfInBounds_toArray, List.set_cons_zero, List.set_cons_succ])
    refine wpAnyH_ready (rs := [8]) (by kernel_rfl) (by simp) ?_
    refine AllReadyH.cons rfl (fun K hK => ?_) AllReadyH.nil
    go_simp
    refine hK.out _ _ ?_ (fun hHeld => ?_)
    · (try dsimp only)
      exact Lib.hid trivial
    clear hK K
    (try simp only [Act.put, List.getElem_toArray, List.getElem_cons_succ, List.getElem_cons_zero, List.setIfInBounds_toArray, List.set_cons_zero, List.set_cons_succ])
    refine wpAnyH_take (i := 9) (v := ?_) rfl (by kernel_rfl) (by kernel_rfl) (by kernel_rfl) (fun _ _ _ h => h) (Or.inl ⟨by rfl, ?_⟩) (by assumption) ?_
    rotate_left
    · intro w hSw
      (try dsimp only at hSw)
      go_simp
      try with_reducible rfl
    (try simp only [Act.put, List.getElem_toArray, List.getElem_cons_succ, List.getElem_cons_zero, List.setIfInBounds_toArray, List.set_cons_zero, List.set_cons_succ])
    refine wpAnyH_ready (rs := [10]) (by kernel_rfl) (by simp) ?_
    refine AllReadyH.cons rfl (fun K hK => ?_) AllReadyH.nil
    go_simp
    refine hK.out _ _ ?_ (fun hHeld => ?_)
    · (try dsimp only)
      exact Lib.hid trivial
    clear hK K
    (try simp only [Act.put, List.getElem_toArray, List.getElem_cons_succ, List.getElem_cons_zero, List.setIfInBounds_toArray, List.set_cons_zero, List.set_cons_succ])
    refine wpAnyH_ready (rs := [11]) (by kernel_rfl) (by simp) ?_
    refine AllReadyH.cons rfl (fun K hK => ?_) AllReadyH.nil
    rw [if_pos (by rfl)]
    refine wp_app_off_op (.tmp 11) (.tmp 17) 120 92 _ 3 40 Tryd.underlying120 info_item rfl (by omega) rfl (.slice A l.length c) _ l.length 1 (cellsF l bs) _ (by simp [go_sem]) (by simp [go_sem]) (HB.out.over ((bself w).drew.alloc (Nat.le_refl _) _)).hi (Seq.lit_ w.drew [Value.int IntKind.i64 (k : Int), Value.int IntKind.u8 0, Value.slice none 0 0] _) (by simp [Value.oneCell']) (by have := HL.out; omega) ?_
    intro v1 w1 hg1
    obtain ⟨A1, c1, rfl, _⟩ := hg1.own.open_
    have hgb := HB.out.push_g ((bself w).drew.alloc (Nat.le_refl _) _) hg1
    have HP := Lib.hid (HB.out.push (x := ⟨k, 0, []⟩) (b := .slice none 0 0) ((bself w).drew.alloc (Nat.le_refl _) _) hg1 rfl rfl (.inl ⟨rfl, none, 0, rfl, fun _ => rfl⟩) (fun j hj => by simp [Value.ownBlock] at hj) (fun u _ j _ hj => by simp [Value.ownBlock] at hj))
    clear hg1
    refine hK.out _ _ ?_ (fun hHeld => ?_)
    · (try dsimp only)
      exact Lib.hid trivial
    clear hK K
    (try simp only [Act.put, List.getElem_toArray, List.getElem_cons_succ, List.getElem_cons_zero, List.setIfInBounds_toArray, List.set_cons_zero, List.set_cons_succ])
    refine wpAnyH_take (i := 12) (v := ?_) rfl (by kernel_rfl) (by kernel_rfl) (by kernel_rfl) (fun _ _ _ h => h) (Or.inl ⟨by rfl, ?_⟩) (by assumption) ?_
    rotate_left
    · intro w hSw
      (try dsimp only at hSw)
      go_simp
      try with_reducible rfl
    (try simp only [Act.put, List.getElem_toArray, List.getElem_cons_succ, List.getElem_cons_zero, List.setIfInBounds_toArray, List.set_cons_zero, List.set_cons_succ])
    refine wpAnyH_take (i := 13) (v := ?_) rfl (by kernel_rfl) (by kernel_rfl) (by kernel_rfl) (fun _ _ _ h => h) (Or.inl ⟨by rfl, ?_⟩) (by assumption) ?_
    rotate_left
    · intro w hSw
      (try dsimp only at hSw)
      go_simp
      try with_reducible rfl
    (try simp only [Act.put, List.getElem_toArray, List.getElem_cons_succ, List.getElem_cons_zero, List.setIfInBounds_toArray, List.set_cons_zero, List.set_cons_succ])
    refine wpAnyH_ready (rs := [14]) (by kernel_rfl) (by simp) ?_
    refine AllReadyH.cons rfl (fun K hK => ?_) AllReadyH.nil
    clear a0 a1 a2 a3 f0 f1 f2 f3 d1 d2
    obtain ⟨a0, a1, a2, a3, f0, f1, f2, f3⟩ := blk4 hgb
    clear hgb
    go_simp
    refine hK.out _ _ ?_ (fun hHeld => ?_)
    · (try dsimp only)
      exact Lib.hid trivial
    clear hK K
    (try simp only [Act.put, List.getElem_toArray, List.getElem_cons_succ, List.getElem_cons_zero, List.setIfInBounds_toArray, List.set_cons_zero, List.set_cons_succ])
    refine wpAnyH_done (by kernel_rfl) ?_ _
    generalize w1.setCell { block := g, off := 2 } (Value.slice A1 (l.length + 1) c1) = w2 at HP ⊢
    clear a0 a1 a2 a3 f0 f1 f2 f3
    obtain ⟨a0, a1, a2, a3, f0, f1, f2, f3⟩ := HP.out.1.blk
    go_wp2
    refine bodyPost_end (v := .tuple #[]) (results_none rfl _ _ _) rfl ?_
    exact tell_end HK.out HP.out
  · go_simp
    refine hK.out _ _ ?_ (fun hHeld => ?_)
    · (try dsimp only)
      exact Lib.hid trivial
    clear hK K
    (try simp only [Act.put, List.getElem_toArray, List.getElem_cons_succ, List.getElem_cons_zero, List.setIfInBounds_toArray, List.set_cons_zero, List.set_cons_succ])
    refine wpAnyH_take (i := 9) (v := ?_) rfl (by kernel_rfl) (by kernel_rfl) (by kernel_rfl) (fun _ _ _ h => h) (Or.inl ⟨by rfl, ?_⟩) (by assumption) ?_
    rotate_left
    · intro w hSw
      (try dsimp only at hSw)
      go_simp
      try with_reducible rfl
    (try simp only [Act.put, List.getElem_toArray, List.getElem_cons_succ, List.getElem_cons_zero, List.setIfInBounds_toArray, List.set_cons_zero, List.set_cons_succ])
    refine wpAnyH_ready (rs := [4, 10]) (by kernel_rfl) (by simp) ?_
    refine AllReadyH.cons rfl (fun K hK => ?_) (AllReadyH.cons rfl (fun K hK => ?_) AllReadyH.nil)
    · go_simp
      refine hK.out _ _ ?_ (fun hHeld => ?_)
      · (try dsimp only)
        exact Lib.hid trivial
      clear hK K
      (try simp only [Act.put, List.getElem_toArray, List.getElem_cons_succ, List.getElem_cons_zero, List.setIfInBounds_toArray, List.set_cons_zero, List.set_cons_succ])
      refine wpAnyH_ready (rs := [10]) (by kernel_rfl) (by simp) ?_
      refine AllReadyH.cons rfl (fun K hK => ?_) AllReadyH.nil
      go_simp
      refine hK.out _ _ ?_ (fun hHeld => ?_)
      · (try dsimp only)
        exact Lib.hid trivial
      clear hK K
      (try simp only [Act.put, List.getElem_toArray, List.getElem_cons_succ, List.getElem_cons_zero, List.setIfInBounds_toArray, List.set_cons_zero, List.set_cons_succ])
      refine wpAnyH_ready (rs := [11]) (by kernel_rfl) (by simp) ?_
      refine AllReadyH.cons rfl (fun K hK => ?_) AllReadyH.nil
      rw [if_pos (by rfl)]
      refine wp_app_off_op (.tmp 11) (.tmp 17) 120 92 _ 3 40 Tryd.underlying120 info_item rfl (by omega) rfl (.slice A l.length c) _ l.length 1 (cellsF l bs) _ (by simp [go_sem]) (by simp [go_sem]) (HB.out.over ((bself w).drew.alloc (Nat.le_refl _) _)).hi (Seq.lit_ w.drew [Value.int IntKind.i64 (k : Int), Value.int IntKind.u8 0, Value.slice none 0 0] _) (by simp [Value.oneCell']) (by have := HL.out; omega) ?_
      intro v1 w1 hg1
      obtain ⟨A1, c1, rfl, _⟩ := hg1.own.open_
      have hgb := HB.out.push_g ((bself w).drew.alloc (Nat.le_refl _) _) hg1
      have HP := Lib.hid (HB.out.push (x := ⟨k, 0, []⟩) (b := .slice none 0 0) ((bself w).drew.alloc (Nat.le_refl _) _) hg1 rfl rfl (.inl ⟨rfl, none, 0, rfl, fun _ => rfl⟩) (fun j hj => by simp [Value.ownBlock] at hj) (fun u _ j _ hj => by simp [Value.ownBlock] at hj))
      clear hg1
      refine hK.out _ _ ?_ (fun hHeld => ?_)
      · (try dsimp only)
        exact Lib.hid trivial
      clear hK K
      (try simp only [Act.put, List.getElem_toArray, List.getElem_cons_succ, List.getElem_cons_zero, List.setIfInBounds_toArray, List.set_cons_zero, List.set_cons_succ])
      refine wpAnyH_take (i := 12) (v := ?_) rfl (by kernel_rfl) (by kernel_rfl) (by kernel_rfl) (fun _ _ _ h => h) (Or.inl ⟨by rfl, ?_⟩) (by assumption) ?_
      rotate_left
      · intro w hSw
        (try dsimp only at hSw)
        go_simp
        try with_reducible rfl
      (try simp only [Act.put, List.getElem_toArray, List.getElem_cons_succ, List.getElem_cons_zero, List.setIfInBounds_toArray, List.set_cons_zero, List.set_cons_succ])
      refine wpAnyH_take (i := 13) (v := ?_) rfl (by kernel_rfl) (by kernel_rfl) (by kernel_rfl) (fun _ _ _ h => h) (Or.inl ⟨by rfl, ?_⟩) (by assumption) ?_
      rotate_left
      · intro w hSw
        (try dsimp only at hSw)
        go_simp
        try with_reducible rfl
      (try simp only [Act.put, List.getElem_toArray, List.getElem_cons_succ, List.getElem_cons_zero, List.setIfInBounds_toArray, List.set_cons_zero, List.set_cons_succ])
      refine wpAnyH_ready (rs := [14]) (by kernel_rfl) (by simp) ?_
      refine AllReadyH.cons rfl (fun K hK => ?_) AllReadyH.nil
      clear a0 a1 a2 a3 f0 f1 f2 f3 d1 d2
      obtain ⟨a0, a1, a2, a3, f0, f1, f2, f3⟩ := blk4 hgb
      clear hgb
      go_simp
      refine hK.out _ _ ?_ (fun hHeld => ?_)
      · (try dsimp only)
        exact Lib.hid trivial
      clear hK K
      (try simp only [Act.put, List.getElem_toArray, List.getElem_cons_succ, List.getElem_cons_zero, List.setIfInBounds_toArray, List.set_cons_zero, List.set_cons_succ])
      refine wpAnyH_done (by kernel_rfl) ?_ _
      generalize w1.setCell { block := g, off := 2 } (Value.slice A1 (l.length + 1) c1) = w2 at HP ⊢
      clear a0 a1 a2 a3 f0 f1 f2 f3
      obtain ⟨a0, a1, a2, a3, f0, f1, f2, f3⟩ := HP.out.1.blk
      go_wp2
      refine bodyPost_end (v := .tuple #[]) (results_none rfl _ _ _) rfl ?_
      exact tell_end HK.out HP.out
    · go_simp
      refine hK.out _ _ ?_ (fun hHeld => ?_)
      · (try dsimp only)
        exact Lib.hid trivial
      clear hK K
      (try simp only [Act.put, List.getElem_toArray, List.getElem_cons_succ, List.getElem_cons_zero, List.setIfInBounds_toArray, List.set_cons_zero, List.set_cons_succ])
      refine wpAnyH_ready (rs := [4]) (by kernel_rfl) (by simp) ?_
      refine AllReadyH.cons rfl (fun K hK => ?_) AllReadyH.nil
      go_simp
      refine hK.out _ _ ?_ (fun hHeld => ?_)
      · (try dsimp only)
        exact Lib.hid trivial
      clear hK K
      (try simp only [Act.put, List.getElem_toArray, List.getElem_cons_succ, List.getElem_cons_zero, List.setIfInBounds_toArray, List.set_cons_zero, List.set_cons_succ])
      refine wpAnyH_ready (rs := [11]) (by kernel_rfl) (by simp) ?_
      refine AllReadyH.cons rfl (fun K hK => ?_) AllReadyH.nil
      rw [if_pos (by rfl)]
      refine wp_app_off_op (.tmp 11) (.tmp 17) 120 92 _ 3 40 Tryd.underlying120 info_item rfl (by omega) rfl (.slice A l.length c) _ l.length 1 (cellsF l bs) _ (by simp [go_sem]) (by simp [go_sem]) (HB.out.over ((bself w).drew.alloc (Nat.le_refl _) _)).hi (Seq.lit_ w.drew [Value.int IntKind.i64 (k : Int), Value.int IntKind.u8 0, Value.slice none 0 0] _) (by simp [Value.oneCell']) (by have := HL.out; omega) ?_
      intro v1 w1 hg1
      obtain ⟨A1, c1, rfl, _⟩ := hg1.own.open_
      have hgb := HB.out.push_g ((bself w).drew.alloc (Nat.le_refl _) _) hg1
      have HP := Lib.hid (HB.out.push (x := ⟨k, 0, []⟩) (b := .slice none 0 0) ((bself w).drew.alloc (Nat.le_refl _) _) hg1 rfl rfl (.inl ⟨rfl, none, 0, rfl, fun _ => rfl⟩) (fun j hj => by simp [Value.ownBlock] at hj) (fun u _ j _ hj => by simp [Value.ownBlock] at hj))
      clear hg1
      refine hK.out _ _ ?_ (fun hHeld => ?_)
      · (try dsimp only)
        exact Lib.hid trivial
      clear hK K
      (try simp only [Act.put, List.getElem_toArray, List.getElem_cons_succ, List.getElem_cons_zero, List.setIfInBounds_toArray, List.set_cons_zero, List.set_cons_succ])
      refine wpAnyH_take (i := 12) (v := ?_) rfl (by kernel_rfl) (by kernel_rfl) (by kernel_rfl) (fun _ _ _ h => h) (Or.inl ⟨by rfl, ?_⟩) (by assumption) ?_
      rotate_left
      · intro w hSw
        (try dsimp only at hSw)
        go_simp
        try with_reducible rfl
      (try simp only [Act.put, List.getElem_toArray, List.getElem_cons_succ, List.getElem_cons_zero, List.setIfInBounds_toArray, List.set_cons_zero, List.set_cons_succ])
      refine wpAnyH_take (i := 13) (v := ?_) rfl (by kernel_rfl) (by kernel_rfl) (by kernel_rfl) (fun _ _ _ h => h) (Or.inl ⟨by rfl, ?_⟩) (by assumption) ?_
      rotate_left
      · intro w hSw
        (try dsimp only at hSw)
        go_simp
        try with_reducible rfl
      (try simp only [Act.put, List.getElem_toArray, List.getElem_cons_succ, List.getElem_cons_zero, List.setIfInBounds_toArray, List.set_cons_zero, List.set_cons_succ])
      refine wpAnyH_ready (rs := [14]) (by kernel_rfl) (by simp) ?_
      refine AllReadyH.cons rfl (fun K hK => ?_) AllReadyH.nil
      clear a0 a1 a2 a3 f0 f1 f2 f3 d1 d2
      obtain ⟨a0, a1, a2, a3, f0, f1, f2, f3⟩ := blk4 hgb
      clear hgb
      go_simp
      refine hK.out _ _ ?_ (fun hHeld => ?_)
      · (try dsimp only)
        exact Lib.hid trivial
      clear hK K
      (try simp only [Act.put, List.getElem_toArray, List.getElem_cons_succ, List.getElem_cons_zero, List.setIfInBounds_toArray, List.set_cons_zero, List.set_cons_succ])
      refine wpAnyH_done (by kernel_rfl) ?_ _
      generalize w1.setCell { block := g, off := 2 } (Value.slice A1 (l.length + 1) c1) = w2 at HP ⊢
      clear a0 a1 a2 a3 f0 f1 f2 f3
      obtain ⟨a0, a1, a2, a3, f0, f1, f2, f3⟩ := HP.out.1.blk
      go_wp2
      refine bodyPost_end (v := .tuple #[]) (results_none rfl _ _ _) rfl ?_
      exact tell_end HK.out HP.out

set_option maxRecDepth 100000 in
theorem tells_zero (g : Nat) (hv iv : Value) (l : List It) (bs : List Value) (ov : Bool) (w : World) (hB : Box w g hv 0 iv l bs ov) :
    Calls Tryd.prog 66 #[.pointer (some ⟨g, 0, none⟩)] w (TellDid g hv 0 iv l bs ov w) := by
  have HB := Lib.hid hB
  obtain ⟨a0, a1, a2, a3, f0, f1, f2, f3⟩ := hB.blk
  clear hB
  go_enter Tryd.func66, Tryd.ntmps66
  go_wp2
  refine bodyPost_end (v := .tuple #[]) (results_none rfl _ _ _) rfl ?_
  exact ⟨iv, bs, rfl, by rw [show l ++ skipI 0 = l by simp [skipI]]; exact Stepped.refl HB.out⟩

theorem tells_any (g k : Nat) (hv iv : Value) (l : List It) (bs : List Value) (ov : Bool) (w : World) (hB : Box w g hv k iv l bs ov) (hl : l.length ≤ 1000000) :
    Calls Tryd.prog 66 #[.pointer (some ⟨g, 0, none⟩)] w (TellDid g hv k iv l bs ov w) := by
  by_cases h0 : 0 < k
  · exact tells_pos g k hv iv l bs ov w hB h0 hl
  · obtain rfl : k = 0 := by omega
    exact tells_zero g hv iv l bs ov w hB
end Go.Proofs.YthnkiabhfcddaaaDoor
/-
  Layer 4: contract of the program's found.
-/
namespace Go.Proofs.YthnkiabhfcddaaaDoor
open Go.RowKit
set_option linter.unusedVariables false

/-- What found leaves. -/
def FoundDid (g : Nat) (hv iv : Value) (bs : List Value) (ov : Bool) (lm : List It) (kd : UInt8) (body : List UInt8) (w : World) (e : Ending) (w' : World) : Prop := ∃ iv' bs', e = .returned (.tuple #[]) ∧ Stepped w g hv iv bs 0 (lm ++ [⟨0, kd, body⟩]) ov w' iv' bs'
theorem clone_n (ad : Addr) (c n : Nat) (l : List UInt8) (w : World) (hn : l.length = n) (hr : Row w w.heap.size (some ad) (bc l)) (hf : Fits n) : Calls Tryd.prog 59 #[.slice (some ad) n c] w fun e w' => ∃ A c', e = .returned (.slice A n c') ∧ Owns w' w.heap.size (.slice A n c') l ∧ Below w.heap.size w w' := by
  subst hn
  exact clone_some ad c l w hr hf
theorem Owns.type {w : World} {base : Nat} {v : Value} {l : List UInt8} (h : Owns w base v l) : ∀ j, v.ownBlock = some j → ∃ cur, w.heap[j]? = some (Obj.cells cur 5 (0, 0)) := by
  rcases h.2 with ⟨rfl, _⟩ | ⟨g, cap, cur, rfl, hg, hh, _⟩
  · intro j hj; simp [Value.ownBlock] at hj
  · intro j hj; simp [Value.ownBlock] at hj; subst hj; exact ⟨cur, hh⟩
theorem Owns.liesIn {w : World} {base : Nat} {v : Value} {l : List UInt8} (h : Owns w base v l) : LiesIn w (fun j => v.ownBlock = some j) v l := by
  rcases h.lies with ⟨rfl, rfl⟩ | ⟨b, off, c, rfl, hl, _, hc⟩
  · exact .inl ⟨rfl, none, 0, rfl, fun _ => rfl⟩
  · exact .inr ⟨b, off, c, rfl, hl, rfl, hc⟩
theorem found_end {w w1 w2 : World} {g n : Nat} {hv iv iv1 : Value} {lm : List It} {bs bs1 : List Value} {ov : Bool} {kd : UInt8} {body : List UInt8} {A2 : Option Addr} {c2 : Nat}
    (hs : Stepped w g hv iv bs 0 lm ov w1 iv1 bs1) (hb : Below w1.heap.size w1 w2) (ho : Owns w2 w1.heap.size (.slice A2 n c2) body) :
    ∀ w3 A3 c3, Below w2.heap.size w2 (w2.drew.alloc (Obj.cells #[Value.int IntKind.i64 0, Value.int IntKind.u8 (kd.toNat : Int), Value.slice A2 n c2] 92)) →
      GrewAt (w2.drew.alloc (Obj.cells #[Value.int IntKind.i64 0, Value.int IntKind.u8 (kd.toNat : Int), Value.slice A2 n c2] 92)) 92 3 iv1 (.slice A3 (lm.length + 1) c3) (lm.length + 1) (cellsF lm bs1 ++ [Value.int IntKind.i64 0, Value.int IntKind.u8 (kd.toNat : Int), Value.slice A2 n c2]) w3 →
      FoundDid g hv iv bs ov lm kd body w (.returned (.tuple #[])) (w3.setCell ⟨g, 2, none⟩ (.slice A3 (lm.length + 1) c3)) := by
  intro w3 A3 c3 hw hg
  have hb2 := hs.box.over hb
  obtain ⟨q1, q2, q3⟩ := hb2.push (x := ⟨0, kd, body⟩) (b := .slice A2 n c2) hw hg rfl rfl ho.liesIn ho.type (fun u hu j hj hj2 => by
    have := hs.box.body_lt hu hj
    have := ho.ge j hj2
    omega)
  refine ⟨_, _, rfl, hs.trans ⟨q1, (Touch.of_below hb).trans (q2.mono fun j hj => hj) (fun j hj => .inl hj), fun j hj => (q3 j hj).elim .inl fun q => .inr (Nat.le_trans hb.size q), [.slice A2 n c2], rfl, fun u hu j hj => ?_⟩⟩
  rw [List.mem_singleton] at hu
  subst hu
  exact ho.ge j hj

set_option maxRecDepth 100000 in
set_option maxHeartbeats 1000000 in
theorem found_any (g k X off c0 n : Nat) (hv iv : Value) (l : List It) (bs : List Value) (ov : Bool) (kd0 : UInt8) (body : List UInt8) (w : World) (hB : Box w g hv k iv l bs ov) (hl : l.length ≤ 1000000) (lm : List It) (hlm : l ++ skipI k = lm)
    (hX : ∃ cur fr, w.heap[X]? = some (Obj.cells cur 5 fr)) (hn : body.length = n) (hn2 : n ≤ 1000000) (hc0 : n + 7 ≤ c0) (hk : w.cell? ⟨X, off + 1, none⟩ = some (.int .u8 (kd0.toNat : Int))) (hb : ∀ i (h : i < body.length), w.cell? ⟨X, off + 4 + i, none⟩ = some (.int .u8 (body[i].toNat : Int))) :
    Calls Tryd.prog 77 #[.pointer (some ⟨g, 0, none⟩), .slice (some ⟨X, off, none⟩) (n + 7) c0] w (FoundDid g hv iv bs ov lm kd0 body w) := by
  have hlt : X < w.heap.size := by obtain ⟨cur, fr, h⟩ := hX; exact (Array.getElem?_eq_some_iff.1 h).1
  have hXT : ∀ w', Touch (fun j => j = g ∨ iv.ownBlock = some j) w w' → w'.heap[X]? = w.heap[X]? := fun w' ht => by
    obtain ⟨cur, fr, h⟩ := hX
    have := hB.u8_ne h
    exact ht.block X hlt fun e => e.elim this.1 this.2
  have HT := Lib.hid (tells_any g k hv iv l bs ov w hB hl)
  unfold TellDid at HT
  rw [hlm] at HT
  have HX := Lib.hid hXT
  have HC := Lib.hid (show ∀ w1, w1.heap[X]? = w.heap[X]? → w.heap.size ≤ w1.heap.size → Calls Tryd.prog 59 #[.slice (some ⟨X, off + 4, none⟩) n (c0 - 4)] w1 fun e w' => ∃ A c', e = .returned (.slice A n c') ∧ Owns w' w1.heap.size (.slice A n c') body ∧ Below w1.heap.size w1 w' from
    fun w1 h1 h2 => clone_n _ _ n body w1 hn (Lies.row (Nat.lt_of_lt_of_le hlt h2) fun i hi => (World.cell?_of_block (w := w) h1).trans (hb i hi)) (by unfold Fits; omega))
  have HY := Lib.hid (And.intro hlt hk)
  have HL := Lib.hid (show lm.length ≤ 1000001 by have := skipI_length k; rw [← hlm, List.length_append]; omega)
  have k1 : (4 : Int) ≤ (n : Int) + 7 - 3 := by omega
  have k2 : (n : Int) + 7 - 3 ≤ (c0 : Int) := by omega
  have k3 : IntKind.i64.wrap ((n : Int) + 7 - 3) = (n : Int) + 7 - 3 := IntWalk.i64_in _ (by omega)
  have k4 : ((n : Int) + 7 - 3).toNat = n + 4 := by omega
  have k5 : (0 : Int) ≤ (n : Int) + 7 - 3 := by omega
  have k6 : (1 : Int) < (n : Int) + 7 := by omega
  have k7 : (4 : Int) ≤ (c0 : Int) := by omega
  have k8 : ¬ c0 = 4 := by omega
  have k9 : n + 4 ≤ c0 := by omega
  clear hX hn hn2 hk hb hB hXT hlt hl hlm
  go_enter Tryd.func77, Tryd.ntmps77
  go_wp2_with (first
    | (go_at_call 66; (with_reducible refine HT.out.mono ?_); rintro e w1 ⟨iv1, bs1, rfl, hs1⟩; have HS := Lib.hid hs1; clear hs1)
    | (go_at_call 59; (with_reducible refine Calls.mono (HC.out w1 (HX.out w1 HS.out.touch) HS.out.touch.size) ?_); rintro e w2 ⟨A2, c2, rfl, ho, hb⟩; have HO := Lib.hid ho; have HW := Lib.hid hb; clear ho hb))
  have HB2 := Lib.hid (HS.out.box.over HW.out)
  obtain ⟨A, c, rfl, _⟩ := HB2.out.hi.open_
  have HF := Lib.hid (found_end (kd := kd0) HS.out HW.out HO.out)
  have hXw : w2.heap[X]? = w.heap[X]? := (HW.out.block X (Nat.lt_of_lt_of_le HY.out.1 HS.out.touch.size)).trans (HX.out w1 HS.out.touch)
  have hXl : X < w2.heap.size := Nat.lt_of_lt_of_le HY.out.1 (Nat.le_trans HS.out.touch.size HW.out.size)
  obtain ⟨a0, a1, a2, a3, f0, f1, f2, f3⟩ := HB2.out.blk
  have d2 : ∀ o, (w2.alloc o).cell? ⟨g, 2, none⟩ = some (.slice A lm.length c) := fun o => ((bmore (bself w2) o).cell HB2.out.lt).trans a2
  have e1 : w2.cell? ⟨X, off + 1, none⟩ = some (.int .u8 (kd0.toNat : Int)) := (World.cell?_of_block (w := w) hXw).trans HY.out.2
  have e2 : ∀ o, (w2.alloc o).cell? ⟨X, off + 1, none⟩ = some (.int .u8 (kd0.toNat : Int)) := fun o => ((bmore (bself w2) o).cell (p := ⟨X, off + 1, none⟩) hXl).trans e1
  obtain ⟨kd, hkd⟩ : ∃ kd : Int, (kd0.toNat : Int) = kd := ⟨_, rfl⟩
  rw [hkd] at e1 HF
  simp only [hkd] at e2
  clear hXw hXl hkd
  refine wp_region_held_drew (S := fun w' => Hid True) (by kernel_rfl) ?_ (fun hHeld => ?_)
  · (try dsimp only)
    exact Lib.hid trivial
  refine wpAnyH_take (i := 0) (v := ?_) rfl (by kernel_rfl) (by kernel_rfl) (by kernel_rfl) (fun _ _ _ h => h) (Or.inl ⟨by rfl, ?_⟩) (by assumption) ?_
  rotate_left
  · intro w hSw
    (try dsimp only at hSw)
    go_simp
    try with_reducible rfl
  (try simp only [Act.put, List.getElem_toArray, List.getElem_cons_zero, List.setIfInBounds_toArray, List.set_cons_zero, List.set_cons_succ])
  refine wpAnyH_take (i := 1) (v := ?_) rfl (by kernel_rfl) (by kernel_rfl) (by kernel_rfl) (fun _ _ _ h => h) (Or.inl ⟨by rfl, ?_⟩) (by assumption) ?_
  rotate_left
  · intro w hSw
    (try dsimp only at hSw)
    go_simp
    try with_reducible rfl
  (try simp only [Act.put, List.getElem_toArray, List.getElem_cons_succ, List.getElem_cons_zero, List.setIfInBounds_toArray, List.set_cons_zero, List.set_cons_succ])
  refine wpAnyH_take (i := 2) (v := ?_) rfl (by kernel_rfl) (by kernel_rfl) (by kernel_rfl) (fun _ _ _ h => h) (Or.inl ⟨by rfl, ?_⟩) (by assumption) ?_
  rotate_left
  · intro w hSw
    (try dsimp only at hSw)
    go_simp
    try with_reducible rfl
  (try simp only [Act.put, List.getElem_toArray, List.getElem_cons_succ, List.getElem_cons_zero, List.setIfInBounds_toArray, List.set_cons_zero, List.set_cons_succ])
  refine wpAnyH_take (i := 3) (v := ?_) rfl (by kernel_rfl) (by kernel_rfl) (by kernel_rfl) (fun _ _ _ h => h) (Or.inl ⟨by rfl, ?_⟩) (by assumption) ?_
  rotate_left
  · intro w hSw
    (try dsimp only at hSw)
    go_simp
    try with_reducible rfl
  (try simp only [Act.put, List.getElem_toArray, List.getElem_cons_succ, List.getElem_cons_zero, List.setIfInBounds_toArray, List.set_cons_zero, List.set_cons_succ])
  refine wpAnyH_take (i := 5) (v := ?_) rfl (by kernel_rfl) (by kernel_rfl) (by kernel_rfl) (fun _ _ _ h => h) (Or.inl ⟨by rfl, ?_⟩) (by assumption) ?_
  rotate_left
  · intro w hSw
    (try dsimp only at hSw)
    go_simp
    try with_reducible rfl
  (try simp only [Act.put, List.getElem_toArray, List.getElem_cons_succ, List.getElem_cons_zero, List.setIfInBounds_toArray, List.set_cons_zero, List.set_cons_succ])
  refine wpAnyH_take (i := 6) (v := ?_) rfl (by kernel_rfl) (by kernel_rfl) (by kernel_rfl) (fun _ _ _ h => h) (Or.inl ⟨by rfl, ?_⟩) (by assumption) ?_
  rotate_left
  · intro w hSw
    (try dsimp only at hSw)
    go_simp
    try with_reducible rfl
  (try simp only [Act.put, List.getElem_toArray, List.getElem_cons_succ, List.getElem_cons_zero, List.setIfInBounds_toArray, List.set_cons_zero, List.set_cons_succ])
  refine wpAnyH_take (i := 8) (v := ?_) rfl (by kernel_rfl) (by kernel_rfl) (by kernel_rfl) (fun _ _ _ h => h) (Or.inl ⟨by rfl, ?_⟩) (by assumption) ?_
  rotate_left
  · intro w hSw
    (try dsimp only at hSw)
    go_simp
    try with_reducible rfl
  (try simp only [Act.put, List.getElem_toArray, List.getElem_cons_succ, List.getElem_cons_zero, List.setIfInBounds_toArray, List.set_cons_zero, List.set_cons_succ])
  refine wpAnyH_ready (rs := [4, 7]) (by kernel_rfl) (by simp) ?_
  refine AllReadyH.cons rfl (fun K hK => ?_) (AllReadyH.cons rfl (fun K hK => ?_) AllReadyH.nil)
  · go_simp
    refine hK.out _ _ ?_ (fun hHeld => ?_)
    · (try dsimp only)
      exact Lib.hid trivial
    clear hK K
    (try simp only [Act.put, List.getElem_toArray, List.getElem_cons_succ, List.getElem_cons_zero, List.setIfInBounds_toArray, List.set_cons_zero, List.set_cons_succ])
    refine wpAnyH_ready (rs := [7]) (by kernel_rfl) (by simp) ?_
    refine AllReadyH.cons rfl (fun K hK => ?_) AllReadyH.nil
    go_simp
    refine hK.out _ _ ?_ (fun hHeld => ?_)
    · (try dsimp only)
      exact Lib.hid trivial
    clear hK K
    (try simp only [Act.put, List.getElem_toArray, List.getElem_cons_succ, List.getElem_cons_zero, List.setIfInBounds_toArray, List.set_cons_zero, List.set_cons_succ])
    refine wpAnyH_take (i := 9) (v := ?_) rfl (by kernel_rfl) (by kernel_rfl) (by kernel_rfl) (fun _ _ _ h => h) (Or.inl ⟨by rfl, ?_⟩) (by assumption) ?_
    rotate_left
    · intro w hSw
      (try dsimp only at hSw)
      go_simp
      try with_reducible rfl
    (try simp only [Act.put, List.getElem_toArray, List.getElem_cons_succ, List.getElem_cons_zero, List.setIfInBounds_toArray, List.set_cons_zero, List.set_cons_succ])
    refine wpAnyH_take (i := 10) (v := ?_) rfl (by kernel_rfl) (by kernel_rfl) (by kernel_rfl) (fun _ _ _ h => h) (Or.inl ⟨by rfl, ?_⟩) (by assumption) ?_
    rotate_left
    · intro w hSw
      (try dsimp only at hSw)
      go_simp
      try with_reducible rfl
    (try simp only [Act.put, List.getElem_toArray, List.getElem_cons_succ, List.getElem_cons_zero, List.setIfInBounds_toArray, List.set_cons_zero, List.set_cons_succ])
    refine wpAnyH_ready (rs := [11]) (by kernel_rfl) (by simp) ?_
    refine AllReadyH.cons rfl (fun K hK => ?_) AllReadyH.nil
    go_simp
    refine hK.out _ _ ?_ (fun hHeld => ?_)
    · (try dsimp only)
      exact Lib.hid trivial
    clear hK K
    (try simp only [Act.put, List.getElem_toArray, List.getElem_cons_succ, List.getElem_cons_zero, List.setIfInBounds_toArray, List.set_cons_zero, List.set_cons_succ])
    refine wpAnyH_ready (rs := [12]) (by kernel_rfl) (by simp) ?_
    refine AllReadyH.cons rfl (fun K hK => ?_) AllReadyH.nil
    rw [if_pos (by rfl)]
    refine wp_app_off_op (.tmp 17) (.tmp 24) 120 92 _ 3 40 Tryd.underlying120 info_item rfl (by omega) rfl (.slice A lm.length c) _ lm.length 1 (cellsF lm bs1) _ (by simp [go_sem]) (by simp [go_sem]) (HB2.out.over ((bself w2).drew.alloc (Nat.le_refl _) _)).hi (Seq.lit_ w2.drew [Value.int IntKind.i64 0, Value.int IntKind.u8 kd, Value.slice A2 n c2] _) (by simp [Value.oneCell']) (by have := HL.out; omega) ?_
    intro v1 w3 hg1
    obtain ⟨A3, c3, rfl, _⟩ := hg1.own.open_
    have hgb := HB2.out.push_g ((bself w2).drew.alloc (Nat.le_refl _) _) hg1
    have HP := Lib.hid (HF.out w3 A3 c3 ((bself w2).drew.alloc (Nat.le_refl _) _) hg1)
    clear hg1
    refine hK.out _ _ ?_ (fun hHeld => ?_)
    · (try dsimp only)
      exact Lib.hid trivial
    clear hK K
    (try simp only [Act.put, List.getElem_toArray, List.getElem_cons_succ, List.getElem_cons_zero, List.setIfInBounds_toArray, List.set_cons_zero, List.set_cons_succ])
    refine wpAnyH_take (i := 13) (v := ?_) rfl (by kernel_rfl) (by kernel_rfl) (by kernel_rfl) (fun _ _ _ h => h) (Or.inl ⟨by rfl, ?_⟩) (by assumption) ?_
    rotate_left
    · intro w hSw
      (try dsimp only at hSw)
      go_simp
      try with_reducible rfl
    (try simp only [Act.put, List.getElem_toArray, List.getElem_cons_succ, List.getElem_cons_zero, List.setIfInBounds_toArray, List.set_cons_zero, List.set_cons_succ])
    refine wpAnyH_take (i := 14) (v := ?_) rfl (by kernel_rfl) (by kernel_rfl) (by kernel_rfl) (fun _ _ _ h => h) (Or.inl ⟨by rfl, ?_⟩) (by assumption) ?_
    rotate_left
    · intro w hSw
      (try dsimp only at hSw)
      go_simp
      try with_reducible rfl
    (try simp only [Act.put, List.getElem_toArray, List.getElem_cons_succ, List.getElem_cons_zero, List.setIfInBounds_toArray, List.set_cons_zero, List.set_cons_succ])
    refine wpAnyH_ready (rs := [15]) (by kernel_rfl) (by simp) ?_
    refine AllReadyH.cons rfl (fun K hK => ?_) AllReadyH.nil
    clear a0 a1 a2 a3 f0 f1 f2 f3 d2 e1 e2
    obtain ⟨a0, a1, a2, a3, f0, f1, f2, f3⟩ := blk4 hgb
    clear hgb
    go_simp
    refine hK.out _ _ ?_ (fun hHeld => ?_)
    · (try dsimp only)
      exact Lib.hid trivial
    clear hK K
    (try simp only [Act.put, List.getElem_toArray, List.getElem_cons_succ, List.getElem_cons_zero, List.setIfInBounds_toArray, List.set_cons_zero, List.set_cons_succ])
    refine wpAnyH_done (by kernel_rfl) ?_ _
    go_wp2
    refine bodyPost_end (v := .tuple #[]) (results_none rfl _ _ _) rfl ?_
    exact HP.out
  · go_simp
    refine hK.out _ _ ?_ (fun hHeld => ?_)
    · (try dsimp only)
      exact Lib.hid trivial
    clear hK K
    (try simp only [Act.put, List.getElem_toArray, List.getElem_cons_succ, List.getElem_cons_zero, List.setIfInBounds_toArray, List.set_cons_zero, List.set_cons_succ])
    refine wpAnyH_take (i := 9) (v := ?_) rfl (by kernel_rfl) (by kernel_rfl) (by kernel_rfl) (fun _ _ _ h => h) (Or.inl ⟨by rfl, ?_⟩) (by assumption) ?_
    rotate_left
    · intro w hSw
      (try dsimp only at hSw)
      go_simp
      try with_reducible rfl
    (try simp only [Act.put, List.getElem_toArray, List.getElem_cons_succ, List.getElem_cons_zero, List.setIfInBounds_toArray, List.set_cons_zero, List.set_cons_succ])
    refine wpAnyH_take (i := 10) (v := ?_) rfl (by kernel_rfl) (by kernel_rfl) (by kernel_rfl) (fun _ _ _ h => h) (Or.inl ⟨by rfl, ?_⟩) (by assumption) ?_
    rotate_left
    · intro w hSw
      (try dsimp only at hSw)
      go_simp
      try with_reducible rfl
    (try simp only [Act.put, List.getElem_toArray, List.getElem_cons_succ, List.getElem_cons_zero, List.setIfInBounds_toArray, List.set_cons_zero, List.set_cons_succ])
    refine wpAnyH_ready (rs := [4, 11]) (by kernel_rfl) (by simp) ?_
    refine AllReadyH.cons rfl (fun K hK => ?_) (AllReadyH.cons rfl (fun K hK => ?_) AllReadyH.nil)
    · go_simp
      refine hK.out _ _ ?_ (fun hHeld => ?_)
      · (try dsimp only)
        exact Lib.hid trivial
      clear hK K
      (try simp only [Act.put, List.getElem_toArray, List.getElem_cons_succ, List.getElem_cons_zero, List.setIfInBounds_toArray, List.set_cons_zero, List.set_cons_succ])
      refine wpAnyH_ready (rs := [11]) (by kernel_rfl) (by simp) ?_
      refine AllReadyH.cons rfl (fun K hK => ?_) AllReadyH.nil
      go_simp
      refine hK.out _ _ ?_ (fun hHeld => ?_)
      · (try dsimp only)
        exact Lib.hid trivial
      clear hK K
      (try simp only [Act.put, List.getElem_toArray, List.getElem_cons_succ, List.getElem_cons_zero, List.setIfInBounds_toArray, List.set_cons_zero, List.set_cons_succ])
      refine wpAnyH_ready (rs := [12]) (by kernel_rfl) (by simp) ?_
      refine AllReadyH.cons rfl (fun K hK => ?_) AllReadyH.nil
      rw [if_pos (by rfl)]
      refine wp_app_off_op (.tmp 17) (.tmp 24) 120 92 _ 3 40 Tryd.underlying120 info_item rfl (by omega) rfl (.slice A lm.length c) _ lm.length 1 (cellsF lm bs1) _ (by simp [go_sem]) (by simp [go_sem]) (HB2.out.over ((bself w2).drew.alloc (Nat.le_refl _) _)).hi (Seq.lit_ w2.drew [Value.int IntKind.i64 0, Value.int IntKind.u8 kd, Value.slice A2 n c2] _) (by simp [Value.oneCell']) (by have := HL.out; omega) ?_
      intro v1 w3 hg1
      obtain ⟨A3, c3, rfl, _⟩ := hg1.own.open_
      have hgb := HB2.out.push_g ((bself w2).drew.alloc (Nat.le_refl _) _) hg1
      have HP := Lib.hid (HF.out w3 A3 c3 ((bself w2).drew.alloc (Nat.le_refl _) _) hg1)
      clear hg1
      refine hK.out _ _ ?_ (fun hHeld => ?_)
      · (try dsimp only)
        exact Lib.hid trivial
      clear hK K
      (try simp only [Act.put, List.getElem_toArray, List.getElem_cons_succ, List.getElem_cons_zero, List.setIfInBounds_toArray, List.set_cons_zero, List.set_cons_succ])
      refine wpAnyH_take (i := 13) (v := ?_) rfl (by kernel_rfl) (by kernel_rfl) (by kernel_rfl) (fun _ _ _ h => h) (Or.inl ⟨by rfl, ?_⟩) (by assumption) ?_
      rotate_left
      · intro w hSw
        (try dsimp only at hSw)
        go_simp
        try with_reducible rfl
      (try simp only [Act.put, List.getElem_toArray, List.getElem_cons_succ, List.getElem_cons_zero, List.setIfInBounds_toArray, List.set_cons_zero, List.set_cons_succ])
      refine wpAnyH_take (i := 14) (v := ?_) rfl (by kernel_rfl) (by kernel_rfl) (by kernel_rfl) (fun _ _ _ h => h) (Or.inl ⟨by rfl, ?_⟩) (by assumption) ?_
      rotate_left
      · intro w hSw
        (try dsimp only at hSw)
        go_simp
        try with_reducible rfl
      (try simp only [Act.put, List.getElem_toArray, List.getElem_cons_succ, List.getElem_cons_zero, List.setIfInBounds_toArray, List.set_cons_zero, List.set_cons_succ])
      refine wpAnyH_ready (rs := [15]) (by kernel_rfl) (by simp) ?_
      refine AllReadyH.cons rfl (fun K hK => ?_) AllReadyH.nil
      clear a0 a1 a2 a3 f0 f1 f2 f3 d2 e1 e2
      obtain ⟨a0, a1, a2, a3, f0, f1, f2, f3⟩ := blk4 hgb
      clear hgb
      go_simp
      refine hK.out _ _ ?_ (fun hHeld => ?_)
      · (try dsimp only)
        exact Lib.hid trivial
      clear hK K
      (try simp only [Act.put, List.getElem_toArray, List.getElem_cons_succ, List.getElem_cons_zero, List.setIfInBounds_toArray, List.set_cons_zero, List.set_cons_succ])
      refine wpAnyH_done (by kernel_rfl) ?_ _
      go_wp2
      refine bodyPost_end (v := .tuple #[]) (results_none rfl _ _ _) rfl ?_
      exact HP.out
    · go_simp
      refine hK.out _ _ ?_ (fun hHeld => ?_)
      · (try dsimp only)
        exact Lib.hid trivial
      clear hK K
      (try simp only [Act.put, List.getElem_toArray, List.getElem_cons_succ, List.getElem_cons_zero, List.setIfInBounds_toArray, List.set_cons_zero, List.set_cons_succ])
      refine wpAnyH_ready (rs := [4]) (by kernel_rfl) (by simp) ?_
      refine AllReadyH.cons rfl (fun K hK => ?_) AllReadyH.nil
      go_simp
      refine hK.out _ _ ?_ (fun hHeld => ?_)
      · (try dsimp only)
        exact Lib.hid trivial
      clear hK K
      (try simp only [Act.put, List.getElem_toArray, List.getElem_cons_succ, List.getElem_cons_zero, List.setIfInBounds_toArray, List.set_cons_zero, List.set_cons_succ])
      refine wpAnyH_ready (rs := [12]) (by kernel_rfl) (by simp) ?_
      refine AllReadyH.cons rfl (fun K hK => ?_) AllReadyH.nil
      rw [if_pos (by rfl)]
      refine wp_app_off_op (.tmp 17) (.tmp 24) 120 92 _ 3 40 Tryd.underlying120 info_item rfl (by omega) rfl (.slice A lm.length c) _ lm.length 1 (cellsF lm bs1) _ (by simp [go_sem]) (by simp [go_sem]) (HB2.out.over ((bself w2).drew.alloc (Nat.le_refl _) _)).hi (Seq.lit_ w2.drew [Value.int IntKind.i64 0, Value.int IntKind.u8 kd, Value.slice A2 n c2] _) (by simp [Value.oneCell']) (by have := HL.out; omega) ?_
      intro v1 w3 hg1
      obtain ⟨A3, c3, rfl, _⟩ := hg1.own.open_
      have hgb := HB2.out.push_g ((bself w2).drew.alloc (Nat.le_refl _) _) hg1
      have HP := Lib.hid (HF.out w3 A3 c3 ((bself w2).drew.alloc (Nat.le_refl _) _) hg1)
      clear hg1
      refine hK.out _ _ ?_ (fun hHeld => ?_)
      · (try dsimp only)
        exact Lib.hid trivial
      clear hK K
      (try simp only [Act.put, List.getElem_toArray, List.getElem_cons_succ, List.getElem_cons_zero, List.setIfInBounds_toArray, List.set_cons_zero, List.set_cons_succ])
      refine wpAnyH_take (i := 13) (v := ?_) rfl (by kernel_rfl) (by kernel_rfl) (by kernel_rfl) (fun _ _ _ h => h) (Or.inl ⟨by rfl, ?_⟩) (by assumption) ?_
      rotate_left
      · intro w hSw
        (try dsimp only at hSw)
        go_simp
        try with_reducible rfl
      (try simp only [Act.put, List.getElem_toArray, List.getElem_cons_succ, List.getElem_cons_zero, List.setIfInBounds_toArray, List.set_cons_zero, List.set_cons_succ])
      refine wpAnyH_take (i := 14) (v := ?_) rfl (by kernel_rfl) (by kernel_rfl) (by kernel_rfl) (fun _ _ _ h => h) (Or.inl ⟨by rfl, ?_⟩) (by assumption) ?_
      rotate_left
      · intro w hSw
        (try dsimp only at hSw)
        go_simp
        try with_reducible rfl
      (try simp only [Act.put, List.getElem_toArray, List.getElem_cons_succ, List.getElem_cons_zero, List.setIfInBounds_toArray, List.set_cons_zero, List.set_cons_succ])
      refine wpAnyH_ready (rs := [15]) (by kernel_rfl) (by simp) ?_
      refine AllReadyH.cons rfl (fun K hK => ?_) AllReadyH.nil
      clear a0 a1 a2 a3 f0 f1 f2 f3 d2 e1 e2
      obtain ⟨a0, a1, a2, a3, f0, f1, f2, f3⟩ := blk4 hgb
      clear hgb
      go_simp
      refine hK.out _ _ ?_ (fun hHeld => ?_)
      · (try dsimp only)
        exact Lib.hid trivial
      clear hK K
      (try simp only [Act.put, List.getElem_toArray, List.getElem_cons_succ, List.getElem_cons_zero, List.setIfInBounds_toArray, List.set_cons_zero, List.set_cons_succ])
      refine wpAnyH_done (by kernel_rfl) ?_ _
      go_wp2
      refine bodyPost_end (v := .tuple #[]) (results_none rfl _ _ _) rfl ?_
      exact HP.out
end Go.Proofs.YthnkiabhfcddaaaDoor
