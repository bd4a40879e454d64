/-
  Layer 7, the landed code: All.
-/
import Derived.Test.YthnkiabhfcddaaaDoorPackS
import Derived.Deep.Cut
import Derived.Sort.CutIn
namespace Go.Proofs.YthnkiabhfcddaaaDoor
open Go.RowKit Go.Shelf
attribute [local go_sem] Oper.semAt_some
set_option linter.unusedVariables false

/-- Such items as there are. -/
def FewA (l : List It) (rs : List Rec) : Prop := rs.length + l.length ≤ 100000 ∧ ∀ x ∈ l, ¬ 0 < x.skip → x.body.length ≤ 100000
/-- Between two rounds. -/
def AllI (Tl : World → Prop) (C : Nat → Prop) (B : Nat) (w : World) (p : Value) (g gl : Nat) (RS : List Rec) (EX : Int) (s : DS × (Nat → Prop)) (W : World) : Prop :=
  ∃ o rs, allR s.1.items rs = (RS, EX) ∧ FewA s.1.items rs ∧ AllR Tl C B w W p s.1 s.2 g gl o rs
/-- An item is told, and lies in the box bx. -/
def AllH (act : It → Option Addr → Nat → Nat → Act) (Tl : World → Prop) (C : Nat → Prop) (B : Nat) (w : World) (p : Value) (g gl : Nat) (RS : List Rec) (EX : Int) (s : DS × (Nat → Prop)) (xs : Array Value) (a' : Act) (W : World) : Prop :=
  ∃ o rs x A c bx D, allR (x :: s.1.items) rs = (RS, EX) ∧ FewA (x :: s.1.items) rs ∧ AllR Tl C B w W p s.1 s.2 g gl o rs ∧ W.heap[bx]? = some (.cells #[.int .i64 (x.skip : Int), .int .u8 (x.kind.toNat : Int), .slice A x.body.length c] 92 (0, 0)) ∧ bx ≠ B + 1 ∧
    LiesIn W D (.slice A x.body.length c) x.body ∧ (∀ j, D j → j < W.heap.size ∧ j ≠ B + 1) ∧ a' = act x A c bx
/-- Behind the last round. -/
def AllE (Tl : World → Prop) (C : Nat → Prop) (B : Nat) (w : World) (p : Value) (g gl : Nat) (RS : List Rec) (EX : Int) (W : World) : Prop :=
  EX = 0 ∧ ∃ d F o, AllR Tl C B w W p d F g gl o RS
/-- A round has told an error. -/
def AllX (B : Nat) (w : World) (g : Nat) (RS : List Rec) (EX : Int) (cd : Code) (W : World) : Prop :=
  cd = .ret ∧ RS = [] ∧ W.heap[g]? = some (.cells #[.slice none 0 0] 40 (0, 0)) ∧ W.heap[g + 1]? = some (.cells #[.int .i64 EX] 34 (0, 0)) ∧ Below w.heap.size w W ∧ w.heap.size ≤ B ∧ g ≠ B + 1 ∧ g ≠ B ∧ g + 1 ≠ B
section
variable {Tl : World → Prop} {C : Nat → Prop} {B : Nat} {w W W1 : World} {p : Value} {g gl : Nat} {RS : List Rec} {EX : Int} {s s' : DS × (Nat → Prop)} {act : It → Option Addr → Nat → Nat → Act} {xs : Array Value} {a' : Act}
theorem AllI.put (hT : ∀ {X Y : World}, Tl X → (∀ j, C j → Y.heap[j]? = X.heap[j]?) → Tl Y) (h : AllI Tl C B w p g gl RS EX s W) (q : Obj) : AllI Tl C B w p g gl RS EX s (W.putObj (B + 1) q) := by
  obtain ⟨o, rs, h1, h2, h3⟩ := h
  exact ⟨o, rs, h1, h2, h3.put hT q⟩
theorem AllE.put (hT : ∀ {X Y : World}, Tl X → (∀ j, C j → Y.heap[j]? = X.heap[j]?) → Tl Y) (h : AllE Tl C B w p g gl RS EX W) (q : Obj) : AllE Tl C B w p g gl RS EX (W.putObj (B + 1) q) := by
  obtain ⟨e, d, F, o, h3⟩ := h
  exact ⟨e, d, F, o, h3.put hT q⟩
theorem AllH.put (hT : ∀ {X Y : World}, Tl X → (∀ j, C j → Y.heap[j]? = X.heap[j]?) → Tl Y) (h : AllH act Tl C B w p g gl RS EX s xs a' W) (q : Obj) : AllH act Tl C B w p g gl RS EX s xs a' (W.putObj (B + 1) q) := by
  obtain ⟨o, rs, x, A, c, bx, D, h1, h2, h3, h4, h5, h6, h7, h8⟩ := h
  exact ⟨o, rs, x, A, c, bx, D, h1, h2, h3.put hT q, (World.putObj_heap_other h5).trans h4, h5, h6.keep fun j hj => World.putObj_heap_other (h7 j hj).2, fun j hj => ⟨by simp [World.putObj]; exact (h7 j hj).1, (h7 j hj).2⟩, h8⟩
theorem AllX.put {cd : Code} (h : AllX B w g RS EX cd W) (hg : g + 1 ≠ B + 1) (q : Obj) : AllX B w g RS EX cd (W.putObj (B + 1) q) := by
  obtain ⟨h1, h2, h3, h4, h5, h6, h7, h8, h9⟩ := h
  exact ⟨h1, h2, (World.putObj_heap_other h7).trans h3, (World.putObj_heap_other hg).trans h4, below_put h5 (by omega) q, h6, h7, h8, h9⟩
theorem AllI.ok (h : AllI Tl C B w p g gl RS EX s W) : OkIt Tl C p s W := by
  obtain ⟨o, rs, h1, h2, h3⟩ := h
  exact ⟨h3.hd, h3.told, fun j hj => (h3.hC j hj).2⟩
theorem AllI.ended (hT : ∀ {X Y : World}, Tl X → (∀ j, C j → Y.heap[j]? = X.heap[j]?) → Tl Y) (h : AllI Tl C B w p g gl RS EX s W) (hh : EndIt p s W W1) : Keep2 B W W1 ∧ AllE Tl C B w p g gl RS EX W1 := by
  obtain ⟨o, rs, h1, h2, h3⟩ := h
  obtain ⟨e, F', hm⟩ := hh
  obtain ⟨q1, q2⟩ := h3.hand hT hm
  rw [e, allR] at h1
  injection h1 with e1 e2
  subst e1 e2
  exact ⟨q2, rfl, _, _, _, q1⟩
/-- The iterator has told an item. -/
theorem AllI.handed (hT : ∀ {X Y : World}, Tl X → (∀ j, C j → Y.heap[j]? = X.heap[j]?) → Tl Y) (h : AllI Tl C B w p g gl RS EX s W) (hh : HandIt p s W s' xs W1) :
    Keep2 B W W1 ∧ ∃ o rs x A c D, xs = #[.agg #[.int .i64 (x.skip : Int), .int .u8 (x.kind.toNat : Int), .slice A x.body.length c]] ∧ allR (x :: s'.1.items) rs = (RS, EX) ∧ FewA (x :: s'.1.items) rs ∧ AllR Tl C B w W1 p s'.1 s'.2 g gl o rs ∧
    LiesIn W1 D (.slice A x.body.length c) x.body ∧ ∀ j, D j → j < W1.heap.size ∧ j ≠ B + 1 := by
  obtain ⟨o, rs, h1, h2, h3⟩ := h
  obtain ⟨x, l, D, A, c, e1, e2, rfl, hm, hl, hD⟩ := hh
  obtain ⟨q1, q2⟩ := h3.hand hT hm
  rw [e1] at h1 h2
  have e3 : s'.1.items = l := by rw [e2]
  refine ⟨q2, o, rs, x, A, c, D, rfl, by rw [e3]; exact h1, by rw [e3]; exact h2, q1, hl, fun j hj => ⟨(hD j hj).2.1, ?_⟩⟩
  rcases (hD j hj).1 with f | f
  · exact (h3.far j (.inl f)).2
  · have := h3.big
    omega
end
theorem keep2_below {B : Nat} {W W1 : World} (h : Below W.heap.size W W1) (hB : B + 2 ≤ W.heap.size) : Keep2 B W W1 := fun j hj => h.block j (by omega)
/-- An error is told. -/
theorem AllR.tell {Tl : World → Prop} {C : Nat → Prop} {B : Nat} {w W : World} {p : Value} {d : DS} {F : Nat → Prop} {g gl : Nat} {o : Value} {rs : List Rec} (h : AllR Tl C B w W p d F g gl o rs) (e : Int) :
    Keep2 B W ((W.setCell ⟨g, 0, none⟩ (.slice none 0 0)).setCell ⟨g + 1, 0, none⟩ (.int .i64 e)) ∧ ((W.setCell ⟨g, 0, none⟩ (.slice none 0 0)).setCell ⟨g + 1, 0, none⟩ (.int .i64 e)).heap[g]? = some (.cells #[.slice none 0 0] 40 (0, 0)) ∧
    ((W.setCell ⟨g, 0, none⟩ (.slice none 0 0)).setCell ⟨g + 1, 0, none⟩ (.int .i64 e)).heap[g + 1]? = some (.cells #[.int .i64 e] 34 (0, 0)) ∧ Below w.heap.size w ((W.setCell ⟨g, 0, none⟩ (.slice none 0 0)).setCell ⟨g + 1, 0, none⟩ (.int .i64 e)) ∧ w.heap.size ≤ B ∧ g ≠ B + 1 ∧ g ≠ B ∧ g + 1 ≠ B := by
  have f1 := h.far g (.inr (.inr (.inl rfl)))
  have f2 := h.far (g + 1) (.inr (.inr (.inr (.inl rfl))))
  have hg := h.hg
  have k1 : (W.setCell ⟨g, 0, none⟩ (.slice none 0 0)).heap[g]? = some (.cells #[.slice none 0 0] 40 (0, 0)) := heap_set h.ha 0 (.slice none 0 0)
  have k2 : (W.setCell ⟨g, 0, none⟩ (.slice none 0 0)).heap[g + 1]? = some (.cells #[.int .i64 0] 34 (0, 0)) := (heap_far _ _ _ (by omega)).trans h.he
  exact ⟨fun j hj => (heap_far j 0 _ (by omega)).trans (heap_far j 0 _ (by omega)), (heap_far g 0 _ (by omega)).trans k1, heap_set k2 0 (.int .i64 e), (h.hb.setCell (p := ⟨g, 0, none⟩) (by show w.heap.size ≤ g; omega) _).setCell (p := ⟨g + 1, 0, none⟩) (by show w.heap.size ≤ g + 1; omega) _, h.low, f1.2, f1.1, f2.1⟩
/-- The list is told. -/
theorem AllR.said {Tl : World → Prop} {C : Nat → Prop} {B : Nat} {w W : World} {p : Value} {d : DS} {F : Nat → Prop} {g gl : Nat} {o : Value} {rs : List Rec} (h : AllR Tl C B w W p d F g gl o rs) :
    ((W.setCell ⟨g, 0, none⟩ o).setCell ⟨g + 1, 0, none⟩ (.int .i64 0)).heap[B]? = W.heap[B]? ∧ ((W.setCell ⟨g, 0, none⟩ o).setCell ⟨g + 1, 0, none⟩ (.int .i64 0)).heap[g]? = some (.cells #[o] 40 (0, 0)) ∧
    ((W.setCell ⟨g, 0, none⟩ o).setCell ⟨g + 1, 0, none⟩ (.int .i64 0)).heap[g + 1]? = some (.cells #[.int .i64 0] 34 (0, 0)) ∧ (OwnsR 24 ((W.setCell ⟨g, 0, none⟩ o).setCell ⟨g + 1, 0, none⟩ (.int .i64 0)) w.heap.size o rs ∧ Below w.heap.size w ((W.setCell ⟨g, 0, none⟩ o).setCell ⟨g + 1, 0, none⟩ (.int .i64 0)) ∧ w.heap.size ≤ B ∧ ∀ k, o.ownBlock = some k → k ≠ B) ∧ g ≠ B ∧ g + 1 ≠ B := by
  have f1 := h.far g (.inr (.inr (.inl rfl)))
  have f2 := h.far (g + 1) (.inr (.inr (.inr (.inl rfl))))
  have hg := h.hg
  have k1 : (W.setCell ⟨g, 0, none⟩ o).heap[g]? = some (.cells #[o] 40 (0, 0)) := heap_set h.ha 0 o
  have k2 : (W.setCell ⟨g, 0, none⟩ o).heap[g + 1]? = some (.cells #[.int .i64 0] 34 (0, 0)) := (heap_far _ _ _ (by omega)).trans h.he
  have far : ∀ k, k ≠ g → k ≠ g + 1 → ((W.setCell ⟨g, 0, none⟩ o).setCell ⟨g + 1, 0, none⟩ (.int .i64 0)).heap[k]? = W.heap[k]? := fun k h1 h2 => (heap_far k 0 _ h2).trans (heap_far k 0 _ h1)
  exact ⟨far B (by omega) (by omega), (heap_far g 0 _ (by omega)).trans k1, heap_set k2 0 (.int .i64 0), ⟨ownsRow_below h.ho fun k hk => far k (h.hob k hk).2.2.1 (h.hob k hk).2.2.2.1, (h.hb.setCell (p := ⟨g, 0, none⟩) (by show w.heap.size ≤ g; omega) _).setCell (p := ⟨g + 1, 0, none⟩) (by show w.heap.size ≤ g + 1; omega) _, h.low, fun k hk => (h.far k (.inr (.inr (.inr (.inr (.inr hk)))))).1⟩, f1.1, f2.1⟩
/-- What comes of an item. -/
theorem allR_skip {x : It} {l : List It} {rs RS : List Rec} {EX : Int} (h : allR (x :: l) rs = (RS, EX)) (hs : 0 < x.skip) : RS = [] ∧ EX = 11 := by
  rw [allR, if_pos hs] at h
  injection h with e1 e2
  exact ⟨e1.symm, e2.symm⟩
theorem allR_bad {x : It} {l : List It} {rs RS : List Rec} {EX e : Int} {r : Rec} (h : allR (x :: l) rs = (RS, EX)) (hs : ¬ 0 < x.skip) (ht : takeR x.kind.toNat x.body = (r, e)) (he : ¬ e = 0) : RS = [] ∧ EX = e := by
  rw [allR, if_neg hs, ht] at h
  dsimp only at h
  rw [if_neg he] at h
  injection h with e1 e2
  exact ⟨e1.symm, e2.symm⟩
theorem allR_good {x : It} {l : List It} {rs RS : List Rec} {EX : Int} {r : Rec} (h : allR (x :: l) rs = (RS, EX)) (hs : ¬ 0 < x.skip) (ht : takeR x.kind.toNat x.body = (r, 0)) : allR l (rs ++ [r]) = (RS, EX) := by
  rw [allR, if_neg hs, ht] at h
  dsimp only at h
  rw [if_pos rfl] at h
  exact h
theorem FewA.next {x : It} {l : List It} {rs : List Rec} {r : Rec} (h : FewA (x :: l) rs) : FewA l (rs ++ [r]) :=
  ⟨by have := h.1; simp at this ⊢; omega, fun y hy => h.2 y (List.mem_cons_of_mem _ hy)⟩

set_option maxRecDepth 100000 in
set_option maxHeartbeats 8000000 in
theorem call_core (W : World) (hT : Tabs W) (hS : Shaps W) (A : Option Addr) (c : Nat) (b : List UInt8) (w : World) (hW : Below W.heap.size W w) (hb : LiesB w w.heap.size (.slice A b.length c) b) (hl : b.length ≤ 100000) {RS : List Rec} {EX : Int} (hx : allR (allI b) [] = (RS, EX)) :
    Calls Tryd.prog 19 #[.slice A b.length c] w (AllDid7 RS EX w) := by
  have HT := Lib.hid (And.intro hT (And.intro hS hW))
  have HBY := Lib.hid hb
  have HL := Lib.hid hl
  have HD2 : Hid (∃ d2, endS (giveS newS b) = d2 ∧ d2.items = allI b ∧ d2.items.length ≤ 100000 ∧ ((giveS newS b).wait.length ≤ 100000 ∧ (giveS newS b).skip ≤ 100000 ∧ (giveS newS b).items.length ≤ 100000)) := Lib.hid (by
    have hsm := giveAll_small [b]
    have hen := end_all [b]
    have hal := all_len b
    have e1 : giveAll [b] = giveS newS b := rfl
    have e2 : lenB [b] = b.length := by simp [lenB]
    have e3 : [b].flatten = b := by simp
    rw [e1, e2] at hsm
    rw [e1, e3] at hen
    exact ⟨_, rfl, hen, by rw [hen]; omega, by omega, by omega, by omega⟩)
  obtain ⟨d2, hd2, hit, hln, hsm⟩ := HD2.out
  have HFEW : Hid (FewA d2.items []) := Lib.hid ⟨by simpa using hln, fun x hxm hsk => by rw [hit] at hxm; have := item_len7 b x hxm hsk; omega⟩
  have HX : Hid (allR d2.items [] = (RS, EX)) := Lib.hid (by rw [hit]; exact hx)
  obtain ⟨d1, hd1⟩ : ∃ d1, giveS newS b = d1 := ⟨_, rfl⟩
  rw [hd1] at hd2 hsm
  have HDD := Lib.hid (And.intro hd1 (And.intro hd2 hsm))
  clear hT hS hW hb hl hx HD2 hit hln hd1 hd2 hsm
  refine (callsIn_wide (n := 3)).1 (callsIn_of_wp_marks Tryd.func19 rfl trivial ((wpIn_wide (n := 3)).2 ?_))
  simp only [Tryd.ntmps19, List.size_toArray, List.length_cons, List.length_nil, Nat.reduceAdd, Nat.reduceSub, Array.replicate_succ, Array.replicate_zero, List.push_toArray, List.append_toArray, List.nil_append, List.cons_append]
  have HR0 : Hid (((w.alloc (.cells #[.slice none 0 0] 40)).alloc (.cells #[.int .i64 0] 34)).heap[w.heap.size]? = some (.cells #[.slice none 0 0] 40 (0, 0)) ∧ ((w.alloc (.cells #[.slice none 0 0] 40)).alloc (.cells #[.int .i64 0] 34)).heap[w.heap.size + 1]? = some (.cells #[.int .i64 0] 34 (0, 0)) ∧ Below w.heap.size w ((w.alloc (.cells #[.slice none 0 0] 40)).alloc (.cells #[.int .i64 0] 34)) ∧ w.heap.size + 2 ≤ ((w.alloc (.cells #[.slice none 0 0] 40)).alloc (.cells #[.int .i64 0] 34)).heap.size) := Lib.hid (two_blocks (Below.refl _ _))
  go_upto_region 1 with (fail)
  generalize (w.alloc (.cells #[.slice none 0 0] 40)).alloc (.cells #[.int .i64 0] 34) = w1 at HR0 ⊢
  have HBY1 := Lib.hid (HBY.out.keep fun k hk => HR0.out.2.2.1.block k hk)
  go_wp2_with fail
  refine (new_any w1).mono ?_
  rintro e w2 ⟨p, F0, rfl, hd, hF, hb2⟩
  have HP2 := Lib.hid (show Dec w2 p newS F0 ∧ (∀ k, F0 k → w1.heap.size ≤ k) ∧ Below w1.heap.size w1 w2 from ⟨hd, hF, hb2⟩)
  clear hd hF hb2
  have HC2 := Lib.hid (give_any W HT.out.1 p newS F0 A c b w2 (bstep (bstep HT.out.2.2 HR0.out.2.2.1) HP2.out.2.2) (fun k hk => Nat.le_trans (Nat.le_trans HT.out.2.2.size HR0.out.2.2.1.size) (HP2.out.2.1 k hk)) HP2.out.1 (fun k => k < w.heap.size) (HBY1.out.keep fun k hk => HP2.out.2.2.block k (Nat.lt_of_lt_of_le hk HR0.out.2.2.1.size)) (fun k hk => ⟨Nat.lt_of_lt_of_le hk (Nat.le_trans HR0.out.2.2.1.size HP2.out.2.2.size), fun f => Nat.lt_irrefl _ (Nat.lt_of_lt_of_le hk (Nat.le_trans HR0.out.2.2.1.size (HP2.out.2.1 k f)))⟩) ⟨by have := HL.out; have e : newS.wait.length = 0 := rfl; omega, by decide, by decide⟩)
  rw [HDD.out.1] at HC2
  go_wp2_with fail
  refine HC2.out.mono ?_
  rintro e w3 ⟨F1, rfl, hm⟩
  have HP3 := Lib.hid (show Dec w3 p d1 F1 ∧ (∀ k, F1 k → w1.heap.size ≤ k) ∧ Below w1.heap.size w1 w3 from ⟨hm.1, fun k hk => (hm.2.2 k hk).elim (HP2.out.2.1 k) (fun q => Nat.le_trans HP2.out.2.2.size q), HP2.out.2.2.trans (hm.2.1.below HP2.out.2.1 HP2.out.2.2.size)⟩)
  clear hm HC2
  have HC3 := Lib.hid (fend_any W HT.out.1 p d1 F1 w3 (bstep (bstep HT.out.2.2 HR0.out.2.2.1) HP3.out.2.2) (fun k hk => Nat.le_trans (Nat.le_trans HT.out.2.2.size HR0.out.2.2.1.size) (HP3.out.2.1 k hk)) HP3.out.1 HDD.out.2.2)
  rw [HDD.out.2.1] at HC3
  go_wp2_with fail
  refine HC3.out.mono ?_
  rintro e w4 ⟨F2, rfl, hm⟩
  have HP4 := Lib.hid (show Dec w4 p d2 F2 ∧ (∀ k, F2 k → w1.heap.size ≤ k) ∧ Below w1.heap.size w1 w4 from ⟨hm.1, fun k hk => (hm.2.2 k hk).elim (HP3.out.2.1 k) (fun q => Nat.le_trans HP3.out.2.2.size q), HP3.out.2.2.trans (hm.2.1.below HP3.out.2.1 HP3.out.2.2.size)⟩)
  clear hm HC3 HP2 HP3
  have HB5 := Lib.hid (bmore (bself w4) (.cells #[.slice none 0 0] 40))
  have HL5 := Lib.hid (heap_alloc_new w4 (.cells #[.slice none 0 0] 40))
  go_upto_region 5 with (fail)
  generalize w4.alloc (.cells #[.slice none 0 0] 40) = w5 at HB5 HL5 ⊢
  obtain ⟨gl, hgl⟩ : ∃ gl, w4.heap.size = gl := ⟨_, rfl⟩
  rw [hgl] at HL5 ⊢
  have HGL := Lib.hid hgl
  clear hgl
  have HC7 := Lib.hid (items_any p d2 F2 w5 (HP4.out.1.keep fun k hk => HB5.out.block k (HP4.out.1.old k hk)))
  go_wp2_with fail
  refine HC7.out.mono ?_
  rintro e w8 ⟨lb, C, rfl, hto, hC, hb8⟩
  obtain ⟨g, hg⟩ : ∃ g, w.heap.size = g := ⟨_, rfl⟩
  have HI := Lib.hid (show ∀ r, AllI (Told p lb C) C w8.heap.size w p g gl RS EX (d2, F2) ((w8.alloc (.deferred (some []))).alloc (.loop r)) from by
    intro r
    have hbl := bmore (bmore (bself w8) (.deferred (some []))) (.loop r)
    have hsz : ((w8.alloc (.deferred (some []))).alloc (.loop r)).heap.size = w8.heap.size + 2 := by simp
    have hb1 := HP4.out.2.2
    have s1 := HR0.out.2.2.2
    have s4 := hb1.size
    have s5 := HB5.out.size
    have s8 := hb8.size
    have hgl := HGL.out
    have hall : Below w1.heap.size w1 ((w8.alloc (.deferred (some []))).alloc (.loop r)) := bstep (bstep (bstep hb1 HB5.out) hb8) hbl
    have l5 := heap_lt HL5.out
    have hold : ∀ k, F2 k → k < w4.heap.size := fun k hk => HP4.out.1.old k hk
    have hge : ∀ k, F2 k → w1.heap.size ≤ k := HP4.out.2.1
    refine ⟨.slice none 0 0, [], HX.out, HFEW.out, hg.symm, (HP4.out.1.keep fun k hk => HB5.out.block k (hold k hk)).keep fun k hk => ?_, fun j hj => ?_, hto.keep fun j hj => hbl.block j (hC j hj).2, fun j hj => ⟨by have := (hC j hj).1; omega, by have := (hC j hj).2; omega, fun f => by have := (hC j hj).1; have := hold j f; omega⟩,
      by rw [← hg]; exact (hall.block _ (by omega)).trans HR0.out.1, by rw [← hg]; exact (hall.block _ (by omega)).trans HR0.out.2.1, (hbl.block _ (by omega)).trans ((hb8.block _ l5).trans HL5.out), World.ownsRow_nil _ _ _ _,
      ⟨fun f => by have := hge _ f; omega, fun f => by have := hge _ f; omega, fun f => by have := hold _ f; omega, fun f => by have := (hC _ f).1; omega, fun f => by have := (hC _ f).1; omega, fun f => by have := (hC _ f).1; omega⟩, by omega, fun j hj => by simp [Value.ownBlock] at hj, fun j hj => ?_, HR0.out.2.2.1.trans (hall.mono (by omega)), by omega, by omega⟩
    · exact (hbl.block k (by have := hold k hk; omega)).trans (hb8.block k (by have := hold k hk; omega))
    · have := hge j hj; omega
    · rcases hj with hj | hj | rfl | rfl | rfl | hj
      · have := hold j hj; omega
      · have := (hC j hj).2; omega
      · omega
      · omega
      · omega
      · simp [Value.ownBlock] at hj)
  have HG := Lib.hid (And.intro hg (show g + 1 ≠ w8.heap.size + 1 by have s1 := HR0.out.2.2.2; have s4 := HP4.out.2.2.size; have s5 := HB5.out.size; have s8 := hb8.size; omega))
  rw [hg]
  clear hto hC hb8 hg HC7
  go_wp2_with fail
  refine' wp_rangeFunc_hands (w := w8) (gf := 67) (lb := lb) rfl (enters_of Tryd.func67 (by kernel_rfl) rfl) (items_hands p lb C)
    (AllI (Told p lb C) C w8.heap.size w p g gl RS EX) (AllH _ (Told p lb C) C w8.heap.size w p g gl RS EX) (AllE (Told p lb C) C w8.heap.size w p g gl RS EX) (AllX w8.heap.size w g RS EX) (d2, F2) HI.out
    (fun s W' q h => h.put (@Told.keep p lb C) q) (fun s xs a' W' q h => h.put (@Told.keep p lb C) q) (fun W' q h => h.put (@Told.keep p lb C) q) (fun cd W' q h => h.put HG.out.2 q) (fun s W' h => h.ok) (fun s W' s' xs W1 h hh => ?hand) (fun s W' W1 h hh => h.ended (@Told.keep p lb C) hh) ?assign ?body ?done ?stop
  case hand =>
    obtain ⟨k2, o, rs, x, A9, c9, D, rfl, _⟩ := h.handed (@Told.keep p lb C) hh
    exact ⟨rfl, k2⟩
  case assign =>
    intro l s W0 s' xs W1 hI hH hbig
    obtain ⟨_, o, rs, x, A9, c9, D, rfl, h1, h2, h3, h4, h5⟩ := hI.handed (@Told.keep p lb C) hH
    obtain ⟨bx, hbx⟩ : ∃ bx, W1.heap.size = bx := ⟨_, rfl⟩
    obtain ⟨W2, hW2⟩ : ∃ W2, W1.alloc (.cells #[.int .i64 (x.skip : Int), .int .u8 (x.kind.toNat : Int), .slice A9 x.body.length c9] 92) = W2 := ⟨_, rfl⟩
    have hb := bmore (bself W1) (.cells #[.int .i64 (x.skip : Int), .int .u8 (x.kind.toNat : Int), .slice A9 x.body.length c9] 92)
    have hx := heap_alloc_new W1 (.cells #[.int .i64 (x.skip : Int), .int .u8 (x.kind.toNat : Int), .slice A9 x.body.length c9] 92)
    rw [hW2] at hb hx
    rw [hbx] at hx
    have HH := Lib.hid (And.intro (show Keep2 w8.heap.size W1 W2 from fun j hj => hb.block j (by omega)) (And.intro (h3.over (@Told.keep p lb C) hb) (And.intro hx (And.intro (h4.keep fun j hj => hb.block j (h5 j hj).1) (show ∀ j, D j → j < W2.heap.size ∧ j ≠ w8.heap.size + 1 from fun j hj => ⟨Nat.lt_of_lt_of_le (h5 j hj).1 hb.size, (h5 j hj).2⟩)))))
    have HBX := Lib.hid (show bx ≠ w8.heap.size + 1 by omega)
    have HA := Lib.hid (And.intro h1 h2)
    clear hb hx h1 h2 h3 h4 h5 hI hH hbig
    gi_wp2
    exact ⟨HH.out.1, o, rs, x, A9, c9, bx, D, HA.out.1, HA.out.2, HH.out.2.1, HH.out.2.2.1, HBX.out, HH.out.2.2.2.1, HH.out.2.2.2.2, rfl⟩
  case body =>
    rintro l s' xs a' W2 ⟨r0, hr0⟩ ⟨o, rs, x, A9, c9, bx, D, h1, h2, h3, h4, h5, h6, h7, rfl⟩ hbig
    have HS := Lib.hid h3
    have HA := Lib.hid (And.intro h1 (And.intro h2 (And.intro h6 (And.intro h7 hbig))))
    obtain ⟨x0, x1, x2, _, _, _⟩ := blk3 h4
    have q0 := heap_cell h3.ha 0
    have q1 := heap_cell h3.he 0
    have q2 := heap_cell h3.hl 0
    have z0 := heap_frozen h3.ha 0
    have z1 := heap_frozen h3.he 0
    have z2 := heap_frozen h3.hl 0
    have HX4 := Lib.hid h4
    have HRR := Lib.hid hr0
    clear h1 h2 h3 h4 h5 h6 h7 hbig hr0
    by_cases hsk : 0 < x.skip
    · have hsk2 : (0 : Int) < (x.skip : Int) := by omega
      have HE := Lib.hid (allR_skip HA.out.1 hsk)
      clear x1 x2 q2 z2
      gi_wp2
      have HQ := HS.out.tell 11
      exact ⟨HQ.1, rfl, HE.out.1, HQ.2.1, by rw [HE.out.2]; exact HQ.2.2.1, HQ.2.2.2⟩
    · have hsk2 : ¬ (0 : Int) < (x.skip : Int) := by omega
      obtain ⟨r, er, htk⟩ : ∃ r er, takeR x.kind.toNat x.body = (r, er) := ⟨_, _, rfl⟩
      have HBD : Hid (LiesB W2 W2.heap.size (.slice A9 x.body.length c9) x.body) := Lib.hid (HA.out.2.2.1.below fun j hj => (HA.out.2.2.2.1 j hj).1)
      have HTK := Lib.hid (ctake7_of W HT.out.2.1 x.kind.toNat _ x.body W2 (HT.out.2.2.trans (HS.out.hb.mono HT.out.2.2.size)) HBD.out (HA.out.2.1.2 x (by simp) hsk) htk)
      gi_upto_region 10 with (refine ⟨trivial, ?_⟩; gi_at_call 17; (with_reducible refine (CallsIn.inRound l (callsIn_wide.2 HTK.out)).mono ?_); rintro e w3 ⟨rfl, hb3⟩; have HB3 := Lib.hid hb3; have HS3 := Lib.hid (HS.out.over (@Told.keep p lb C) hb3); clear hb3 x0 x1 x2 q0 q1 q2 z0 z1 z2)
      have HB4 : Hid (Below W2.heap.size W2 (w3.alloc (.cells #[.int .u8 (r.kind : Int), .int .i64 r.src, .int .u64 (r.seq : Int), .int .i64 r.at_, .int .i64 r.num, .int .i64 r.code, .bool r.yes, .string (mkB r.text)] 24))) := Lib.hid (bmore HB3.out _)
      have HS4 := Lib.hid (HS3.out.over (@Told.keep p lb C) (bmore (bself w3) (.cells #[.int .u8 (r.kind : Int), .int .i64 r.src, .int .u64 (r.seq : Int), .int .i64 r.at_, .int .i64 r.num, .int .i64 r.code, .bool r.yes, .string (mkB r.text)] 24)))
      have HR4 : Hid ((w3.alloc (.cells #[.int .u8 (r.kind : Int), .int .i64 r.src, .int .u64 (r.seq : Int), .int .i64 r.at_, .int .i64 r.num, .int .i64 r.code, .bool r.yes, .string (mkB r.text)] 24)).heap[w3.heap.size]? = some (recB r 24)) := Lib.hid (heap_alloc_new w3 _)
      generalize w3.alloc (.cells #[.int .u8 (r.kind : Int), .int .i64 r.src, .int .u64 (r.seq : Int), .int .i64 r.at_, .int .i64 r.num, .int .i64 r.code, .bool r.yes, .string (mkB r.text)] 24) = w4 at HB4 HS4 HR4 ⊢
      generalize w3.heap.size = br at HR4 ⊢
      have q0 := heap_cell HS4.out.ha 0
      have q1 := heap_cell HS4.out.he 0
      have q2 := heap_cell HS4.out.hl 0
      have z0 := heap_frozen HS4.out.ha 0
      have z1 := heap_frozen HS4.out.he 0
      obtain ⟨m0, m1, m2, m3, m4, m5, m6, m7⟩ := recAt_blk HR4.out
      by_cases her : er = 0
      · subst her
        have HN := Lib.hid (allR_good HA.out.1 hsk htk)
        obtain ⟨A3, n3, c3, rfl⟩ := own_slice HS4.out.ho
        clear hsk htk
        gi_wp2_with (gi_at_builtin; refine wpListIn_app_seq rfl (.tmp 34) (.tmp 36) 40 24 _ 8 72 Tryd.underlying40 info_R7 rfl (by omega) rfl w.heap.size (.slice A3 n3 c3) (.slice (some ⟨w4.heap.size, 0, none⟩) 1 1) rs.length 1 (recC rs) (recc r) rfl rfl (ownsRow_over HS4.out.ho (bmore (bself w4) _)) (Seq.lit_ w4 [.int .u8 (r.kind : Int), .int .i64 r.src, .int .u64 (r.seq : Int), .int .i64 r.at_, .int .i64 r.num, .int .i64 r.code, .bool r.yes, .string (mkB r.text)] _) (recc_one r) (by have := HA.out.2.1.1; simp at this; omega) (Nat.le_trans HS4.out.hb.size (by simp)) ?_; intro o1 w5 hg; obtain ⟨A5, n5, c5, rfl⟩ := own_slice hg.1; have HGR := Lib.hid hg; clear hg q0 q1 q2 z0 z1 m0 m1 m2 m3 m4 m5 m6 m7; have hw5 := (HGR.out.2.1.block gl (by have := heap_lt HS4.out.hl; simp; omega) (fun e => (HS4.out.hob _ e.symm).2.2.2.2 rfl)).trans ((Below.heap_alloc w4 _ _ (heap_lt HS4.out.hl)).trans HS4.out.hl); have b0 : w5.cell? ⟨gl, 0, none⟩ = some (.slice A3 n3 c3) := by { rw [heap_cell hw5]; rfl }; have b1 := heap_frozen hw5 0; clear hw5)
        have HQ := HS4.out.push (@Told.keep p lb C) (r := r) HGR.out
        exact ⟨(keep2_below HB4.out (by have := HS.out.big; omega)).trans HQ.2, _, _, HN.out, HA.out.2.1.next, HQ.1⟩
      · have HE := Lib.hid (allR_bad HA.out.1 hsk htk her)
        have herb : (er != 0) = true := by simp [her]
        clear hsk htk her q2 m0 m1 m2 m3 m4 m5 m6 m7
        gi_wp2
        have HQ := HS4.out.tell er
        exact ⟨(keep2_below HB4.out (by have := HS.out.big; omega)).trans HQ.1, rfl, HE.out.1, HQ.2.1, by rw [HE.out.2]; exact HQ.2.2.1, HQ.2.2.2⟩
  case done =>
    rintro W' ⟨hex, d, F', o, hat⟩ hdef
    dsimp only
    have HAT := Lib.hid hat
    have HDF := Lib.hid hdef
    have q0 := heap_cell hat.ha 0
    have q1 := heap_cell hat.he 0
    have q2 := heap_cell hat.hl 0
    have z0 := heap_frozen hat.ha 0
    have z1 := heap_frozen hat.he 0
    obtain ⟨A3, n3, c3, rfl⟩ := own_slice hat.ho
    clear hat hdef
    go_wp2
    have hQ := HAT.out.said
    generalize (W'.setCell { block := g, off := 0 } (Value.slice A3 n3 c3)).setCell { block := g + 1, off := 0 } (Value.int IntKind.i64 0) = W9 at hQ ⊢
    have hz : ∀ q, (W9.putObj w8.heap.size q).cell? ⟨g, 0, none⟩ = some (.slice A3 n3 c3) ∧ (W9.putObj w8.heap.size q).cell? ⟨g + 1, 0, none⟩ = some (.int .i64 0) := fun q => ⟨heap_cell ((World.putObj_heap_other hQ.2.2.2.2.1).trans hQ.2.1) 0, heap_cell ((World.putObj_heap_other hQ.2.2.2.2.2).trans hQ.2.2.1) 0⟩
    refine ⟨by simp, .inl ⟨_, _, rfl, run_takeDeferred (hQ.1.trans HDF.out), ?_⟩⟩
    obtain ⟨c0, c1⟩ := hz (.deferred none)
    clear q0 q1 q2 z0 z1 hz
    have hb9 : ∀ k, (Value.slice A3 n3 c3).ownBlock = some k → (W9.putObj w8.heap.size (.deferred none)).heap[k]? = W9.heap[k]? := fun k hk => World.putObj_heap_other (hQ.2.2.2.1.2.2.2 k hk)
    have ho : OwnsR 24 (W9.putObj w8.heap.size (.deferred none)) w.heap.size (.slice A3 n3 c3) RS := ownsRow_below hQ.2.2.2.1.1 hb9
    have hs : SeqR (W9.putObj w8.heap.size (.deferred none)) (W9.putObj w8.heap.size (.deferred none)).heap.size (.slice A3 n3 c3) RS := Seq.own ho
    obtain ⟨A', c', e', _⟩ := hs.open_
    simp only [Value.slice.injEq] at e'
    obtain ⟨rfl, rfl, rfl⟩ := e'
    exact ⟨.tuple #[.slice A3 RS.length c3, .int .i64 0], by simp [results, Tryd.results19, go_sem, c0, c1], A3, c3, by rw [hex], hs, below_put hQ.2.2.2.1.2.1 hQ.2.2.2.1.2.2.1 _⟩
  case stop =>
    rintro cd W' ⟨rfl, h2, h3, h4, h5, h6, h7, h8, h9⟩ hdef
    dsimp only
    go_wp2
    have hz : ∀ q, (W'.putObj w8.heap.size q).cell? ⟨g, 0, none⟩ = some (.slice none 0 0) ∧ (W'.putObj w8.heap.size q).cell? ⟨g + 1, 0, none⟩ = some (.int .i64 EX) := fun q => ⟨heap_cell ((World.putObj_heap_other h8).trans h3) 0, heap_cell ((World.putObj_heap_other h9).trans h4) 0⟩
    refine ⟨by simp, .inl ⟨_, _, rfl, run_takeDeferred hdef, ?_⟩⟩
    obtain ⟨c0, c1⟩ := hz (.deferred none)
    clear hz
    rw [h2]
    exact ⟨.tuple #[.slice none 0 0, .int .i64 EX], by simp [results, Tryd.results19, go_sem, c0, c1], none, 0, rfl, ⟨rfl, .inl ⟨rfl, rfl⟩⟩, below_put h5 h6 _⟩
end Go.Proofs.YthnkiabhfcddaaaDoor
