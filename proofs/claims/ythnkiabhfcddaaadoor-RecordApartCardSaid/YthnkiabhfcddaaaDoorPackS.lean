/-
  Texts of the proofs, put together: Items, RecAllKit.
-/
import Derived.Test.YthnkiabhfcddaaaDoorGot
import Derived.Shelf.Abstract
import Derived.Shelf.RegionOpen
import Derived.TacticsInMore
import Derived.LoopIn
import Derived.Test.YthnkiabhfcddaaaDoorRecTake
import Derived.Test.YthnkiabhfcddaaaDoorPackO
/-
  Contract of the decoder's iterator.
-/
namespace Go.Proofs.YthnkiabhfcddaaaDoor
open Go.RowKit
attribute [local go_sem] Oper.semAt_some
set_option linter.unusedVariables false

/-- The function value that Items answers, with the captured values lb; its own cells are those of the blocks C. -/
def Told (p : Value) (lb : Array Value) (C : Nat → Prop) (W : World) : Prop := ∃ cb, lb = #[.pointer (some ⟨cb, 0, none⟩)] ∧ W.heap[cb]? = some (.cells #[p] 83 (0, 0)) ∧ C cb
theorem Told.keep {p : Value} {lb : Array Value} {C : Nat → Prop} {X Y : World} (h : Told p lb C X) (hb : ∀ j, C j → Y.heap[j]? = X.heap[j]?) : Told p lb C Y := by
  obtain ⟨cb, e, h1, h2⟩ := h
  exact ⟨cb, e, (hb cb h2).trans h1, h2⟩
set_option maxRecDepth 100000 in
theorem items_any (p : Value) (d : DS) (F : Nat → Prop) (w : World) (hd : Dec w p d F) : Calls Tryd.prog 46 #[p] w fun e w' => ∃ lb C, e = .returned (.func (.func 67) #[] lb) ∧ Told p lb C w' ∧ (∀ j, C j → w.heap.size ≤ j ∧ j < w'.heap.size) ∧ Below w.heap.size w w' := by
  obtain ⟨g, hv, iv, bs, rfl, hd⟩ := hd
  clear hd
  go_enter Tryd.func46, Tryd.ntmps46
  go_wp2
  go_ret
  exact ⟨_, fun j => j = w.heap.size, rfl, ⟨w.heap.size, rfl, heap_alloc_new w _, rfl⟩, fun j hj => by subst hj; simp, bmore (bself w) _⟩
/-- How many items are left. -/
def leftOf (p : Value) (w : World) : Nat := match p with
  | .pointer (some a) => match w.cell? ⟨a.block, 2, none⟩ with
    | some (.slice _ n _) => n
    | _ => 0
  | _ => 0
theorem Dec.left {w : World} {p : Value} {d : DS} {F : Nat → Prop} (h : Dec w p d F) : leftOf p w = d.items.length := by
  obtain ⟨g, hv, iv, bs, rfl, h⟩ := h
  obtain ⟨A, c, rfl, _⟩ := h.box.hi.open_
  unfold leftOf
  simp only [h.box.blk.c2]
theorem run_equalIn_func_nil (w : World) (d : Nat) (t : TypeId) (ps rs : Array TypeId) (vd : Bool) (f : Fn) (a b : Array Value) (h : Tryd.prog.underlying t = some (.func ps rs vd)) : (Op.equalIn (d + 1) t (.func f a b) .nilFunc).run Tryd.prog w = .ok false w := by
  simp [Op.equalIn, run_underlying h]
theorem run_equal_func_nil (w : World) (t : TypeId) (ps rs : Array TypeId) (vd : Bool) (f : Fn) (a b : Array Value) (h : Tryd.prog.underlying t = some (.func ps rs vd)) : (Op.equal t (.func f a b) .nilFunc).run Tryd.prog w = .ok false w := run_equalIn_func_nil w 9999 t ps rs vd f a b h
theorem run_neq_func_nil (w : World) (t : TypeId) (ps rs : Array TypeId) (vd : Bool) (f : Fn) (a b : Array Value) (h : Tryd.prog.underlying t = some (.func ps rs vd)) : (binOp .neq t (.func f a b) .nilFunc).run Tryd.prog w = .ok (.bool true) w := by
  simp [binOp, run_equal_func_nil w t ps rs vd f a b h]
theorem next_end {p : Value} {d : DS} {F : Nat → Prop} {w : World} (hd : Dec w p d F) (hi : d.items = []) : Calls Tryd.prog 68 #[p] w fun e w' => ∃ F' A c, e = .returned (.tuple #[.agg #[.int .i64 0, .int .u8 0, .slice A 0 c], .bool false]) ∧ Moved w p d F w' F' := by
  have e1 : nextS d = (d, noIt, false) := by unfold nextS; rw [hi]
  refine (next_any p d F w hd).mono fun e w' h => ?_
  obtain ⟨F', D, A, c, rfl, hm, _⟩ := h
  rw [e1] at hm
  refine ⟨F', A, c, ?_, hm⟩
  rw [e1]
  rfl
theorem next_give {p : Value} {d : DS} {F : Nat → Prop} {w : World} (hd : Dec w p d F) {x : It} {l : List It} (hi : d.items = x :: l) : Calls Tryd.prog 68 #[p] w fun e w' => ∃ F' D A c, e = .returned (.tuple #[.agg #[.int .i64 (x.skip : Int), .int .u8 (x.kind.toNat : Int), .slice A x.body.length c], .bool true]) ∧ Moved w p { d with items := l } F w' F' ∧ LiesIn w' D (.slice A x.body.length c) x.body ∧ ∀ k, D k → (F k ∨ w.heap.size ≤ k) ∧ k < w'.heap.size ∧ ¬ F' k := by
  have e1 : nextS d = ({ d with items := l }, x, true) := by unfold nextS; rw [hi]
  refine (next_any p d F w hd).mono fun e w' h => ?_
  obtain ⟨F', D, A, c, rfl, hm, hl, hD⟩ := h
  rw [e1] at hm hl
  refine ⟨F', D, A, c, ?_, hm, hl, hD⟩
  rw [e1]
theorem moved_over {w w1 w2 : World} {p : Value} {d : DS} {F F' : Nat → Prop} (h : Moved w p d F w1 F') (hb : Below w1.heap.size w1 w2) : Moved w p d F w2 F' :=
  ⟨h.1.keep fun k hk => hb.block k (h.1.old k hk), h.2.1.trans (Touch.of_below (F := fun _ => False) hb) (fun k hk => hk.elim), h.2.2⟩
theorem hand_over {w w1 : World} {p : Value} {s : DS × (Nat → Prop)} {x : It} {ls : List It} {F' D : Nat → Prop} {A : Option Addr} {c : Nat} (hi : s.1.items = x :: ls) (h : Moved w p { s.1 with items := ls } s.2 w1 F' ∧ LiesIn w1 D (.slice A x.body.length c) x.body ∧ ∀ k, D k → (s.2 k ∨ w.heap.size ≤ k) ∧ k < w1.heap.size ∧ ¬ F' k) {o : Obj} :
    HandIt p s w ({ s.1 with items := ls }, F') #[.agg #[.int .i64 (x.skip : Int), .int .u8 (x.kind.toNat : Int), .slice A x.body.length c]] (w1.alloc o) := by
  obtain ⟨h1, h2, h3⟩ := h
  have hb := bmore (bself w1) o
  exact ⟨x, ls, D, A, c, hi, rfl, rfl, moved_over h1 hb, h2.keep fun k hk => hb.block k (h3 k hk).2.1, fun k hk => ⟨(h3 k hk).1, Nat.lt_of_lt_of_le (h3 k hk).2.1 hb.size, (h3 k hk).2.2⟩⟩
set_option maxRecDepth 100000 in
theorem items_hands (p : Value) (lb : Array Value) (C : Nat → Prop) : Hands Tryd.prog 67 lb (OkIt (Told p lb C) C p) (HandIt p) (EndIt p) := by
  intro l J Je Jx hOk hY hE s W h0
  obtain ⟨cb, rfl, -, -⟩ := (hOk s W h0).2.1
  have HO := Lib.hid hOk
  have HY := Lib.hid hY
  have HE := Lib.hid hE
  clear hOk hY hE
  refine callsIn_of_wp Tryd.func67 rfl trivial ?_ rfl
  simp only [Tryd.ntmps67, List.size_toArray, List.length_cons, List.length_nil, Nat.reduceAdd, Nat.reduceSub, Array.replicate_succ, Array.replicate_zero, List.push_toArray, List.append_toArray, List.nil_append, List.cons_append]
  gi_wp2
  gi_loopw [] (fun wr => ∃ s, J s wr) (fun wr => leftOf p wr)
  case atStart => exact ⟨s, h0⟩
  case round =>
    obtain ⟨s, hJ⟩ := hrel
    obtain ⟨hd, ⟨cb2, e, hcb, -⟩, -⟩ := HO.out s wr hJ
    simp only [Array.mk.injEq, List.cons.injEq, Value.pointer.injEq, Option.some.injEq, Addr.mk.injEq, and_true] at e
    subst e
    have hb : wr.cell? ⟨cb, 0, none⟩ = some p := (heap_cell hcb 0).trans rfl
    have hq := run_neq_func_nil wr 123 _ _ _ (.yield l) #[] #[] Tryd.underlying123
    clear hcb
    cases hit : s.1.items with
    | nil =>
      have HN := Lib.hid (next_end hd hit)
      have HI := Lib.hid hit
      clear hd hit
      gi_wp2_with (refine ⟨trivial, ?_⟩; gi_at_call 68; (with_reducible refine (callsIn_wide.2 HN.out).mono ?_); rintro e w1 ⟨F', A, c, rfl, hm⟩; have HM := Lib.hid hm; clear hm)
      refine ⟨fun f h => (by cases h), ?_⟩
      gi_wp2
      refine bodyPost_ret (results_none rfl _ _ _) rfl ?_
      exact ⟨⟨_, rfl⟩, .inl (HE.out s wr _ hJ ⟨HI.out, F', moved_over HM.out (bmore (bself w1) _)⟩)⟩
    | cons x ls =>
      have HN := Lib.hid (next_give hd hit)
      have HI := Lib.hid hit
      clear hd hit
      gi_wp2_with (refine ⟨trivial, ?_⟩; gi_at_call 68; (with_reducible refine (callsIn_wide.2 HN.out).mono ?_); rintro e w1 ⟨F', D, A, c, rfl, hm, hl, hD⟩; have HM := Lib.hid (And.intro hm (And.intro hl hD)); clear hm hl hD; obtain ⟨fn, tmps, assign, body, hy, hR⟩ := HY.out s wr ({ s.1 with items := ls }, F') _ (w1.alloc (.cells #[.int .i64 (x.skip : Int), .int .u8 (x.kind.toNat : Int), .slice A x.body.length c] 92)) hJ (hand_over HI.out HM.out))
      refine hR.mono ?_
      rintro e W' (⟨rfl, hJ'⟩ | ⟨rfl, hJx⟩)
      · gi_wp2
        go_roundw
        case rel => exact ⟨_, hJ'⟩
        case measure =>
          rw [(HO.out _ _ hJ').1.left, (HO.out s wr hJ).1.left, HI.out]
          simp
      · gi_wp2
        refine bodyPost_ret (results_none rfl _ _ _) rfl ?_
        exact ⟨⟨_, rfl⟩, .inr hJx⟩
end Go.Proofs.YthnkiabhfcddaaaDoor
/-
  Layer 7, the landed code: where All's loop over the decoder's iterator stands.
-/
namespace Go.Proofs.YthnkiabhfcddaaaDoor
open Go.RowKit
set_option linter.unusedVariables false

theorem info_R7 : (Tryd.prog.info? 24).map (fun i => (i.zero, i.size, i.bytes)) = some (some (.agg #[.int .u8 0, .int .i64 0, .int .u64 0, .int .i64 0, .int .i64 0, .int .i64 0, .bool false, .string ByteArray.empty]), 8, 72) := by kernel_rfl
/-- The blocks that All's loop leans on: the decoder's, the iterator's, the answer's two, the list's box, the list. -/
def FootA (F C : Nat → Prop) (g gl : Nat) (o : Value) (j : Nat) : Prop := F j ∨ C j ∨ j = g ∨ j = g + 1 ∨ j = gl ∨ o.ownBlock = some j
structure AllR (Tl : World → Prop) (C : Nat → Prop) (B : Nat) (w W : World) (p : Value) (d : DS) (F : Nat → Prop) (g gl : Nat) (o : Value) (rs : List Rec) : Prop where
  hg : g = w.heap.size
  hd : Dec W p d F
  hF : ∀ j, F j → w.heap.size ≤ j
  told : Tl W
  hC : ∀ j, C j → w.heap.size ≤ j ∧ j < W.heap.size ∧ ¬ F j
  ha : W.heap[g]? = some (.cells #[.slice none 0 0] 40 (0, 0))
  he : W.heap[g + 1]? = some (.cells #[.int .i64 0] 34 (0, 0))
  hl : W.heap[gl]? = some (.cells #[o] 40 (0, 0))
  ho : OwnsR 24 W w.heap.size o rs
  nF : ¬ F g ∧ ¬ F (g + 1) ∧ ¬ F gl ∧ ¬ C g ∧ ¬ C (g + 1) ∧ ¬ C gl
  ne : g + 1 < gl
  hob : ∀ j, o.ownBlock = some j → ¬ F j ∧ ¬ C j ∧ j ≠ g ∧ j ≠ g + 1 ∧ j ≠ gl
  far : ∀ j, FootA F C g gl o j → j ≠ B ∧ j ≠ B + 1
  hb : Below w.heap.size w W
  big : B + 2 ≤ W.heap.size
  low : w.heap.size ≤ B
section
variable {Tl : World → Prop} {C : Nat → Prop} {B : Nat} {w W W1 : World} {p : Value} {d : DS} {F : Nat → Prop} {g gl : Nat} {o : Value} {rs : List Rec}
theorem AllR.lt (h : AllR Tl C B w W p d F g gl o rs) {j : Nat} (hj : FootA F C g gl o j) : j < W.heap.size := by
  rcases hj with hj | hj | rfl | rfl | rfl | hj
  · exact h.hd.old j hj
  · exact (h.hC j hj).2.1
  · exact heap_lt h.ha
  · exact heap_lt h.he
  · exact heap_lt h.hl
  · exact (ownsRow_old h.ho j hj).2
theorem AllR.keep (h : AllR Tl C B w W p d F g gl o rs) (hT : ∀ {X Y : World}, Tl X → (∀ j, C j → Y.heap[j]? = X.heap[j]?) → Tl Y) (hb : ∀ j, FootA F C g gl o j → W1.heap[j]? = W.heap[j]?) (hB : Below w.heap.size w W1) (hsz : W.heap.size ≤ W1.heap.size) : AllR Tl C B w W1 p d F g gl o rs :=
  ⟨h.hg, h.hd.keep fun k hk => hb k (.inl hk), h.hF, hT h.told fun j hj => hb j (.inr (.inl hj)), fun j hj => ⟨(h.hC j hj).1, Nat.lt_of_lt_of_le (h.hC j hj).2.1 hsz, (h.hC j hj).2.2⟩,
    (hb _ (.inr (.inr (.inl rfl)))).trans h.ha, (hb _ (.inr (.inr (.inr (.inl rfl))))).trans h.he, (hb _ (.inr (.inr (.inr (.inr (.inl rfl)))))).trans h.hl, ownsRow_below h.ho fun k hk => hb k (.inr (.inr (.inr (.inr (.inr hk))))),
    h.nF, h.ne, h.hob, h.far, hB, Nat.le_trans h.big hsz, h.low⟩
theorem AllR.over (h : AllR Tl C B w W p d F g gl o rs) (hT : ∀ {X Y : World}, Tl X → (∀ j, C j → Y.heap[j]? = X.heap[j]?) → Tl Y) (hb : Below W.heap.size W W1) : AllR Tl C B w W1 p d F g gl o rs :=
  h.keep hT (fun j hj => hb.block j (h.lt hj)) (bstep h.hb hb) hb.size
theorem AllR.put (h : AllR Tl C B w W p d F g gl o rs) (hT : ∀ {X Y : World}, Tl X → (∀ j, C j → Y.heap[j]? = X.heap[j]?) → Tl Y) (q : Obj) : AllR Tl C B w (W.putObj (B + 1) q) p d F g gl o rs := by
  have hs : (W.putObj (B + 1) q).heap.size = W.heap.size := by simp [World.putObj]
  exact h.keep hT (fun j hj => World.putObj_heap_other (h.far j hj).2) (below_put h.hb (by have := h.low; omega) q) (by rw [hs]; exact Nat.le_refl _)
/-- Behind the iterator's next item. -/
theorem AllR.hand (h : AllR Tl C B w W p d F g gl o rs) (hT : ∀ {X Y : World}, Tl X → (∀ j, C j → Y.heap[j]? = X.heap[j]?) → Tl Y) {d' : DS} {F' : Nat → Prop} (hm : Moved W p d' F W1 F') : AllR Tl C B w W1 p d' F' g gl o rs ∧ Keep2 B W W1 := by
  obtain ⟨hd, ht, hf⟩ := hm
  have hs := ht.size
  have hsw := h.hb.size
  have nF : ∀ k, k < W.heap.size → ¬ F k → ¬ F' k := fun k hk hn q => (hf k q).elim hn (by omega)
  have same : ∀ k, FootA F C g gl o k → ¬ F k → W1.heap[k]? = W.heap[k]? := fun k hk hn => ht.block k (h.lt hk) hn
  obtain ⟨n1, n2, n3, n4, n5, n6⟩ := h.nF
  have l1 := heap_lt h.ha
  have l2 := heap_lt h.he
  have l3 := heap_lt h.hl
  have hbig := h.big
  refine ⟨⟨h.hg, hd, fun j hj => (hf j hj).elim (h.hF j) (by omega), hT h.told fun j hj => same j (.inr (.inl hj)) (h.hC j hj).2.2, fun j hj => ⟨(h.hC j hj).1, by have := (h.hC j hj).2.1; omega, nF j (h.hC j hj).2.1 (h.hC j hj).2.2⟩,
    (same _ (.inr (.inr (.inl rfl))) n1).trans h.ha, (same _ (.inr (.inr (.inr (.inl rfl)))) n2).trans h.he, (same _ (.inr (.inr (.inr (.inr (.inl rfl))))) n3).trans h.hl, ownsRow_below h.ho fun k hk => same k (.inr (.inr (.inr (.inr (.inr hk))))) (h.hob k hk).1,
    ⟨nF _ l1 n1, nF _ l2 n2, nF _ l3 n3, n4, n5, n6⟩, h.ne, fun j hj => ⟨nF j (ownsRow_old h.ho j hj).2 (h.hob j hj).1, (h.hob j hj).2⟩, fun j hj => ?_, h.hb.trans (ht.below h.hF hsw), by omega, h.low⟩, fun j hj => ht.block j (by omega) fun f => ?_⟩
  · rcases hj with hj | hj
    · rcases hf j hj with f | f
      · exact h.far j (.inl f)
      · omega
    · exact h.far j (.inr hj)
  · have := h.far j (.inl f)
    omega
/-- A new record in the list; the list into its box. -/
theorem AllR.push (h : AllR Tl C B w W p d F g gl o rs) (hT : ∀ {X Y : World}, Tl X → (∀ j, C j → Y.heap[j]? = X.heap[j]?) → Tl Y) {r : Rec} {o' : Value} {cs : Array Value} {t : TypeId}
    (hg : Grew (W.alloc (.cells cs t)) w.heap.size 24 8 o o' (rs.length + 1) (recC rs ++ recc r) W1) : AllR Tl C B w (W1.setCell ⟨gl, 0, none⟩ o') p d F g gl o' (rs ++ [r]) ∧ Keep2 B W (W1.setCell ⟨gl, 0, none⟩ o') := by
  have hg0 := hg
  obtain ⟨g1, g2, g3, g4⟩ := hg
  have hw : ∀ k, k < W.heap.size → o.ownBlock ≠ some k → W1.heap[k]? = W.heap[k]? := fun k hk hne =>
    (g2.block k (by simp; omega) (fun e => hne e.symm)).trans (Below.heap_alloc W _ k hk)
  have hsz : W.heap.size + 1 ≤ W1.heap.size := by have := g2.size; simpa using this
  have hs := setCell_size W1 ⟨gl, 0, none⟩ o'
  have far0 : ∀ k, k ≠ gl → (W1.setCell ⟨gl, 0, none⟩ o').heap[k]? = W1.heap[k]? := fun k hk => Below.heap_setCell W1 _ _ k hk
  have far : ∀ k, FootA F C g gl o k → k ≠ gl → o.ownBlock ≠ some k → (W1.setCell ⟨gl, 0, none⟩ o').heap[k]? = W.heap[k]? := fun k hk h1 h2 => (far0 k h1).trans (hw k (h.lt hk) h2)
  obtain ⟨n1, n2, n3, n4, n5, n6⟩ := h.nF
  have hne := h.ne
  have hgw := h.hg
  have hsw := h.hb.size
  have hbig := h.big
  have l1 := heap_lt h.ha
  have l2 := heap_lt h.he
  have l3 := heap_lt h.hl
  have hob : ∀ k, o'.ownBlock = some k → (¬ F k ∧ ¬ C k ∧ k ≠ g ∧ k ≠ g + 1 ∧ k ≠ gl) ∧ k ≠ B ∧ k ≠ B + 1 := fun k hk => by
    rcases g3 with e | e
    · exact ⟨h.hob k (e ▸ hk), h.far k (.inr (.inr (.inr (.inr (.inr (e ▸ hk))))))⟩
    · rw [e] at hk
      simp at hk
      subst hk
      exact ⟨⟨fun f => by have := h.hd.old _ f; omega, fun f => by have := (h.hC _ f).2.1; omega, by omega, by omega, by omega⟩, by omega, by omega⟩
  have hb1 : Below w.heap.size w W1 := (h.hb.alloc hsw _).trans g4
  have hbg : W1.heap[gl]? = some (.cells #[o] 40 (0, 0)) := (hw gl l3 fun e => (h.hob gl e).2.2.2.2 rfl).trans h.hl
  have fB := h.far gl (.inr (.inr (.inr (.inr (.inl rfl)))))
  refine ⟨⟨h.hg, h.hd.keep fun k hk => far k (.inl hk) (fun e => n3 (e ▸ hk)) fun e => (h.hob k e).1 hk, h.hF, hT h.told fun k hk => far k (.inr (.inl hk)) (fun e => n6 (e ▸ hk)) fun e => (h.hob k e).2.1 hk,
    fun j hj => ⟨(h.hC j hj).1, by have := (h.hC j hj).2.1; omega, (h.hC j hj).2.2⟩, (far _ (.inr (.inr (.inl rfl))) (by omega) fun e => (h.hob _ e).2.2.1 rfl).trans h.ha, (far _ (.inr (.inr (.inr (.inl rfl)))) (by omega) fun e => (h.hob _ e).2.2.2.1 rfl).trans h.he, ?_, ?_,
    h.nF, h.ne, fun j hj => (hob j hj).1, fun j hj => ?_, hb1.setCell (p := ⟨gl, 0, none⟩) (by show w.heap.size ≤ gl; omega) _, by omega, h.low⟩, fun j hj => ?_⟩
  · have := heap_set hbg 0 o'
    simpa using this
  · have hp := (OwnsR.push (r := r) hsw hg0).1
    exact ownsRow_below hp fun k hk => far0 k (hob k hk).1.2.2.2.2
  · rcases hj with hj | hj | hj | hj | hj | hj
    · exact h.far j (.inl hj)
    · exact h.far j (.inr (.inl hj))
    · exact h.far j (.inr (.inr (.inl hj)))
    · exact h.far j (.inr (.inr (.inr (.inl hj))))
    · exact h.far j (.inr (.inr (.inr (.inr (.inl hj)))))
    · exact (hob j hj).2
  · have e2 : o.ownBlock ≠ some j := fun e => by have := h.far j (.inr (.inr (.inr (.inr (.inr e))))); omega
    exact (far0 j (by omega)).trans (hw j (by omega) e2)
end
end Go.Proofs.YthnkiabhfcddaaaDoor
