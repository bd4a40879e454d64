/-
  Layer 4: where FrameItems' loop over the iterator stands.
-/
import Derived.Test.YthnkiabhfcddaaaDoorPackR
import Derived.Test.YthnkiabhfcddaaaDoorHands
import Derived.OwnWalkIn
namespace Go.Proofs.YthnkiabhfcddaaaDoor
open Go.RowKit
set_option linter.unusedVariables false

/-! What is asked of the decoder's iterator; to be proved of the landed code (Told: the function value's own cells C). -/
def OkIt (Told : World → Prop) (C : Nat → Prop) (p : Value) (s : DS × (Nat → Prop)) (W : World) : Prop := Dec W p s.1 s.2 ∧ Told W ∧ ∀ k, C k → k < W.heap.size ∧ ¬ s.2 k
def HandIt (p : Value) (s : DS × (Nat → Prop)) (W : World) (s' : DS × (Nat → Prop)) (xs : Array Value) (W1 : World) : Prop :=
  ∃ (x : It) (l : List It) (D : Nat → Prop) (A : Option Addr) (c : Nat), s.1.items = x :: l ∧ s'.1 = { s.1 with items := l } ∧ xs = #[.agg #[.int .i64 (x.skip : Int), .int .u8 (x.kind.toNat : Int), .slice A x.body.length c]] ∧
    Moved W p s'.1 s.2 W1 s'.2 ∧ LiesIn W1 D (.slice A x.body.length c) x.body ∧ ∀ k, D k → (s.2 k ∨ W.heap.size ≤ k) ∧ k < W1.heap.size ∧ ¬ s'.2 k
def EndIt (p : Value) (s : DS × (Nat → Prop)) (W W1 : World) : Prop := s.1.items = [] ∧ ∃ F', Moved W p s.1 s.2 W1 F'

/-- The decoder p, in state d', beside the reference's one, in block g, in state d; the items 'done' that came lie in the slice o, which lies in the box bg; the box bl holds n. The blocks D are those of bodies that came. -/
structure GotAt (w W : World) (p : Value) (d' d : DS) (F D : Nat → Prop) (g : Nat) (v : Value) (done : List It) (bs : List Value) (bg bl : Nat) (o : Value) (n : Int) : Prop where
  hp : PlayAt w W p d' d F g v
  ho : W.ownsRow w.heap.size 92 3 o done.length (cellsF done bs)
  hob : ∀ k, o.ownBlock = some k → ¬ F k ∧ ¬ D k ∧ k ≠ bg ∧ k ≠ bl ∧ k ≠ g ∧ v.ownBlock ≠ some k
  hg : W.heap[bg]? = some (.cells #[o] 120 (0, 0))
  hl : W.heap[bl]? = some (.cells #[.int .i64 n] 3 (0, 0))
  hgx : w.heap.size ≤ bg ∧ ¬ F bg ∧ ¬ D bg ∧ bg ≠ g ∧ v.ownBlock ≠ some bg ∧ bg ≠ bl
  hlx : w.heap.size ≤ bl ∧ ¬ F bl ∧ ¬ D bl ∧ bl ≠ g ∧ v.ownBlock ≠ some bl
  hbl : bs.length = done.length
  hbs : ∀ i (h : i < done.length) u, bs[i]? = some u → LiesIn W D u done[i].body
  hD : ∀ k, D k → k < W.heap.size ∧ ¬ F k ∧ k ≠ g ∧ v.ownBlock ≠ some k
section
variable {w W W1 : World} {p : Value} {d' d : DS} {F D : Nat → Prop} {g : Nat} {v : Value} {done : List It} {bs : List Value} {bg bl : Nat} {o : Value} {n : Int}
/-- Every block of them is one of the heap's. -/
def FootG (F D : Nat → Prop) (g : Nat) (v o : Value) (bg bl : Nat) (k : Nat) : Prop := F k ∨ D k ∨ k = g ∨ v.ownBlock = some k ∨ o.ownBlock = some k ∨ k = bg ∨ k = bl
theorem GotAt.lt (h : GotAt w W p d' d F D g v done bs bg bl o n) {k : Nat} (hk : FootG F D g v o bg bl k) : k < W.heap.size := by
  rcases hk with hk | hk | rfl | hk | hk | rfl | rfl
  · exact h.hp.hd.old k hk
  · exact (h.hD k hk).1
  · exact h.hp.lt
  · exact h.hp.hs.old k hk
  · exact (ownsRow_old h.ho k hk).2
  · exact heap_lt h.hg
  · exact heap_lt h.hl
/-- Where none of their blocks has turned. -/
theorem GotAt.keep (h : GotAt w W p d' d F D g v done bs bg bl o n) (hb : ∀ k, FootG F D g v o bg bl k → W1.heap[k]? = W.heap[k]?) (hB : Below w.heap.size w W1) (hsz : W.heap.size ≤ W1.heap.size) : GotAt w W1 p d' d F D g v done bs bg bl o n := by
  refine ⟨⟨h.hp.hd.keep fun k hk => hb k (.inl hk), h.hp.hF, hB, (hb g (.inr (.inr (.inl rfl)))).trans h.hp.hg, h.hp.hgw, (h.hp.hs.keep_ fun k hk => hb k (.inr (.inr (.inr (.inl hk))))).more hsz, h.hp.hx⟩,
    ownsRow_below h.ho fun k hk => hb k (.inr (.inr (.inr (.inr (.inl hk))))), h.hob, (hb bg (.inr (.inr (.inr (.inr (.inr (.inl rfl))))))).trans h.hg, (hb bl (.inr (.inr (.inr (.inr (.inr (.inr rfl))))))).trans h.hl, h.hgx, h.hlx, h.hbl,
    fun i hi u hu => (h.hbs i hi u hu).keep fun k hk => hb k (.inr (.inl hk)), fun k hk => ⟨by have := (h.hD k hk).1; omega, (h.hD k hk).2⟩⟩
/-- Behind a call that makes memory. -/
theorem GotAt.over (h : GotAt w W p d' d F D g v done bs bg bl o n) (hb : Below W.heap.size W W1) : GotAt w W1 p d' d F D g v done bs bg bl o n :=
  h.keep (fun k hk => hb.block k (h.lt hk)) (bstep h.hp.hB hb) hb.size
/-- Behind the decoder's next item, which lies in blocks D2. -/
theorem GotAt.moved (h : GotAt w W p d' d F D g v done bs bg bl o n) {d2 : DS} {F' D2 : Nat → Prop} (hm : Moved W p d2 F W1 F') (hD2 : ∀ k, D2 k → (F k ∨ W.heap.size ≤ k) ∧ k < W1.heap.size ∧ ¬ F' k) : GotAt w W1 p d2 d F' (fun k => D k ∨ D2 k) g v done bs bg bl o n := by
  have hp := h.hp.moved hm
  obtain ⟨hd, ht, hf⟩ := hm
  have nF : ∀ k, k < W.heap.size → ¬ F k → ¬ F' k := fun k hk hn q => (hf k q).elim hn (by omega)
  have nD2 : ∀ k, k < W.heap.size → ¬ F k → ¬ D2 k := fun k hk hn q => (hD2 k q).1.elim hn (by omega)
  have same : ∀ k, FootG F D g v o bg bl k → ¬ F k → W1.heap[k]? = W.heap[k]? := fun k hk hn => ht.block k (h.lt hk) hn
  refine ⟨hp, ownsRow_below h.ho fun k hk => same k (.inr (.inr (.inr (.inr (.inl hk))))) (h.hob k hk).1, fun k hk => ?_, (same bg (.inr (.inr (.inr (.inr (.inr (.inl rfl)))))) h.hgx.2.1).trans h.hg, (same bl (.inr (.inr (.inr (.inr (.inr (.inr rfl)))))) h.hlx.2.1).trans h.hl, ?_, ?_, h.hbl, ?_, ?_⟩
  · obtain ⟨h1, h2, h3⟩ := h.hob k hk
    have hk2 := (ownsRow_old h.ho k hk).2
    exact ⟨nF k hk2 h1, fun e => e.elim h2 (nD2 k hk2 h1), h3⟩
  · obtain ⟨h1, h2, h3, h4⟩ := h.hgx
    have hk2 := heap_lt h.hg
    exact ⟨h1, nF _ hk2 h2, fun e => e.elim h3 (nD2 _ hk2 h2), h4⟩
  · obtain ⟨h1, h2, h3, h4⟩ := h.hlx
    have hk2 := heap_lt h.hl
    exact ⟨h1, nF _ hk2 h2, fun e => e.elim h3 (nD2 _ hk2 h2), h4⟩
  · exact fun i hi u hu => ((h.hbs i hi u hu).keep fun k hk => same k (.inr (.inl hk)) (h.hD k hk).2.1).mono fun k hk => .inl hk
  · intro k hk
    have hsz := ht.size
    rcases hk with hk | hk
    · obtain ⟨h1, h2, h3⟩ := h.hD k hk
      exact ⟨by omega, nF k h1 h2, h3⟩
    · obtain ⟨h1, h2, h3⟩ := hD2 k hk
      refine ⟨h2, h3, fun e => ?_, fun e => ?_⟩
      · subst e; exact h1.elim h.hp.hgw.2 (by have := h.hp.lt; omega)
      · exact h1.elim (h.hp.hx k e).2 (by have := h.hp.hs.old k e; omega)
/-- The box of the count anew. -/
theorem GotAt.left (h : GotAt w W p d' d F D g v done bs bg bl o n) (n' : Int) : GotAt w (W.setCell ⟨bl, 0, none⟩ (.int .i64 n')) p d' d F D g v done bs bg bl o n' := by
  have far : ∀ k, k ≠ bl → (W.setCell ⟨bl, 0, none⟩ (.int .i64 n')).heap[k]? = W.heap[k]? := fun k hk => Below.heap_setCell W _ _ k hk
  have hs := setCell_size W ⟨bl, 0, none⟩ (.int .i64 n')
  refine ⟨⟨h.hp.hd.keep fun k hk => far k fun e => h.hlx.2.1 (e ▸ hk), h.hp.hF, h.hp.hB.setCell (p := ⟨bl, 0, none⟩) h.hlx.1 _, (far g fun e => h.hlx.2.2.2.1 e.symm).trans h.hp.hg, h.hp.hgw, (h.hp.hs.keep_ fun k hk => far k fun e => h.hlx.2.2.2.2 (e ▸ hk)).more (by rw [hs]; exact Nat.le_refl _), h.hp.hx⟩,
    ownsRow_below h.ho fun k hk => far k (h.hob k hk).2.2.2.1, h.hob, (far bg h.hgx.2.2.2.2.2).trans h.hg, ?_, h.hgx, h.hlx, h.hbl,
    fun i hi u hu => (h.hbs i hi u hu).keep fun k hk => far k fun e => h.hlx.2.2.1 (e ▸ hk), fun k hk => ⟨by rw [hs]; exact (h.hD k hk).1, (h.hD k hk).2⟩⟩
  have := heap_set h.hl 0 (.int .i64 n')
  simpa using this
/-- A new item in the list; the list into its box. -/
theorem GotAt.push (h : GotAt w W p d' d F D g v done bs bg bl o n) {x : It} {xb o' : Value} {cs : Array Value} {t : TypeId} (hxb : LiesIn W D xb x.body)
    (hg : Grew (W.alloc (.cells cs t)) w.heap.size 92 3 o o' (done.length + 1) (cellsF done bs ++ cellsF [x] [xb]) W1) :
    GotAt w (W1.setCell ⟨bg, 0, none⟩ o') p d' d F D g v (done ++ [x]) (bs ++ [xb]) bg bl o' n := by
  obtain ⟨g1, g2, g3, g4⟩ := hg
  have hw : ∀ k, k < W.heap.size → o.ownBlock ≠ some k → W1.heap[k]? = W.heap[k]? := fun k hk hne =>
    (g2.block k (by simp; omega) (fun e => hne e.symm)).trans (Below.heap_alloc W _ k hk)
  have hsz : W.heap.size + 1 ≤ W1.heap.size := by have := g2.size; simpa using this
  have hs := setCell_size W1 ⟨bg, 0, none⟩ o'
  have far0 : ∀ k, k ≠ bg → (W1.setCell ⟨bg, 0, none⟩ o').heap[k]? = W1.heap[k]? := fun k hk => Below.heap_setCell W1 _ _ k hk
  have far : ∀ k, FootG F D g v o bg bl k → k ≠ bg → o.ownBlock ≠ some k → (W1.setCell ⟨bg, 0, none⟩ o').heap[k]? = W.heap[k]? := fun k hk h1 h2 => (far0 k h1).trans (hw k (h.lt hk) h2)
  have hob : ∀ k, o'.ownBlock = some k → ¬ F k ∧ ¬ D k ∧ k ≠ bg ∧ k ≠ bl ∧ k ≠ g ∧ v.ownBlock ≠ some k := fun k hk => by
    rcases g3 with e | e
    · exact h.hob k (e ▸ hk)
    · rw [e] at hk
      simp at hk
      subst hk
      exact ⟨fun f => by have := h.hp.hd.old _ f; omega, fun f => by have := (h.hD _ f).1; omega, by have := heap_lt h.hg; omega, by have := heap_lt h.hl; omega, by have := h.hp.lt; omega, fun e => by have := h.hp.hs.old _ e; omega⟩
  have kF : ∀ k, F k → (W1.setCell ⟨bg, 0, none⟩ o').heap[k]? = W.heap[k]? := fun k hk => far k (.inl hk) (fun e => h.hgx.2.1 (e ▸ hk)) fun e => (h.hob k e).1 hk
  have kD : ∀ k, D k → (W1.setCell ⟨bg, 0, none⟩ o').heap[k]? = W.heap[k]? := fun k hk => far k (.inr (.inl hk)) (fun e => h.hgx.2.2.1 (e ▸ hk)) fun e => (h.hob k e).2.1 hk
  have hb1 : Below w.heap.size w W1 := (h.hp.hB.alloc h.hp.hB.size _).trans g4
  refine ⟨⟨h.hp.hd.keep kF, h.hp.hF, hb1.setCell (p := ⟨bg, 0, none⟩) h.hgx.1 _, (far g (.inr (.inr (.inl rfl))) (fun e => h.hgx.2.2.2.1 e.symm) fun e => (h.hob g e).2.2.2.2.1 rfl).trans h.hp.hg, h.hp.hgw,
      (h.hp.hs.keep_ fun k hk => far k (.inr (.inr (.inr (.inl hk)))) (fun e => h.hgx.2.2.2.2.1 (e ▸ hk)) fun e => (h.hob k e).2.2.2.2.2 hk).more (by omega), h.hp.hx⟩,
    ?_, hob, ?_, (far bl (.inr (.inr (.inr (.inr (.inr (.inr rfl)))))) (fun e => h.hgx.2.2.2.2.2 e.symm) fun e => (h.hob bl e).2.2.2.1 rfl).trans h.hl, h.hgx, h.hlx, ?_, ?_, fun k hk => ⟨by have := (h.hD k hk).1; omega, (h.hD k hk).2⟩⟩
  · rw [cellsF_append _ _ _ _ h.hbl, List.length_append]
    exact ownsRow_below g1 fun k hk => far0 k (hob k hk).2.2.1
  · have hbg : W1.heap[bg]? = some (.cells #[o] 120 (0, 0)) := (hw bg (heap_lt h.hg) fun e => (h.hob bg e).2.2.1 rfl).trans h.hg
    have := heap_set hbg 0 o'
    simpa using this
  · rw [List.length_append, List.length_append, h.hbl]; rfl
  · intro i hi u hu
    rw [List.length_append, List.length_singleton] at hi
    rcases Nat.lt_or_ge i done.length with h1 | h1
    · rw [List.getElem?_append_left (by rw [h.hbl]; exact h1)] at hu
      rw [List.getElem_append_left h1]
      exact (h.hbs i h1 u hu).keep kD
    · obtain rfl : i = done.length := by omega
      rw [List.getElem?_append_right (by rw [h.hbl]; exact Nat.le_refl _), h.hbl] at hu
      simp at hu
      subst hu
      simp only [List.getElem_concat_length]
      exact hxb.keep kD
end
/-- Ahead of the loop. -/
theorem GotAt.first {w w4 w6 : World} {p : Value} {d : DS} {F : Nat → Prop} {v : Value} (n : Int) (hd : Dec w4 p d F) (hF : ∀ k, F k → w.heap.size ≤ k) (hB : Below w.heap.size w w4) (hb : Below w4.heap.size w4 w6) (hs : SeqI w6 w6.heap.size v d.items) (hv : ∀ b, v.ownBlock = some b → w4.heap.size ≤ b) :
    GotAt w (((w6.alloc (.cells #[.string (mkB d.wait), .int .i64 (d.skip : Int), v, .bool d.over] 95)).alloc (.cells #[.slice none 0 0] 120)).alloc (.cells #[.int .i64 n] 3)) p d d F (fun _ => False) w6.heap.size v [] [] (w6.heap.size + 1) (w6.heap.size + 1 + 1) (.slice none 0 0) n := by
  obtain ⟨W, hW⟩ : ∃ W, ((w6.alloc (.cells #[.string (mkB d.wait), .int .i64 (d.skip : Int), v, .bool d.over] 95)).alloc (.cells #[.slice none 0 0] 120)).alloc (.cells #[.int .i64 n] 3) = W := ⟨_, rfl⟩
  obtain ⟨h1, h2, h3, h4, h5⟩ := three_blocks (w := w6) (o1 := .cells #[.string (mkB d.wait), .int .i64 (d.skip : Int), v, .bool d.over] 95) (o2 := .cells #[.slice none 0 0] 120) (o3 := .cells #[.int .i64 n] 3) (Below.refl _ _)
  rw [hW] at h1 h2 h3 h4 h5 ⊢
  have hb6 := hb.size
  have hB4 := hB.size
  have hold : ∀ k, F k → k < w4.heap.size := hd.old
  have hvo : ∀ k, v.ownBlock = some k → k < w6.heap.size := fun k hk => hs.old k hk
  have hb2 := bstep hb h4
  exact ⟨⟨hd.keep fun k hk => hb2.block k (hold k hk), hF, bstep hB hb2, h1, ⟨by omega, fun f => by have := hold _ f; omega⟩, hs.over (Nat.le_refl _) h4, fun k hk => ⟨by have := hvo k hk; omega, fun f => by have := hold _ f; have := hv k hk; omega⟩⟩,
    World.ownsRow_nil _ _ _ _, fun k hk => by simp [Value.ownBlock] at hk, h2, h3, ⟨by omega, fun f => by have := hold _ f; omega, fun f => f, by omega, fun e => by have := hvo _ e; omega, by omega⟩, ⟨by omega, fun f => by have := hold _ f; omega, fun f => f, by omega, fun e => by have := hvo _ e; omega⟩, rfl, fun i hi => by simp at hi, fun k hk => hk.elim⟩
/-- The same beside the function value's own cells C, and the loop's own two blocks, from B on. The decoder has told i items, k of them have come. -/
structure ItAt (Told : World → Prop) (C : Nat → Prop) (B : Nat) (w W : World) (p : Value) (i : Nat) (d : DS) (F D : Nat → Prop) (g : Nat) (v : Value) (k : Nat) (bs : List Value) (bg bl : Nat) (o : Value) (n : Int) : Prop where
  got : GotAt w W p { d with items := d.items.drop i } d F D g v (d.items.take k) bs bg bl o n
  told : Told W
  hC : ∀ j, C j → j < W.heap.size ∧ ¬ FootG F D g v o bg bl j
  far : ∀ j, FootG F D g v o bg bl j ∨ C j → j ≠ B ∧ j ≠ B + 1
  big : B + 2 ≤ W.heap.size
  low : w.heap.size ≤ B
section
variable {Told : World → Prop} {C : Nat → Prop} {B : Nat} {w W W1 : World} {p : Value} {i : Nat} {d : DS} {F D : Nat → Prop} {g : Nat} {v : Value} {k : Nat} {bs : List Value} {bg bl : Nat} {o : Value} {n : Int}
theorem ItAt.keep (h : ItAt Told C B w W p i d F D g v k bs bg bl o n) (hT : ∀ {X Y : World}, Told X → (∀ j, C j → Y.heap[j]? = X.heap[j]?) → Told Y) (hb : ∀ j, FootG F D g v o bg bl j ∨ C j → W1.heap[j]? = W.heap[j]?) (hB : Below w.heap.size w W1) (hsz : W.heap.size ≤ W1.heap.size) : ItAt Told C B w W1 p i d F D g v k bs bg bl o n :=
  ⟨h.got.keep (fun j hj => hb j (.inl hj)) hB hsz, hT h.told fun j hj => hb j (.inr hj), fun j hj => ⟨by have := (h.hC j hj).1; omega, (h.hC j hj).2⟩, h.far, by have := h.big; omega, h.low⟩
/-- Behind a turn of the loop's record. -/
theorem ItAt.put (h : ItAt Told C B w W p i d F D g v k bs bg bl o n) (hT : ∀ {X Y : World}, Told X → (∀ j, C j → Y.heap[j]? = X.heap[j]?) → Told Y) (q : Obj) : ItAt Told C B w (W.putObj (B + 1) q) p i d F D g v k bs bg bl o n := by
  have hs : (W.putObj (B + 1) q).heap.size = W.heap.size := by simp [World.putObj]
  have hbel := h.got.hp.hB
  exact h.keep hT (fun j hj => World.putObj_heap_other (h.far j hj).2) ⟨hbel.os, hbel.tape, hbel.output, by rw [hs]; exact hbel.size, fun j hj => (World.putObj_heap_other (by have := h.low; omega)).trans (hbel.block j hj)⟩ (by rw [hs]; exact Nat.le_refl _)
theorem ItAt.over (h : ItAt Told C B w W p i d F D g v k bs bg bl o n) (hT : ∀ {X Y : World}, Told X → (∀ j, C j → Y.heap[j]? = X.heap[j]?) → Told Y) (hb : Below W.heap.size W W1) : ItAt Told C B w W1 p i d F D g v k bs bg bl o n :=
  h.keep hT (fun j hj => hb.block j (hj.elim h.got.lt fun c => (h.hC j c).1)) (bstep h.got.hp.hB hb) hb.size
/-- Behind the iterator's next item. -/
theorem ItAt.hand (h : ItAt Told C B w W p i d F D g v k bs bg bl o n) (hT : ∀ {X Y : World}, Told X → (∀ j, C j → Y.heap[j]? = X.heap[j]?) → Told Y) {F' D2 : Nat → Prop} {i' : Nat} (hm : Moved W p { d with items := d.items.drop i' } F W1 F') (hD2 : ∀ j, D2 j → (F j ∨ W.heap.size ≤ j) ∧ j < W1.heap.size ∧ ¬ F' j) :
    ItAt Told C B w W1 p i' d F' (fun j => D j ∨ D2 j) g v k bs bg bl o n := by
  have hg := h.got.moved hm hD2
  obtain ⟨_, ht, hf⟩ := hm
  have hbig := h.big
  have hsz := ht.size
  refine ⟨hg, hT h.told fun j hj => ht.block j (h.hC j hj).1 fun f => (h.hC j hj).2 (.inl f), fun j hj => ⟨by have := (h.hC j hj).1; omega, ?_⟩, ?_, by omega, h.low⟩
  · obtain ⟨h1, h2⟩ := h.hC j hj
    rintro (q | (q | q) | q)
    · exact (hf j q).elim (fun f => h2 (.inl f)) (by omega)
    · exact h2 (.inr (.inl q))
    · exact (hD2 j q).1.elim (fun f => h2 (.inl f)) (by omega)
    · exact h2 (.inr (.inr q))
  · rintro j ((q | (q | q) | q) | q)
    · exact (hf j q).elim (fun f => h.far j (.inl (.inl f))) (by omega)
    · exact h.far j (.inl (.inr (.inl q)))
    · exact (hD2 j q).1.elim (fun f => h.far j (.inl (.inl f))) (by omega)
    · exact h.far j (.inl (.inr (.inr q)))
    · exact h.far j (.inr q)
/-- The count anew. -/
theorem ItAt.left (h : ItAt Told C B w W p i d F D g v k bs bg bl o n) (hT : ∀ {X Y : World}, Told X → (∀ j, C j → Y.heap[j]? = X.heap[j]?) → Told Y) (n' : Int) : ItAt Told C B w (W.setCell ⟨bl, 0, none⟩ (.int .i64 n')) p i d F D g v k bs bg bl o n' :=
  ⟨h.got.left n', hT h.told fun j hj => Below.heap_setCell W _ _ j fun e => (h.hC j hj).2 (.inr (.inr (.inr (.inr (.inr (.inr e)))))), fun j hj => ⟨by rw [setCell_size]; exact (h.hC j hj).1, (h.hC j hj).2⟩, h.far, by rw [setCell_size]; exact h.big, h.low⟩
/-- The item into the list. -/
theorem ItAt.push (h : ItAt Told C B w W p i d F D g v k bs bg bl o n) (hT : ∀ {X Y : World}, Told X → (∀ j, C j → Y.heap[j]? = X.heap[j]?) → Told Y) {x : It} {xb o' : Value} {cs : Array Value} {t : TypeId} (hxb : LiesIn W D xb x.body) (hx : d.items.take (k + 1) = d.items.take k ++ [x])
    (hg : Grew (W.alloc (.cells cs t)) w.heap.size 92 3 o o' ((d.items.take k).length + 1) (cellsF (d.items.take k) bs ++ cellsF [x] [xb]) W1) :
    ItAt Told C B w (W1.setCell ⟨bg, 0, none⟩ o') p i d F D g v (k + 1) (bs ++ [xb]) bg bl o' n := by
  have hgot := h.got.push hxb hg
  rw [← hx] at hgot
  obtain ⟨g1, g2, g3, g4⟩ := hg
  have hbig := h.big
  have hsz : W.heap.size + 1 ≤ W1.heap.size := by have := g2.size; simpa using this
  have ho : ∀ j, o'.ownBlock = some j → o.ownBlock = some j ∨ W.heap.size ≤ j := fun j hj => by
    rcases g3 with e | e
    · exact .inl (e ▸ hj)
    · rw [e] at hj; simp at hj; exact .inr (by omega)
  have hfoot : ∀ j, FootG F D g v o' bg bl j → FootG F D g v o bg bl j ∨ W.heap.size ≤ j := by
    rintro j (q | q | q | q | q | q)
    · exact .inl (.inl q)
    · exact .inl (.inr (.inl q))
    · exact .inl (.inr (.inr (.inl q)))
    · exact .inl (.inr (.inr (.inr (.inl q))))
    · exact (ho j q).elim (fun e => .inl (.inr (.inr (.inr (.inr (.inl e)))))) fun e => .inr e
    · exact .inl (.inr (.inr (.inr (.inr (.inr q)))))
  refine ⟨hgot, hT h.told fun j hj => ?_, fun j hj => ⟨?_, fun q => ?_⟩, fun j hj => ?_, by rw [setCell_size]; omega, h.low⟩
  · obtain ⟨h1, h2⟩ := h.hC j hj
    refine (Below.heap_setCell W1 _ _ j fun e => h2 (.inr (.inr (.inr (.inr (.inr (.inl e))))))).trans ?_
    exact (g2.block j (by simp; omega) (fun e => h2 (.inr (.inr (.inr (.inr (.inl e.symm))))))).trans (Below.heap_alloc W _ j h1)
  · rw [setCell_size]; have := (h.hC j hj).1; omega
  · exact (hfoot j q).elim (h.hC j hj).2 (by have := (h.hC j hj).1; omega)
  · rcases hj with hj | hj
    · exact (hfoot j hj).elim (fun q => h.far j (.inl q)) (by omega)
    · exact h.far j (.inr hj)
/-- A round's body: the item into the list, the count anew. -/
theorem ItAt.round (h : ItAt Told C B w W p i d F D g v k bs bg bl o n) (hT : ∀ {X Y : World}, Told X → (∀ j, C j → Y.heap[j]? = X.heap[j]?) → Told Y) {x : It} {xb o' : Value} {cs : Array Value} {t : TypeId} (hxb : LiesIn W D xb x.body) (hx : d.items.take (k + 1) = d.items.take k ++ [x])
    (hg : Grew (W.alloc (.cells cs t)) w.heap.size 92 3 o o' ((d.items.take k).length + 1) (cellsF (d.items.take k) bs ++ cellsF [x] [xb]) W1) (m : Int) :
    Keep2 B W ((W1.setCell ⟨bg, 0, none⟩ o').setCell ⟨bl, 0, none⟩ (.int .i64 m)) ∧ ItAt Told C B w ((W1.setCell ⟨bg, 0, none⟩ o').setCell ⟨bl, 0, none⟩ (.int .i64 m)) p i d F D g v (k + 1) (bs ++ [xb]) bg bl o' m := by
  refine ⟨fun j hj => ?_, (h.push hT hxb hx hg).left hT m⟩
  have hbig := h.big
  have e1 : j ≠ bl := fun e => by have := h.far bl (.inl (.inr (.inr (.inr (.inr (.inr (.inr rfl))))))); omega
  have e2 : j ≠ bg := fun e => by have := h.far bg (.inl (.inr (.inr (.inr (.inr (.inr (.inl rfl))))))); omega
  have e3 : ¬ some j = o.ownBlock := fun e => by have := h.far j (.inl (.inr (.inr (.inr (.inr (.inl e.symm)))))); omega
  exact (Below.heap_setCell _ _ _ j e1).trans ((Below.heap_setCell _ _ _ j e2).trans ((hg.2.1.block j (by simp; omega) e3).trans (Below.heap_alloc W _ j (by omega))))
end

/-- Between two rounds: k items have come. -/
def ItI (Told : World → Prop) (C : Nat → Prop) (B : Nat) (w : World) (p : Value) (d : DS) (g : Nat) (v : Value) (bg bl t : Nat) (s : DS × (Nat → Prop)) (W : World) : Prop :=
  ∃ (k : Nat) (D : Nat → Prop) (bs : List Value) (o : Value), s.1 = { d with items := d.items.drop k } ∧ k ≤ d.items.length ∧ (k = 0 ∨ k < t) ∧ ItAt Told C B w W p k d s.2 D g v k bs bg bl o ((t : Int) - (k : Int))
/-- Behind the last round. -/
def ItE (Told : World → Prop) (C : Nat → Prop) (B : Nat) (w : World) (p : Value) (d : DS) (g : Nat) (v : Value) (bg bl t : Nat) (W : World) : Prop :=
  ∃ (k : Nat) (F D : Nat → Prop) (bs : List Value) (o : Value), k = min (max t 1) d.items.length ∧ ItAt Told C B w W p k d F D g v k bs bg bl o ((t : Int) - (k : Int))
/-- An item is told, and lies in the box bx. -/
def ItH (act : Nat → It → Option Addr → Nat → Act) (Told : World → Prop) (C : Nat → Prop) (B : Nat) (w : World) (p : Value) (d : DS) (g : Nat) (v : Value) (bg bl t : Nat) (s : DS × (Nat → Prop)) (xs : Array Value) (a' : Act) (W : World) : Prop :=
  ∃ (k : Nat) (D : Nat → Prop) (bs : List Value) (o : Value) (x : It) (A : Option Addr) (c bx : Nat), s.1 = { d with items := d.items.drop (k + 1) } ∧ d.items.take (k + 1) = d.items.take k ++ [x] ∧ k + 1 ≤ d.items.length ∧ (k = 0 ∨ k < t) ∧
    ItAt Told C B w W p (k + 1) d s.2 D g v k bs bg bl o ((t : Int) - (k : Int)) ∧ W.heap[bx]? = some (.cells #[.int .i64 (x.skip : Int), .int .u8 (x.kind.toNat : Int), .slice A x.body.length c] 92 (0, 0)) ∧ ¬ FootG s.2 D g v o bg bl bx ∧ bx ≠ B + 1 ∧
    LiesIn W D (.slice A x.body.length c) x.body ∧ a' = act bx x A c
section
variable {act : Nat → It → Option Addr → Nat → Act} {Told : World → Prop} {C : Nat → Prop} {B : Nat} {w W W1 : World} {p : Value} {d : DS} {g : Nat} {v : Value} {bg bl t : Nat} {s s' : DS × (Nat → Prop)} {xs : Array Value} {a' : Act}
theorem ItI.put (hT : ∀ {X Y : World}, Told X → (∀ j, C j → Y.heap[j]? = X.heap[j]?) → Told Y) (h : ItI Told C B w p d g v bg bl t s W) (q : Obj) : ItI Told C B w p d g v bg bl t s (W.putObj (B + 1) q) := by
  obtain ⟨k, D, bs, o, h1, h2, h3, h4⟩ := h
  exact ⟨k, D, bs, o, h1, h2, h3, h4.put hT q⟩
theorem ItE.put (hT : ∀ {X Y : World}, Told X → (∀ j, C j → Y.heap[j]? = X.heap[j]?) → Told Y) (h : ItE Told C B w p d g v bg bl t W) (q : Obj) : ItE Told C B w p d g v bg bl t (W.putObj (B + 1) q) := by
  obtain ⟨k, F, D, bs, o, h1, h2⟩ := h
  exact ⟨k, F, D, bs, o, h1, h2.put hT q⟩
theorem ItH.put (hT : ∀ {X Y : World}, Told X → (∀ j, C j → Y.heap[j]? = X.heap[j]?) → Told Y) (h : ItH act Told C B w p d g v bg bl t s xs a' W) (q : Obj) : ItH act Told C B w p d g v bg bl t s xs a' (W.putObj (B + 1) q) := by
  obtain ⟨k, D, bs, o, x, A, c, bx, h1, h2, h3, h4, h5, h6, h7, h8, h9, h10⟩ := h
  exact ⟨k, D, bs, o, x, A, c, bx, h1, h2, h3, h4, h5.put hT q, (World.putObj_heap_other h8).trans h6, h7, h8, h9.keep fun j hj => World.putObj_heap_other (h5.far j (.inl (.inr (.inl hj)))).2, h10⟩
theorem ItI.ok (h : ItI Told C B w p d g v bg bl t s W) : OkIt Told C p s W := by
  obtain ⟨k, D, bs, o, h1, h2, h3, h4⟩ := h
  exact ⟨h1 ▸ h4.got.hp.hd, h4.told, fun j hj => ⟨(h4.hC j hj).1, fun f => (h4.hC j hj).2 (.inl f)⟩⟩
theorem ItI.two (h : ItI Told C B w p d g v bg bl t s W) {d' : DS} {F' : Nat → Prop} (hm : Moved W p d' s.2 W1 F') : Keep2 B W W1 := by
  obtain ⟨k, D, bs, o, h1, h2, h3, h4⟩ := h
  have := h4.big
  intro j hj
  exact hm.2.1.block j (by omega) fun f => by have := h4.far j (.inl (.inl f)); omega
/-- The iterator has told an item. -/
theorem ItI.handed (hT : ∀ {X Y : World}, Told X → (∀ j, C j → Y.heap[j]? = X.heap[j]?) → Told Y) (h : ItI Told C B w p d g v bg bl t s W) (hh : HandIt p s W s' xs W1) :
    ∃ (k : Nat) (D : Nat → Prop) (bs : List Value) (o : Value) (x : It) (A : Option Addr) (c : Nat), xs = #[.agg #[.int .i64 (x.skip : Int), .int .u8 (x.kind.toNat : Int), .slice A x.body.length c]] ∧ s'.1 = { d with items := d.items.drop (k + 1) } ∧ d.items.take (k + 1) = d.items.take k ++ [x] ∧ k + 1 ≤ d.items.length ∧ (k = 0 ∨ k < t) ∧
    ItAt Told C B w W1 p (k + 1) d s'.2 D g v k bs bg bl o ((t : Int) - (k : Int)) ∧ LiesIn W1 D (.slice A x.body.length c) x.body := by
  obtain ⟨k, D, bs, o, h1, h2, h3, h4⟩ := h
  obtain ⟨x, l, D2, A, c, e1, e2, rfl, hm, hl, hD2⟩ := hh
  rw [h1] at e1 e2
  dsimp only at e1 e2
  have hlt : k < d.items.length := by
    rcases Nat.lt_or_ge k d.items.length with q | q
    · exact q
    · rw [List.drop_eq_nil_of_le q] at e1; cases e1
  have hd := List.drop_eq_getElem_cons hlt
  rw [hd] at e1
  injection e1 with e3 e4
  subst e4
  rw [e2] at hm
  exact ⟨k, _, bs, o, x, A, c, rfl, e2, by rw [List.take_succ_eq_append_getElem hlt, e3], hlt, h3, h4.hand hT hm hD2, hl.mono fun j hj => .inr hj⟩
/-- The iterator has ended. -/
theorem ItI.ended (hT : ∀ {X Y : World}, Told X → (∀ j, C j → Y.heap[j]? = X.heap[j]?) → Told Y) (h : ItI Told C B w p d g v bg bl t s W) (hh : EndIt p s W W1) : Keep2 B W W1 ∧ ItE Told C B w p d g v bg bl t W1 := by
  obtain ⟨e, F', hm⟩ := hh
  refine ⟨h.two hm, ?_⟩
  obtain ⟨k, D, bs, o, h1, h2, h3, h4⟩ := h
  rw [h1] at e hm
  dsimp only at e
  have hk : k = d.items.length := by
    have := List.drop_eq_nil_iff.1 e
    omega
  exact ⟨k, F', _, bs, o, by omega, h4.hand (D2 := fun _ => False) hT hm fun j hj => hj.elim⟩
end
/-- In FrameItems' last loop: all items that the decoder has told so far, i of them; the loop's block of deferred calls. -/
structure FinAt (Told : World → Prop) (C : Nat → Prop) (B : Nat) (w W : World) (p : Value) (i : Nat) (d : DS) (F D : Nat → Prop) (g : Nat) (v : Value) (k : Nat) (bs : List Value) (bg bl : Nat) (o : Value) (n : Int) : Prop where
  it : ItAt Told C B w W p i d F D g v k bs bg bl o n
  df : W.heap[B]? = some (.deferred (some []))
section
variable {Told : World → Prop} {C : Nat → Prop} {B : Nat} {w W W1 : World} {p : Value} {i : Nat} {d : DS} {F D : Nat → Prop} {g : Nat} {v : Value} {k : Nat} {bs : List Value} {bg bl : Nat} {o : Value} {n : Int}
theorem FinAt.over (h : FinAt Told C B w W p i d F D g v k bs bg bl o n) (hT : ∀ {X Y : World}, Told X → (∀ j, C j → Y.heap[j]? = X.heap[j]?) → Told Y) (hb : Below W.heap.size W W1) : FinAt Told C B w W1 p i d F D g v k bs bg bl o n :=
  ⟨h.it.over hT hb, (hb.block B (by have := h.it.big; omega)).trans h.df⟩
theorem FinAt.hand (h : FinAt Told C B w W p i d F D g v k bs bg bl o n) (hT : ∀ {X Y : World}, Told X → (∀ j, C j → Y.heap[j]? = X.heap[j]?) → Told Y) {F' D2 : Nat → Prop} {i' : Nat} (hm : Moved W p { d with items := d.items.drop i' } F W1 F') (hD2 : ∀ j, D2 j → (F j ∨ W.heap.size ≤ j) ∧ j < W1.heap.size ∧ ¬ F' j) :
    FinAt Told C B w W1 p i' d F' (fun j => D j ∨ D2 j) g v k bs bg bl o n :=
  ⟨h.it.hand hT hm hD2, (hm.2.1.block B (by have := h.it.big; omega) fun f => (h.it.far B (.inl (.inl f))).1 rfl).trans h.df⟩
/-- A store to a box of three cells. -/
theorem FinAt.set_ (h : FinAt Told C B w W p i d F D g v k bs bg bl o n) (hT : ∀ {X Y : World}, Told X → (∀ j, C j → Y.heap[j]? = X.heap[j]?) → Told Y) {bx : Nat} (hx : ¬ FootG F D g v o bg bl bx ∧ ¬ C bx ∧ bx ≠ B ∧ w.heap.size ≤ bx) (a b c : Value) : FinAt Told C B w (set3 W bx a b c) p i d F D g v k bs bg bl o n :=
  ⟨h.it.keep hT (fun j hj => set3_far _ _ _ _ _ j fun e => by subst e; exact hj.elim hx.1 hx.2.1) (set3_below h.it.got.hp.hB hx.2.2.2 _ _ _) (by rw [set3_size]; exact Nat.le_refl _), (set3_far _ _ _ _ _ B fun e => hx.2.2.1 e.symm).trans h.df⟩
/-- A box that was made ahead of the decoder's next item. -/
theorem FinAt.apart (h : FinAt Told C B w W p i d F D g v k bs bg bl o n) {bx : Nat} (hbx : W.heap.size ≤ bx) {W2 : World} (hlt : bx < W2.heap.size) {F' D2 : Nat → Prop} (hF : ∀ j, F' j → F j ∨ W2.heap.size ≤ j) (hD2 : ∀ j, D2 j → F j ∨ W2.heap.size ≤ j) :
    ¬ FootG F' (fun j => D j ∨ D2 j) g v o bg bl bx ∧ ¬ C bx ∧ bx ≠ B ∧ w.heap.size ≤ bx := by
  have h0 : ∀ j, FootG F D g v o bg bl j → j < W.heap.size := fun j hj => h.it.got.lt hj
  have hbig := h.it.big
  have hlow := h.it.low
  refine ⟨?_, fun q => by have := (h.it.hC bx q).1; omega, by omega, by omega⟩
  rintro (q | (q | q) | q)
  · exact (hF _ q).elim (fun f => by have := h0 bx (.inl f); omega) (by omega)
  · have := h0 bx (.inr (.inl q)); omega
  · exact (hD2 _ q).elim (fun f => by have := h0 bx (.inl f); omega) (by omega)
  · have := h0 bx (.inr (.inr q)); omega
/-- The slice of the items that came. -/
theorem FinAt.seq (h : FinAt Told C B w W p i d F D g v k bs bg bl o n) : SeqF W W.heap.size o (d.items.take k) := ⟨bs, h.it.got.hbl, Seq.own h.it.got.ho, fun i hi u hu => (h.it.got.hbs i hi u hu).below fun j hj => (h.it.got.hD j hj).1⟩
end
theorem itC_at : ∀ (l : List It) (i : Nat) (h : i < l.length), (itC l)[i * 3]? = some (.int .i64 (l[i].skip : Int)) ∧ (itC l)[i * 3 + 1]? = some (.int .u8 (l[i].kind.toNat : Int)) ∧ (itC l)[i * 3 + 2]? = some (.string (mkB l[i].body))
  | [], _, h => by simp at h
  | x :: l, 0, _ => by
    have ec : itC (x :: l) = [.int .i64 (x.skip : Int), .int .u8 (x.kind.toNat : Int), .string (mkB x.body)] ++ itC l := rfl
    rw [ec]
    exact ⟨rfl, rfl, rfl⟩
  | x :: l, i + 1, h => by
    have ih := itC_at l i (by simpa using h)
    have ec : itC (x :: l) = [.int .i64 (x.skip : Int), .int .u8 (x.kind.toNat : Int), .string (mkB x.body)] ++ itC l := rfl
    rw [ec, List.getElem?_append_right (by simp; omega), List.getElem?_append_right (by simp; omega), List.getElem?_append_right (by simp; omega)]
    simp only [List.length_cons, List.length_nil, Nat.reduceAdd, List.getElem_cons_succ]
    rw [show (i + 1) * 3 - 3 = i * 3 by omega, show (i + 1) * 3 + 1 - 3 = i * 3 + 1 by omega, show (i + 1) * 3 + 2 - 3 = i * 3 + 2 by omega]
    exact ih
theorem SeqI.some_ {w : World} {B n c : Nat} {A : Option Addr} {l : List It} (h : SeqI w B (.slice A n c) l) (hl : 0 < l.length) : n = l.length ∧ n ≤ c ∧ ∃ b off, A = some ⟨b, off, none⟩ := by
  rcases h.2 with ⟨_, e⟩ | ⟨b, off, c', e, hn, _⟩
  · omega
  · simp only [Value.slice.injEq] at e
    obtain ⟨rfl, rfl, rfl⟩ := e
    exact ⟨rfl, hn, b, off, rfl⟩
theorem SeqI.cells_ {w : World} {B n c b off : Nat} {l : List It} (h : SeqI w B (.slice (some ⟨b, off, none⟩) n c) l) (i : Nat) (hi : i < l.length) :
    w.cell? ⟨b, off + i * 3, none⟩ = some (.int .i64 (l[i].skip : Int)) ∧ w.cell? ⟨b, off + i * 3 + 1, none⟩ = some (.int .u8 (l[i].kind.toNat : Int)) ∧ w.cell? ⟨b, off + i * 3 + 2, none⟩ = some (.string (mkB l[i].body)) := by
  obtain ⟨q0, q1, q2⟩ := itC_at l i hi
  rcases h.2 with ⟨e, _⟩ | ⟨b', off', c', e, _, _, hc⟩
  · cases e
  · simp only [Value.slice.injEq, Option.some.injEq, Addr.mk.injEq] at e
    obtain ⟨⟨rfl, rfl, _⟩, rfl, rfl⟩ := e
    exact ⟨hc _ _ q0, hc _ _ q1, hc _ _ q2⟩
/-- An append, in a round too. -/
theorem wpListIn_app_seq {Fe : Fence} {n' : Nat} {w : World} {B : Nat} {ops : Array Oper} {rest : List Oper} {o : Oper} {a : Act} {Q : Exit → Act → World → Prop} (hgd : o.guard = none) (s x : Operand) (ts e : TypeId) (zv : Value) (z bytes : Nat) (ht : Tryd.prog.underlying ts = some (.slice e)) (hinfo : (Tryd.prog.info? e).map (fun i => (i.zero, i.size, i.bytes)) = some (some zv, z, bytes)) (hzs : zv.cells.size = z) (hz0 : 0 < z)
    (ho : o.op = .call { callee := .builtin .append, args := #[s, x], argTypes := #[ts, ts] })
    (base : Nat) (v u : Value) (n m : Nat) (xs ys : List Value) (hs : a.eval s = v) (hx : a.eval x = u) (hown : w.ownsRow base e z v n xs) (hu : Seq w B z u m ys) (h1 : ∀ y ∈ ys, y.oneCell' = true) (hn : (n + m) * (bytes + 1) ≤ 1000000000000) (hbase : base ≤ w.heap.size)
    (h : ∀ v' w', Grew w base e z v v' (n + m) (xs ++ ys) w' → wpListIn Fe n' Tryd.prog ops Q rest (a.put o.dst v') w') : wpListIn Fe n' Tryd.prog ops Q (o :: rest) a w := by
  refine wpListIn_plain hgd fun K hK => ?_
  obtain ⟨v', w', hr, hg⟩ := run_app_seq ts o.type e zv z bytes ht hinfo hzs hz0 base v u n m xs ys hown hu h1 hn hbase
  unfold Oper.wpIn
  refine ⟨?_, ?_⟩
  · simp [Oper.about, ho, resolve, Target.leads, Sem.run_pure]
  · rw [Oper.semAt_plain Fe _ _ (by rw [ho]; intro c hc'; cases hc')]
    simp [execOp, ho, resolve, invoke, builtin, hs, hx, hr, Result.andThen]
    exact hK _ _ (h v' w' hg)
end Go.Proofs.YthnkiabhfcddaaaDoor
