/-
  Contract of layer 4's law's 'all': the items of pieces.
-/
import Derived.Test.YtpgainalimmecaaDoorBox
import Derived.Test.YtpgainalimmecaaDoorFrItems
namespace Go.Proofs.YtpgainalimmecaaDoor
open Go.RowKit
set_option linter.unusedVariables false

theorem info_F : (Tryd.prog.info? 42).map (fun i => (i.zero, i.size, i.bytes)) = some (some (.agg #[.int .i64 0, .int .u8 0, .slice none 0 0]), 3, 40) := by kernel_rfl
/-- Where all's second loop stands: the decoder's blocks F, the blocks D of bodies that were handed out, the list o of items, the item x in block xg. -/
structure AllAt (w wr : World) (p : Value) (d : DS) (F D : Nat → Prop) (o : Value) (done : List It) (bs : List Value) (xg : Nat) (x : It) (xb : Value) : Prop where
  hd : Dec wr p d F
  hF : ∀ k, F k → w.heap.size ≤ k
  hB : Below w.heap.size w wr
  ho : wr.ownsRow w.heap.size 42 3 o done.length (cellsF done bs)
  hob : ∀ k, o.ownBlock = some k → ¬ F k ∧ ¬ D k ∧ k ≠ xg
  hx : wr.heap[xg]? = some (.cells #[.int .i64 (x.skip : Int), .int .u8 (x.kind.toNat : Int), xb] 42 (0, 0))
  hxg : w.heap.size ≤ xg ∧ ¬ F xg ∧ ¬ D xg
  hxb : LiesIn wr D xb x.body
  hbl : bs.length = done.length
  hbs : ∀ i (h : i < done.length) u, bs[i]? = some u → LiesIn wr D u done[i].body
  hD : ∀ k, D k → k < wr.heap.size ∧ ¬ F k
section
variable {w wr : World} {p : Value} {d : DS} {F D : Nat → Prop} {o : Value} {done : List It} {bs : List Value} {xg : Nat} {x : It} {xb : Value}
theorem AllAt.lt (h : AllAt w wr p d F D o done bs xg x xb) : xg < wr.heap.size := heap_lt h.hx
/-- A new item in the list. -/
theorem AllAt.push (h : AllAt w wr p d F D o done bs xg x xb) {o' : Value} {w1 : World} {cs : Array Value} {t : TypeId}
    (hg : Grew (wr.alloc (.cells cs t)) w.heap.size 42 3 o o' (done.length + 1) (cellsF done bs ++ cellsF [x] [xb]) w1) :
    AllAt w w1 p d F D o' (done ++ [x]) (bs ++ [xb]) xg x xb := by
  obtain ⟨g1, g2, g3, g4⟩ := hg
  have hw : ∀ k, k < wr.heap.size → o.ownBlock ≠ some k → w1.heap[k]? = wr.heap[k]? := fun k hk hne =>
    (g2.block k (by simp; omega) (fun e => hne e.symm)).trans (Below.heap_alloc wr _ k hk)
  have hold : ∀ k, o.ownBlock = some k → k < wr.heap.size := fun k hk => (ownsRow_old h.ho k hk).2
  have hsz : wr.heap.size + 1 ≤ w1.heap.size := by have := g2.size; simpa using this
  have hkF : ∀ k, F k → w1.heap[k]? = wr.heap[k]? := fun k hk => hw k (h.hd.old k hk) fun e => (h.hob k e).1 hk
  have hkD : ∀ k, D k → w1.heap[k]? = wr.heap[k]? := fun k hk => hw k (h.hD k hk).1 fun e => (h.hob k e).2.1 hk
  have hlt := h.lt
  have hob : ∀ k, o'.ownBlock = some k → ¬ F k ∧ ¬ D k ∧ k ≠ xg := fun k hk => by
    rcases g3 with e | e
    · exact h.hob k (e ▸ hk)
    · rw [e] at hk
      simp at hk
      subst hk
      exact ⟨fun f => by have := h.hd.old _ f; omega, fun f => by have := (h.hD _ f).1; omega, by omega⟩
  refine ⟨h.hd.keep hkF, h.hF, (h.hB.alloc h.hB.size _).trans g4, ?_, hob, (hw xg hlt fun e => (h.hob _ e).2.2 rfl).trans h.hx, h.hxg, h.hxb.keep hkD, ?_, ?_, fun k hk => ⟨by have := (h.hD k hk).1; omega, (h.hD k hk).2⟩⟩
  · rw [cellsF_append _ _ _ _ h.hbl, List.length_append]
    exact g1
  · rw [List.length_append, List.length_append, h.hbl]; rfl
  · intro i hi u hu
    rw [List.length_append, List.length_singleton] at hi
    rcases Nat.lt_or_ge i done.length with h1 | h1
    · rw [List.getElem?_append_left (by rw [h.hbl]; exact h1)] at hu
      rw [List.getElem_append_left h1]
      exact (h.hbs i h1 u hu).keep hkD
    · obtain rfl : i = done.length := by omega
      rw [List.getElem?_append_right (by rw [h.hbl]; exact Nat.le_refl _), h.hbl] at hu
      simp at hu
      subst hu
      simp only [List.getElem_concat_length]
      exact h.hxb.keep hkD
/-- The next item in x's block. -/
theorem AllAt.next (h : AllAt w wr p d F D o done bs xg x xb) {w2 : World} {F' D2 : Nat → Prop} {d' : DS} {x' : It} {xb' : Value} (hm : Moved wr p d' F w2 F') (hl : LiesIn w2 D2 xb' x'.body) (hD2 : ∀ k, D2 k → (F k ∨ wr.heap.size ≤ k) ∧ k < w2.heap.size ∧ ¬ F' k) :
    AllAt w (set3 w2 xg (.int .i64 (x'.skip : Int)) (.int .u8 (x'.kind.toNat : Int)) xb') p d' F' (fun k => D k ∨ D2 k) o done bs xg x' xb' := by
  obtain ⟨hd, ht, hf⟩ := hm
  have hlt := h.lt
  have hb2 : Below w.heap.size w w2 := h.hB.trans (ht.below h.hF h.hB.size)
  have hsz := ht.size
  have nF : ∀ k, k < wr.heap.size → ¬ F k → ¬ F' k := fun k hk hn hf' => (hf k hf').elim hn (by omega)
  have nD2 : ∀ k, k < wr.heap.size → ¬ F k → ¬ D2 k := fun k hk hn hd2 => (hD2 k hd2).1.elim hn (by omega)
  have kD : ∀ k, D k → w2.heap[k]? = wr.heap[k]? := fun k hk => ht.block k (h.hD k hk).1 (h.hD k hk).2
  have far : ∀ k, k ≠ xg → (set3 w2 xg (.int .i64 (x'.skip : Int)) (.int .u8 (x'.kind.toNat : Int)) xb').heap[k]? = w2.heap[k]? := fun k hk => set3_far _ _ _ _ _ k hk
  have xF' := nF xg hlt h.hxg.2.1
  have xD2 := nD2 xg hlt h.hxg.2.1
  have kD' : ∀ k, D k → (set3 w2 xg (.int .i64 (x'.skip : Int)) (.int .u8 (x'.kind.toNat : Int)) xb').heap[k]? = wr.heap[k]? := fun k hk => (far k fun e => h.hxg.2.2 (e ▸ hk)).trans (kD k hk)
  refine ⟨hd.keep fun k hk => far k fun e => xF' (e ▸ hk), fun k hk => (hf k hk).elim (h.hF k) (fun q => Nat.le_trans h.hB.size q), set3_below hb2 h.hxg.1 _ _ _, ?_, ?_, ?_, ⟨h.hxg.1, xF', fun e => e.elim h.hxg.2.2 xD2⟩, ?_, h.hbl, ?_, ?_⟩
  · exact ownsRow_below h.ho fun k hk => (far k (h.hob k hk).2.2).trans (ht.block k (ownsRow_old h.ho k hk).2 (h.hob k hk).1)
  · intro k hk
    have hk1 := h.hob k hk
    have hk2 := (ownsRow_old h.ho k hk).2
    exact ⟨nF k hk2 hk1.1, fun e => e.elim hk1.2.1 (nD2 k hk2 hk1.1), hk1.2.2⟩
  · exact set3_heap ((ht.block xg hlt h.hxg.2.1).trans h.hx)
  · exact (hl.keep fun k hk => far k fun e => xD2 (e ▸ hk)).mono fun k hk => .inr hk
  · exact fun i hi u hu => ((h.hbs i hi u hu).keep kD').mono fun k hk => .inl hk
  · intro k hk
    rw [set3_size]
    rcases hk with hk | hk
    · have := h.hD k hk
      exact ⟨by omega, nF k this.1 this.2⟩
    · exact (hD2 k hk).2
end
/-- all's answer. -/
def AllDid (l : List It) (w : World) (e : Ending) (w' : World) : Prop := ∃ A c, e = .returned (.slice A l.length c) ∧ SeqF w' w'.heap.size (.slice A l.length c) l ∧ l.length ≤ c ∧ Below w.heap.size w w'
theorem AllAt.done_ {w wr : World} {p : Value} {d : DS} {F D : Nat → Prop} {o : Value} {done : List It} {bs : List Value} {xg : Nat} {x : It} {xb : Value} (h : AllAt w wr p d F D o done bs xg x xb) : ∃ A c, o = .slice A done.length c ∧ done.length ≤ c ∧ SeqF wr wr.heap.size o done ∧ Below w.heap.size w wr := by
  have hs : SeqF wr wr.heap.size o done := ⟨bs, h.hbl, Seq.own h.ho, fun i hi u hu => (h.hbs i hi u hu).below fun k hk => (h.hD k hk).1⟩
  obtain ⟨A, c, e, hc⟩ := hs.open_
  exact ⟨A, c, e, hc, hs, h.hB⟩
/-- Next's answer, its parts named. -/
def NextAt (p : Value) (d' : DS) (x : It) (ok : Bool) (F : Nat → Prop) (w : World) (e : Ending) (w' : World) : Prop := ∃ F' D A c, e = .returned (.tuple #[.agg #[.int .i64 (x.skip : Int), .int .u8 (x.kind.toNat : Int), .slice A x.body.length c], .bool ok]) ∧ Moved w p d' F w' F' ∧ LiesIn w' D (.slice A x.body.length c) x.body ∧ ∀ k, D k → (F k ∨ w.heap.size ≤ k) ∧ k < w'.heap.size ∧ ¬ F' k
theorem next_at (p : Value) (d d' : DS) (x : It) (ok : Bool) (F : Nat → Prop) (w : World) (hd : Dec w p d F) (h : nextS d = (d', x, ok)) : Calls Tryd.prog 17 #[p] w (NextAt p d' x ok F w) := by
  have h2 := next_any p d F w hd
  unfold NextDid at h2
  rw [h] at h2
  exact h2
/-- Behind the first item. -/
theorem AllAt.first {w wr w2 : World} {p : Value} {d' : DS} {F F' D : Nat → Prop} {x : It} {xb : Value} (hF : ∀ k, F k → w.heap.size ≤ k) (hB : Below w.heap.size w wr) (hm : Moved wr p d' F w2 F') (hl : LiesIn w2 D xb x.body) (hD : ∀ k, D k → (F k ∨ wr.heap.size ≤ k) ∧ k < w2.heap.size ∧ ¬ F' k) :
    AllAt w (w2.alloc (.cells #[.int .i64 (x.skip : Int), .int .u8 (x.kind.toNat : Int), xb] 42)) p d' F' D (.slice none 0 0) [] [] w2.heap.size x xb := by
  obtain ⟨hd, ht, hf⟩ := hm
  have hb2 : Below w.heap.size w w2 := hB.trans (ht.below hF hB.size)
  have al : ∀ k, k < w2.heap.size → (w2.alloc (.cells #[.int .i64 (x.skip : Int), .int .u8 (x.kind.toNat : Int), xb] 42)).heap[k]? = w2.heap[k]? := fun k hk => Below.heap_alloc _ _ k hk
  refine ⟨hd.keep fun k hk => al k (hd.old k hk), fun k hk => (hf k hk).elim (hF k) (fun q => Nat.le_trans hB.size q), hb2.alloc hb2.size _, World.ownsRow_nil _ _ _ _, fun k hk => by simp [Value.ownBlock] at hk, heap_alloc_new w2 _, ⟨hb2.size, fun f => by have := hd.old _ f; omega, fun f => by have := (hD _ f).2.1; omega⟩, hl.keep fun k hk => al k (hD k hk).2.1, rfl, fun i hi => by simp at hi, fun k hk => ⟨by have := (hD k hk).2.1; simp; omega, (hD k hk).2.2⟩⟩
theorem cellsF_one (l : List It) (bs : List Value) : ∀ y ∈ cellsF l bs, (∀ u ∈ bs, u.oneCell' = true) → y.oneCell' = true := by
  induction l generalizing bs with
  | nil => intro y hy; simp [cellsF] at hy
  | cons x l ih =>
    intro y hy hb
    cases bs with
    | nil => simp [cellsF] at hy
    | cons b bs =>
      simp only [cellsF, List.mem_cons] at hy
      rcases hy with rfl | rfl | rfl | hy
      · rfl
      · rfl
      · exact hb _ (by simp)
      · exact ih bs y hy fun u hu => hb u (by simp [hu])
theorem item_lit (x : It) (A : Option Addr) (n c : Nat) : ∀ y ∈ cellsF [x] [.slice A n c], y.oneCell' = true := by
  intro y hy
  exact cellsF_one [x] _ y hy (by intro u hu; simp at hu; subst hu; rfl)
end Go.Proofs.YtpgainalimmecaaDoor
