/-
  A range over a function whose iterator writes to cells of its own, of no layer: what the iterator promises (Hands), and the law of the statement.
-/
import Derived.RangeFuncNested
import Derived.RangeFuncBound
import Derived.RangeFuncCalls
import Derived.RangeFuncLeaves
import Derived.Test.YthnkiabhfcddaaaDoorPackA
namespace Go.Proofs.YthnkiabhfcddaaaDoor
open Go.RowKit
set_option linter.unusedVariables false

/-- The two blocks that a range over a function lays for itself, from B on, lie as they lay. -/
def Keep2 (B : Nat) (W W' : World) : Prop := ∀ k, k = B ∨ k = B + 1 → W'.heap[k]? = W.heap[k]?
theorem Keep2.refl (B : Nat) (W : World) : Keep2 B W W := fun _ _ => rfl
theorem Keep2.trans {B : Nat} {X Y Z : World} (h : Keep2 B X Y) (k : Keep2 B Y Z) : Keep2 B X Z := fun i hi => (k i hi).trans (h i hi)

theorem below_put {B r : Nat} {W w : World} (h : Below B W w) (hr : B ≤ r) (o : Obj) : Below B W (w.putObj r o) :=
  ⟨h.os, h.tape, h.output, by rw [World.putObj_size]; exact h.size, fun j hj => (World.putObj_heap_other (by omega)).trans (h.block j hj)⟩

/-- What an iterator promises: from state s in world W (Ok) it either hands xs out, in world W1, and is then in state s' (Hand), or ends in world W1 (End); behind a round that said 'no more' it ends where it stands. -/
def Hands {σ : Type} (P : Program) (gf : FuncId) (lb : Array Value) (Ok : σ → World → Prop) (Hand : σ → World → σ → Array Value → World → Prop) (End : σ → World → World → Prop) : Prop :=
  ∀ (l : Nat) (J : σ → World → Prop) (Je Jx : World → Prop),
    (∀ s W, J s W → Ok s W) →
    (∀ s W s' xs W1, J s W → Hand s W s' xs W1 → YieldAt Fence.wide 1 P l xs W1 fun e W' => (e = .returned (.bool true) ∧ J s' W') ∨ (e = .returned (.bool false) ∧ Jx W')) →
    (∀ s W W1, J s W → End s W W1 → Je W1) →
    ∀ s W, J s W → CallsIn Fence.wide 2 P gf (#[.func (.yield l) #[] #[]] ++ lb) W fun e W' => (∃ v, e = .returned v) ∧ (Je W' ∨ Jx W')

/-- How the body of a round may be left. -/
def handsPost (B : Nat) (I : World → Prop) (Ix : Code → World → Prop) (W : World) : Exit → Act → World → Prop
  | .normal, _, W' => Keep2 B W W' ∧ I W'
  | .ret, _, W' => Keep2 B W W' ∧ Ix .ret W'
  | .exit id, _, W' => Keep2 B W W' ∧ Ix (.exit id) W'
  | .goto t, _, W' => Keep2 B W W' ∧ Ix (.goto t) W'
  | .panic _, _, _ => False
  | .outgrown, _, _ => False

/-- The law of the statement. -/
theorem wp_rangeFunc_hands {σ : Type} {P : Program} {g : Operand} {ps : Array Tmp} {assign body : Code} {Q : Exit → Act → World → Prop} {a : Act} {w : World} {gf : Nat} {lb : Array Value}
    (hg : a.eval g = .func (.func gf) #[] lb) (eg : ∀ args w, (callFunc gf args).run P w = .ok (.enter gf args) w)
    {Ok : σ → World → Prop} {Hand : σ → World → σ → Array Value → World → Prop} {End : σ → World → World → Prop} (hs : Hands P gf lb Ok Hand End)
    (I : σ → World → Prop) (Ih : σ → Array Value → Act → World → Prop) (Ie : World → Prop) (Ix : Code → World → Prop) (s0 : σ)
    (h0 : ∀ r, I s0 ((w.alloc (.deferred (some []))).alloc (.loop r)))
    (pI : ∀ s W o, I s W → I s (W.putObj (w.heap.size + 1) o)) (pH : ∀ s xs a' W o, Ih s xs a' W → Ih s xs a' (W.putObj (w.heap.size + 1) o))
    (pE : ∀ W o, Ie W → Ie (W.putObj (w.heap.size + 1) o)) (pX : ∀ c W o, Ix c W → Ix c (W.putObj (w.heap.size + 1) o))
    (hOk : ∀ s W, I s W → Ok s W)
    (hH : ∀ s W s' xs W1, I s W → Hand s W s' xs W1 → xs.size = ps.size ∧ Keep2 w.heap.size W W1)
    (hE : ∀ s W W1, I s W → End s W W1 → Keep2 w.heap.size W W1 ∧ Ie W1)
    (hassign : ∀ (l : Nat) s W s' xs W1, I s W → Hand s W s' xs W1 → w.heap.size + 2 ≤ W1.heap.size →
      assign.wpIn (Fence.wide.inRound l) 1 P (Exit.then (fun a' W2 => Keep2 w.heap.size W1 W2 ∧ Ih s' xs a' W2) (fun _ _ _ => False)) { tmps := (ps.zip xs).foldl (fun t (p, v) => t.setIfInBounds p v) a.tmps, defers := [] } W1)
    (hbody : ∀ (l : Nat) s' xs a' W2, (∃ r, W2.heap[l]? = some (.loop r)) → Ih s' xs a' W2 → w.heap.size + 2 ≤ W2.heap.size → body.wpIn (Fence.wide.inRound l) 1 P (handsPost w.heap.size (I s') Ix W2) a' W2)
    (hdone : ∀ W, Ie W → W.heap[w.heap.size]? = some (.deferred (some [])) → Q .normal { a with defers := { target := .collected w.heap.size, args := #[] } :: a.defers } W)
    (hstop : ∀ c W, Ix c W → W.heap[w.heap.size]? = some (.deferred (some [])) → c.wp P Q { a with defers := { target := .collected w.heap.size, args := #[] } :: a.defers } W) :
    (Code.rangeFunc g ps assign body).wp P Q a w := by
  refine (wpIn_wide (n := 3)).1 (wpIn_rangeFunc ?_)
  intro fn hfn
  obtain ⟨rec, hrec⟩ : ∃ rec : LoopState → Option Code → Loop, rec = fun st pe => { state := st, pending := pe, fn, tmps := a.tmps, params := ps, assign, body, defers := w.heap.size } := ⟨_, rfl⟩
  obtain ⟨W1, hW1⟩ : ∃ W1, (w.alloc (.deferred (some []))).alloc (.loop (rec .ready none)) = W1 := ⟨_, rfl⟩
  have hL1 : W1.heap[w.heap.size + 1]? = some (.loop (rec .ready none)) := by
    rw [← hW1]; have := World.alloc_heap_new (w.alloc (.deferred (some []))) (.loop (rec .ready none)); rwa [World.size_alloc] at this
  have hK1 : W1.heap[w.heap.size]? = some (.deferred (some [])) := by
    rw [← hW1]; exact (Below.heap_alloc _ _ _ (by simp)).trans (World.alloc_heap_new w _)
  have hI1 : I s0 W1 := by rw [← hW1]; exact h0 _
  refine ⟨w.heap.size + 1, [{ target := .collected w.heap.size, args := #[] }], W1, { target := .fn (.func gf) lb, args := #[.func (.yield (w.heap.size + 1)) #[] #[]] }, W1, gf,
    #[.func (.yield (w.heap.size + 1)) #[] #[]] ++ lb, W1, ?_, ?_, ?_, ?_, fun h => (by simp [Fence.wide] at h), ?_⟩
  · rw [← hW1, hrec]; exact run_enterLoop_outer _ _ _ _ _
  · simp only [resolve, hg]
    simp [go_sem]
  · intro f' hf'; trivial
  · simp [invoke, go_sem, eg]
  · refine (hs (w.heap.size + 1)
      (fun s W => I s W ∧ W.heap[w.heap.size + 1]? = some (.loop (rec .ready none)) ∧ W.heap[w.heap.size]? = some (.deferred (some [])))
      (fun W => Ie W ∧ W.heap[w.heap.size + 1]? = some (.loop (rec .ready none)) ∧ W.heap[w.heap.size]? = some (.deferred (some [])))
      (fun W => ∃ c, Ix c W ∧ W.heap[w.heap.size + 1]? = some (.loop (rec .done (some c))) ∧ W.heap[w.heap.size]? = some (.deferred (some [])))
      (fun s W h => hOk s W h.1) ?_ ?_ s0 W1 ⟨hI1, hL1, hK1⟩).mono ?_
    · rintro s W0 s' xs W ⟨hi0, hl0, hk0⟩ hh
      obtain ⟨hsz, hkp⟩ := hH s W0 s' xs W hi0 hh
      have hl : W.heap[w.heap.size + 1]? = some (.loop (rec .ready none)) := (hkp _ (.inr rfl)).trans hl0
      have hk : W.heap[w.heap.size]? = some (.deferred (some [])) := (hkp _ (.inl rfl)).trans hk0
      have hlt : w.heap.size + 1 < W.heap.size := (Array.getElem?_eq_some_iff.1 hl).1
      have hy := run_yield (P := P) (args := xs) hl (by rw [hrec]; exact hsz)
      rw [hrec] at hy
      refine ⟨fn, _, assign, body, hy, roundIn_of_wpIn hfn (wpIn_mono (hassign _ s W0 s' xs W hi0 hh hlt) ?_)⟩
      clear hy
      rintro e a' Wa hq
      cases e with
      | normal =>
        obtain ⟨hka, hia⟩ := hq
        replace hl := (hka _ (.inr rfl)).trans hl
        replace hk := (hka _ (.inl rfl)).trans hk
        replace hlt : w.heap.size + 1 < Wa.heap.size := (Array.getElem?_eq_some_iff.1 hl).1
        refine ⟨_, run_beginRound hl (by rw [hrec]), ?_⟩
        have hl2 : (Wa.putObj (w.heap.size + 1) (.loop { rec .ready none with state := .busy })).heap[w.heap.size + 1]? = some (.loop { rec .ready none with state := .busy }) := World.putObj_heap_same hlt
        have hk2 : (Wa.putObj (w.heap.size + 1) (.loop { rec .ready none with state := .busy })).heap[w.heap.size]? = some (.deferred (some [])) := (World.putObj_heap_other (by omega)).trans hk
        refine wpIn_mono (hbody _ s' xs a' _ ⟨_, hl2⟩ (pH _ _ _ _ _ hia) ((Array.getElem?_eq_some_iff.1 hl2).1)) ?_
        have fin : ∀ (jump : Option Code) (W3 : World), Keep2 w.heap.size (Wa.putObj (w.heap.size + 1) (.loop { rec .ready none with state := .busy })) W3 →
            (Instr.endRound (w.heap.size + 1) jump).run P W3 = .ok (.bool jump.isNone) (W3.putObj (w.heap.size + 1) (.loop (rec (if jump.isNone then .ready else .done) jump))) ∧
            (W3.putObj (w.heap.size + 1) (.loop (rec (if jump.isNone then .ready else .done) jump))).heap[w.heap.size + 1]? = some (.loop (rec (if jump.isNone then .ready else .done) jump)) ∧
            (W3.putObj (w.heap.size + 1) (.loop (rec (if jump.isNone then .ready else .done) jump))).heap[w.heap.size]? = some (.deferred (some [])) := fun jump W3 hk3 => by
          have hl3 := (hk3 _ (.inr rfl)).trans hl2
          have := run_endRound (P := P) jump hl3
          rw [hrec] at this ⊢
          exact ⟨this, World.putObj_heap_same (Array.getElem?_eq_some_iff.1 hl3).1, (World.putObj_heap_other (by omega)).trans ((hk3 _ (.inl rfl)).trans hk2)⟩
        rintro e a3 W3 hp
        cases e with
        | normal =>
          obtain ⟨hk3, hi3⟩ := hp
          obtain ⟨hr, hl4, hk4⟩ := fin none W3 hk3
          exact ⟨_, _, hr, .inl ⟨rfl, pI _ _ _ hi3, hl4, hk4⟩⟩
        | ret =>
          obtain ⟨hk3, hi3⟩ := hp
          obtain ⟨hr, hl4, hk4⟩ := fin (some .ret) W3 hk3
          exact ⟨_, _, hr, .inr ⟨rfl, .ret, pX _ _ _ hi3, hl4, hk4⟩⟩
        | exit id =>
          obtain ⟨hk3, hi3⟩ := hp
          obtain ⟨hr, hl4, hk4⟩ := fin (some (.exit id)) W3 hk3
          exact ⟨_, _, hr, .inr ⟨rfl, .exit id, pX _ _ _ hi3, hl4, hk4⟩⟩
        | goto t =>
          obtain ⟨hk3, hi3⟩ := hp
          obtain ⟨hr, hl4, hk4⟩ := fin (some (.goto t)) W3 hk3
          exact ⟨_, _, hr, .inr ⟨rfl, .goto t, pX _ _ _ hi3, hl4, hk4⟩⟩
        | panic ch => exact hp.elim
        | outgrown => exact hp.elim
      | exit id => exact hq.elim
      | goto t => exact hq.elim
      | ret => exact hq.elim
      | panic ch => exact hq.elim
      | outgrown => exact hq.elim
    · rintro s W0 W ⟨hi0, hl0, hk0⟩ hh
      obtain ⟨hkp, hie⟩ := hE s W0 W hi0 hh
      exact ⟨hie, (hkp _ (.inr rfl)).trans hl0, (hkp _ (.inl rfl)).trans hk0⟩
    · rintro e W2 ⟨⟨v, rfl⟩, (⟨hi, hl, hk⟩ | ⟨c, hi, hl, hk⟩)⟩
      · exact ⟨none, _, by have := run_endLoop (P := P) hl (by rw [hrec]; simp); rw [hrec] at this; exact this, hdone _ (pE _ _ hi) ((World.putObj_heap_other (by omega)).trans hk)⟩
      · exact ⟨some c, _, by have := run_endLoop (P := P) hl (by rw [hrec]; simp); rw [hrec] at this; exact this, wpIn_wide.2 (hstop c _ (pX _ _ _ hi) ((World.putObj_heap_other (by omega)).trans hk))⟩
/-- The law where the body leaves by a break alone. -/
theorem wp_rangeFunc_break {σ : Type} {P : Program} {g : Operand} {ps : Array Tmp} {assign body : Code} {id : Nat} {Q : Exit → Act → World → Prop} {a : Act} {w : World} {gf : Nat} {lb : Array Value}
    (hg : a.eval g = .func (.func gf) #[] lb) (eg : ∀ args w, (callFunc gf args).run P w = .ok (.enter gf args) w)
    {Ok : σ → World → Prop} {Hand : σ → World → σ → Array Value → World → Prop} {End : σ → World → World → Prop} (hs : Hands P gf lb Ok Hand End)
    (I : σ → World → Prop) (Ih : σ → Array Value → Act → World → Prop) (Ie : World → Prop) (s0 : σ)
    (h0 : ∀ r, I s0 ((w.alloc (.deferred (some []))).alloc (.loop r)))
    (pI : ∀ s W o, I s W → I s (W.putObj (w.heap.size + 1) o)) (pH : ∀ s xs a' W o, Ih s xs a' W → Ih s xs a' (W.putObj (w.heap.size + 1) o))
    (pE : ∀ W o, Ie W → Ie (W.putObj (w.heap.size + 1) o))
    (hOk : ∀ s W, I s W → Ok s W)
    (hH : ∀ s W s' xs W1, I s W → Hand s W s' xs W1 → xs.size = ps.size ∧ Keep2 w.heap.size W W1)
    (hE : ∀ s W W1, I s W → End s W W1 → Keep2 w.heap.size W W1 ∧ Ie W1)
    (hassign : ∀ (l : Nat) s W s' xs W1, I s W → Hand s W s' xs W1 → w.heap.size + 2 ≤ W1.heap.size →
      assign.wpIn (Fence.wide.inRound l) 1 P (Exit.then (fun a' W2 => Keep2 w.heap.size W1 W2 ∧ Ih s' xs a' W2) (fun _ _ _ => False)) { tmps := (ps.zip xs).foldl (fun t (p, v) => t.setIfInBounds p v) a.tmps, defers := [] } W1)
    (hbody : ∀ (l : Nat) s' xs a' W2, (∃ r, W2.heap[l]? = some (.loop r)) → Ih s' xs a' W2 → w.heap.size + 2 ≤ W2.heap.size → body.wpIn (Fence.wide.inRound l) 1 P (handsPost w.heap.size (I s') (fun c W => c = .exit id ∧ Ie W) W2) a' W2)
    (hrest : ∀ W, Ie W → W.heap[w.heap.size]? = some (.deferred (some [])) → Q .normal { a with defers := { target := .collected w.heap.size, args := #[] } :: a.defers } W) :
    (Code.rangeFunc g ps assign body).wp P (Exit.inBlock id Q) a w :=
  wp_rangeFunc_hands hg eg hs I Ih Ie (fun c W => c = .exit id ∧ Ie W) s0 h0 pI pH pE (fun c W o h => ⟨h.1, pE W o h.2⟩) hOk hH hE hassign hbody (fun W h hk => hrest W h hk)
    (fun c W h hk => by
      obtain ⟨rfl, h⟩ := h
      refine wp_exit ?_
      simp only [Exit.inBlock, ↓reduceIte]
      exact hrest W h hk)
end Go.Proofs.YthnkiabhfcddaaaDoor
