/-
  Layer 4: the decoder in memory, with its blocks; Clone of any bytes; an append to bytes of one's own.
-/
import Derived.Test.YtpgainalimmecaaDoorFrPass
import Derived.Deep.Cut
namespace Go.Proofs.YtpgainalimmecaaDoor
open Go.RowKit
set_option linter.unusedVariables false

/-- The blocks of a decoder. -/
def Role (g : Nat) (hv iv : Value) (bs : List Value) (k : Nat) : Prop := k = g ∨ hv.ownBlock = some k ∨ iv.ownBlock = some k ∨ ∃ u ∈ bs, u.ownBlock = some k
/-- A decoder in block g, in state d. -/
structure DecAt (w : World) (g : Nat) (hv iv : Value) (bs : List Value) (d : DS) (F : Nat → Prop) : Prop where
  box : Box w g hv d.skip iv d.items bs d.over
  own : Owns w 0 hv d.wait
  apart : ∀ u ∈ bs, Apart hv u
  role : ∀ k, Role g hv iv bs k → F k
  old : ∀ k, F k → k < w.heap.size
/-- The value p is a decoder in state d; of the blocks that were made, those of F are its own. -/
def Dec (w : World) (p : Value) (d : DS) (F : Nat → Prop) : Prop := ∃ g hv iv bs, p = .pointer (some ⟨g, 0, none⟩) ∧ DecAt w g hv iv bs d F
theorem Dec.old {w : World} {p : Value} {d : DS} {F : Nat → Prop} (h : Dec w p d F) : ∀ k, F k → k < w.heap.size := by
  obtain ⟨g, hv, iv, bs, _, h⟩ := h
  exact h.old
theorem Dec.keep {w w' : World} {p : Value} {d : DS} {F : Nat → Prop} (h : Dec w p d F) (hb : ∀ k, F k → w'.heap[k]? = w.heap[k]?) : Dec w' p d F := by
  obtain ⟨g, hv, iv, bs, e, h⟩ := h
  refine ⟨g, hv, iv, bs, e, h.box.keep (hb g (h.role g (.inl rfl))) (fun j hj => hb j (h.role j (.inr (.inr (.inl hj))))) (fun u hu j hj => hb j (h.role j (.inr (.inr (.inr ⟨u, hu, hj⟩))))), h.own.below_ fun j hj => hb j (h.role j (.inr (.inl hj))), h.apart, h.role, fun k hk => ?_⟩
  have h1 := hb k hk
  have h2 := h.old k hk
  rw [Array.getElem?_eq_getElem h2] at h1
  exact (Array.getElem?_eq_some_iff.1 h1).1
/-- What a call on a decoder whose blocks are F leaves: a decoder whose blocks are F' in state d. -/
def Moved (w : World) (p : Value) (d : DS) (F : Nat → Prop) (w' : World) (F' : Nat → Prop) : Prop := Dec w' p d F' ∧ Touch F w w' ∧ ∀ k, F' k → F k ∨ w.heap.size ≤ k
/-- New bytes, which the caller may write to. -/
def Fresh (w : World) (base : Nat) (v : Value) (l : List UInt8) : Prop := ∃ b off c, v = .slice (some ⟨b, off, none⟩) l.length c ∧ l.length ≤ c ∧ base ≤ b ∧ b < w.heap.size ∧ ∀ i (h : i < l.length), w.cell? ⟨b, off + i, none⟩ = some (.int .u8 (l[i].toNat : Int)) ∧ w.frozen? ⟨b, off + i, none⟩ = false
theorem Owns.lt {w : World} {base : Nat} {v : Value} {l : List UInt8} (h : Owns w base v l) : ∀ j, v.ownBlock = some j → j < w.heap.size := fun j hj => by
  obtain ⟨cur, hc⟩ := h.type j hj
  exact heap_lt hc
theorem Owns.any {w : World} {base : Nat} {v : Value} {l : List UInt8} (h : Owns w base v l) : Owns w 0 v l := ownsRow_mono h (Nat.zero_le _)
/-- Behind a call. -/
theorem moved_of {w w' : World} {g : Nat} {hv iv hv' iv' : Value} {bs bs' : List Value} {d d' : DS} {F : Nat → Prop} (h : DecAt w g hv iv bs d F) (hbox : Box w' g hv' d'.skip iv' d'.items bs' d'.over) (how : Owns w' 0 hv' d'.wait) (hap : ∀ u ∈ bs', Apart hv' u)
    (ht : Touch (fun j => j = g ∨ iv.ownBlock = some j ∨ hv.ownBlock = some j) w w') (hat : ∀ j, iv'.ownBlock = some j → iv.ownBlock = some j ∨ w.heap.size ≤ j) (hhv : ∀ j, hv'.ownBlock = some j → hv.ownBlock = some j ∨ w.heap.size ≤ j) (hnew : ∀ u ∈ bs', ∀ j, u.ownBlock = some j → (∃ u ∈ bs, u.ownBlock = some j) ∨ w.heap.size ≤ j) :
    Moved w (.pointer (some ⟨g, 0, none⟩)) d' F w' (Role g hv' iv' bs') := by
  refine ⟨⟨g, hv', iv', bs', rfl, hbox, how, hap, fun k hk => hk, fun k hk => ?_⟩, ht.mono fun j hj => ?_, fun k hk => ?_⟩
  · rcases hk with rfl | hk | hk | ⟨u, hu, hk⟩
    · exact hbox.lt
    · exact how.lt k hk
    · exact hbox.iv_lt k hk
    · exact hbox.body_lt hu hk
  · rcases hj with rfl | hj | hj
    · exact h.role _ (.inl rfl)
    · exact h.role _ (.inr (.inr (.inl hj)))
    · exact h.role _ (.inr (.inl hj))
  · rcases hk with rfl | hk | hk | ⟨u, hu, hk⟩
    · exact .inl (h.role _ (.inl rfl))
    · exact (hhv k hk).elim (fun q => .inl (h.role _ (.inr (.inl q)))) .inr
    · exact (hat k hk).elim (fun q => .inl (h.role _ (.inr (.inr (.inl q))))) .inr
    · exact (hnew u hu k hk).elim (fun ⟨u, hu, q⟩ => .inl (h.role _ (.inr (.inr (.inr ⟨u, hu, q⟩))))) .inr

set_option maxRecDepth 100000 in
theorem clone_nil (w : World) : Calls Tryd.prog 31 #[.slice none 0 0] w fun e w' => ∃ A c', e = .returned (.slice A 0 c') ∧ Owns w' w.heap.size (.slice A 0 c') [] ∧ Below w.heap.size w w' := by
  have hq := Go.run_eql_slice_nil (P := Tryd.prog) w 22 5 none 0 0 Tryd.underlying22
  go_enter Tryd.func31, Tryd.ntmps31
  go_wp2
  go_ret
  exact ⟨none, 0, rfl, Owns.none_ _ _, bself w⟩
theorem clone_text {w : World} {A : Option Addr} {n c : Nat} {s : List UInt8} (h : TextAt w A n c s) (hf : n ≤ 1000000) : Calls Tryd.prog 31 #[.slice A n c] w fun e w' => ∃ A' c', e = .returned (.slice A' n c') ∧ Owns w' w.heap.size (.slice A' n c') s ∧ Below w.heap.size w w' := by
  have hl := h.hlen
  have hc := h.hc
  cases A with
  | none =>
    obtain rfl := h.hn rfl
    obtain rfl : n = 0 := by omega
    obtain rfl : s = [] := List.eq_nil_of_length_eq_zero hl
    exact clone_nil w
  | some ad =>
    refine clone_n ad c n s w hl (fun hne => ?_) (by unfold Fits; omega)
    have h0 : 0 < n := by
      rw [← hl]
      cases s with
      | nil => exact absurd rfl hne
      | cons x s => simp
    obtain ⟨X, off, cur, fr, e, hX, hcs⟩ := h.hs h0
    obtain ⟨b, off, e2, hlt, hh⟩ := Lies.row (w := w) (B := w.heap.size) (b := X) (off := off) (l := s) (Array.getElem?_eq_some_iff.1 hX).1 hcs hne
    exact ⟨b, off, e.trans e2, hlt, hh⟩
/-- What an append to bytes of one's own leaves. -/
structure GrewB (w : World) (v v' : Value) (l : List UInt8) (w' : World) : Prop where
  own : Owns w' 0 v' l
  grown : w.grownBy w' v.ownBlock
  at_ : v'.ownBlock = v.ownBlock ∨ v'.ownBlock = some w.heap.size
/-- An append of any bytes to bytes of one's own: what was there but them stays. -/
theorem wp_app_held {w : World} {D : Nat → Prop} {ops : Array Oper} {rest : List Oper} {o : Oper} {a : Act} {Q : Exit → Act → World → Prop} (hgd : o.guard = none) (s x : Operand)
    (ho : o.op = .call { callee := .builtin .append, args := #[s, x], argTypes := #[22, 22] })
    (v : Value) (l m : List UInt8) (A : Option Addr) (c n : Nat) (hs : a.eval s = v) (hown : Owns w 0 v l) (hx : a.eval x = .slice A n c) (hr : LiesIn w D (.slice A n c) m) (hf : l.length + m.length ≤ 1000000)
    (h : ∀ v' w', GrewB w v v' (l ++ m) w' → wpList Tryd.prog ops Q rest (a.put o.dst v') w') : wpList Tryd.prog ops Q (o :: rest) a w := by
  obtain ⟨i0, hi0, hz0, hz1, hz2⟩ := info_parts info_u8
  have key : ∀ ad, A = some ad → m.length = n → (∀ j u, (bc m)[j]? = some u → w.cell? (ad.add j) = some u) → wpList Tryd.prog ops Q (o :: rest) a w := fun ad e hn hc => by
    subst e
    refine wpList_append_own_at w hgd s x _ ho 0 _ i0 _ 1 1 Tryd.underlying22 hi0 hz0 hz1 hz2 rfl (by omega) v l.length (bc l) hs hown ad n c (bc m) hx (by rw [bc_length, hn]; omega) hc (bc_one m) (by unfold maxLen; omega) (by omega) (Nat.zero_le _) ?_
    intro v' w' h1 h2 _ h4
    refine h v' w' ⟨?_, h2, h4⟩
    unfold Owns
    rw [bc_append, List.length_append, hn]
    exact h1
  rcases hr with ⟨rfl, A', c', e, hA⟩ | ⟨b, off, c', e, hl, hD, hc⟩
  · simp only [Value.slice.injEq] at e
    obtain ⟨rfl, rfl, rfl⟩ := e
    cases A with
    | some ad => exact key ad rfl rfl fun j u hu => by simp [bc] at hu
    | none =>
      obtain rfl := hA rfl
      refine wpList_append_own_none hgd s x _ ho 0 _ i0 1 Tryd.underlying22 hi0 v l.length (bc l) hs hown hx ?_
      exact h v w ⟨by simpa using hown, World.grownBy.refl _ _, .inl rfl⟩
  · simp only [Value.slice.injEq] at e
    obtain ⟨rfl, rfl, rfl⟩ := e
    refine key _ rfl rfl fun j u hu => ?_
    have hj : j < m.length := by
      have := (List.getElem?_eq_some_iff.1 hu).1
      simpa [bc] using this
    rw [bc_get m j hj] at hu
    rw [Addr.add_lit, ← hu]
    exact hc j hj
/-- Bytes of one's own as a text. -/
theorem Owns.text {w : World} {base : Nat} {v : Value} {l : List UInt8} (h : Owns w base v l) : ∃ A n c, v = .slice A n c ∧ TextAt w A n c l := by
  have ht := h.type
  rcases h.lies with ⟨rfl, rfl⟩ | ⟨b, off, c, rfl, hl, hB, hc⟩
  · exact ⟨none, 0, 0, rfl, rfl, Nat.le_refl _, fun _ => rfl, fun h0 => absurd h0 (by omega)⟩
  · obtain ⟨cur, hcur⟩ := ht b rfl
    exact ⟨_, _, c, rfl, rfl, hl, fun e => (by cases e), fun _ => ⟨b, off, cur, (0, 0), rfl, hcur, hc⟩⟩
theorem DecAt.grown {w w' : World} {g : Nat} {hv iv v' : Value} {bs : List Value} {d : DS} {F : Nat → Prop} {l : List UInt8} (h : DecAt w g hv iv bs d F) (hg : GrewB w hv v' l w') : Box w' g hv d.skip iv d.items bs d.over ∧ Touch (fun j => hv.ownBlock = some j) w w' := by
  have hne : ∀ j, hv.ownBlock = some j → j ≠ g ∧ iv.ownBlock ≠ some j := fun j hj => by
    obtain ⟨cur, hc⟩ := h.own.type j hj
    exact h.box.u8_ne hc
  refine ⟨h.box.keep (hg.grown.block g h.box.lt fun e => (hne g e.symm).1 rfl) (fun j hj => hg.grown.block j (h.box.iv_lt j hj) fun e => (hne j e.symm).2 hj) (fun u hu j hj => hg.grown.block j (h.box.body_lt hu hj) fun e => h.apart u hu j e.symm hj), ⟨hg.grown.os, hg.grown.tape, hg.grown.output, hg.grown.size, fun k hk hF => hg.grown.block k hk fun e => hF e.symm⟩⟩
end Go.Proofs.YtpgainalimmecaaDoor
