/-
  Texts of the proofs, put together: FrDec, Box, All, Play, RecPut.
-/
import Derived.Test.YthnkiabhfcddaaaDoorFrPass
import Derived.Deep.Cut
import Derived.Test.YthnkiabhfcddaaaDoorFrItems
import Derived.Test.YthnkiabhfcddaaaDoorPackL
import Derived.Test.YthnkiabhfcddaaaDoorRecMay
import Derived.Test.YthnkiabhfcddaaaDoorPackC
import Derived.Test.YthnkiabhfcddaaaDoorPackQ
/-
  Layer 4: the decoder in memory, with its blocks; Clone of any bytes; an append to bytes of one's own.
-/
namespace Go.Proofs.YthnkiabhfcddaaaDoor
open Go.RowKit
set_option linter.unusedVariables false

/-- The blocks of a decoder. -/
def Role (g : Nat) (hv iv : Value) (bs : List Value) (k : Nat) : Prop := k = g ∨ hv.ownBlock = some k ∨ iv.ownBlock = some k ∨ ∃ u ∈ bs, u.ownBlock = some k
/-- A decoder in block g, in state d. -/
structure DecAt (w : World) (g : Nat) (hv iv : Value) (bs : List Value) (d : DS) (F : Nat → Prop) : Prop where
  box : Box w g hv d.skip iv d.items bs d.over
  own : Owns w 0 hv d.wait
  apart : ∀ u ∈ bs, Apart hv u
  role : ∀ k, Role g hv iv bs k → F k
  old : ∀ k, F k → k < w.heap.size
/-- The value p is a decoder in state d; of the blocks that were made, those of F are its own. -/
def Dec (w : World) (p : Value) (d : DS) (F : Nat → Prop) : Prop := ∃ g hv iv bs, p = .pointer (some ⟨g, 0, none⟩) ∧ DecAt w g hv iv bs d F
theorem Dec.old {w : World} {p : Value} {d : DS} {F : Nat → Prop} (h : Dec w p d F) : ∀ k, F k → k < w.heap.size := by
  obtain ⟨g, hv, iv, bs, _, h⟩ := h
  exact h.old
theorem Dec.keep {w w' : World} {p : Value} {d : DS} {F : Nat → Prop} (h : Dec w p d F) (hb : ∀ k, F k → w'.heap[k]? = w.heap[k]?) : Dec w' p d F := by
  obtain ⟨g, hv, iv, bs, e, h⟩ := h
  refine ⟨g, hv, iv, bs, e, h.box.keep (hb g (h.role g (.inl rfl))) (fun j hj => hb j (h.role j (.inr (.inr (.inl hj))))) (fun u hu j hj => hb j (h.role j (.inr (.inr (.inr ⟨u, hu, hj⟩))))), h.own.below_ fun j hj => hb j (h.role j (.inr (.inl hj))), h.apart, h.role, fun k hk => ?_⟩
  have h1 := hb k hk
  have h2 := h.old k hk
  rw [Array.getElem?_eq_getElem h2] at h1
  exact (Array.getElem?_eq_some_iff.1 h1).1
/-- What a call on a decoder whose blocks are F leaves: a decoder whose blocks are F' in state d. -/
def Moved (w : World) (p : Value) (d : DS) (F : Nat → Prop) (w' : World) (F' : Nat → Prop) : Prop := Dec w' p d F' ∧ Touch F w w' ∧ ∀ k, F' k → F k ∨ w.heap.size ≤ k
/-- New bytes, which the caller may write to. -/
def Fresh (w : World) (base : Nat) (v : Value) (l : List UInt8) : Prop := ∃ b off c, v = .slice (some ⟨b, off, none⟩) l.length c ∧ l.length ≤ c ∧ base ≤ b ∧ b < w.heap.size ∧ ∀ i (h : i < l.length), w.cell? ⟨b, off + i, none⟩ = some (.int .u8 (l[i].toNat : Int)) ∧ w.frozen? ⟨b, off + i, none⟩ = false
theorem Owns.lt {w : World} {base : Nat} {v : Value} {l : List UInt8} (h : Owns w base v l) : ∀ j, v.ownBlock = some j → j < w.heap.size := fun j hj => by
  obtain ⟨cur, hc⟩ := h.type j hj
  exact heap_lt hc
theorem Owns.any {w : World} {base : Nat} {v : Value} {l : List UInt8} (h : Owns w base v l) : Owns w 0 v l := ownsRow_mono h (Nat.zero_le _)
/-- Behind a call. -/
theorem moved_of {w w' : World} {g : Nat} {hv iv hv' iv' : Value} {bs bs' : List Value} {d d' : DS} {F : Nat → Prop} (h : DecAt w g hv iv bs d F) (hbox : Box w' g hv' d'.skip iv' d'.items bs' d'.over) (how : Owns w' 0 hv' d'.wait) (hap : ∀ u ∈ bs', Apart hv' u)
    (ht : Touch (fun j => j = g ∨ iv.ownBlock = some j ∨ hv.ownBlock = some j) w w') (hat : ∀ j, iv'.ownBlock = some j → iv.ownBlock = some j ∨ w.heap.size ≤ j) (hhv : ∀ j, hv'.ownBlock = some j → hv.ownBlock = some j ∨ w.heap.size ≤ j) (hnew : ∀ u ∈ bs', ∀ j, u.ownBlock = some j → (∃ u ∈ bs, u.ownBlock = some j) ∨ w.heap.size ≤ j) :
    Moved w (.pointer (some ⟨g, 0, none⟩)) d' F w' (Role g hv' iv' bs') := by
  refine ⟨⟨g, hv', iv', bs', rfl, hbox, how, hap, fun k hk => hk, fun k hk => ?_⟩, ht.mono fun j hj => ?_, fun k hk => ?_⟩
  · rcases hk with rfl | hk | hk | ⟨u, hu, hk⟩
    · exact hbox.lt
    · exact how.lt k hk
    · exact hbox.iv_lt k hk
    · exact hbox.body_lt hu hk
  · rcases hj with rfl | hj | hj
    · exact h.role _ (.inl rfl)
    · exact h.role _ (.inr (.inr (.inl hj)))
    · exact h.role _ (.inr (.inl hj))
  · rcases hk with rfl | hk | hk | ⟨u, hu, hk⟩
    · exact .inl (h.role _ (.inl rfl))
    · exact (hhv k hk).elim (fun q => .inl (h.role _ (.inr (.inl q)))) .inr
    · exact (hat k hk).elim (fun q => .inl (h.role _ (.inr (.inr (.inl q))))) .inr
    · exact (hnew u hu k hk).elim (fun ⟨u, hu, q⟩ => .inl (h.role _ (.inr (.inr (.inr ⟨u, hu, q⟩))))) .inr

set_option maxRecDepth 100000 in
theorem clone_nil (w : World) : Calls Tryd.prog 59 #[.slice none 0 0] w fun e w' => ∃ A c', e = .returned (.slice A 0 c') ∧ Owns w' w.heap.size (.slice A 0 c') [] ∧ Below w.heap.size w w' := by
  have hq := Go.run_eql_slice_nil (P := Tryd.prog) w 30 5 none 0 0 Tryd.underlying30
  go_enter Tryd.func59, Tryd.ntmps59
  go_wp2
  go_ret
  exact ⟨none, 0, rfl, Owns.none_ _ _, bself w⟩
theorem clone_text {w : World} {A : Option Addr} {n c : Nat} {s : List UInt8} (h : TextAt w A n c s) (hf : n ≤ 1000000) : Calls Tryd.prog 59 #[.slice A n c] w fun e w' => ∃ A' c', e = .returned (.slice A' n c') ∧ Owns w' w.heap.size (.slice A' n c') s ∧ Below w.heap.size w w' := by
  have hl := h.hlen
  have hc := h.hc
  cases A with
  | none =>
    obtain rfl := h.hn rfl
    obtain rfl : n = 0 := by omega
    obtain rfl : s = [] := List.eq_nil_of_length_eq_zero hl
    exact clone_nil w
  | some ad =>
    refine clone_n ad c n s w hl (fun hne => ?_) (by unfold Fits; omega)
    have h0 : 0 < n := by
      rw [← hl]
      cases s with
      | nil => exact absurd rfl hne
      | cons x s => simp
    obtain ⟨X, off, cur, fr, e, hX, hcs⟩ := h.hs h0
    obtain ⟨b, off, e2, hlt, hh⟩ := Lies.row (w := w) (B := w.heap.size) (b := X) (off := off) (l := s) (Array.getElem?_eq_some_iff.1 hX).1 hcs hne
    exact ⟨b, off, e.trans e2, hlt, hh⟩
/-- What an append to bytes of one's own leaves. -/
structure GrewB (w : World) (v v' : Value) (l : List UInt8) (w' : World) : Prop where
  own : Owns w' 0 v' l
  grown : w.grownBy w' v.ownBlock
  at_ : v'.ownBlock = v.ownBlock ∨ v'.ownBlock = some w.heap.size
/-- An append of any bytes to bytes of one's own: what was there but them stays. -/
theorem wp_app_held {w : World} {D : Nat → Prop} {ops : Array Oper} {rest : List Oper} {o : Oper} {a : Act} {Q : Exit → Act → World → Prop} (hgd : o.guard = none) (s x : Operand)
    (ho : o.op = .call { callee := .builtin .append, args := #[s, x], argTypes := #[30, 30] })
    (v : Value) (l m : List UInt8) (A : Option Addr) (c n : Nat) (hs : a.eval s = v) (hown : Owns w 0 v l) (hx : a.eval x = .slice A n c) (hr : LiesIn w D (.slice A n c) m) (hf : l.length + m.length ≤ 1000000)
    (h : ∀ v' w', GrewB w v v' (l ++ m) w' → wpList Tryd.prog ops Q rest (a.put o.dst v') w') : wpList Tryd.prog ops Q (o :: rest) a w := by
  obtain ⟨i0, hi0, hz0, hz1, hz2⟩ := info_parts info_u8
  have key : ∀ ad, A = some ad → m.length = n → (∀ j u, (bc m)[j]? = some u → w.cell? (ad.add j) = some u) → wpList Tryd.prog ops Q (o :: rest) a w := fun ad e hn hc => by
    subst e
    refine wpList_append_own_at w hgd s x _ ho 0 _ i0 _ 1 1 Tryd.underlying30 hi0 hz0 hz1 hz2 rfl (by omega) v l.length (bc l) hs hown ad n c (bc m) hx (by rw [bc_length, hn]; omega) hc (bc_one m) (by unfold maxLen; omega) (by omega) (Nat.zero_le _) ?_
    intro v' w' h1 h2 _ h4
    refine h v' w' ⟨?_, h2, h4⟩
    unfold Owns
    rw [bc_append, List.length_append, hn]
    exact h1
  rcases hr with ⟨rfl, A', c', e, hA⟩ | ⟨b, off, c', e, hl, hD, hc⟩
  · simp only [Value.slice.injEq] at e
    obtain ⟨rfl, rfl, rfl⟩ := e
    cases A with
    | some ad => exact key ad rfl rfl fun j u hu => by simp [bc] at hu
    | none =>
      obtain rfl := hA rfl
      refine wpList_append_own_none hgd s x _ ho 0 _ i0 1 Tryd.underlying30 hi0 v l.length (bc l) hs hown hx ?_
      exact h v w ⟨by simpa using hown, World.grownBy.refl _ _, .inl rfl⟩
  · simp only [Value.slice.injEq] at e
    obtain ⟨rfl, rfl, rfl⟩ := e
    refine key _ rfl rfl fun j u hu => ?_
    have hj : j < m.length := by
      have := (List.getElem?_eq_some_iff.1 hu).1
      simpa [bc] using this
    rw [bc_get m j hj] at hu
    rw [Addr.add_lit, ← hu]
    exact hc j hj
/-- Bytes of one's own as a text. -/
theorem Owns.text {w : World} {base : Nat} {v : Value} {l : List UInt8} (h : Owns w base v l) : ∃ A n c, v = .slice A n c ∧ TextAt w A n c l := by
  have ht := h.type
  rcases h.lies with ⟨rfl, rfl⟩ | ⟨b, off, c, rfl, hl, hB, hc⟩
  · exact ⟨none, 0, 0, rfl, rfl, Nat.le_refl _, fun _ => rfl, fun h0 => absurd h0 (by omega)⟩
  · obtain ⟨cur, hcur⟩ := ht b rfl
    exact ⟨_, _, c, rfl, rfl, hl, fun e => (by cases e), fun _ => ⟨b, off, cur, (0, 0), rfl, hcur, hc⟩⟩
theorem DecAt.grown {w w' : World} {g : Nat} {hv iv v' : Value} {bs : List Value} {d : DS} {F : Nat → Prop} {l : List UInt8} (h : DecAt w g hv iv bs d F) (hg : GrewB w hv v' l w') : Box w' g hv d.skip iv d.items bs d.over ∧ Touch (fun j => hv.ownBlock = some j) w w' := by
  have hne : ∀ j, hv.ownBlock = some j → j ≠ g ∧ iv.ownBlock ≠ some j := fun j hj => by
    obtain ⟨cur, hc⟩ := h.own.type j hj
    exact h.box.u8_ne hc
  refine ⟨h.box.keep (hg.grown.block g h.box.lt fun e => (hne g e.symm).1 rfl) (fun j hj => hg.grown.block j (h.box.iv_lt j hj) fun e => (hne j e.symm).2 hj) (fun u hu j hj => hg.grown.block j (h.box.body_lt hu hj) fun e => h.apart u hu j e.symm hj), ⟨hg.grown.os, hg.grown.tape, hg.grown.output, hg.grown.size, fun k hk hF => hg.grown.block k hk fun e => hF e.symm⟩⟩
end Go.Proofs.YthnkiabhfcddaaaDoor
/-
  Contracts of package frame: Put, New, Give, End, Next, Held.
-/
namespace Go.Proofs.YthnkiabhfcddaaaDoor
open Go.RowKit
set_option linter.unusedVariables false

set_option maxRecDepth 100000 in
theorem give_nil (A : Option Addr) (n c : Nat) (w : World) : Calls Tryd.prog 44 #[.pointer none, .slice A n c] w fun e w' => e = .returned (.tuple #[]) ∧ Below w.heap.size w w' := by
  go_enter Tryd.func44, Tryd.ntmps44
  go_wp2
  refine bodyPost_ret (v := .tuple #[]) (results_none rfl _ _ _) rfl ?_
  exact ⟨rfl, bself w⟩
set_option maxRecDepth 100000 in
theorem fend_nil (w : World) : Calls Tryd.prog 45 #[.pointer none] w fun e w' => e = .returned (.tuple #[]) ∧ Below w.heap.size w w' := by
  go_enter Tryd.func45, Tryd.ntmps45
  go_wp2
  refine bodyPost_ret (v := .tuple #[]) (results_none rfl _ _ _) rfl ?_
  exact ⟨rfl, bself w⟩
set_option maxRecDepth 100000 in
theorem next_nil (w : World) : Calls Tryd.prog 68 #[.pointer none] w fun e w' => e = .returned (.tuple #[.agg #[.int .i64 0, .int .u8 0, .slice none 0 0], .bool false]) ∧ Below w.heap.size w w' := by
  go_enter Tryd.func68, Tryd.ntmps68
  go_wp2
  refine bodyPost_ret (v := .tuple #[.agg #[.int .i64 0, .int .u8 0, .slice none 0 0], .bool false]) (by simp [results, Tryd.results68, go_sem]) rfl ?_
  exact ⟨rfl, by first | exact bmore (bself w) _ | (repeat (first | exact bmore (bself w) _ | refine Below.setCell ?_ (by simp) _))⟩
set_option maxRecDepth 100000 in
theorem new_any (w : World) : Calls Tryd.prog 43 #[] w fun e w' => ∃ p F, e = .returned p ∧ Dec w' p newS F ∧ (∀ k, F k → w.heap.size ≤ k) ∧ Below w.heap.size w w' := by
  go_enter Tryd.func43, Tryd.ntmps43
  go_wp2
  go_ret
  refine ⟨_, fun k => k = w.heap.size, rfl, ⟨w.heap.size, .slice none 0 0, .slice none 0 0, [], rfl, ⟨heap_alloc_new w _, OwnAt.none_ _ _ _, rfl, fun i h => (by simp [newS] at h), fun u hu => (by cases hu), List.Pairwise.nil⟩, Owns.none_ _ _, fun u hu => (by cases hu), fun k hk => ?_, fun k hk => (by subst hk; simp)⟩, fun k hk => (by subst hk; exact Nat.le_refl _), bmore (bself w) _⟩
  rcases hk with hk | hk | hk | ⟨u, hu, _⟩
  · exact hk
  · simp [Value.ownBlock] at hk
  · simp [Value.ownBlock] at hk
  · cases hu

theorem Dec.same {w w' : World} {p : Value} {d : DS} {F : Nat → Prop} (h : Dec w p d F) (e : w' = w) : Moved w p d F w' F := by
  subst e
  exact ⟨h, Touch.refl _ _, fun k hk => .inl hk⟩
set_option maxRecDepth 100000 in
theorem give_over (g : Nat) (hv iv : Value) (k : Nat) (l : List It) (bs : List Value) (A : Option Addr) (n c : Nat) (w : World) (hd : Box w g hv k iv l bs true) :
    Calls Tryd.prog 44 #[.pointer (some ⟨g, 0, none⟩), .slice A n c] w fun e w' => e = .returned (.tuple #[]) ∧ w' = w := by
  obtain ⟨a0, a1, a2, a3, f0, f1, f2, f3⟩ := hd.blk
  clear hd
  go_enter Tryd.func44, Tryd.ntmps44
  go_wp2
  refine bodyPost_ret (v := .tuple #[]) (results_none rfl _ _ _) rfl ?_
  exact ⟨rfl, rfl⟩
/-- What is passed through, ahead of the copy. -/
theorem give_pass {W w w1 : World} (hT : Tabs W) {g : Nat} {hv iv v1 : Value} {bs : List Value} {wait : List UInt8} {k : Nat} {l : List It} {F : Nat → Prop} {b : List UInt8} (hW : Below W.heap.size W w) (hF : ∀ k, F k → W.heap.size ≤ k) (hd : DecAt w g hv iv bs ⟨wait, k, l, false⟩ F) (hg : GrewB w hv v1 (wait ++ b) w1) (hm : wait.length + b.length ≤ 100000 ∧ k ≤ 100000 ∧ l.length ≤ 100000) {r : List UInt8 × Nat × List It} (hr : passF false (wait ++ b) k = r) :
    ∃ A n c, v1 = .slice A n c ∧ Calls Tryd.prog 65 #[.pointer (some ⟨g, 0, none⟩), .slice A n c] w1 fun e w2 => ∃ A n c iv2 bs2, e = .returned (.slice A n c) ∧ TextAt w2 A n c r.1 ∧ n ≤ 1000000 ∧ Stepped w1 g hv iv bs r.2.1 (l ++ r.2.2) false w2 iv2 bs2 := by
  obtain ⟨A, n, c, rfl, ht⟩ := hg.own.text
  refine ⟨A, n, c, rfl, ?_⟩
  obtain ⟨hb, hto⟩ := hd.grown hg
  have h1 := hto.below (fun j hj => hF j (hd.role j (.inr (.inl hj)))) hW.size
  refine (pass_any W hT g hv iv bs false A n c (wait ++ b) k l w1 (hW.trans h1) (hF g (hd.role g (.inl rfl))) (fun j hj => hF j (hd.role j (.inr (.inr (.inl hj))))) hb ht (by rw [List.length_append]; exact hm)).mono fun e w' h => ?_
  obtain ⟨A2, n2, c2, iv2, bs2, rfl, q1, q2⟩ := h
  rw [hr] at q1 q2
  refine ⟨A2, n2, c2, iv2, bs2, rfl, q1, ?_, q2⟩
  have h2 := (pass_small false (wait ++ b) k).1
  rw [hr, q1.hlen, List.length_append] at h2
  omega
theorem give_end2 {w w1 w2 w3 : World} {g : Nat} {hv iv v1 iv2 hv' : Value} {bs bs2 : List Value} {wait : List UInt8} {k : Nat} {l : List It} {F : Nat → Prop} {b : List UInt8} (hd : DecAt w g hv iv bs ⟨wait, k, l, false⟩ F) (hg : GrewB w hv v1 (wait ++ b) w1) {r : List UInt8 × Nat × List It} (hr : passF false (wait ++ b) k = r)
    (hs : Stepped w1 g hv iv bs r.2.1 (l ++ r.2.2) false w2 iv2 bs2) (ho : Owns w3 w2.heap.size hv' r.1) (hb : Below w2.heap.size w2 w3) :
    ∃ F', Moved w (.pointer (some ⟨g, 0, none⟩)) (giveS ⟨wait, k, l, false⟩ b) F (w3.setCell ⟨g, 0, none⟩ hv') F' := by
  obtain ⟨hb1, hto⟩ := hd.grown hg
  have hb3 := hs.box.over hb
  have e : giveS ⟨wait, k, l, false⟩ b = ⟨r.1, r.2.1, l ++ r.2.2, false⟩ := by unfold giveS; rw [if_neg Bool.false_ne_true, hr]
  have far : ∀ j, j ≠ g → (w3.setCell ⟨g, 0, none⟩ hv').heap[j]? = w3.heap[j]? := fun j hj => heap_far _ _ _ hj
  have s1 := hto.size
  have s2 := hs.touch.size
  have tt : Touch (fun j => j = g ∨ iv.ownBlock = some j ∨ hv.ownBlock = some j) w (w3.setCell ⟨g, 0, none⟩ hv') :=
    ((((hto.mono fun j hj => .inr (.inr hj)).trans hs.touch fun j hj => .inl (hj.elim .inl fun q => .inr (.inl q))).trans (Touch.of_below (F := fun _ => False) hb) (fun j hj => hj.elim)).set (.inl (.inl rfl)) _)
  rw [e]
  refine ⟨_, moved_of hd (hb3.set_ 0 hv' hv' r.2.1 iv2 false rfl hb3.hi) ?_ ?_ tt (fun j hj => (hs.at_ j hj).imp_right fun q => Nat.le_trans s1 q) (fun j hj => .inr (Nat.le_trans (Nat.le_trans s1 s2) (ho.ge j hj))) fun u hu j hj => ?_⟩
  · refine ho.any.below_ fun j hj => far j fun e => ?_
    subst e
    exact absurd (ho.ge _ hj) (Nat.not_le.2 hs.box.lt)
  · intro u hu j hj hj2
    exact absurd (ho.ge _ hj) (Nat.not_le.2 (hs.box.body_lt hu hj2))
  · obtain ⟨cs, rfl, hcs⟩ := hs.new_
    rcases List.mem_append.1 hu with hu | hu
    · exact .inl ⟨u, hu, hj⟩
    · exact .inr (Nat.le_trans s1 (hcs u hu j hj))
set_option maxRecDepth 100000 in
theorem give_open (W : World) (hT : Tabs W) (g : Nat) (hv iv : Value) (bs : List Value) (wait : List UInt8) (k : Nat) (l : List It) (F : Nat → Prop) (A : Option Addr) (n c : Nat) (b : List UInt8) (w : World) (hW : Below W.heap.size W w) (hF : ∀ k, F k → W.heap.size ≤ k) (hd : DecAt w g hv iv bs ⟨wait, k, l, false⟩ F) (D : Nat → Prop) (hr : LiesIn w D (.slice A n c) b) (hm : wait.length + b.length ≤ 100000 ∧ k ≤ 100000 ∧ l.length ≤ 100000) :
    Calls Tryd.prog 44 #[.pointer (some ⟨g, 0, none⟩), .slice A n c] w fun e w' => ∃ F', e = .returned (.tuple #[]) ∧ Moved w (.pointer (some ⟨g, 0, none⟩)) (giveS ⟨wait, k, l, false⟩ b) F w' F' := by
  obtain ⟨r, hpr⟩ : ∃ r, passF false (wait ++ b) k = r := ⟨_, rfl⟩
  have HR := Lib.hid hr
  have HO := Lib.hid hd.own
  have HM := Lib.hid (show wait.length + b.length ≤ 1000000 by omega)
  have HP := Lib.hid (fun v1 w1 (hg : GrewB w hv v1 (wait ++ b) w1) => give_pass hT hW hF hd hg hm hpr)
  have HE := Lib.hid (fun w1 w2 w3 v1 iv2 bs2 hv' (hg : GrewB w hv v1 (wait ++ b) w1) hs ho hb => give_end2 (w2 := w2) (w3 := w3) (iv2 := iv2) (bs2 := bs2) (hv' := hv') hd hg hpr hs ho hb)
  have HG := Lib.hid (fun w2 w3 iv2 bs2 k2 l2 (hs : Box w2 g hv k2 iv2 l2 bs2 false) (hb : Below w2.heap.size w2 w3) => (hs.over hb).blk)
  obtain ⟨a0, a1, a2, a3, f0, f1, f2, f3⟩ := hd.box.blk
  clear hT hW hF hd hr hm hpr
  go_enter Tryd.func44, Tryd.ntmps44
  go_wp2_with (first
    | (at_builtin; refine wp_app_held rfl (.tmp 17) (.tmp 18) rfl hv wait b A c n rfl HO.out rfl HR.out HM.out ?_; intro v1 w1 hg; obtain ⟨A1, n1, c1, rfl, HP1⟩ := HP.out v1 w1 hg; have HG1 := Lib.hid hg; clear hg a0 a1 a2 a3 f0 f1 f2 f3)
    | (go_at_call 65; (with_reducible refine Calls.mono HP1 ?_); rintro e w2 ⟨A2, n2, c2, iv2, bs2, rfl, ht, hn, hs⟩; have HTX := Lib.hid ht; have HN := Lib.hid hn; have HS := Lib.hid hs; clear ht hn hs)
    | (go_at_call 59; (with_reducible refine Calls.mono (clone_text HTX.out HN.out) ?_); rintro e w3 ⟨A3, c3, rfl, ho, hb⟩; have HO3 := Lib.hid ho; have HB3 := Lib.hid hb; obtain ⟨a0, a1, a2, a3, f0, f1, f2, f3⟩ := HG.out w2 w3 _ _ _ _ HS.out.box hb; clear ho hb))
  refine bodyPost_end (v := .tuple #[]) (results_none rfl _ _ _) rfl ?_
  obtain ⟨F', h⟩ := HE.out w1 w2 w3 _ iv2 bs2 _ HG1.out HS.out HO3.out HB3.out
  exact ⟨F', rfl, h⟩
theorem give_any (W : World) (hT : Tabs W) (p : Value) (d : DS) (F : Nat → Prop) (A : Option Addr) (c : Nat) (b : List UInt8) (w : World) (hW : Below W.heap.size W w) (hF : ∀ k, F k → W.heap.size ≤ k) (hd : Dec w p d F) (D : Nat → Prop) (hr : LiesIn w D (.slice A b.length c) b) (hD : ∀ k, D k → k < w.heap.size ∧ ¬ F k) (hm : d.wait.length + b.length ≤ 100000 ∧ d.skip ≤ 100000 ∧ d.items.length ≤ 100000) :
    Calls Tryd.prog 44 #[p, .slice A b.length c] w fun e w' => ∃ F', e = .returned (.tuple #[]) ∧ Moved w p (giveS d b) F w' F' := by
  have hd0 := hd
  obtain ⟨g, hv, iv, bs, rfl, h⟩ := hd
  obtain ⟨wait, k, l, ov⟩ := d
  cases ov with
  | true =>
    refine (give_over g hv iv k l bs A _ c w h.box).mono fun e w' q => ?_
    refine ⟨F, q.1, ?_⟩
    rw [show giveS ⟨wait, k, l, true⟩ b = ⟨wait, k, l, true⟩ by unfold giveS; rw [if_pos rfl]]
    exact hd0.same q.2
  | false => exact give_open W hT g hv iv bs wait k l F A _ c b w hW hF h D hr hm

set_option maxRecDepth 100000 in
theorem fend_over (g : Nat) (hv iv : Value) (k : Nat) (l : List It) (bs : List Value) (w : World) (hd : Box w g hv k iv l bs true) :
    Calls Tryd.prog 45 #[.pointer (some ⟨g, 0, none⟩)] w fun e w' => e = .returned (.tuple #[]) ∧ w' = w := by
  obtain ⟨a0, a1, a2, a3, f0, f1, f2, f3⟩ := hd.blk
  clear hd
  go_enter Tryd.func45, Tryd.ntmps45
  go_wp2
  refine bodyPost_ret (v := .tuple #[]) (results_none rfl _ _ _) rfl ?_
  exact ⟨rfl, rfl⟩
/-- Ended, ahead of the pass. -/
theorem end_start {w : World} {g k : Nat} {hv iv : Value} {l : List It} {bs : List Value} (h : Box w g hv k iv l bs false) : Box (w.setCell ⟨g, 3, none⟩ (.bool true)) g hv k iv l bs true := h.set_ 3 _ hv k iv true rfl h.hi
theorem end_pass {W w w1 : World} (hT : Tabs W) {g : Nat} {hv iv : Value} {bs : List Value} {wait : List UInt8} {k : Nat} {l : List It} {F : Nat → Prop} (hW : Below W.heap.size W w) (hF : ∀ k, F k → W.heap.size ≤ k) (hd : DecAt w g hv iv bs ⟨wait, k, l, false⟩ F) (h1 : w1 = w.setCell ⟨g, 3, none⟩ (.bool true)) (hm : wait.length ≤ 100000 ∧ k ≤ 100000 ∧ l.length ≤ 100000) {r : List UInt8 × Nat × List It} (hr : passF true wait k = r) :
    ∃ A n c, hv = .slice A n c ∧ Calls Tryd.prog 65 #[.pointer (some ⟨g, 0, none⟩), .slice A n c] w1 fun e w2 => ∃ A n c iv2 bs2, e = .returned (.slice A n c) ∧ Stepped w1 g hv iv bs r.2.1 (l ++ r.2.2) true w2 iv2 bs2 := by
  subst h1
  obtain ⟨A, n, c, rfl, ht⟩ := hd.own.text
  refine ⟨A, n, c, rfl, ?_⟩
  have hg := hF g (hd.role g (.inl rfl))
  refine (pass_any W hT g _ iv bs true A n c wait k l _ (hW.setCell hg _) hg (fun j hj => hF j (hd.role j (.inr (.inr (.inl hj))))) (end_start hd.box) (ht.keep fun X cur fr hX => ?_) hm).mono fun e w' h => ?_
  · exact heap_far _ _ _ (hd.box.u8_ne hX).1
  · obtain ⟨A2, n2, c2, iv2, bs2, rfl, q1, q2⟩ := h
    rw [hr] at q2
    exact ⟨A2, n2, c2, iv2, bs2, rfl, q2⟩
theorem fend_end {w w1 w2 w3 w4 : World} {g : Nat} {hv iv iv2 iv4 : Value} {bs bs2 bs4 : List Value} {wait : List UInt8} {k : Nat} {l : List It} {F : Nat → Prop} (hd : DecAt w g hv iv bs ⟨wait, k, l, false⟩ F) (h1 : w1 = w.setCell ⟨g, 3, none⟩ (.bool true)) {r : List UInt8 × Nat × List It} (hr : passF true wait k = r)
    (hs : Stepped w1 g hv iv bs r.2.1 (l ++ r.2.2) true w2 iv2 bs2) (h3 : w3 = w2.setCell ⟨g, 0, none⟩ (.slice none 0 0)) (h4 : Stepped w3 g (.slice none 0 0) iv2 bs2 0 (l ++ r.2.2 ++ skipI r.2.1) true w4 iv4 bs4) :
    ∃ F', Moved w (.pointer (some ⟨g, 0, none⟩)) (endS ⟨wait, k, l, false⟩) F w4 F' := by
  subst h1; subst h3
  have e : endS ⟨wait, k, l, false⟩ = ⟨[], 0, l ++ r.2.2 ++ skipI r.2.1, true⟩ := by
    unfold endS
    rw [if_neg Bool.false_ne_true, pass_end _ wait k (Nat.le_refl _), hr]
  have T1 : Touch (fun j => j = g) w (w.setCell ⟨g, 3, none⟩ (.bool true)) := (Touch.refl (fun j => j = g) w).set (p := ⟨g, 3, none⟩) (.inl rfl) _
  have T2 : Touch (fun j => j = g) w2 (w2.setCell ⟨g, 0, none⟩ (.slice none 0 0)) := (Touch.refl (fun j => j = g) w2).set (p := ⟨g, 0, none⟩) (.inl rfl) _
  have s1 : w.heap.size ≤ (w.setCell ⟨g, 3, none⟩ (.bool true)).heap.size := T1.size
  have s2 := hs.touch.size
  have s3 : w2.heap.size ≤ (w2.setCell ⟨g, 0, none⟩ (.slice none 0 0)).heap.size := T2.size
  have tt : Touch (fun j => j = g ∨ iv.ownBlock = some j ∨ hv.ownBlock = some j) w w4 := by
    refine (((T1.mono fun j hj => .inl hj).trans hs.touch fun j hj => .inl (hj.elim .inl fun q => .inr (.inl q))).trans T2 fun j hj => .inl (.inl hj)).trans h4.touch fun j hj => ?_
    rcases hj with hj | hj
    · exact .inl (.inl hj)
    · exact (hs.at_ j hj).elim (fun q => .inl (.inr (.inl q))) fun q => .inr (Nat.le_trans s1 q)
  rw [e]
  refine ⟨_, moved_of hd h4.box (Owns.none_ _ _) (fun u hu => Apart.none_ u) tt (fun j hj => ?_) (fun j hj => by simp [Value.ownBlock] at hj) fun u hu j hj => ?_⟩
  · rcases h4.at_ j hj with q | q
    · exact (hs.at_ j q).imp_right fun q => Nat.le_trans s1 q
    · exact .inr (by omega)
  · obtain ⟨cs, rfl, hcs⟩ := hs.new_
    obtain ⟨cs2, rfl, hcs2⟩ := h4.new_
    rcases List.mem_append.1 hu with hu | hu
    · rcases List.mem_append.1 hu with hu | hu
      · exact .inl ⟨u, hu, hj⟩
      · exact .inr (Nat.le_trans s1 (hcs u hu j hj))
    · have := hcs2 u hu j hj
      exact .inr (by omega)
set_option maxRecDepth 100000 in
theorem fend_open (W : World) (hT : Tabs W) (g : Nat) (hv iv : Value) (bs : List Value) (wait : List UInt8) (k : Nat) (l : List It) (F : Nat → Prop) (w : World) (hW : Below W.heap.size W w) (hF : ∀ k, F k → W.heap.size ≤ k) (hd : DecAt w g hv iv bs ⟨wait, k, l, false⟩ F) (hm : wait.length ≤ 100000 ∧ k ≤ 100000 ∧ l.length ≤ 100000) :
    Calls Tryd.prog 45 #[.pointer (some ⟨g, 0, none⟩)] w fun e w' => ∃ F', e = .returned (.tuple #[]) ∧ Moved w (.pointer (some ⟨g, 0, none⟩)) (endS ⟨wait, k, l, false⟩) F w' F' := by
  obtain ⟨r, hpr⟩ : ∃ r, passF true wait k = r := ⟨_, rfl⟩
  obtain ⟨lm, hlm⟩ : ∃ lm, l ++ r.2.2 = lm := ⟨_, rfl⟩
  have hlm2 : lm.length ≤ 1000000 := by
    have := (pass_small true wait k).2.2
    rw [hpr] at this
    rw [← hlm, List.length_append]
    omega
  have HP := Lib.hid (fun w1 (h1 : w1 = w.setCell ⟨g, 3, none⟩ (.bool true)) => end_pass hT hW hF hd h1 hm hpr)
  have HE := Lib.hid (fun w1 w2 w3 w4 iv2 bs2 iv4 bs4 h1 hs h3 h4 => fend_end (w1 := w1) (w2 := w2) (w3 := w3) (w4 := w4) (iv2 := iv2) (bs2 := bs2) (iv4 := iv4) (bs4 := bs4) hd h1 hpr hs h3 h4)
  rw [hlm] at HP HE
  have HB := Lib.hid (end_start hd.box)
  have HL := Lib.hid hlm2
  obtain ⟨a0, a1, a2, a3, f0, f1, f2, f3⟩ := hd.box.blk
  clear hT hW hF hd hm hpr hlm hlm2
  go_enter Tryd.func45, Tryd.ntmps45
  go_upto_region 2 with (fail)
  generalize hw1 : w.setCell { block := g, off := 3 } (Value.bool true) = w1 at HB ⊢
  have H1 := Lib.hid hw1.symm
  obtain ⟨A, n, c, rfl, HP1⟩ := HP.out w1 H1.out
  clear hw1 a0 a1 a2 a3 f0 f1 f2 f3
  obtain ⟨a0, a1, a2, a3, f0, f1, f2, f3⟩ := HB.out.blk
  go_upto_region 3 with (go_at_call 65; (with_reducible refine Calls.mono HP1 ?_); rintro e w2 ⟨A2, n2, c2, iv2, bs2, rfl, hs⟩; have HS := Lib.hid hs; have HB3 := Lib.hid (hs.box.set_ 0 (.slice none 0 0) (.slice none 0 0) _ _ true rfl hs.box.hi); clear hs a0 a1 a2 a3 f0 f1 f2 f3; obtain ⟨a0, a1, a2, a3, f0, f1, f2, f3⟩ := HS.out.box.blk)
  go_upto_region 4 with (fail)
  generalize hw3 : w2.setCell { block := g, off := 0 } (Value.slice none 0 0) = w3 at HB3 ⊢
  have H3 := Lib.hid hw3.symm
  clear hw3 a0 a1 a2 a3 f0 f1 f2 f3
  have HT4 := Lib.hid (tells_any g _ (.slice none 0 0) iv2 lm bs2 true w3 HB3.out HL.out)
  go_wp2_with (go_at_call 66; (with_reducible refine HT4.out.mono ?_); rintro e w4 ⟨iv4, bs4, rfl, h4⟩; have HS4 := Lib.hid h4; clear h4)
  refine bodyPost_end (v := .tuple #[]) (results_none rfl _ _ _) rfl ?_
  obtain ⟨F', h⟩ := HE.out w1 w2 w3 w4 iv2 bs2 iv4 bs4 H1.out HS.out H3.out HS4.out
  exact ⟨F', rfl, h⟩
theorem fend_any (W : World) (hT : Tabs W) (p : Value) (d : DS) (F : Nat → Prop) (w : World) (hW : Below W.heap.size W w) (hF : ∀ k, F k → W.heap.size ≤ k) (hd : Dec w p d F) (hm : d.wait.length ≤ 100000 ∧ d.skip ≤ 100000 ∧ d.items.length ≤ 100000) :
    Calls Tryd.prog 45 #[p] w fun e w' => ∃ F', e = .returned (.tuple #[]) ∧ Moved w p (endS d) F w' F' := by
  have hd0 := hd
  obtain ⟨g, hv, iv, bs, rfl, h⟩ := hd
  obtain ⟨wait, k, l, ov⟩ := d
  cases ov with
  | true =>
    refine (fend_over g hv iv k l bs w h.box).mono fun e w' q => ?_
    refine ⟨F, q.1, ?_⟩
    rw [show endS ⟨wait, k, l, true⟩ = ⟨wait, k, l, true⟩ by unfold endS; rw [if_pos rfl]]
    exact hd0.same q.2
  | false => exact fend_open W hT g hv iv bs wait k l F w hW hF h hm
/-- What Next answers: the item, whose body lies in blocks that are no more the decoder's. -/
def NextDid (p : Value) (d : DS) (F : Nat → Prop) (w : World) (e : Ending) (w' : World) : Prop := ∃ F' D A c, e = .returned (.tuple #[.agg #[.int .i64 ((nextS d).2.1.skip : Int), .int .u8 ((nextS d).2.1.kind.toNat : Int), .slice A (nextS d).2.1.body.length c], .bool (nextS d).2.2]) ∧ Moved w p (nextS d).1 F w' F' ∧ LiesIn w' D (.slice A (nextS d).2.1.body.length c) (nextS d).2.1.body ∧ ∀ k, D k → (F k ∨ w.heap.size ≤ k) ∧ k < w'.heap.size ∧ ¬ F' k
theorem Dec.over {w w' : World} {p : Value} {d : DS} {F : Nat → Prop} (h : Dec w p d F) (hb : Below w.heap.size w w') : Moved w p d F w' F :=
  ⟨h.keep fun k hk => hb.block k (h.old k hk), Touch.of_below hb, fun k hk => .inl hk⟩
set_option maxRecDepth 100000 in
theorem next_none (g : Nat) (hv : Value) (A : Option Addr) (c : Nat) (bs : List Value) (wait : List UInt8) (k : Nat) (ov : Bool) (F : Nat → Prop) (w : World) (hd : DecAt w g hv (.slice A 0 c) bs ⟨wait, k, [], ov⟩ F) :
    Calls Tryd.prog 68 #[.pointer (some ⟨g, 0, none⟩)] w (NextDid (.pointer (some ⟨g, 0, none⟩)) ⟨wait, k, [], ov⟩ F w) := by
  have HD : Hid (Dec w (.pointer (some ⟨g, 0, none⟩)) ⟨wait, k, [], ov⟩ F) := Lib.hid ⟨g, hv, _, bs, rfl, hd⟩
  have hlt := hd.box.lt
  obtain ⟨a0, a1, a2, a3, f0, f1, f2, f3⟩ := hd.box.blk
  have d2 : ∀ o, (w.alloc o).cell? ⟨g, 2, none⟩ = some (.slice A 0 c) := fun o => ((bmore (bself w) o).cell hlt).trans a2
  clear hd hlt
  go_enter Tryd.func68, Tryd.ntmps68
  go_wp2
  refine bodyPost_ret (v := .tuple #[.agg #[.int .i64 0, .int .u8 0, .slice none 0 0], .bool false]) (by simp [results, Tryd.results68, go_sem]) rfl ?_
  refine ⟨F, fun _ => False, none, 0, rfl, HD.out.over ?_, .inl ⟨rfl, none, 0, rfl, fun _ => rfl⟩, fun k hk => hk.elim⟩
  first | exact bmore (bself w) _ | (repeat (first | exact bmore (bself w) _ | refine Below.setCell ?_ (by simp) _))
/-- Where Next stands: the decoder's block, its items' block G, the blocks N of the answer and N + 1 of the item. -/
structure Mid (w wr : World) (g G N : Nat) (hv : Value) (k : Nat) (iv : Value) (ov : Bool) (x0 x1 x2 y0 y1 y2 : Value) : Prop where
  hg : wr.heap[g]? = some (.cells #[hv, .int .i64 (k : Int), iv, .bool ov] 122 (0, 0))
  touch : Touch (fun j => j = g ∨ j = G) w wr
  hN : wr.heap[N]? = some (.cells #[y0, y1, y2] 92 (0, 0))
  hX : wr.heap[N + 1]? = some (.cells #[x0, x1, x2] 92 (0, 0))
  ne : g ≠ G ∧ g < w.heap.size ∧ G < w.heap.size ∧ N = w.heap.size
section
variable {w wr : World} {g G N k : Nat} {hv iv : Value} {ov : Bool} {x0 x1 x2 y0 y1 y2 : Value}
theorem Mid.setG (h : Mid w wr g G N hv k iv ov x0 x1 x2 y0 y1 y2) (i : Nat) (u : Value) : Mid w (wr.setCell ⟨G, i, none⟩ u) g G N hv k iv ov x0 x1 x2 y0 y1 y2 := by
  have hne := h.ne
  have far : ∀ j, j ≠ G → (wr.setCell ⟨G, i, none⟩ u).heap[j]? = wr.heap[j]? := fun j hj => heap_far _ _ _ hj
  exact ⟨(far g hne.1).trans h.hg, h.touch.set (p := ⟨G, i, none⟩) (.inl (.inr rfl)) u, (far N (by omega)).trans h.hN, (far (N + 1) (by omega)).trans h.hX, hne⟩
theorem Mid.setg (h : Mid w wr g G N hv k iv ov x0 x1 x2 y0 y1 y2) (u : Value) : Mid w (wr.setCell ⟨g, 2, none⟩ u) g G N hv k u ov x0 x1 x2 y0 y1 y2 := by
  have hne := h.ne
  have far : ∀ j, j ≠ g → (wr.setCell ⟨g, 2, none⟩ u).heap[j]? = wr.heap[j]? := fun j hj => heap_far _ _ _ hj
  exact ⟨heap_set h.hg 2 u, h.touch.set (p := ⟨g, 2, none⟩) (.inl (.inl rfl)) u, (far N (by omega)).trans h.hN, (far (N + 1) (by omega)).trans h.hX, hne⟩
theorem Mid.setN (h : Mid w wr g G N hv k iv ov x0 x1 x2 y0 y1 y2) : Mid w (set3 wr N x0 x1 x2) g G N hv k iv ov x0 x1 x2 x0 x1 x2 := by
  have hne := h.ne
  have far : ∀ j, j ≠ N → (set3 wr N x0 x1 x2).heap[j]? = wr.heap[j]? := fun j hj => set3_far _ _ _ _ _ j hj
  refine ⟨(far g (by omega)).trans h.hg, ?_, set3_heap h.hN, (far (N + 1) (by omega)).trans h.hX, hne⟩
  unfold set3
  exact ((h.touch.set (p := ⟨N, 0, none⟩) (.inr (Nat.le_of_eq hne.2.2.2.symm)) _).set (p := ⟨N, 1, none⟩) (.inr (Nat.le_of_eq hne.2.2.2.symm)) _).set (p := ⟨N, 2, none⟩) (.inr (Nat.le_of_eq hne.2.2.2.symm)) _
/-- Its end. -/
theorem Mid.ends {off n c m : Nat} {bs : List Value} {wait : List UInt8} {x : It} {l : List It} {F : Nat → Prop} {A : Option Addr} {iv0 : Value} (hd : DecAt w g hv iv0 (.slice A x.body.length m :: bs) ⟨wait, k, x :: l, ov⟩ F) (hG : iv0 = .slice (some ⟨G, off, none⟩) n c) (h : Mid w wr g G N hv k iv ov x0 x1 x2 y0 y1 y2)
    (ho : OwnAt wr 92 3 iv l.length (cellsF l bs)) (hiv : ∀ j, iv.ownBlock = some j → j = G) :
    NextDid (.pointer (some ⟨g, 0, none⟩)) ⟨wait, k, x :: l, ov⟩ F w (.returned (.tuple #[.agg #[.int .i64 (x.skip : Int), .int .u8 (x.kind.toNat : Int), .slice A x.body.length m], .bool true])) wr := by
  have hne := h.ne
  have hGi : iv0.ownBlock = some G := by rw [hG]; rfl
  have far : ∀ j, j < w.heap.size → j ≠ g → j ≠ G → wr.heap[j]? = w.heap[j]? := fun j h1 h2 h3 => h.touch.block j h1 fun e => e.elim h2 h3
  have fb : ∀ u ∈ (.slice A x.body.length m :: bs), ∀ j, u.ownBlock = some j → wr.heap[j]? = w.heap[j]? := fun u hu j hj => far j (hd.box.body_lt hu hj) (hd.box.body_ne hu hj).1 fun e => (hd.box.body_ne hu hj).2 (e ▸ hGi)
  have hl : bs.length = l.length := by have := hd.box.hl; simpa using this
  have hbox : Box wr g hv k iv l bs ov := by
    refine ⟨h.hg, ho, hl, fun i hi u hu => ?_, fun u hu j hj => ?_, (List.pairwise_cons.1 hd.box.ha).2⟩
    · have hm : u ∈ bs := List.mem_of_getElem? hu
      exact (hd.box.hb (i + 1) (by simp; omega) u (by simpa using hu)).keep fun j hj => fb u (List.mem_cons_of_mem _ hm) j hj
    · obtain ⟨cur, hc⟩ := hd.box.ht u (List.mem_cons_of_mem _ hu) j hj
      exact ⟨cur, (fb u (List.mem_cons_of_mem _ hu) j hj).trans hc⟩
  have hown : Owns wr 0 hv wait := hd.own.below_ fun j hj => by
    obtain ⟨cur, hc⟩ := hd.own.type j hj
    have hx := hd.box.u8_ne hc
    exact far j (heap_lt hc) hx.1 fun e => hx.2 (e ▸ hGi)
  have hmem : (Value.slice A x.body.length m) ∈ (Value.slice A x.body.length m :: bs) := List.mem_cons_self
  refine ⟨Role g hv iv bs, fun j => (Value.slice A x.body.length m).ownBlock = some j, A, m, rfl, ?_, ?_, ?_⟩
  · exact moved_of (d' := ⟨wait, k, l, ov⟩) hd hbox hown (fun u hu => hd.apart u (List.mem_cons_of_mem _ hu)) (h.touch.mono fun j hj => hj.imp_right fun e => .inl (by rw [e]; exact hGi)) (fun j hj => .inl (hiv j hj ▸ hGi)) (fun j hj => .inl hj) fun u hu j hj => .inl ⟨u, List.mem_cons_of_mem _ hu, hj⟩
  · exact (hd.box.hb 0 (by simp) _ rfl).keep fun j hj => fb _ hmem j hj
  · intro j hj
    refine ⟨.inl (hd.role j (.inr (.inr (.inr ⟨_, hmem, hj⟩)))), Nat.lt_of_lt_of_le (hd.box.body_lt hmem hj) h.touch.size, fun hr => ?_⟩
    have hx := hd.box.body_ne hmem hj
    rcases hr with e | e | e | ⟨u, hu, e⟩
    · exact hx.1 e
    · exact hd.apart _ hmem j e hj
    · exact hx.2 (hiv j e ▸ hGi)
    · exact (List.pairwise_cons.1 hd.box.ha).1 u hu j hj e
end
/-- The first element's cells. -/
theorem own3 {w : World} {e : TypeId} {G off n c : Nat} {a b d : Value} {xs : List Value} (h : OwnAt w e 3 (.slice (some ⟨G, off, none⟩) n c) n ([a, b, d] ++ xs)) (hn : (0 : Int) < (n : Int)) :
    w.cell? ⟨G, off, none⟩ = some a ∧ w.cell? ⟨G, off + 1, none⟩ = some b ∧ w.cell? ⟨G, off + 2, none⟩ = some d ∧ w.frozen? ⟨G, off, none⟩ = false ∧ w.frozen? ⟨G, off + 1, none⟩ = false ∧ w.frozen? ⟨G, off + 2, none⟩ = false := by
  obtain ⟨cur, hc⟩ := h.block G rfl
  exact ⟨h.cell 0 a rfl, h.cell 1 b rfl, h.cell 2 d rfl, heap_frozen hc _, heap_frozen hc _, heap_frozen hc _⟩
theorem own_zero {w : World} {e : TypeId} {G off n c : Nat} {a b d : Value} {xs : List Value} (h : OwnAt w e 3 (.slice (some ⟨G, off, none⟩) n c) n ([a, b, d] ++ xs)) (hn : 0 < n) (z0 z1 z2 : Value) :
    OwnAt (((w.setCell ⟨G, off, none⟩ z0).setCell ⟨G, off + 1, none⟩ z1).setCell ⟨G, off + 2, none⟩ z2) e 3 (.slice (some ⟨G, off, none⟩) n c) n ([z0, z1, z2] ++ xs) := by
  exact ((h.set_ (i := 0) z0 (by omega)).set_ (i := 1) z1 (by omega)).set_ (i := 2) z2 (by omega)
set_option maxRecDepth 100000 in
theorem next_some (g G off n c : Nat) (hv A0 : Value) (A : Option Addr) (m : Nat) (bs : List Value) (wait : List UInt8) (k : Nat) (x : It) (l : List It) (ov : Bool) (F : Nat → Prop) (w : World) (hd : DecAt w g hv (.slice (some ⟨G, off, none⟩) n c) (.slice A x.body.length m :: bs) ⟨wait, k, x :: l, ov⟩ F) (hn : n = l.length + 1) :
    Calls Tryd.prog 68 #[.pointer (some ⟨g, 0, none⟩)] w (NextDid (.pointer (some ⟨g, 0, none⟩)) ⟨wait, k, x :: l, ov⟩ F w) := by
  obtain ⟨bl, hbl⟩ : ∃ bl, x.body.length = bl := ⟨_, rfl⟩
  rw [hbl] at hd
  have HN := Lib.hid (And.intro hn hbl)
  have HD := Lib.hid hd
  have h1 : ((n : Int) == 0) = false := by rw [beq_eq_false_iff_ne]; omega
  have h2 : (0 : Int) < (n : Int) := by omega
  have hlt := hd.box.lt
  have hi := hd.box.hi
  rw [show (x :: l).length = n from hn.symm] at hi
  have c0 := hi.cell 0 (.int .i64 (x.skip : Int)) rfl
  have c1 := hi.cell 1 (.int .u8 (x.kind.toNat : Int)) rfl
  have c2 := hi.cell 2 (.slice A bl m) rfl
  rw [Nat.add_zero] at c0
  obtain ⟨sk, hsk⟩ : ∃ sk : Int, (x.skip : Int) = sk := ⟨_, rfl⟩
  obtain ⟨kd, hkd⟩ : ∃ kd : Int, (x.kind.toNat : Int) = kd := ⟨_, rfl⟩
  rw [hsk] at c0
  rw [hkd] at c1
  have HK := Lib.hid (And.intro hsk hkd)
  have hGl : G < w.heap.size := hd.box.iv_lt G rfl
  obtain ⟨a0, a1, a2, a3, f0, f1, f2, f3⟩ := hd.box.blk
  have d2 : ∀ o, (w.alloc o).cell? ⟨g, 2, none⟩ = some (.slice (some ⟨G, off, none⟩) n c) := fun o => ((bmore (bself w) o).cell hlt).trans a2
  have e0 : ∀ o, (w.alloc o).cell? ⟨G, off, none⟩ = some (.int .i64 sk) := fun o => ((bmore (bself w) o).cell (p := ⟨G, off, none⟩) hGl).trans c0
  have e1 : ∀ o, (w.alloc o).cell? ⟨G, off + 1, none⟩ = some (.int .u8 kd) := fun o => ((bmore (bself w) o).cell (p := ⟨G, off + 1, none⟩) hGl).trans c1
  have e2 : ∀ o, (w.alloc o).cell? ⟨G, off + 2, none⟩ = some (.slice A bl m) := fun o => ((bmore (bself w) o).cell (p := ⟨G, off + 2, none⟩) hGl).trans c2
  clear hd hlt hi hn hsk hkd hGl hbl
  go_enter Tryd.func68, Tryd.ntmps68
  go_upto_region 4 with (fail)
  obtain ⟨N, hN⟩ : ∃ N, N = w.heap.size := ⟨_, rfl⟩
  rw [← hN]
  have HM : Hid (Mid w ((w.alloc (Obj.cells #[Value.int IntKind.i64 0, Value.int IntKind.u8 0, Value.slice none 0 0] 92)).alloc (Obj.cells #[Value.int IntKind.i64 sk, Value.int IntKind.u8 kd, Value.slice A bl m] 92)) g G N hv k (.slice (some ⟨G, off, none⟩) n c) ov (.int .i64 sk) (.int .u8 kd) (.slice A bl m) (.int .i64 0) (.int .u8 0) (.slice none 0 0) ∧ OwnAt ((w.alloc (Obj.cells #[Value.int IntKind.i64 0, Value.int IntKind.u8 0, Value.slice none 0 0] 92)).alloc (Obj.cells #[Value.int IntKind.i64 sk, Value.int IntKind.u8 kd, Value.slice A bl m] 92)) 92 3 (.slice (some ⟨G, off, none⟩) n c) n ([.int .i64 sk, .int .u8 kd, .slice A bl m] ++ cellsF l bs)) := Lib.hid (by
    obtain ⟨q1, q2, q3, q4⟩ := two_blocks (w := w) (o1 := Obj.cells #[Value.int IntKind.i64 0, Value.int IntKind.u8 0, Value.slice none 0 0] 92) (o2 := Obj.cells #[Value.int IntKind.i64 sk, Value.int IntKind.u8 kd, Value.slice A bl m] 92) (Below.refl _ _)
    have hb := HD.out.box
    have hg := fun j hj => q3.block j (hb.iv_lt j hj)
    refine ⟨⟨(q3.block g hb.lt).trans hb.hg, Touch.of_below q3, hN ▸ q1, hN ▸ q2, ⟨(hb.iv_ne G rfl).symm, hb.lt, hb.iv_lt G rfl, hN⟩⟩, ?_⟩
    have ho := hb.hi.keep hg
    obtain ⟨rfl, rfl⟩ := HK.out
    have hn := HN.out.1
    rw [hn] at ho ⊢
    exact ho)
  generalize ((w.alloc (Obj.cells #[Value.int IntKind.i64 0, Value.int IntKind.u8 0, Value.slice none 0 0] 92)).alloc (Obj.cells #[Value.int IntKind.i64 sk, Value.int IntKind.u8 kd, Value.slice A bl m] 92)) = wa at HM ⊢
  clear a0 a1 a2 a3 f0 f1 f2 f3 c0 c1 c2 d2 e0 e1 e2 hN
  obtain ⟨a0, a1, a2, a3, f0, f1, f2, f3⟩ := blk4 HM.out.1.hg
  obtain ⟨c0, c1, c2, j0, j1, j2⟩ := own3 HM.out.2 h2
  go_upto_region 5 with (fail)
  have HM2 := Lib.hid (And.intro (((HM.out.1.setG off (.int .i64 0)).setG (off + 1) (.int .u8 0)).setG (off + 2) (.slice none 0 0)) (own_zero HM.out.2 (by have := HN.out.1; omega) (.int .i64 0) (.int .u8 0) (.slice none 0 0)))
  generalize ((wa.setCell { block := G, off := off } (Value.int IntKind.i64 0)).setCell { block := G, off := off + 1 } (Value.int IntKind.u8 0)).setCell { block := G, off := off + 2 } (Value.slice none 0 0) = wb at HM2 ⊢
  clear a0 a1 a2 a3 f0 f1 f2 f3 c0 c1 c2 j0 j1 j2 HM
  obtain ⟨a0, a1, a2, a3, f0, f1, f2, f3⟩ := blk4 HM2.out.1.hg
  have h3 : (1 : Int) ≤ (n : Int) := by omega
  have h4 : (n : Int) ≤ (c : Int) := by
    obtain ⟨A', c', e, hc⟩ := HM2.out.2.open_
    simp only [Value.slice.injEq] at e
    omega
  go_upto_region 6 with (fail)
  have HA := Lib.hid (if_addr c 1 (some ⟨G, off, none⟩) (some ⟨G, off + 3, none⟩))
  generalize (if c = 1 then some { block := G, off := off } else some { block := G, off := off + 3 } : Option Addr) = A' at HA ⊢
  have HM3 := Lib.hid (HM2.out.1.setg (.slice A' (n - 1) (c - 1)))
  have HO3 := Lib.hid (fun (j : Nat) (hj : j ≠ g) => (Below.heap_setCell wb ⟨g, 2, none⟩ (.slice A' (n - 1) (c - 1)) j hj : (wb.setCell ⟨g, 2, none⟩ (.slice A' (n - 1) (c - 1))).heap[j]? = wb.heap[j]?))
  generalize wb.setCell { block := g, off := 2 } (Value.slice A' (n - 1) (c - 1)) = wc at HM3 HO3 ⊢
  clear a0 a1 a2 a3 f0 f1 f2 f3 h1 h2 h3
  obtain ⟨a0, a1, a2, a3, f0, f1, f2, f3⟩ := blk4 HM3.out.hg
  by_cases hn1 : n = 1
  · have h3 : (((n - 1 : Nat) : Int) == 0) = true := by rw [hn1]; rfl
    have HN1 := Lib.hid hn1
    clear hn1 h4
    go_upto_region 8 with (fail)
    have HM4 := Lib.hid (HM3.out.setg (.slice none 0 0))
    generalize wc.setCell { block := g, off := 2 } (Value.slice none 0 0) = wd at HM4 ⊢
    clear a0 a1 a2 a3 f0 f1 f2 f3
    obtain ⟨b0, b1, b2, _, _, _⟩ := blk3 HM4.out.hX
    obtain ⟨i0, i1, i2, j0, j1, j2⟩ := blk3 HM4.out.hN
    go_wp2
    have HM5 := Lib.hid HM4.out.setN
    unfold set3 at HM5
    have HF5 := Lib.hid (fun (j : Nat) (hj : j ≠ N) => (set3_far wd N (.int .i64 sk) (.int .u8 kd) (.slice A bl m) j hj))
    unfold set3 at HF5
    generalize ((wd.setCell { block := N, off := 0 } (Value.int IntKind.i64 sk)).setCell { block := N, off := 1 } (Value.int IntKind.u8 kd)).setCell { block := N, off := 2 } (Value.slice A bl m) = we at HM5 HF5 ⊢
    clear b0 b1 b2 i0 i1 i2 j0 j1 j2
    obtain ⟨b0, b1, b2, _, _, _⟩ := blk3 HM5.out.hN
    refine bodyPost_ret (v := .tuple #[.agg #[.int .i64 sk, .int .u8 kd, .slice A bl m], .bool true]) (by simp [results, Tryd.results68, go_sem, b0, b1, b2]) rfl ?_
    obtain ⟨rfl, rfl⟩ := HK.out
    have hn := HN.out.1
    obtain rfl := HN.out.2
    have hl : l = [] := List.eq_nil_of_length_eq_zero (by have := HN1.out; omega)
    subst hl
    exact HM5.out.ends HD.out rfl (OwnAt.none_ _ _ _) (fun j hj => by simp [Value.ownBlock] at hj)
  · have h3 : (((n - 1 : Nat) : Int) == 0) = false := by have := HN.out.1; rw [beq_eq_false_iff_ne]; omega
    have HN1 := Lib.hid (show n ≠ 1 ∧ n ≤ c from ⟨hn1, by obtain ⟨A', c', e, hc⟩ := HM2.out.2.open_; simp only [Value.slice.injEq] at e; omega⟩)
    clear hn1 h4
    go_upto_region 8 with (fail)
    have HM4 := HM3
    clear a0 a1 a2 a3 f0 f1 f2 f3
    obtain ⟨b0, b1, b2, _, _, _⟩ := blk3 HM4.out.hX
    obtain ⟨i0, i1, i2, j0, j1, j2⟩ := blk3 HM4.out.hN
    go_wp2
    have HM5 := Lib.hid HM4.out.setN
    unfold set3 at HM5
    have HF5 := Lib.hid (fun (j : Nat) (hj : j ≠ N) => (set3_far wc N (.int .i64 sk) (.int .u8 kd) (.slice A bl m) j hj))
    unfold set3 at HF5
    generalize ((wc.setCell { block := N, off := 0 } (Value.int IntKind.i64 sk)).setCell { block := N, off := 1 } (Value.int IntKind.u8 kd)).setCell { block := N, off := 2 } (Value.slice A bl m) = we at HM5 HF5 ⊢
    clear b0 b1 b2 i0 i1 i2 j0 j1 j2
    obtain ⟨b0, b1, b2, _, _, _⟩ := blk3 HM5.out.hN
    refine bodyPost_ret (v := .tuple #[.agg #[.int .i64 sk, .int .u8 kd, .slice A bl m], .bool true]) (by simp [results, Tryd.results68, go_sem, b0, b1, b2]) rfl ?_
    obtain ⟨rfl, rfl⟩ := HK.out
    have hn := HN.out.1
    obtain rfl := HN.out.2
    have hne := HM5.out.ne
    have hA : A' = some ⟨G, off + 3, none⟩ := HA.out.elim id fun q => absurd q.1 (by have := HN1.out; omega)
    subst hA
    have ho := HM2.out.2
    obtain ⟨d, rfl⟩ : ∃ d, n = d + 1 := ⟨n - 1, by omega⟩
    have ht := ho.tail rfl (by have := HN1.out; omega)
    have hd : d = l.length := by omega
    rw [show d + 1 - 1 = d by omega] at HM5
    refine HM5.out.ends HD.out rfl ?_ (fun j hj => by simpa [Value.ownBlock] using hj.symm)
    rw [← hd]
    refine ht.keep fun j hj => ?_
    have hj2 : j = G := by simpa [Value.ownBlock] using hj.symm
    subst hj2
    exact (HF5.out j (by omega)).trans (HO3.out j hne.1.symm)
theorem next_any (p : Value) (d : DS) (F : Nat → Prop) (w : World) (hd : Dec w p d F) : Calls Tryd.prog 68 #[p] w (NextDid p d F w) := by
  obtain ⟨g, hv, iv, bs, rfl, h⟩ := hd
  obtain ⟨wait, k, l, ov⟩ := d
  cases l with
  | nil =>
    obtain ⟨A, c, rfl, _⟩ := h.box.hi.open_
    exact next_none g hv A c bs wait k ov F w h
  | cons x l =>
    have hl := h.box.hl
    cases bs with
    | nil => simp at hl
    | cons b bs =>
      have hb := h.box.hb 0 (by simp) b rfl
      obtain ⟨A, m, rfl⟩ : ∃ A m, b = .slice A x.body.length m := by
        rcases hb with ⟨e, A, c, rfl, _⟩ | ⟨X, o, c, rfl, _⟩
        · have e2 : x.body = [] := e
          exact ⟨A, c, by rw [e2]; rfl⟩
        · exact ⟨_, _, rfl⟩
      rcases h.box.hi.2 with ⟨_, h0⟩ | ⟨G, off, c, cur, rfl, _⟩
      · simp at h0
      · exact next_some g G off _ c hv (.bool true) A m bs wait k x l ov F w h (by simp)

set_option maxRecDepth 100000 in
theorem fput_long (kind : UInt8) (A : Option Addr) (c n : Nat) (w : World) (hl : 256 < n) :
    Calls Tryd.prog 25 #[.int .u8 (kind.toNat : Int), .slice A n c] w fun e w' => ∃ B m, e = .returned (.tuple #[.slice B 0 m, .int .i64 13]) ∧ Below w.heap.size w w' := by
  have h1 : (256 : Int) < (n : Int) := by omega
  go_enter Tryd.func25, Tryd.ntmps25
  go_wp2
  refine bodyPost_ret (v := .tuple #[.slice none 0 0, .int .i64 13]) (by simp [results, Tryd.results25, go_sem]) rfl ?_
  exact ⟨none, 0, rfl, bself w⟩
/-- An append of any slice of bytes, its length a number. -/
theorem wp_app_n {ops : Array Oper} {rest : List Oper} {o : Oper} {a : Act} {Q : Exit → Act → World → Prop} {w : World} (hgd : o.guard = none) (s x : Operand)
    (ho : o.op = .call { callee := .builtin .append, args := #[s, x], argTypes := #[30, 30] })
    (base B : Nat) (v : Value) (l m : List UInt8) (A : Option Addr) (c n : Nat) (hn : m.length = n) (hs : a.eval s = v) (hown : Owns w base v l) (hx : a.eval x = .slice A n c) (hA : A = none → c = 0)
    (hr : Row w B A (bc m)) (hf : Fits (l.length + n)) (hbase : base ≤ w.heap.size)
    (h : ∀ v' w', Owns w' base v' (l ++ m) → Below base w w' → wpList Tryd.prog ops Q rest (a.put o.dst v') w') : wpList Tryd.prog ops Q (o :: rest) a w := by
  subst hn
  exact wp_app_any hgd s x ho base B v l m A c hs hown hx hA hr hf hbase h
theorem own_form {w : World} {base z : Nat} {v : Value} {l : List UInt8} (h : Owns w base v l) (hz : l.length = z) (h0 : 0 < z) : ∃ g cap, v = .slice (some ⟨g, 0, none⟩) z cap ∧ base ≤ g ∧ g < w.heap.size ∧ z ≤ cap := by
  subst hz
  obtain ⟨_, h2 | ⟨g, cap, cur, rfl, hg, hh, hn, _⟩⟩ := h
  · omega
  · exact ⟨g, cap, rfl, hg, heap_lt hh, hn⟩
theorem fresh_of {w : World} {base : Nat} {v : Value} {l : List UInt8} (h : Owns w base v l) (h0 : 0 < l.length) : Fresh w base v l := by
  obtain ⟨g, cap, rfl, hg, hlt, hc⟩ := own_form h rfl h0
  refine ⟨g, 0, cap, rfl, hc, hg, hlt, fun i hi => ?_⟩
  rw [Nat.zero_add]
  exact h.cell_ i hi
theorem lit_four (w : World) (kind : UInt8) (kd : Int) (n : Nat) (hk : (kind.toNat : Int) = kd) (hn : n ≤ 256) (t : TypeId) (ht : t = 5) :
    Owns (w.alloc (.cells #[.int .u8 165, .int .u8 kd, .int .u8 ((n : Int) / 256), .int .u8 ((n : Int) % 256)] t)) w.heap.size (.slice (some ⟨w.heap.size, 0, none⟩) 4 4) [165, kind, UInt8.ofNat (n / 256), UInt8.ofNat (n % 256)] := by
  subst ht
  have h := World.ownsRow_lit (base := w.heap.size) (e := 5) (size := 1) w #[.int .u8 165, .int .u8 kd, .int .u8 ((n : Int) / 256), .int .u8 ((n : Int) % 256)] 4 (Nat.le_refl _) (by unfold maxLen; omega) rfl
  have e : (#[Value.int .u8 165, .int .u8 kd, .int .u8 ((n : Int) / 256), .int .u8 ((n : Int) % 256)] : Array Value).toList = bc [165, kind, UInt8.ofNat (n / 256), UInt8.ofNat (n % 256)] := by
    have e1 : ((UInt8.ofNat (n / 256)).toNat : Int) = (n : Int) / 256 := by rw [u8_nat _ (by omega)]; omega
    have e2 : ((UInt8.ofNat (n % 256)).toNat : Int) = (n : Int) % 256 := by rw [u8_nat _ (by omega)]; omega
    show [Value.int .u8 165, Value.int .u8 kd, Value.int .u8 ((n : Int) / 256), Value.int .u8 ((n : Int) % 256)] = [Value.int .u8 165, Value.int .u8 (kind.toNat : Int), Value.int .u8 ((UInt8.ofNat (n / 256)).toNat : Int), Value.int .u8 ((UInt8.ofNat (n % 256)).toNat : Int)]
    rw [e1, e2, hk]
  rw [e] at h
  exact h
set_option maxRecDepth 100000 in
theorem fput_any (W : World) (hT : Tabs W) (kind : UInt8) (A : Option Addr) (c : Nat) (body : List UInt8) (w : World) (hW : Below W.heap.size W w) (hr : Row w w.heap.size A (bc body)) (hc : body.length ≤ c) (hA : A = none → c = 0) (hl : body.length ≤ 256) :
    Calls Tryd.prog 25 #[.int .u8 (kind.toNat : Int), .slice A body.length c] w fun e w' => ∃ v, e = .returned (.tuple #[v, .int .i64 0]) ∧ Fresh w' w.heap.size v (putF kind body) ∧ Below w.heap.size w w' := by
  obtain ⟨n, hn⟩ : ∃ n, body.length = n := ⟨_, rfl⟩
  obtain ⟨kd, hkd⟩ : ∃ kd : Int, (kind.toNat : Int) = kd := ⟨_, rfl⟩
  obtain ⟨hd, hhd⟩ : ∃ hd, headF kind body = hd := ⟨_, rfl⟩
  obtain ⟨u, hu⟩ : ∃ u, sumC hd = u := ⟨_, rfl⟩
  have hul : u < 4294967296 := by rw [← hu]; exact Nat.lt_of_lt_of_le (sumC_lt _) (by omega)
  have hlen : hd.length = n + 3 := by rw [← hhd]; unfold headF; simp [hn]
  have hl4 : [165, kind, UInt8.ofNat (n / 256), UInt8.ofNat (n % 256)] ++ body = 165 :: hd := by rw [← hhd]; unfold headF; rw [hn]; rfl
  have HE := Lib.hid (show 165 :: hd ++ putC u = putF kind body by rw [← hu, ← hhd]; rfl)
  have HL4 := Lib.hid hl4
  have HA := Lib.hid hA
  have HR := Lib.hid hr
  have HN := Lib.hid hn
  have HLit := Lib.hid (fun t ht => lit_four w kind kd n hkd (by omega) t ht)
  have HS := Lib.hid (fun (w1 : World) (g cap z : Nat) (hz : z = n + 4) (hzc : z ≤ cap) (ho : Owns w1 w.heap.size (.slice (some ⟨g, 0, none⟩) z cap) (165 :: hd)) (hb : Below w.heap.size w w1) => show Calls Tryd.prog 53 #[.slice (some ⟨g, 1, none⟩) (z - 1) (cap - 1)] w1 fun e w' => e = .returned (.int .u32 (u : Nat)) ∧ Below w1.heap.size w1 w' from by
    have hlt := ho.lt g rfl
    have h := csum_any W hT (some ⟨g, 1, none⟩) (cap - 1) hd w1 (bstep hW hb) (Lies.row hlt fun i hi => by
      have := (ho.cell_ (i + 1) (by simp; omega)).1
      rw [show 1 + i = i + 1 by omega, this]
      rfl) (by omega)
    rw [hlen, hu] at h
    rw [show z - 1 = n + 3 by omega]
    exact h)
  have HU := Lib.hid hul
  obtain ⟨z, hz⟩ : ∃ z, z = n + 4 := ⟨_, rfl⟩
  have HZ := Lib.hid (show (165 :: hd).length = z ∧ 0 < z ∧ z = n + 4 ∧ z ≤ 1000 by rw [List.length_cons, hlen]; omega)
  have z1 : (1 : Int) ≤ (z : Int) := by omega
  rw [hn, hkd]
  rw [hn] at hc hl
  have h1 : ¬ (256 : Int) < (n : Int) := by omega
  have h9 : n ≤ 256 := hl
  clear hA hr hT hW hn hkd hhd hu hlen hl4 hul hc hl hz
  go_enter Tryd.func25, Tryd.ntmps25
  go_wp2_with (first
    | (at_builtin; refine wp_app_n rfl (.tmp 18) (.tmp 19) rfl w.heap.size w.heap.size _ [165, kind, UInt8.ofNat (n / 256), UInt8.ofNat (n % 256)] body A c n HN.out rfl (HLit.out _ rfl) rfl HA.out (HR.out.below_ (bmore (bself w) _)) (by simp; unfold Fits; omega) (by simp) ?_; intro v1 w1 ho1 hb1; rw [HL4.out] at ho1; obtain ⟨g, cap, rfl, hg1, hg2, hg3⟩ := own_form ho1 HZ.out.1 HZ.out.2.1; have hcap : ¬ cap = 1 := (by have := HZ.out.2.2.1; omega); have hcap2 : (z : Int) ≤ (cap : Int) := (by omega); have HG := Lib.hid (And.intro hg1 (And.intro hg2 hg3)); have HO1 := Lib.hid ho1; have HB1 := Lib.hid (((bself w).alloc (Nat.le_refl _) _).trans hb1); clear ho1 hb1 hg1 hg2 hg3)
    | (go_at_call 53; (with_reducible refine Calls.mono (HS.out w1 g cap z HZ.out.2.2.1 HG.out.2.2 HO1.out HB1.out) ?_); rintro e w2 ⟨rfl, hb⟩; have HO2 := Lib.hid (HO1.out.over hb); have HB2 := Lib.hid (bstep HB1.out hb); clear hb)
    | (go_at_call 52; (with_reducible refine (cput_any u _ HU.out).mono ?_); rintro e w3 ⟨v3, rfl, hl3, hb⟩; obtain ⟨A3, c3, rfl, hr3, _, hA3⟩ := lies_row hl3; have HR3 := Lib.hid (And.intro hr3 hA3); have HO3 := Lib.hid (HO2.out.over hb); have HB3 := Lib.hid (bstep HB2.out hb); clear hb hl3 hr3 hA3)
    | (at_builtin; refine wp_app_any rfl (.tmp 21) (.tmp 25) rfl w.heap.size w3.heap.size _ (165 :: hd) (putC u) A3 c3 rfl HO3.out rfl HR3.out.2 HR3.out.1 (by have := HZ.out; rw [HZ.out.1]; unfold putC Fits; simp; omega) HB3.out.size ?_; intro v4 w4 ho4 hb4; rw [HE.out] at ho4; have HO4 := Lib.hid ho4; have HB4 := Lib.hid (HB3.out.trans hb4); clear ho4 hb4))
  refine bodyPost_ret (v := .tuple #[v4, .int .i64 0]) (by simp [results, Tryd.results25, go_sem]) rfl ?_
  exact ⟨v4, rfl, fresh_of HO4.out (by unfold putF; simp), HB4.out⟩
end Go.Proofs.YthnkiabhfcddaaaDoor
/-
  Contract of layer 4's law's 'all': the items of pieces.
-/
namespace Go.Proofs.YthnkiabhfcddaaaDoor
open Go.RowKit
set_option linter.unusedVariables false

theorem info_F : (Tryd.prog.info? 92).map (fun i => (i.zero, i.size, i.bytes)) = some (some (.agg #[.int .i64 0, .int .u8 0, .slice none 0 0]), 3, 40) := by kernel_rfl
/-- Where all's second loop stands: the decoder's blocks F, the blocks D of bodies that were handed out, the list o of items, the item x in block xg. -/
structure AllAt (w wr : World) (p : Value) (d : DS) (F D : Nat → Prop) (o : Value) (done : List It) (bs : List Value) (xg : Nat) (x : It) (xb : Value) : Prop where
  hd : Dec wr p d F
  hF : ∀ k, F k → w.heap.size ≤ k
  hB : Below w.heap.size w wr
  ho : wr.ownsRow w.heap.size 92 3 o done.length (cellsF done bs)
  hob : ∀ k, o.ownBlock = some k → ¬ F k ∧ ¬ D k ∧ k ≠ xg
  hx : wr.heap[xg]? = some (.cells #[.int .i64 (x.skip : Int), .int .u8 (x.kind.toNat : Int), xb] 92 (0, 0))
  hxg : w.heap.size ≤ xg ∧ ¬ F xg ∧ ¬ D xg
  hxb : LiesIn wr D xb x.body
  hbl : bs.length = done.length
  hbs : ∀ i (h : i < done.length) u, bs[i]? = some u → LiesIn wr D u done[i].body
  hD : ∀ k, D k → k < wr.heap.size ∧ ¬ F k
section
variable {w wr : World} {p : Value} {d : DS} {F D : Nat → Prop} {o : Value} {done : List It} {bs : List Value} {xg : Nat} {x : It} {xb : Value}
theorem AllAt.lt (h : AllAt w wr p d F D o done bs xg x xb) : xg < wr.heap.size := heap_lt h.hx
/-- A new item in the list. -/
theorem AllAt.push (h : AllAt w wr p d F D o done bs xg x xb) {o' : Value} {w1 : World} {cs : Array Value} {t : TypeId}
    (hg : Grew (wr.alloc (.cells cs t)) w.heap.size 92 3 o o' (done.length + 1) (cellsF done bs ++ cellsF [x] [xb]) w1) :
    AllAt w w1 p d F D o' (done ++ [x]) (bs ++ [xb]) xg x xb := by
  obtain ⟨g1, g2, g3, g4⟩ := hg
  have hw : ∀ k, k < wr.heap.size → o.ownBlock ≠ some k → w1.heap[k]? = wr.heap[k]? := fun k hk hne =>
    (g2.block k (by simp; omega) (fun e => hne e.symm)).trans (Below.heap_alloc wr _ k hk)
  have hold : ∀ k, o.ownBlock = some k → k < wr.heap.size := fun k hk => (ownsRow_old h.ho k hk).2
  have hsz : wr.heap.size + 1 ≤ w1.heap.size := by have := g2.size; simpa using this
  have hkF : ∀ k, F k → w1.heap[k]? = wr.heap[k]? := fun k hk => hw k (h.hd.old k hk) fun e => (h.hob k e).1 hk
  have hkD : ∀ k, D k → w1.heap[k]? = wr.heap[k]? := fun k hk => hw k (h.hD k hk).1 fun e => (h.hob k e).2.1 hk
  have hlt := h.lt
  have hob : ∀ k, o'.ownBlock = some k → ¬ F k ∧ ¬ D k ∧ k ≠ xg := fun k hk => by
    rcases g3 with e | e
    · exact h.hob k (e ▸ hk)
    · rw [e] at hk
      simp at hk
      subst hk
      exact ⟨fun f => by have := h.hd.old _ f; omega, fun f => by have := (h.hD _ f).1; omega, by omega⟩
  refine ⟨h.hd.keep hkF, h.hF, (h.hB.alloc h.hB.size _).trans g4, ?_, hob, (hw xg hlt fun e => (h.hob _ e).2.2 rfl).trans h.hx, h.hxg, h.hxb.keep hkD, ?_, ?_, fun k hk => ⟨by have := (h.hD k hk).1; omega, (h.hD k hk).2⟩⟩
  · rw [cellsF_append _ _ _ _ h.hbl, List.length_append]
    exact g1
  · rw [List.length_append, List.length_append, h.hbl]; rfl
  · intro i hi u hu
    rw [List.length_append, List.length_singleton] at hi
    rcases Nat.lt_or_ge i done.length with h1 | h1
    · rw [List.getElem?_append_left (by rw [h.hbl]; exact h1)] at hu
      rw [List.getElem_append_left h1]
      exact (h.hbs i h1 u hu).keep hkD
    · obtain rfl : i = done.length := by omega
      rw [List.getElem?_append_right (by rw [h.hbl]; exact Nat.le_refl _), h.hbl] at hu
      simp at hu
      subst hu
      simp only [List.getElem_concat_length]
      exact h.hxb.keep hkD
/-- The next item in x's block. -/
theorem AllAt.next (h : AllAt w wr p d F D o done bs xg x xb) {w2 : World} {F' D2 : Nat → Prop} {d' : DS} {x' : It} {xb' : Value} (hm : Moved wr p d' F w2 F') (hl : LiesIn w2 D2 xb' x'.body) (hD2 : ∀ k, D2 k → (F k ∨ wr.heap.size ≤ k) ∧ k < w2.heap.size ∧ ¬ F' k) :
    AllAt w (set3 w2 xg (.int .i64 (x'.skip : Int)) (.int .u8 (x'.kind.toNat : Int)) xb') p d' F' (fun k => D k ∨ D2 k) o done bs xg x' xb' := by
  obtain ⟨hd, ht, hf⟩ := hm
  have hlt := h.lt
  have hb2 : Below w.heap.size w w2 := h.hB.trans (ht.below h.hF h.hB.size)
  have hsz := ht.size
  have nF : ∀ k, k < wr.heap.size → ¬ F k → ¬ F' k := fun k hk hn hf' => (hf k hf').elim hn (by omega)
  have nD2 : ∀ k, k < wr.heap.size → ¬ F k → ¬ D2 k := fun k hk hn hd2 => (hD2 k hd2).1.elim hn (by omega)
  have kD : ∀ k, D k → w2.heap[k]? = wr.heap[k]? := fun k hk => ht.block k (h.hD k hk).1 (h.hD k hk).2
  have far : ∀ k, k ≠ xg → (set3 w2 xg (.int .i64 (x'.skip : Int)) (.int .u8 (x'.kind.toNat : Int)) xb').heap[k]? = w2.heap[k]? := fun k hk => set3_far _ _ _ _ _ k hk
  have xF' := nF xg hlt h.hxg.2.1
  have xD2 := nD2 xg hlt h.hxg.2.1
  have kD' : ∀ k, D k → (set3 w2 xg (.int .i64 (x'.skip : Int)) (.int .u8 (x'.kind.toNat : Int)) xb').heap[k]? = wr.heap[k]? := fun k hk => (far k fun e => h.hxg.2.2 (e ▸ hk)).trans (kD k hk)
  refine ⟨hd.keep fun k hk => far k fun e => xF' (e ▸ hk), fun k hk => (hf k hk).elim (h.hF k) (fun q => Nat.le_trans h.hB.size q), set3_below hb2 h.hxg.1 _ _ _, ?_, ?_, ?_, ⟨h.hxg.1, xF', fun e => e.elim h.hxg.2.2 xD2⟩, ?_, h.hbl, ?_, ?_⟩
  · exact ownsRow_below h.ho fun k hk => (far k (h.hob k hk).2.2).trans (ht.block k (ownsRow_old h.ho k hk).2 (h.hob k hk).1)
  · intro k hk
    have hk1 := h.hob k hk
    have hk2 := (ownsRow_old h.ho k hk).2
    exact ⟨nF k hk2 hk1.1, fun e => e.elim hk1.2.1 (nD2 k hk2 hk1.1), hk1.2.2⟩
  · exact set3_heap ((ht.block xg hlt h.hxg.2.1).trans h.hx)
  · exact (hl.keep fun k hk => far k fun e => xD2 (e ▸ hk)).mono fun k hk => .inr hk
  · exact fun i hi u hu => ((h.hbs i hi u hu).keep kD').mono fun k hk => .inl hk
  · intro k hk
    rw [set3_size]
    rcases hk with hk | hk
    · have := h.hD k hk
      exact ⟨by omega, nF k this.1 this.2⟩
    · exact (hD2 k hk).2
end
/-- all's answer. -/
def AllDid (l : List It) (w : World) (e : Ending) (w' : World) : Prop := ∃ A c, e = .returned (.slice A l.length c) ∧ SeqF w' w'.heap.size (.slice A l.length c) l ∧ l.length ≤ c ∧ Below w.heap.size w w'
theorem AllAt.done_ {w wr : World} {p : Value} {d : DS} {F D : Nat → Prop} {o : Value} {done : List It} {bs : List Value} {xg : Nat} {x : It} {xb : Value} (h : AllAt w wr p d F D o done bs xg x xb) : ∃ A c, o = .slice A done.length c ∧ done.length ≤ c ∧ SeqF wr wr.heap.size o done ∧ Below w.heap.size w wr := by
  have hs : SeqF wr wr.heap.size o done := ⟨bs, h.hbl, Seq.own h.ho, fun i hi u hu => (h.hbs i hi u hu).below fun k hk => (h.hD k hk).1⟩
  obtain ⟨A, c, e, hc⟩ := hs.open_
  exact ⟨A, c, e, hc, hs, h.hB⟩
/-- Next's answer, its parts named. -/
def NextAt (p : Value) (d' : DS) (x : It) (ok : Bool) (F : Nat → Prop) (w : World) (e : Ending) (w' : World) : Prop := ∃ F' D A c, e = .returned (.tuple #[.agg #[.int .i64 (x.skip : Int), .int .u8 (x.kind.toNat : Int), .slice A x.body.length c], .bool ok]) ∧ Moved w p d' F w' F' ∧ LiesIn w' D (.slice A x.body.length c) x.body ∧ ∀ k, D k → (F k ∨ w.heap.size ≤ k) ∧ k < w'.heap.size ∧ ¬ F' k
theorem next_at (p : Value) (d d' : DS) (x : It) (ok : Bool) (F : Nat → Prop) (w : World) (hd : Dec w p d F) (h : nextS d = (d', x, ok)) : Calls Tryd.prog 68 #[p] w (NextAt p d' x ok F w) := by
  have h2 := next_any p d F w hd
  unfold NextDid at h2
  rw [h] at h2
  exact h2
/-- Behind the first item. -/
theorem AllAt.first {w wr w2 : World} {p : Value} {d' : DS} {F F' D : Nat → Prop} {x : It} {xb : Value} (hF : ∀ k, F k → w.heap.size ≤ k) (hB : Below w.heap.size w wr) (hm : Moved wr p d' F w2 F') (hl : LiesIn w2 D xb x.body) (hD : ∀ k, D k → (F k ∨ wr.heap.size ≤ k) ∧ k < w2.heap.size ∧ ¬ F' k) :
    AllAt w (w2.alloc (.cells #[.int .i64 (x.skip : Int), .int .u8 (x.kind.toNat : Int), xb] 92)) p d' F' D (.slice none 0 0) [] [] w2.heap.size x xb := by
  obtain ⟨hd, ht, hf⟩ := hm
  have hb2 : Below w.heap.size w w2 := hB.trans (ht.below hF hB.size)
  have al : ∀ k, k < w2.heap.size → (w2.alloc (.cells #[.int .i64 (x.skip : Int), .int .u8 (x.kind.toNat : Int), xb] 92)).heap[k]? = w2.heap[k]? := fun k hk => Below.heap_alloc _ _ k hk
  refine ⟨hd.keep fun k hk => al k (hd.old k hk), fun k hk => (hf k hk).elim (hF k) (fun q => Nat.le_trans hB.size q), hb2.alloc hb2.size _, World.ownsRow_nil _ _ _ _, fun k hk => by simp [Value.ownBlock] at hk, heap_alloc_new w2 _, ⟨hb2.size, fun f => by have := hd.old _ f; omega, fun f => by have := (hD _ f).2.1; omega⟩, hl.keep fun k hk => al k (hD k hk).2.1, rfl, fun i hi => by simp at hi, fun k hk => ⟨by have := (hD k hk).2.1; simp; omega, (hD k hk).2.2⟩⟩
theorem cellsF_one (l : List It) (bs : List Value) : ∀ y ∈ cellsF l bs, (∀ u ∈ bs, u.oneCell' = true) → y.oneCell' = true := by
  induction l generalizing bs with
  | nil => intro y hy; simp [cellsF] at hy
  | cons x l ih =>
    intro y hy hb
    cases bs with
    | nil => simp [cellsF] at hy
    | cons b bs =>
      simp only [cellsF, List.mem_cons] at hy
      rcases hy with rfl | rfl | rfl | hy
      · rfl
      · rfl
      · exact hb _ (by simp)
      · exact ih bs y hy fun u hu => hb u (by simp [hu])
theorem item_lit (x : It) (A : Option Addr) (n c : Nat) : ∀ y ∈ cellsF [x] [.slice A n c], y.oneCell' = true := by
  intro y hy
  exact cellsF_one [x] _ y hy (by intro u hu; simp at hu; subst hu; rfl)
end Go.Proofs.YthnkiabhfcddaaaDoor
/-
  Layer 4: the program's decoder beside the reference's, step by step.
-/
namespace Go.Proofs.YthnkiabhfcddaaaDoor
open Go.RowKit
set_option linter.unusedVariables false

/-- The decoder p is in state d', the reference's one, in block g, in state d. -/
structure PlayAt (w wr : World) (p : Value) (d' d : DS) (F : Nat → Prop) (g : Nat) (v : Value) : Prop where
  hd : Dec wr p d' F
  hF : ∀ k, F k → w.heap.size ≤ k
  hB : Below w.heap.size w wr
  hg : wr.heap[g]? = some (.cells #[.string (mkB d.wait), .int .i64 (d.skip : Int), v, .bool d.over] 95 (0, 0))
  hgw : w.heap.size ≤ g ∧ ¬ F g
  hs : SeqI wr wr.heap.size v d.items
  hx : ∀ b, v.ownBlock = some b → b ≠ g ∧ ¬ F b
section
variable {w wr w1 : World} {p : Value} {d' d : DS} {F : Nat → Prop} {g : Nat} {v : Value}
theorem PlayAt.lt (h : PlayAt w wr p d' d F g v) : g < wr.heap.size := heap_lt h.hg
/-- Behind a call of the program's decoder. -/
theorem PlayAt.moved (h : PlayAt w wr p d' d F g v) {d2 : DS} {F' : Nat → Prop} (hm : Moved wr p d2 F w1 F') : PlayAt w w1 p d2 d F' g v := by
  obtain ⟨h1, h2, h3⟩ := hm
  have hlt := h.lt
  have nF : ∀ k, k < wr.heap.size → ¬ F k → ¬ F' k := fun k hk hn f => (h3 k f).elim hn (by omega)
  exact ⟨h1, fun k hk => (h3 k hk).elim (h.hF k) (fun q => Nat.le_trans h.hB.size q), h.hB.trans (h2.below h.hF h.hB.size), (h2.block g hlt h.hgw.2).trans h.hg, ⟨h.hgw.1, nF g hlt h.hgw.2⟩, (h.hs.keep_ fun k hk => h2.block k (h.hs.old k hk) (h.hx k hk).2).more h2.size, fun b hb => ⟨(h.hx b hb).1, nF b (h.hs.old b hb) (h.hx b hb).2⟩⟩
/-- Behind a call that makes memory. -/
theorem PlayAt.over (h : PlayAt w wr p d' d F g v) (hb : Below wr.heap.size wr w1) : PlayAt w w1 p d' d F g v :=
  ⟨h.hd.keep fun k hk => hb.block k (h.hd.old k hk), h.hF, bstep h.hB hb, (hb.block g h.lt).trans h.hg, h.hgw, h.hs.over (Nat.le_refl _) hb, h.hx⟩
/-- Behind a call of the reference, its answer stored. -/
theorem PlayAt.stored (h : PlayAt w wr p d' d F g v) {d2 : DS} {A : Option Addr} {n c : Nat} (hs : SeqI w1 w1.heap.size (.slice A n c) d2.items) (hf : From v (.slice A n c) wr.heap.size) (hb : Below wr.heap.size wr w1) :
    PlayAt w (set4 w1 g (.string (mkB d2.wait)) (.int .i64 (d2.skip : Int)) (.slice A n c) (.bool d2.over)) p d' d2 F g (.slice A n c) := by
  have h1 := h.over hb
  have hlt := h.lt
  have hx : ∀ b, (Value.slice A n c).ownBlock = some b → b ≠ g ∧ ¬ F b := fun b hb => (hf b hb).elim (h.hx b) (fun q => ⟨by omega, fun f => by have := h.hd.old b f; omega⟩)
  refine ⟨h1.hd.keep fun k hk => set4_far _ _ _ _ _ _ k (fun e => h.hgw.2 (e ▸ hk)), h.hF, set4_below h1.hB h.hgw.1 _ _ _ _, set4_heap h1.hg, h.hgw, ?_, hx⟩
  unfold SeqI at hs ⊢
  rw [set4_size]
  exact hs.keep_ fun b hb => set4_far _ _ _ _ _ _ b (hx b hb).1
theorem PlayAt.first (hd : Dec wr p newS F) (hF : ∀ k, F k → w.heap.size ≤ k) (hB : Below w.heap.size w wr) : PlayAt w (wr.alloc (.cells #[.string ⟨#[]⟩, .int .i64 0, .slice none 0 0, .bool false] 95)) p newS newS F wr.heap.size (.slice none 0 0) :=
  ⟨hd.keep fun k hk => Below.heap_alloc _ _ k (hd.old k hk), hF, hB.alloc hB.size _, heap_alloc_new wr _, ⟨hB.size, fun f => by have := hd.old _ f; omega⟩, Seq.nil_ _ _ _, fun b hb => by simp [Value.ownBlock] at hb⟩
end

/-! How large states are. -/
theorem giveS_small (d : DS) (b : List UInt8) (n : Nat) (h : d.wait.length + d.skip + d.items.length ≤ n) : (giveS d b).wait.length + (giveS d b).skip + (giveS d b).items.length ≤ n + b.length := by
  unfold giveS
  split
  · omega
  · have hp := pass_sum false _ (d.wait ++ b) d.skip (Nat.le_refl _)
    have hl := sumI_len (passF false (d.wait ++ b) d.skip).2.2
    rw [List.length_append] at hp
    dsimp only
    rw [List.length_append]
    omega
theorem skipI_le (k : Nat) : (skipI k).length ≤ k := by unfold skipI; split <;> simp; omega
theorem endS_small (d : DS) (n : Nat) (h : d.wait.length + d.skip + d.items.length ≤ n) : (endS d).wait.length + (endS d).skip + (endS d).items.length ≤ n := by
  unfold endS
  split
  · omega
  · have hp := pass_sum true _ d.wait d.skip (Nat.le_refl _)
    have hl := sumI_len (passF true d.wait d.skip).2.2
    have hk := skipI_le (passF true d.wait d.skip).2.1
    dsimp only
    rw [List.length_append, List.length_append]
    omega
theorem nextS_small (d : DS) (n : Nat) (h : d.wait.length + d.skip + d.items.length ≤ n) : (nextS d).1.wait.length + (nextS d).1.skip + (nextS d).1.items.length ≤ n := by
  unfold nextS
  split
  · exact h
  · rename_i x l he
    rw [he] at h
    simp at h ⊢
    omega
/-- The states, step by step. -/
def actS (d : DS) (a : UInt8 × List UInt8) : DS := if a.1 = 0 then giveS d a.2 else if a.1 = 1 then (nextS d).1 else endS d
def lenA : List (UInt8 × List UInt8) → Nat
  | [] => 0
  | a :: l => a.2.length + lenA l
theorem lenA_append (a b : List (UInt8 × List UInt8)) : lenA (a ++ b) = lenA a + lenA b := by
  induction a with
  | nil => simp [lenA]
  | cons x a ih => simp only [List.cons_append, lenA, ih]; omega
theorem lenA_take (l : List (UInt8 × List UInt8)) (k : Nat) (h : k < l.length) : lenA (l.take (k + 1)) = lenA (l.take k) + l[k].2.length := by
  rw [List.take_succ_eq_append_getElem h, lenA_append]
  simp [lenA]
theorem lenA_le (l : List (UInt8 × List UInt8)) (k : Nat) : lenA (l.take k) ≤ lenA l := by
  conv => rhs; rw [← List.take_append_drop k l, lenA_append]
  omega
theorem actS_small (d : DS) (a : UInt8 × List UInt8) (n : Nat) (h : d.wait.length + d.skip + d.items.length ≤ n) : (actS d a).wait.length + (actS d a).skip + (actS d a).items.length ≤ n + a.2.length := by
  unfold actS
  split
  · exact giveS_small d a.2 n h
  · split
    · have := nextS_small d n h; omega
    · have := endS_small d n h; omega
end Go.Proofs.YthnkiabhfcddaaaDoor
/-
  Layer 7, the landed code: fieldPut, Put.
-/
namespace Go.Proofs.YthnkiabhfcddaaaDoor
open Go.RowKit
set_option linter.unusedVariables false

/-- A field's bytes, as the code puts them. -/
def fieldC (r : Rec) (f : Nat) : List UInt8 := if f = 0 then [] else if f = 7 then enc r.text.length ++ r.text else enc (numC r f)
set_option maxRecDepth 100000 in
set_option maxHeartbeats 1000000 in
theorem fieldPut_any (r : Rec) (f : Nat) (w : World) (hf : f ≤ 7) (hq : r.seq ≤ 18446744073709551615) (ht : r.text.length ≤ 1000000) {b : List UInt8} (hb : fieldC r f = b) :
    Calls Tryd.prog 24 #[.agg #[.int .u8 (r.kind : Int), .int .i64 r.src, .int .u64 (r.seq : Int), .int .i64 r.at_, .int .i64 r.num, .int .i64 r.code, .bool r.yes, .string (mkB r.text)], .int .i64 (f : Int)] w (NewB b w) := by
  have HQ := Lib.hid (And.intro hq ht)
  have HR := Lib.hid (heap_alloc_new w (recB r 24))
  have HB0 := Lib.hid (bmore (bself w) (recB r 24))
  obtain ⟨m0, m1, m2, m3, m4, m5, m6, m7⟩ := recAt_blk (heap_alloc_new w (recB r 24))
  unfold recB at m0 m1 m2 m3 m4 m5 m6 m7 HR HB0
  clear hq ht
  by_cases h0 : f = 0
  · subst h0
    obtain rfl : [] = b := hb
    clear m0 m1 m2 m3 m4 m5 m6 m7
    go_enter Tryd.func24, Tryd.ntmps24
    go_wp2
    go_ret
    exact ⟨none, 0, rfl, Owns.none_ _ _, fun h => absurd rfl h, fun _ => rfl, HB0.out⟩
  by_cases h7 : f = 7
  · subst h7
    obtain rfl : enc r.text.length ++ r.text = b := hb
    have HT := text_one r.text (w.alloc (.cells #[.int .u8 (r.kind : Int), .int .i64 r.src, .int .u64 (r.seq : Int), .int .i64 r.at_, .int .i64 r.num, .int .i64 r.code, .bool r.yes, .string (mkB r.text)] 24)) 9 HQ.out.2
    rw [World.size_alloc] at HT
    generalize enc r.text.length ++ r.text = b at HT
    have HT := Lib.hid HT
    clear m0 m1 m2 m3 m4 m5 m6 h0
    go_enter Tryd.func24, Tryd.ntmps24
    go_wp2_with (go_at_call 50; (with_reducible refine HT.out.mono ?_); rintro e w2 ⟨A2, c2, rfl, h1, h2, h3, h4⟩; have HN := Lib.hid (And.intro h1 (And.intro h2 (And.intro h3 h4))); clear h1 h2 h3 h4 m7)
    go_ret
    exact ⟨A2, c2, rfl, ownsRow_mono HN.out.1 HB0.out.size, HN.out.2.1, HN.out.2.2.1, bstep HB0.out HN.out.2.2.2⟩
  · obtain ⟨u, hu⟩ : ∃ u, numC r f = u := ⟨_, rfl⟩
    have hu8 : u ≤ 18446744073709551615 := by rw [← hu]; exact numC_le r f HQ.out.1
    have HNU := Lib.hid (fun w => number_any r f w HQ.out.1 hu)
    have HT := Lib.hid (fun w => put_one u w 22 hu8)
    obtain rfl : enc u = b := by rw [← hb, ← hu]; unfold fieldC; rw [if_neg h0, if_neg h7]
    generalize enc u = b at HT
    have e0 : ((f : Int) == 0) = false := by rw [beq_eq_false_iff_ne]; omega
    have e7 : ((f : Int) == 7) = false := by rw [beq_eq_false_iff_ne]; omega
    clear hu hu8 h0 h7 hb
    go_enter Tryd.func24, Tryd.ntmps24
    go_wp2_with (first
      | (go_at_call 49; (with_reducible refine (HNU.out _).mono ?_); rintro e w1 ⟨rfl, hb⟩; have HB1 := Lib.hid (bstep HB0.out hb); clear hb m0 m1 m2 m3 m4 m5 m6 m7)
      | (go_at_call 51; (with_reducible refine (HT.out _).mono ?_); rintro e w2 ⟨A2, c2, rfl, h1, h2, h3, h4⟩; have HN := Lib.hid (And.intro h1 (And.intro h2 (And.intro h3 h4))); clear h1 h2 h3 h4))
    go_ret
    exact ⟨A2, c2, rfl, ownsRow_mono HN.out.1 HB1.out.size, HN.out.2.1, HN.out.2.2.1, bstep HB1.out HN.out.2.2.2⟩

/-- The bytes of the first so many fields. -/
def bodyAt (r : Rec) : Nat → List UInt8
  | 0 => []
  | j + 1 => bodyAt r j ++ fieldC r (padR r.kind j)
theorem numC_may {r : Rec} (h : mayR r = true) (hin : r.In) (f : Nat) (hf : 1 ≤ f ∧ f ≤ 6) : numC r f = numR r f := by
  obtain ⟨_, ⟨h1, _⟩, h2, h3, ⟨h4, _⟩, _⟩ := (mayR_iff r).1 h
  obtain ⟨_, i1, i2, i3, i4, i5⟩ := hin
  unfold numC numR
  rcases (show f = 1 ∨ f = 2 ∨ f = 3 ∨ f = 4 ∨ f = 5 ∨ f = 6 by omega) with rfl | rfl | rfl | rfl | rfl | rfl
  · exact uz_of h1 i1.2
  · rfl
  · exact uz_of h2 i3.2
  · exact uz_of h3 i4.2
  · exact uz_of h4 i5.2
  · rfl
theorem fieldC_may {r : Rec} (h : mayR r = true) (hin : r.In) (f : Nat) (hf : 1 ≤ f ∧ f ≤ 7) : fieldC r f = fieldR r f := by
  unfold fieldC fieldR
  rw [if_neg (by omega)]
  by_cases h7 : f = 7
  · rw [if_pos h7, if_pos h7]
  · rw [if_neg h7, if_neg h7, numC_may h hin f (by omega)]
theorem bodyAt_may {r : Rec} (h : mayR r = true) (hin : r.In) : bodyAt r 4 = bodyR r := by
  have hk := ((mayR_iff r).1 h).1
  have e : ∀ f, (1 ≤ f ∧ f ≤ 7) → fieldC r f = fieldR r f := fieldC_may h hin
  have e0 : fieldC r 0 = [] := rfl
  have e1 := e 1 (by omega)
  have e2 := e 2 (by omega)
  have e3 := e 3 (by omega)
  have e4 := e 4 (by omega)
  have e5 := e 5 (by omega)
  have e6 := e 6 (by omega)
  have e7 := e 7 (by omega)
  unfold bodyR
  unfold bodyAt bodyAt bodyAt bodyAt bodyAt
  rcases kinds_cases hk with h | h | h | h | h | h | h | h | h | h | h | h | h | h | h | h <;> rw [h] <;>
  simp [pad_17, pad_18, pad_19, pad_20, pad_21, pad_22, pad_23, pad_24, pad_25, pad_26, pad_27, pad_28, pad_29, pad_30, pad_31, pad_32, order_17, order_18, order_19, order_20, order_21, order_22, order_23, order_24, order_25, order_26, order_27, order_28, order_29, order_30, order_31, order_32, e0, e1, e2, e3, e4, e5, e6, e7]
theorem fieldC_len (r : Rec) (f : Nat) (hq : r.seq ≤ 18446744073709551615) (ht : r.text.length ≤ 1000) : (fieldC r f).length ≤ 1009 := by
  unfold fieldC
  split
  · simp
  · split
    · have := (enc_len r.text.length (by omega)).2
      rw [List.length_append]; omega
    · have := (enc_len (numC r f) (numC_le r f hq)).2
      omega
theorem bodyAt_len (r : Rec) (hq : r.seq ≤ 18446744073709551615) (ht : r.text.length ≤ 1000) : ∀ j, (bodyAt r j).length ≤ 1009 * j
  | 0 => by simp [bodyAt]
  | j + 1 => by
    have h1 := bodyAt_len r hq ht j
    have h2 := fieldC_len r (padR r.kind j) hq ht
    unfold bodyAt
    rw [List.length_append]; omega

set_option maxRecDepth 100000 in
set_option maxHeartbeats 2000000 in
theorem cput_no (r : Rec) (w : World) (HM : Hid (∀ w1, Below w.heap.size w w1 → Calls Tryd.prog 11 #[.agg #[.int .u8 (r.kind : Int), .int .i64 r.src, .int .u64 (r.seq : Int), .int .i64 r.at_, .int .i64 r.num, .int .i64 r.code, .bool r.yes, .string (mkB r.text)]] w1 fun e w' => e = .returned (.bool false) ∧ Below w1.heap.size w1 w')) :
    Calls Tryd.prog 13 #[.agg #[.int .u8 (r.kind : Int), .int .i64 r.src, .int .u64 (r.seq : Int), .int .i64 r.at_, .int .i64 r.num, .int .i64 r.code, .bool r.yes, .string (mkB r.text)]] w fun e w' => e = .returned (.slice none 0 0) ∧ Below w.heap.size w w' := by
  have HB0 := Lib.hid (bmore (bself w) (recB r 24))
  obtain ⟨m0, m1, m2, m3, m4, m5, m6, m7⟩ := recAt_blk (heap_alloc_new w (recB r 24))
  unfold recB at m0 m1 m2 m3 m4 m5 m6 m7 HB0
  go_enter Tryd.func13, Tryd.ntmps13
  go_wp2_with (go_at_call 11; (with_reducible refine (HM.out _ HB0.out).mono ?_); rintro e w1 ⟨rfl, hb⟩; have HB1 := Lib.hid (bstep HB0.out hb); clear hb m0 m1 m2 m3 m4 m5 m6 m7)
  go_ret
  exact ⟨rfl, HB1.out⟩

theorem owns_lies {w : World} {base : Nat} {v : Value} {l : List UInt8} (h : Owns w base v l) : ∃ A c, v = .slice A l.length c ∧ LiesB w w.heap.size (.slice A l.length c) l := by
  have hb : LiesB w w.heap.size v l := h.liesIn.below h.old
  obtain ⟨A, c, rfl, _⟩ := liesB_row hb
  exact ⟨A, c, rfl, hb⟩
/-- Where Put's loop stands: the record's box, the bytes so far. -/
structure PutSt (w wr : World) (g : Nat) (r : Rec) (b : Value) (l : List UInt8) : Prop where
  hr : wr.heap[g]? = some (recB r 24)
  ho : Owns wr (g + 1) b l
  hb : Below w.heap.size w wr
  hg : g = w.heap.size
theorem PutSt.over {w wr w' : World} {g : Nat} {r : Rec} {b : Value} {l : List UInt8} (h : PutSt w wr g r b l) (hb : Below wr.heap.size wr w') : PutSt w w' g r b l :=
  ⟨(hb.block g (heap_lt h.hr)).trans h.hr, h.ho.over hb, bstep h.hb hb, h.hg⟩
theorem PutSt.push {w wr w' : World} {g : Nat} {r : Rec} {b b' : Value} {l l' : List UInt8} (h : PutSt w wr g r b l) (ho : Owns w' (g + 1) b' l') (hb : Below (g + 1) wr w') : PutSt w w' g r b' l' :=
  ⟨(hb.block g (by omega)).trans h.hr, ho, h.hb.trans (hb.mono (by have := h.hg; omega)), h.hg⟩
set_option maxRecDepth 100000 in
set_option maxHeartbeats 4000000 in
theorem cput_yes (W : World) (hT : Tabs W) (hS : Shaps W) (r : Rec) (w : World) (hW : Below W.heap.size W w) (hin : r.In) (hm : mayR r = true) :
    Calls Tryd.prog 13 #[.agg #[.int .u8 (r.kind : Int), .int .i64 r.src, .int .u64 (r.seq : Int), .int .i64 r.at_, .int .i64 r.num, .int .i64 r.code, .bool r.yes, .string (mkB r.text)]] w fun e w' => ∃ v, e = .returned v ∧ Fresh w' w.heap.size v (putF (UInt8.ofNat r.kind) (bodyR r)) ∧ Below w.heap.size w w' := by
  have hk := ((mayR_iff r).1 hm).1
  have htl : r.text.length ≤ 240 := ((mayR_iff r).1 hm).2.2.2.2.2.1
  have HMY := Lib.hid (fun w1 (hb : Below w.heap.size w w1) => cmay_yes r w1 hk (hS.over (hW.trans (hb.mono hW.size))) hin hm)
  have HSH := Lib.hid (fun w1 (hb : Below w.heap.size w w1) => shape_yes r.kind w1 hk (hS.over (hW.trans (hb.mono hW.size))))
  have HFP := Lib.hid (fun f w1 (hf : f ≤ 7) => fieldPut_any r f w1 hf hin.2.2.1 (by omega) rfl)
  have HLN := Lib.hid (And.intro (bodyAt_len r hin.2.2.1 (by omega)) (fun f => fieldC_len r f hin.2.2.1 (by omega)))
  have HBM := Lib.hid (And.intro (bodyAt_may hm hin) (body_len hm hin))
  have hkk := u8_nat r.kind hin.1
  have HF := Lib.hid (fun (w1 : World) (G : Option Addr) (z : Nat) (hb : Below w.heap.size w w1) (hl : LiesB w1 w1.heap.size (.slice G (bodyR r).length z) (bodyR r)) => show Calls Tryd.prog 25 #[.int .u8 (r.kind : Int), .slice G (bodyR r).length z] w1 fun e w' => ∃ v, e = .returned (.tuple #[v, .int .i64 0]) ∧ Fresh w' w1.heap.size v (putF (UInt8.ofNat r.kind) (bodyR r)) ∧ Below w1.heap.size w1 w' from by
    obtain ⟨h1, h2, h3, _⟩ := liesB_slice hl
    have h := fput_any W hT (UInt8.ofNat r.kind) G z (bodyR r) w1 (hW.trans (hb.mono hW.size)) h1 h2 h3 (by have := body_len hm hin; omega)
    rw [hkk] at h
    exact h)
  have HIX := Lib.hid (run_padIx r.kind)
  have HP7 := Lib.hid (padR_7 r.kind)
  unfold shapV at HSH
  have HB0 := Lib.hid (bmore (bself w) (recB r 24))
  have HR0 := Lib.hid (heap_alloc_new w (recB r 24))
  obtain ⟨m0, m1, m2, m3, m4, m5, m6, m7⟩ := recAt_blk (heap_alloc_new w (recB r 24))
  unfold recB at m0 m1 m2 m3 m4 m5 m6 m7 HB0 HR0
  clear hk htl hkk hT hS hW hin hm
  go_enter Tryd.func13, Tryd.ntmps13
  go_upto_region 5 with (first
    | (go_at_call 11; (with_reducible refine (HMY.out _ HB0.out).mono ?_); rintro e w1 ⟨rfl, hb⟩; have HB1 := Lib.hid (bstep HB0.out hb); have HR1 := Lib.hid ((hb.block w.heap.size (heap_lt HR0.out)).trans HR0.out); clear hb m0 m1 m2 m3 m4 m5 m6 m7; obtain ⟨m0, m1, m2, m3, m4, m5, m6, m7⟩ := recAt_blk (r := r) HR1.out)
    | (go_at_call 21; (with_reducible refine (HSH.out _ HB1.out).mono ?_); rintro e w2 ⟨rfl, hb⟩; have HB2 := Lib.hid (bstep HB1.out hb); have HR2 := Lib.hid ((hb.block w.heap.size (heap_lt HR1.out)).trans HR1.out); clear hb m0 m1 m2 m3 m4 m5 m6 m7))
  have HP : Hid (PutSt w (w2.alloc (.cells #[.string (mkB (wordR r.kind)), .int .i64 (padR r.kind 0 : Nat), .int .i64 (padR r.kind 1 : Nat), .int .i64 (padR r.kind 2 : Nat), .int .i64 (padR r.kind 3 : Nat)] 52)) w.heap.size r (.slice none 0 0) [] ∧ (w2.alloc (.cells #[.string (mkB (wordR r.kind)), .int .i64 (padR r.kind 0 : Nat), .int .i64 (padR r.kind 1 : Nat), .int .i64 (padR r.kind 2 : Nat), .int .i64 (padR r.kind 3 : Nat)] 52)).heap[w2.heap.size]? = some (.cells #[.string (mkB (wordR r.kind)), .int .i64 (padR r.kind 0 : Nat), .int .i64 (padR r.kind 1 : Nat), .int .i64 (padR r.kind 2 : Nat), .int .i64 (padR r.kind 3 : Nat)] 52)) := Lib.hid (by
    have hb := bmore (bself w2) (.cells #[.string (mkB (wordR r.kind)), .int .i64 (padR r.kind 0 : Nat), .int .i64 (padR r.kind 1 : Nat), .int .i64 (padR r.kind 2 : Nat), .int .i64 (padR r.kind 3 : Nat)] 52)
    exact ⟨⟨(hb.block _ (heap_lt HR2.out)).trans HR2.out, Owns.none_ _ _, bstep HB2.out hb, rfl⟩, heap_alloc_new w2 _⟩)
  generalize w2.alloc (.cells #[.string (mkB (wordR r.kind)), .int .i64 (padR r.kind 0 : Nat), .int .i64 (padR r.kind 1 : Nat), .int .i64 (padR r.kind 2 : Nat), .int .i64 (padR r.kind 3 : Nat)] 52) = w3 at HP ⊢
  generalize w2.heap.size = z at HP ⊢
  obtain ⟨s0, s1, s2, s3, s4⟩ := shap_blk HP.out.2
  generalize w.heap.size = g at HP ⊢
  clear HB0 HB1 HB2 HR0 HR1 HR2 HMY HSH
  go_wp2
  go_loopw [3, 21] (fun b i wr => ∃ j : Nat, j ≤ 4 ∧ i = .int .i64 (j : Int) ∧ Hid (PutSt w wr g r b (bodyAt r j))) (fun _ i _ => 4 - (intOf i).toNat)
  case atStart => exact ⟨0, by omega, rfl, Lib.hid HP.out.1⟩
  case round =>
    clear s0 s1 s2 s3 s4 HP
    obtain ⟨j, hj, rfl, HJ⟩ := hrel
    by_cases hlt : j < 4
    · have hlt2 : (j : Int) < 4 := by omega
      have hix := HIX.out j hlt
      obtain ⟨m0, m1, m2, m3, m4, m5, m6, m7⟩ := recAt_blk HJ.out.hr
      have h7 := HP7.out j
      obtain ⟨A3, n3, c3, rfl⟩ := own_slice HJ.out.ho
      have HE : Hid (bodyAt r (j + 1) = bodyAt r j ++ fieldC r (padR r.kind j)) := Lib.hid rfl
      have HL := Lib.hid (And.intro (HLN.out.1 j) (And.intro (HLN.out.2 (padR r.kind j)) hlt))
      obtain ⟨f, hf⟩ : ∃ f, padR r.kind j = f := ⟨_, rfl⟩
      rw [hf] at hix h7 HE HL
      have HFF := Lib.hid (fun w => HFP.out f w h7)
      obtain ⟨l, hl⟩ : ∃ l, bodyAt r j = l := ⟨_, rfl⟩
      obtain ⟨b, hb⟩ : ∃ b, fieldC r f = b := ⟨_, rfl⟩
      rw [hl] at HJ HE HL
      rw [hb] at HE HFF HL
      clear hf hl hb h7
      go_wp2_with (first
        | (go_at_call 24; (with_reducible refine (HFF.out _).mono ?_); rintro e w4 ⟨A4, c4, rfl, _, hr4, hA4, hb4⟩; have HJ4 := Lib.hid (HJ.out.over hb4))
        | (at_builtin; refine wp_app_g rfl (.tmp 24) (.tmp 27) rfl (g + 1) w4.heap.size _ l b A4 c4 rfl HJ4.out.ho rfl hA4 hr4 (Fits.of (by have := HL.out; omega)) (by have := heap_lt HJ4.out.hr; omega) ?_; intro v5 w5 ho5 hb5 hg5; have HN := Lib.hid (HJ4.out.push ho5 hb5); clear ho5 hb5 hg5))
      go_roundw
      case rel => exact ⟨j + 1, by omega, by go_num, by rw [HE.out]; exact HN⟩
      case measure => simp [intOf]; omega
    · obtain rfl : j = 4 := by omega
      obtain ⟨m0, m1, m2, m3, m4, m5, m6, m7⟩ := recAt_blk HJ.out.hr
      rw [HBM.out.1] at HJ
      have HFx := Lib.hid (fun G z w1 hb hl => HF.out w1 G z hb hl)
      obtain ⟨A3, c3, rfl, hb3⟩ := owns_lies HJ.out.ho
      have HLB := Lib.hid hb3
      clear hb3
      go_wp2_with (go_at_call 25; (with_reducible refine (HFx.out _ _ _ HJ.out.hb HLB.out).mono ?_); rintro e w7 ⟨v7, rfl, hf7, hb7⟩; have HF7 := Lib.hid hf7; have HB7 := Lib.hid hb7; clear hf7 hb7)
      go_ret
      obtain ⟨b, off, cap, rfl, q1, q2, q3, q4⟩ := HF7.out
      exact ⟨_, rfl, ⟨b, off, cap, rfl, q1, Nat.le_trans HJ.out.hb.size q2, q3, q4⟩, bstep HJ.out.hb HB7.out⟩
theorem cput7_of (W : World) (hT : Tabs W) (hS : Shaps W) (r : Rec) (w : World) (hW : Below W.heap.size W w) (hin : r.In) {b : List UInt8} (h : putR r = b) :
    Calls Tryd.prog 13 #[.agg #[.int .u8 (r.kind : Int), .int .i64 r.src, .int .u64 (r.seq : Int), .int .i64 r.at_, .int .i64 r.num, .int .i64 r.code, .bool r.yes, .string (mkB r.text)]] w fun e w' => ∃ G z, e = .returned (.slice G b.length z) ∧ LiesIn w' (fun j => w.heap.size ≤ j ∧ j < w'.heap.size) (.slice G b.length z) b ∧ Below w.heap.size w w' := by
  cases hm : mayR r with
  | false =>
    obtain rfl : [] = b := by rw [← h]; unfold putR; rw [hm]; rfl
    refine (cput_no r w (Lib.hid fun w1 hb => ?_)).mono fun e w' he => ⟨none, 0, he.1, .inl ⟨rfl, none, 0, rfl, fun _ => rfl⟩, he.2⟩
    by_cases hk : 17 ≤ r.kind ∧ r.kind ≤ 32
    · exact cmay_yes r w1 hk (hS.over (hW.trans (hb.mono hW.size))) hin hm
    · exact cmay_no r w1 (by omega)
  | true =>
    obtain rfl : putF (UInt8.ofNat r.kind) (bodyR r) = b := by rw [← h]; unfold putR; rw [hm]; rfl
    refine (cput_yes W hT hS r w hW hin hm).mono fun e w' he => ?_
    obtain ⟨v, h1, ⟨g, off, cap, h2, f1, f2, f3, f4⟩, h5⟩ := he
    subst h2
    exact ⟨_, _, h1, .inr ⟨g, off, cap, rfl, f1, ⟨f2, f3⟩, fun i hi => (f4 i hi).1⟩, h5⟩
theorem cmay7_of (W : World) (hS : Shaps W) (r : Rec) (w : World) (hW : Below W.heap.size W w) (hin : r.In) {x : Bool} (h : mayR r = x) :
    Calls Tryd.prog 11 #[.agg #[.int .u8 (r.kind : Int), .int .i64 r.src, .int .u64 (r.seq : Int), .int .i64 r.at_, .int .i64 r.num, .int .i64 r.code, .bool r.yes, .string (mkB r.text)]] w fun e w' => e = .returned (.bool x) ∧ Below w.heap.size w w' := by
  by_cases hk : 17 ≤ r.kind ∧ r.kind ≤ 32
  · exact cmay_yes r w hk (hS.over hW) hin h
  · obtain rfl : false = x := by rw [← h]; symm; unfold mayR; rw [if_pos (by omega)]
    exact cmay_no r w (by omega)
end Go.Proofs.YthnkiabhfcddaaaDoor
