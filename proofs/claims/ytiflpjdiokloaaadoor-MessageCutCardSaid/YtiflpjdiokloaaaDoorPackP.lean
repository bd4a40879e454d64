/-
  Texts of the proofs, put together: FrDec, Box.
-/
import Derived.Test.YtiflpjdiokloaaaDoorFrPass
import Derived.Deep.Cut
/-
  Layer 4: the decoder in memory, with its blocks; Clone of any bytes; an append to bytes of one's own.
-/
namespace Go.Proofs.YtiflpjdiokloaaaDoor
open Go.RowKit
set_option linter.unusedVariables false

/-- The blocks of a decoder. -/
def Role (g : Nat) (hv iv : Value) (bs : List Value) (k : Nat) : Prop := k = g ∨ hv.ownBlock = some k ∨ iv.ownBlock = some k ∨ ∃ u ∈ bs, u.ownBlock = some k
/-- A decoder in block g, in state d. -/
structure DecAt (w : World) (g : Nat) (hv iv : Value) (bs : List Value) (d : DS) (F : Nat → Prop) : Prop where
  box : Box w g hv d.skip iv d.items bs d.over
  own : Owns w 0 hv d.wait
  apart : ∀ u ∈ bs, Apart hv u
  role : ∀ k, Role g hv iv bs k → F k
  old : ∀ k, F k → k < w.heap.size
/-- The value p is a decoder in state d; of the blocks that were made, those of F are its own. -/
def Dec (w : World) (p : Value) (d : DS) (F : Nat → Prop) : Prop := ∃ g hv iv bs, p = .pointer (some ⟨g, 0, none⟩) ∧ DecAt w g hv iv bs d F
theorem Dec.old {w : World} {p : Value} {d : DS} {F : Nat → Prop} (h : Dec w p d F) : ∀ k, F k → k < w.heap.size := by
  obtain ⟨g, hv, iv, bs, _, h⟩ := h
  exact h.old
theorem Dec.keep {w w' : World} {p : Value} {d : DS} {F : Nat → Prop} (h : Dec w p d F) (hb : ∀ k, F k → w'.heap[k]? = w.heap[k]?) : Dec w' p d F := by
  obtain ⟨g, hv, iv, bs, e, h⟩ := h
  refine ⟨g, hv, iv, bs, e, h.box.keep (hb g (h.role g (.inl rfl))) (fun j hj => hb j (h.role j (.inr (.inr (.inl hj))))) (fun u hu j hj => hb j (h.role j (.inr (.inr (.inr ⟨u, hu, hj⟩))))), h.own.below_ fun j hj => hb j (h.role j (.inr (.inl hj))), h.apart, h.role, fun k hk => ?_⟩
  have h1 := hb k hk
  have h2 := h.old k hk
  rw [Array.getElem?_eq_getElem h2] at h1
  exact (Array.getElem?_eq_some_iff.1 h1).1
/-- What a call on a decoder whose blocks are F leaves: a decoder whose blocks are F' in state d. -/
def Moved (w : World) (p : Value) (d : DS) (F : Nat → Prop) (w' : World) (F' : Nat → Prop) : Prop := Dec w' p d F' ∧ Touch F w w' ∧ ∀ k, F' k → F k ∨ w.heap.size ≤ k
/-- New bytes, which the caller may write to. -/
def Fresh (w : World) (base : Nat) (v : Value) (l : List UInt8) : Prop := ∃ b off c, v = .slice (some ⟨b, off, none⟩) l.length c ∧ l.length ≤ c ∧ base ≤ b ∧ b < w.heap.size ∧ ∀ i (h : i < l.length), w.cell? ⟨b, off + i, none⟩ = some (.int .u8 (l[i].toNat : Int)) ∧ w.frozen? ⟨b, off + i, none⟩ = false
theorem Owns.lt {w : World} {base : Nat} {v : Value} {l : List UInt8} (h : Owns w base v l) : ∀ j, v.ownBlock = some j → j < w.heap.size := fun j hj => by
  obtain ⟨cur, hc⟩ := h.type j hj
  exact heap_lt hc
theorem Owns.any {w : World} {base : Nat} {v : Value} {l : List UInt8} (h : Owns w base v l) : Owns w 0 v l := ownsRow_mono h (Nat.zero_le _)
/-- Behind a call. -/
theorem moved_of {w w' : World} {g : Nat} {hv iv hv' iv' : Value} {bs bs' : List Value} {d d' : DS} {F : Nat → Prop} (h : DecAt w g hv iv bs d F) (hbox : Box w' g hv' d'.skip iv' d'.items bs' d'.over) (how : Owns w' 0 hv' d'.wait) (hap : ∀ u ∈ bs', Apart hv' u)
    (ht : Touch (fun j => j = g ∨ iv.ownBlock = some j ∨ hv.ownBlock = some j) w w') (hat : ∀ j, iv'.ownBlock = some j → iv.ownBlock = some j ∨ w.heap.size ≤ j) (hhv : ∀ j, hv'.ownBlock = some j → hv.ownBlock = some j ∨ w.heap.size ≤ j) (hnew : ∀ u ∈ bs', ∀ j, u.ownBlock = some j → (∃ u ∈ bs, u.ownBlock = some j) ∨ w.heap.size ≤ j) :
    Moved w (.pointer (some ⟨g, 0, none⟩)) d' F w' (Role g hv' iv' bs') := by
  refine ⟨⟨g, hv', iv', bs', rfl, hbox, how, hap, fun k hk => hk, fun k hk => ?_⟩, ht.mono fun j hj => ?_, fun k hk => ?_⟩
  · rcases hk with rfl | hk | hk | ⟨u, hu, hk⟩
    · exact hbox.lt
    · exact how.lt k hk
    · exact hbox.iv_lt k hk
    · exact hbox.body_lt hu hk
  · rcases hj with rfl | hj | hj
    · exact h.role _ (.inl rfl)
    · exact h.role _ (.inr (.inr (.inl hj)))
    · exact h.role _ (.inr (.inl hj))
  · rcases hk with rfl | hk | hk | ⟨u, hu, hk⟩
    · exact .inl (h.role _ (.inl rfl))
    · exact (hhv k hk).elim (fun q => .inl (h.role _ (.inr (.inl q)))) .inr
    · exact (hat k hk).elim (fun q => .inl (h.role _ (.inr (.inr (.inl q))))) .inr
    · exact (hnew u hu k hk).elim (fun ⟨u, hu, q⟩ => .inl (h.role _ (.inr (.inr (.inr ⟨u, hu, q⟩))))) .inr

set_option maxRecDepth 100000 in
theorem clone_nil (w : World) : Calls Tryd.prog 47 #[.slice none 0 0] w fun e w' => ∃ A c', e = .returned (.slice A 0 c') ∧ Owns w' w.heap.size (.slice A 0 c') [] ∧ Below w.heap.size w w' := by
  have hq := Go.run_eql_slice_nil (P := Tryd.prog) w 31 5 none 0 0 Tryd.underlying31
  go_enter Tryd.func47, Tryd.ntmps47
  go_wp2
  go_ret
  exact ⟨none, 0, rfl, Owns.none_ _ _, bself w⟩
theorem clone_text {w : World} {A : Option Addr} {n c : Nat} {s : List UInt8} (h : TextAt w A n c s) (hf : n ≤ 1000000) : Calls Tryd.prog 47 #[.slice A n c] w fun e w' => ∃ A' c', e = .returned (.slice A' n c') ∧ Owns w' w.heap.size (.slice A' n c') s ∧ Below w.heap.size w w' := by
  have hl := h.hlen
  have hc := h.hc
  cases A with
  | none =>
    obtain rfl := h.hn rfl
    obtain rfl : n = 0 := by omega
    obtain rfl : s = [] := List.eq_nil_of_length_eq_zero hl
    exact clone_nil w
  | some ad =>
    refine clone_n ad c n s w hl (fun hne => ?_) (by unfold Fits; omega)
    have h0 : 0 < n := by
      rw [← hl]
      cases s with
      | nil => exact absurd rfl hne
      | cons x s => simp
    obtain ⟨X, off, cur, fr, e, hX, hcs⟩ := h.hs h0
    obtain ⟨b, off, e2, hlt, hh⟩ := Lies.row (w := w) (B := w.heap.size) (b := X) (off := off) (l := s) (Array.getElem?_eq_some_iff.1 hX).1 hcs hne
    exact ⟨b, off, e.trans e2, hlt, hh⟩
/-- What an append to bytes of one's own leaves. -/
structure GrewB (w : World) (v v' : Value) (l : List UInt8) (w' : World) : Prop where
  own : Owns w' 0 v' l
  grown : w.grownBy w' v.ownBlock
  at_ : v'.ownBlock = v.ownBlock ∨ v'.ownBlock = some w.heap.size
/-- An append of any bytes to bytes of one's own: what was there but them stays. -/
theorem wp_app_held {w : World} {D : Nat → Prop} {ops : Array Oper} {rest : List Oper} {o : Oper} {a : Act} {Q : Exit → Act → World → Prop} (hgd : o.guard = none) (s x : Operand)
    (ho : o.op = .call { callee := .builtin .append, args := #[s, x], argTypes := #[31, 31] })
    (v : Value) (l m : List UInt8) (A : Option Addr) (c n : Nat) (hs : a.eval s = v) (hown : Owns w 0 v l) (hx : a.eval x = .slice A n c) (hr : LiesIn w D (.slice A n c) m) (hf : l.length + m.length ≤ 1000000)
    (h : ∀ v' w', GrewB w v v' (l ++ m) w' → wpList Tryd.prog ops Q rest (a.put o.dst v') w') : wpList Tryd.prog ops Q (o :: rest) a w := by
  obtain ⟨i0, hi0, hz0, hz1, hz2⟩ := info_parts info_u8
  have key : ∀ ad, A = some ad → m.length = n → (∀ j u, (bc m)[j]? = some u → w.cell? (ad.add j) = some u) → wpList Tryd.prog ops Q (o :: rest) a w := fun ad e hn hc => by
    subst e
    refine wpList_append_own_at w hgd s x _ ho 0 _ i0 _ 1 1 Tryd.underlying31 hi0 hz0 hz1 hz2 rfl (by omega) v l.length (bc l) hs hown ad n c (bc m) hx (by rw [bc_length, hn]; omega) hc (bc_one m) (by unfold maxLen; omega) (by omega) (Nat.zero_le _) ?_
    intro v' w' h1 h2 _ h4
    refine h v' w' ⟨?_, h2, h4⟩
    unfold Owns
    rw [bc_append, List.length_append, hn]
    exact h1
  rcases hr with ⟨rfl, A', c', e, hA⟩ | ⟨b, off, c', e, hl, hD, hc⟩
  · simp only [Value.slice.injEq] at e
    obtain ⟨rfl, rfl, rfl⟩ := e
    cases A with
    | some ad => exact key ad rfl rfl fun j u hu => by simp [bc] at hu
    | none =>
      obtain rfl := hA rfl
      refine wpList_append_own_none hgd s x _ ho 0 _ i0 1 Tryd.underlying31 hi0 v l.length (bc l) hs hown hx ?_
      exact h v w ⟨by simpa using hown, World.grownBy.refl _ _, .inl rfl⟩
  · simp only [Value.slice.injEq] at e
    obtain ⟨rfl, rfl, rfl⟩ := e
    refine key _ rfl rfl fun j u hu => ?_
    have hj : j < m.length := by
      have := (List.getElem?_eq_some_iff.1 hu).1
      simpa [bc] using this
    rw [bc_get m j hj] at hu
    rw [Addr.add_lit, ← hu]
    exact hc j hj
/-- Bytes of one's own as a text. -/
theorem Owns.text {w : World} {base : Nat} {v : Value} {l : List UInt8} (h : Owns w base v l) : ∃ A n c, v = .slice A n c ∧ TextAt w A n c l := by
  have ht := h.type
  rcases h.lies with ⟨rfl, rfl⟩ | ⟨b, off, c, rfl, hl, hB, hc⟩
  · exact ⟨none, 0, 0, rfl, rfl, Nat.le_refl _, fun _ => rfl, fun h0 => absurd h0 (by omega)⟩
  · obtain ⟨cur, hcur⟩ := ht b rfl
    exact ⟨_, _, c, rfl, rfl, hl, fun e => (by cases e), fun _ => ⟨b, off, cur, (0, 0), rfl, hcur, hc⟩⟩
theorem DecAt.grown {w w' : World} {g : Nat} {hv iv v' : Value} {bs : List Value} {d : DS} {F : Nat → Prop} {l : List UInt8} (h : DecAt w g hv iv bs d F) (hg : GrewB w hv v' l w') : Box w' g hv d.skip iv d.items bs d.over ∧ Touch (fun j => hv.ownBlock = some j) w w' := by
  have hne : ∀ j, hv.ownBlock = some j → j ≠ g ∧ iv.ownBlock ≠ some j := fun j hj => by
    obtain ⟨cur, hc⟩ := h.own.type j hj
    exact h.box.u8_ne hc
  refine ⟨h.box.keep (hg.grown.block g h.box.lt fun e => (hne g e.symm).1 rfl) (fun j hj => hg.grown.block j (h.box.iv_lt j hj) fun e => (hne j e.symm).2 hj) (fun u hu j hj => hg.grown.block j (h.box.body_lt hu hj) fun e => h.apart u hu j e.symm hj), ⟨hg.grown.os, hg.grown.tape, hg.grown.output, hg.grown.size, fun k hk hF => hg.grown.block k hk fun e => hF e.symm⟩⟩
end Go.Proofs.YtiflpjdiokloaaaDoor
/-
  Contracts of package frame: Put, New, Give, End, Next, Held.
-/
namespace Go.Proofs.YtiflpjdiokloaaaDoor
open Go.RowKit
set_option linter.unusedVariables false

set_option maxRecDepth 100000 in
theorem give_nil (A : Option Addr) (n c : Nat) (w : World) : Calls Tryd.prog 21 #[.pointer none, .slice A n c] w fun e w' => e = .returned (.tuple #[]) ∧ Below w.heap.size w w' := by
  go_enter Tryd.func21, Tryd.ntmps21
  go_wp2
  refine bodyPost_ret (v := .tuple #[]) (results_none rfl _ _ _) rfl ?_
  exact ⟨rfl, bself w⟩
set_option maxRecDepth 100000 in
theorem fend_nil (w : World) : Calls Tryd.prog 22 #[.pointer none] w fun e w' => e = .returned (.tuple #[]) ∧ Below w.heap.size w w' := by
  go_enter Tryd.func22, Tryd.ntmps22
  go_wp2
  refine bodyPost_ret (v := .tuple #[]) (results_none rfl _ _ _) rfl ?_
  exact ⟨rfl, bself w⟩
set_option maxRecDepth 100000 in
theorem next_nil (w : World) : Calls Tryd.prog 23 #[.pointer none] w fun e w' => e = .returned (.tuple #[.agg #[.int .i64 0, .int .u8 0, .slice none 0 0], .bool false]) ∧ Below w.heap.size w w' := by
  go_enter Tryd.func23, Tryd.ntmps23
  go_wp2
  refine bodyPost_ret (v := .tuple #[.agg #[.int .i64 0, .int .u8 0, .slice none 0 0], .bool false]) (by simp [results, Tryd.results23, go_sem]) rfl ?_
  exact ⟨rfl, by first | exact bmore (bself w) _ | (repeat (first | exact bmore (bself w) _ | refine Below.setCell ?_ (by simp) _))⟩
set_option maxRecDepth 100000 in
theorem new_any (w : World) : Calls Tryd.prog 20 #[] w fun e w' => ∃ p F, e = .returned p ∧ Dec w' p newS F ∧ (∀ k, F k → w.heap.size ≤ k) ∧ Below w.heap.size w w' := by
  go_enter Tryd.func20, Tryd.ntmps20
  go_wp2
  go_ret
  refine ⟨_, fun k => k = w.heap.size, rfl, ⟨w.heap.size, .slice none 0 0, .slice none 0 0, [], rfl, ⟨heap_alloc_new w _, OwnAt.none_ _ _ _, rfl, fun i h => (by simp [newS] at h), fun u hu => (by cases hu), List.Pairwise.nil⟩, Owns.none_ _ _, fun u hu => (by cases hu), fun k hk => ?_, fun k hk => (by subst hk; simp)⟩, fun k hk => (by subst hk; exact Nat.le_refl _), bmore (bself w) _⟩
  rcases hk with hk | hk | hk | ⟨u, hu, _⟩
  · exact hk
  · simp [Value.ownBlock] at hk
  · simp [Value.ownBlock] at hk
  · cases hu

theorem Dec.same {w w' : World} {p : Value} {d : DS} {F : Nat → Prop} (h : Dec w p d F) (e : w' = w) : Moved w p d F w' F := by
  subst e
  exact ⟨h, Touch.refl _ _, fun k hk => .inl hk⟩
set_option maxRecDepth 100000 in
theorem give_over (g : Nat) (hv iv : Value) (k : Nat) (l : List It) (bs : List Value) (A : Option Addr) (n c : Nat) (w : World) (hd : Box w g hv k iv l bs true) :
    Calls Tryd.prog 21 #[.pointer (some ⟨g, 0, none⟩), .slice A n c] w fun e w' => e = .returned (.tuple #[]) ∧ w' = w := by
  obtain ⟨a0, a1, a2, a3, f0, f1, f2, f3⟩ := hd.blk
  clear hd
  go_enter Tryd.func21, Tryd.ntmps21
  go_wp2
  refine bodyPost_ret (v := .tuple #[]) (results_none rfl _ _ _) rfl ?_
  exact ⟨rfl, rfl⟩
/-- What is passed through, ahead of the copy. -/
theorem give_pass {W w w1 : World} (hT : Tabs W) {g : Nat} {hv iv v1 : Value} {bs : List Value} {wait : List UInt8} {k : Nat} {l : List It} {F : Nat → Prop} {b : List UInt8} (hW : Below W.heap.size W w) (hF : ∀ k, F k → W.heap.size ≤ k) (hd : DecAt w g hv iv bs ⟨wait, k, l, false⟩ F) (hg : GrewB w hv v1 (wait ++ b) w1) (hm : wait.length + b.length ≤ 100000 ∧ k ≤ 100000 ∧ l.length ≤ 100000) {r : List UInt8 × Nat × List It} (hr : passF false (wait ++ b) k = r) :
    ∃ A n c, v1 = .slice A n c ∧ Calls Tryd.prog 48 #[.pointer (some ⟨g, 0, none⟩), .slice A n c] w1 fun e w2 => ∃ A n c iv2 bs2, e = .returned (.slice A n c) ∧ TextAt w2 A n c r.1 ∧ n ≤ 1000000 ∧ Stepped w1 g hv iv bs r.2.1 (l ++ r.2.2) false w2 iv2 bs2 := by
  obtain ⟨A, n, c, rfl, ht⟩ := hg.own.text
  refine ⟨A, n, c, rfl, ?_⟩
  obtain ⟨hb, hto⟩ := hd.grown hg
  have h1 := hto.below (fun j hj => hF j (hd.role j (.inr (.inl hj)))) hW.size
  refine (pass_any W hT g hv iv bs false A n c (wait ++ b) k l w1 (hW.trans h1) (hF g (hd.role g (.inl rfl))) (fun j hj => hF j (hd.role j (.inr (.inr (.inl hj))))) hb ht (by rw [List.length_append]; exact hm)).mono fun e w' h => ?_
  obtain ⟨A2, n2, c2, iv2, bs2, rfl, q1, q2⟩ := h
  rw [hr] at q1 q2
  refine ⟨A2, n2, c2, iv2, bs2, rfl, q1, ?_, q2⟩
  have h2 := (pass_small false (wait ++ b) k).1
  rw [hr, q1.hlen, List.length_append] at h2
  omega
theorem give_end2 {w w1 w2 w3 : World} {g : Nat} {hv iv v1 iv2 hv' : Value} {bs bs2 : List Value} {wait : List UInt8} {k : Nat} {l : List It} {F : Nat → Prop} {b : List UInt8} (hd : DecAt w g hv iv bs ⟨wait, k, l, false⟩ F) (hg : GrewB w hv v1 (wait ++ b) w1) {r : List UInt8 × Nat × List It} (hr : passF false (wait ++ b) k = r)
    (hs : Stepped w1 g hv iv bs r.2.1 (l ++ r.2.2) false w2 iv2 bs2) (ho : Owns w3 w2.heap.size hv' r.1) (hb : Below w2.heap.size w2 w3) :
    ∃ F', Moved w (.pointer (some ⟨g, 0, none⟩)) (giveS ⟨wait, k, l, false⟩ b) F (w3.setCell ⟨g, 0, none⟩ hv') F' := by
  obtain ⟨hb1, hto⟩ := hd.grown hg
  have hb3 := hs.box.over hb
  have e : giveS ⟨wait, k, l, false⟩ b = ⟨r.1, r.2.1, l ++ r.2.2, false⟩ := by unfold giveS; rw [if_neg Bool.false_ne_true, hr]
  have far : ∀ j, j ≠ g → (w3.setCell ⟨g, 0, none⟩ hv').heap[j]? = w3.heap[j]? := fun j hj => heap_far _ _ _ hj
  have s1 := hto.size
  have s2 := hs.touch.size
  have tt : Touch (fun j => j = g ∨ iv.ownBlock = some j ∨ hv.ownBlock = some j) w (w3.setCell ⟨g, 0, none⟩ hv') :=
    ((((hto.mono fun j hj => .inr (.inr hj)).trans hs.touch fun j hj => .inl (hj.elim .inl fun q => .inr (.inl q))).trans (Touch.of_below (F := fun _ => False) hb) (fun j hj => hj.elim)).set (.inl (.inl rfl)) _)
  rw [e]
  refine ⟨_, moved_of hd (hb3.set_ 0 hv' hv' r.2.1 iv2 false rfl hb3.hi) ?_ ?_ tt (fun j hj => (hs.at_ j hj).imp_right fun q => Nat.le_trans s1 q) (fun j hj => .inr (Nat.le_trans (Nat.le_trans s1 s2) (ho.ge j hj))) fun u hu j hj => ?_⟩
  · refine ho.any.below_ fun j hj => far j fun e => ?_
    subst e
    exact absurd (ho.ge _ hj) (Nat.not_le.2 hs.box.lt)
  · intro u hu j hj hj2
    exact absurd (ho.ge _ hj) (Nat.not_le.2 (hs.box.body_lt hu hj2))
  · obtain ⟨cs, rfl, hcs⟩ := hs.new_
    rcases List.mem_append.1 hu with hu | hu
    · exact .inl ⟨u, hu, hj⟩
    · exact .inr (Nat.le_trans s1 (hcs u hu j hj))
set_option maxRecDepth 100000 in
theorem give_open (W : World) (hT : Tabs W) (g : Nat) (hv iv : Value) (bs : List Value) (wait : List UInt8) (k : Nat) (l : List It) (F : Nat → Prop) (A : Option Addr) (n c : Nat) (b : List UInt8) (w : World) (hW : Below W.heap.size W w) (hF : ∀ k, F k → W.heap.size ≤ k) (hd : DecAt w g hv iv bs ⟨wait, k, l, false⟩ F) (D : Nat → Prop) (hr : LiesIn w D (.slice A n c) b) (hm : wait.length + b.length ≤ 100000 ∧ k ≤ 100000 ∧ l.length ≤ 100000) :
    Calls Tryd.prog 21 #[.pointer (some ⟨g, 0, none⟩), .slice A n c] w fun e w' => ∃ F', e = .returned (.tuple #[]) ∧ Moved w (.pointer (some ⟨g, 0, none⟩)) (giveS ⟨wait, k, l, false⟩ b) F w' F' := by
  obtain ⟨r, hpr⟩ : ∃ r, passF false (wait ++ b) k = r := ⟨_, rfl⟩
  have HR := Lib.hid hr
  have HO := Lib.hid hd.own
  have HM := Lib.hid (show wait.length + b.length ≤ 1000000 by omega)
  have HP := Lib.hid (fun v1 w1 (hg : GrewB w hv v1 (wait ++ b) w1) => give_pass hT hW hF hd hg hm hpr)
  have HE := Lib.hid (fun w1 w2 w3 v1 iv2 bs2 hv' (hg : GrewB w hv v1 (wait ++ b) w1) hs ho hb => give_end2 (w2 := w2) (w3 := w3) (iv2 := iv2) (bs2 := bs2) (hv' := hv') hd hg hpr hs ho hb)
  have HG := Lib.hid (fun w2 w3 iv2 bs2 k2 l2 (hs : Box w2 g hv k2 iv2 l2 bs2 false) (hb : Below w2.heap.size w2 w3) => (hs.over hb).blk)
  obtain ⟨a0, a1, a2, a3, f0, f1, f2, f3⟩ := hd.box.blk
  clear hT hW hF hd hr hm hpr
  go_enter Tryd.func21, Tryd.ntmps21
  go_wp2_with (first
    | (at_builtin; refine wp_app_held rfl (.tmp 17) (.tmp 18) rfl hv wait b A c n rfl HO.out rfl HR.out HM.out ?_; intro v1 w1 hg; obtain ⟨A1, n1, c1, rfl, HP1⟩ := HP.out v1 w1 hg; have HG1 := Lib.hid hg; clear hg a0 a1 a2 a3 f0 f1 f2 f3)
    | (go_at_call 48; (with_reducible refine Calls.mono HP1 ?_); rintro e w2 ⟨A2, n2, c2, iv2, bs2, rfl, ht, hn, hs⟩; have HTX := Lib.hid ht; have HN := Lib.hid hn; have HS := Lib.hid hs; clear ht hn hs)
    | (go_at_call 47; (with_reducible refine Calls.mono (clone_text HTX.out HN.out) ?_); rintro e w3 ⟨A3, c3, rfl, ho, hb⟩; have HO3 := Lib.hid ho; have HB3 := Lib.hid hb; obtain ⟨a0, a1, a2, a3, f0, f1, f2, f3⟩ := HG.out w2 w3 _ _ _ _ HS.out.box hb; clear ho hb))
  refine bodyPost_end (v := .tuple #[]) (results_none rfl _ _ _) rfl ?_
  obtain ⟨F', h⟩ := HE.out w1 w2 w3 _ iv2 bs2 _ HG1.out HS.out HO3.out HB3.out
  exact ⟨F', rfl, h⟩
theorem give_any (W : World) (hT : Tabs W) (p : Value) (d : DS) (F : Nat → Prop) (A : Option Addr) (c : Nat) (b : List UInt8) (w : World) (hW : Below W.heap.size W w) (hF : ∀ k, F k → W.heap.size ≤ k) (hd : Dec w p d F) (D : Nat → Prop) (hr : LiesIn w D (.slice A b.length c) b) (hD : ∀ k, D k → k < w.heap.size ∧ ¬ F k) (hm : d.wait.length + b.length ≤ 100000 ∧ d.skip ≤ 100000 ∧ d.items.length ≤ 100000) :
    Calls Tryd.prog 21 #[p, .slice A b.length c] w fun e w' => ∃ F', e = .returned (.tuple #[]) ∧ Moved w p (giveS d b) F w' F' := by
  have hd0 := hd
  obtain ⟨g, hv, iv, bs, rfl, h⟩ := hd
  obtain ⟨wait, k, l, ov⟩ := d
  cases ov with
  | true =>
    refine (give_over g hv iv k l bs A _ c w h.box).mono fun e w' q => ?_
    refine ⟨F, q.1, ?_⟩
    rw [show giveS ⟨wait, k, l, true⟩ b = ⟨wait, k, l, true⟩ by unfold giveS; rw [if_pos rfl]]
    exact hd0.same q.2
  | false => exact give_open W hT g hv iv bs wait k l F A _ c b w hW hF h D hr hm

set_option maxRecDepth 100000 in
theorem fend_over (g : Nat) (hv iv : Value) (k : Nat) (l : List It) (bs : List Value) (w : World) (hd : Box w g hv k iv l bs true) :
    Calls Tryd.prog 22 #[.pointer (some ⟨g, 0, none⟩)] w fun e w' => e = .returned (.tuple #[]) ∧ w' = w := by
  obtain ⟨a0, a1, a2, a3, f0, f1, f2, f3⟩ := hd.blk
  clear hd
  go_enter Tryd.func22, Tryd.ntmps22
  go_wp2
  refine bodyPost_ret (v := .tuple #[]) (results_none rfl _ _ _) rfl ?_
  exact ⟨rfl, rfl⟩
/-- Ended, ahead of the pass. -/
theorem end_start {w : World} {g k : Nat} {hv iv : Value} {l : List It} {bs : List Value} (h : Box w g hv k iv l bs false) : Box (w.setCell ⟨g, 3, none⟩ (.bool true)) g hv k iv l bs true := h.set_ 3 _ hv k iv true rfl h.hi
theorem end_pass {W w w1 : World} (hT : Tabs W) {g : Nat} {hv iv : Value} {bs : List Value} {wait : List UInt8} {k : Nat} {l : List It} {F : Nat → Prop} (hW : Below W.heap.size W w) (hF : ∀ k, F k → W.heap.size ≤ k) (hd : DecAt w g hv iv bs ⟨wait, k, l, false⟩ F) (h1 : w1 = w.setCell ⟨g, 3, none⟩ (.bool true)) (hm : wait.length ≤ 100000 ∧ k ≤ 100000 ∧ l.length ≤ 100000) {r : List UInt8 × Nat × List It} (hr : passF true wait k = r) :
    ∃ A n c, hv = .slice A n c ∧ Calls Tryd.prog 48 #[.pointer (some ⟨g, 0, none⟩), .slice A n c] w1 fun e w2 => ∃ A n c iv2 bs2, e = .returned (.slice A n c) ∧ Stepped w1 g hv iv bs r.2.1 (l ++ r.2.2) true w2 iv2 bs2 := by
  subst h1
  obtain ⟨A, n, c, rfl, ht⟩ := hd.own.text
  refine ⟨A, n, c, rfl, ?_⟩
  have hg := hF g (hd.role g (.inl rfl))
  refine (pass_any W hT g _ iv bs true A n c wait k l _ (hW.setCell hg _) hg (fun j hj => hF j (hd.role j (.inr (.inr (.inl hj))))) (end_start hd.box) (ht.keep fun X cur fr hX => ?_) hm).mono fun e w' h => ?_
  · exact heap_far _ _ _ (hd.box.u8_ne hX).1
  · obtain ⟨A2, n2, c2, iv2, bs2, rfl, q1, q2⟩ := h
    rw [hr] at q2
    exact ⟨A2, n2, c2, iv2, bs2, rfl, q2⟩
theorem fend_end {w w1 w2 w3 w4 : World} {g : Nat} {hv iv iv2 iv4 : Value} {bs bs2 bs4 : List Value} {wait : List UInt8} {k : Nat} {l : List It} {F : Nat → Prop} (hd : DecAt w g hv iv bs ⟨wait, k, l, false⟩ F) (h1 : w1 = w.setCell ⟨g, 3, none⟩ (.bool true)) {r : List UInt8 × Nat × List It} (hr : passF true wait k = r)
    (hs : Stepped w1 g hv iv bs r.2.1 (l ++ r.2.2) true w2 iv2 bs2) (h3 : w3 = w2.setCell ⟨g, 0, none⟩ (.slice none 0 0)) (h4 : Stepped w3 g (.slice none 0 0) iv2 bs2 0 (l ++ r.2.2 ++ skipI r.2.1) true w4 iv4 bs4) :
    ∃ F', Moved w (.pointer (some ⟨g, 0, none⟩)) (endS ⟨wait, k, l, false⟩) F w4 F' := by
  subst h1; subst h3
  have e : endS ⟨wait, k, l, false⟩ = ⟨[], 0, l ++ r.2.2 ++ skipI r.2.1, true⟩ := by
    unfold endS
    rw [if_neg Bool.false_ne_true, pass_end _ wait k (Nat.le_refl _), hr]
  have T1 : Touch (fun j => j = g) w (w.setCell ⟨g, 3, none⟩ (.bool true)) := (Touch.refl (fun j => j = g) w).set (p := ⟨g, 3, none⟩) (.inl rfl) _
  have T2 : Touch (fun j => j = g) w2 (w2.setCell ⟨g, 0, none⟩ (.slice none 0 0)) := (Touch.refl (fun j => j = g) w2).set (p := ⟨g, 0, none⟩) (.inl rfl) _
  have s1 : w.heap.size ≤ (w.setCell ⟨g, 3, none⟩ (.bool true)).heap.size := T1.size
  have s2 := hs.touch.size
  have s3 : w2.heap.size ≤ (w2.setCell ⟨g, 0, none⟩ (.slice none 0 0)).heap.size := T2.size
  have tt : Touch (fun j => j = g ∨ iv.ownBlock = some j ∨ hv.ownBlock = some j) w w4 := by
    refine (((T1.mono fun j hj => .inl hj).trans hs.touch fun j hj => .inl (hj.elim .inl fun q => .inr (.inl q))).trans T2 fun j hj => .inl (.inl hj)).trans h4.touch fun j hj => ?_
    rcases hj with hj | hj
    · exact .inl (.inl hj)
    · exact (hs.at_ j hj).elim (fun q => .inl (.inr (.inl q))) fun q => .inr (Nat.le_trans s1 q)
  rw [e]
  refine ⟨_, moved_of hd h4.box (Owns.none_ _ _) (fun u hu => Apart.none_ u) tt (fun j hj => ?_) (fun j hj => by simp [Value.ownBlock] at hj) fun u hu j hj => ?_⟩
  · rcases h4.at_ j hj with q | q
    · exact (hs.at_ j q).imp_right fun q => Nat.le_trans s1 q
    · exact .inr (by omega)
  · obtain ⟨cs, rfl, hcs⟩ := hs.new_
    obtain ⟨cs2, rfl, hcs2⟩ := h4.new_
    rcases List.mem_append.1 hu with hu | hu
    · rcases List.mem_append.1 hu with hu | hu
      · exact .inl ⟨u, hu, hj⟩
      · exact .inr (Nat.le_trans s1 (hcs u hu j hj))
    · have := hcs2 u hu j hj
      exact .inr (by omega)
set_option maxRecDepth 100000 in
theorem fend_open (W : World) (hT : Tabs W) (g : Nat) (hv iv : Value) (bs : List Value) (wait : List UInt8) (k : Nat) (l : List It) (F : Nat → Prop) (w : World) (hW : Below W.heap.size W w) (hF : ∀ k, F k → W.heap.size ≤ k) (hd : DecAt w g hv iv bs ⟨wait, k, l, false⟩ F) (hm : wait.length ≤ 100000 ∧ k ≤ 100000 ∧ l.length ≤ 100000) :
    Calls Tryd.prog 22 #[.pointer (some ⟨g, 0, none⟩)] w fun e w' => ∃ F', e = .returned (.tuple #[]) ∧ Moved w (.pointer (some ⟨g, 0, none⟩)) (endS ⟨wait, k, l, false⟩) F w' F' := by
  obtain ⟨r, hpr⟩ : ∃ r, passF true wait k = r := ⟨_, rfl⟩
  obtain ⟨lm, hlm⟩ : ∃ lm, l ++ r.2.2 = lm := ⟨_, rfl⟩
  have hlm2 : lm.length ≤ 1000000 := by
    have := (pass_small true wait k).2.2
    rw [hpr] at this
    rw [← hlm, List.length_append]
    omega
  have HP := Lib.hid (fun w1 (h1 : w1 = w.setCell ⟨g, 3, none⟩ (.bool true)) => end_pass hT hW hF hd h1 hm hpr)
  have HE := Lib.hid (fun w1 w2 w3 w4 iv2 bs2 iv4 bs4 h1 hs h3 h4 => fend_end (w1 := w1) (w2 := w2) (w3 := w3) (w4 := w4) (iv2 := iv2) (bs2 := bs2) (iv4 := iv4) (bs4 := bs4) hd h1 hpr hs h3 h4)
  rw [hlm] at HP HE
  have HB := Lib.hid (end_start hd.box)
  have HL := Lib.hid hlm2
  obtain ⟨a0, a1, a2, a3, f0, f1, f2, f3⟩ := hd.box.blk
  clear hT hW hF hd hm hpr hlm hlm2
  go_enter Tryd.func22, Tryd.ntmps22
  go_upto_region 2 with (fail)
  generalize hw1 : w.setCell { block := g, off := 3 } (Value.bool true) = w1 at HB ⊢
  have H1 := Lib.hid hw1.symm
  obtain ⟨A, n, c, rfl, HP1⟩ := HP.out w1 H1.out
  clear hw1 a0 a1 a2 a3 f0 f1 f2 f3
  obtain ⟨a0, a1, a2, a3, f0, f1, f2, f3⟩ := HB.out.blk
  go_upto_region 3 with (go_at_call 48; (with_reducible refine Calls.mono HP1 ?_); rintro e w2 ⟨A2, n2, c2, iv2, bs2, rfl, hs⟩; have HS := Lib.hid hs; have HB3 := Lib.hid (hs.box.set_ 0 (.slice none 0 0) (.slice none 0 0) _ _ true rfl hs.box.hi); clear hs a0 a1 a2 a3 f0 f1 f2 f3; obtain ⟨a0, a1, a2, a3, f0, f1, f2, f3⟩ := HS.out.box.blk)
  go_upto_region 4 with (fail)
  generalize hw3 : w2.setCell { block := g, off := 0 } (Value.slice none 0 0) = w3 at HB3 ⊢
  have H3 := Lib.hid hw3.symm
  clear hw3 a0 a1 a2 a3 f0 f1 f2 f3
  have HT4 := Lib.hid (tells_any g _ (.slice none 0 0) iv2 lm bs2 true w3 HB3.out HL.out)
  go_wp2_with (go_at_call 49; (with_reducible refine HT4.out.mono ?_); rintro e w4 ⟨iv4, bs4, rfl, h4⟩; have HS4 := Lib.hid h4; clear h4)
  refine bodyPost_end (v := .tuple #[]) (results_none rfl _ _ _) rfl ?_
  obtain ⟨F', h⟩ := HE.out w1 w2 w3 w4 iv2 bs2 iv4 bs4 H1.out HS.out H3.out HS4.out
  exact ⟨F', rfl, h⟩
theorem fend_any (W : World) (hT : Tabs W) (p : Value) (d : DS) (F : Nat → Prop) (w : World) (hW : Below W.heap.size W w) (hF : ∀ k, F k → W.heap.size ≤ k) (hd : Dec w p d F) (hm : d.wait.length ≤ 100000 ∧ d.skip ≤ 100000 ∧ d.items.length ≤ 100000) :
    Calls Tryd.prog 22 #[p] w fun e w' => ∃ F', e = .returned (.tuple #[]) ∧ Moved w p (endS d) F w' F' := by
  have hd0 := hd
  obtain ⟨g, hv, iv, bs, rfl, h⟩ := hd
  obtain ⟨wait, k, l, ov⟩ := d
  cases ov with
  | true =>
    refine (fend_over g hv iv k l bs w h.box).mono fun e w' q => ?_
    refine ⟨F, q.1, ?_⟩
    rw [show endS ⟨wait, k, l, true⟩ = ⟨wait, k, l, true⟩ by unfold endS; rw [if_pos rfl]]
    exact hd0.same q.2
  | false => exact fend_open W hT g hv iv bs wait k l F w hW hF h hm
/-- What Next answers: the item, whose body lies in blocks that are no more the decoder's. -/
def NextDid (p : Value) (d : DS) (F : Nat → Prop) (w : World) (e : Ending) (w' : World) : Prop := ∃ F' D A c, e = .returned (.tuple #[.agg #[.int .i64 ((nextS d).2.1.skip : Int), .int .u8 ((nextS d).2.1.kind.toNat : Int), .slice A (nextS d).2.1.body.length c], .bool (nextS d).2.2]) ∧ Moved w p (nextS d).1 F w' F' ∧ LiesIn w' D (.slice A (nextS d).2.1.body.length c) (nextS d).2.1.body ∧ ∀ k, D k → (F k ∨ w.heap.size ≤ k) ∧ k < w'.heap.size ∧ ¬ F' k
theorem Dec.over {w w' : World} {p : Value} {d : DS} {F : Nat → Prop} (h : Dec w p d F) (hb : Below w.heap.size w w') : Moved w p d F w' F :=
  ⟨h.keep fun k hk => hb.block k (h.old k hk), Touch.of_below hb, fun k hk => .inl hk⟩
set_option maxRecDepth 100000 in
theorem next_none (g : Nat) (hv : Value) (A : Option Addr) (c : Nat) (bs : List Value) (wait : List UInt8) (k : Nat) (ov : Bool) (F : Nat → Prop) (w : World) (hd : DecAt w g hv (.slice A 0 c) bs ⟨wait, k, [], ov⟩ F) :
    Calls Tryd.prog 23 #[.pointer (some ⟨g, 0, none⟩)] w (NextDid (.pointer (some ⟨g, 0, none⟩)) ⟨wait, k, [], ov⟩ F w) := by
  have HD : Hid (Dec w (.pointer (some ⟨g, 0, none⟩)) ⟨wait, k, [], ov⟩ F) := Lib.hid ⟨g, hv, _, bs, rfl, hd⟩
  have hlt := hd.box.lt
  obtain ⟨a0, a1, a2, a3, f0, f1, f2, f3⟩ := hd.box.blk
  have d2 : ∀ o, (w.alloc o).cell? ⟨g, 2, none⟩ = some (.slice A 0 c) := fun o => ((bmore (bself w) o).cell hlt).trans a2
  clear hd hlt
  go_enter Tryd.func23, Tryd.ntmps23
  go_wp2
  refine bodyPost_ret (v := .tuple #[.agg #[.int .i64 0, .int .u8 0, .slice none 0 0], .bool false]) (by simp [results, Tryd.results23, go_sem]) rfl ?_
  refine ⟨F, fun _ => False, none, 0, rfl, HD.out.over ?_, .inl ⟨rfl, none, 0, rfl, fun _ => rfl⟩, fun k hk => hk.elim⟩
  first | exact bmore (bself w) _ | (repeat (first | exact bmore (bself w) _ | refine Below.setCell ?_ (by simp) _))
/-- Where Next stands: the decoder's block, its items' block G, the blocks N of the answer and N + 1 of the item. -/
structure Mid (w wr : World) (g G N : Nat) (hv : Value) (k : Nat) (iv : Value) (ov : Bool) (x0 x1 x2 y0 y1 y2 : Value) : Prop where
  hg : wr.heap[g]? = some (.cells #[hv, .int .i64 (k : Int), iv, .bool ov] 92 (0, 0))
  touch : Touch (fun j => j = g ∨ j = G) w wr
  hN : wr.heap[N]? = some (.cells #[y0, y1, y2] 51 (0, 0))
  hX : wr.heap[N + 1]? = some (.cells #[x0, x1, x2] 51 (0, 0))
  ne : g ≠ G ∧ g < w.heap.size ∧ G < w.heap.size ∧ N = w.heap.size
section
variable {w wr : World} {g G N k : Nat} {hv iv : Value} {ov : Bool} {x0 x1 x2 y0 y1 y2 : Value}
theorem Mid.setG (h : Mid w wr g G N hv k iv ov x0 x1 x2 y0 y1 y2) (i : Nat) (u : Value) : Mid w (wr.setCell ⟨G, i, none⟩ u) g G N hv k iv ov x0 x1 x2 y0 y1 y2 := by
  have hne := h.ne
  have far : ∀ j, j ≠ G → (wr.setCell ⟨G, i, none⟩ u).heap[j]? = wr.heap[j]? := fun j hj => heap_far _ _ _ hj
  exact ⟨(far g hne.1).trans h.hg, h.touch.set (p := ⟨G, i, none⟩) (.inl (.inr rfl)) u, (far N (by omega)).trans h.hN, (far (N + 1) (by omega)).trans h.hX, hne⟩
theorem Mid.setg (h : Mid w wr g G N hv k iv ov x0 x1 x2 y0 y1 y2) (u : Value) : Mid w (wr.setCell ⟨g, 2, none⟩ u) g G N hv k u ov x0 x1 x2 y0 y1 y2 := by
  have hne := h.ne
  have far : ∀ j, j ≠ g → (wr.setCell ⟨g, 2, none⟩ u).heap[j]? = wr.heap[j]? := fun j hj => heap_far _ _ _ hj
  exact ⟨heap_set h.hg 2 u, h.touch.set (p := ⟨g, 2, none⟩) (.inl (.inl rfl)) u, (far N (by omega)).trans h.hN, (far (N + 1) (by omega)).trans h.hX, hne⟩
theorem Mid.setN (h : Mid w wr g G N hv k iv ov x0 x1 x2 y0 y1 y2) : Mid w (set3 wr N x0 x1 x2) g G N hv k iv ov x0 x1 x2 x0 x1 x2 := by
  have hne := h.ne
  have far : ∀ j, j ≠ N → (set3 wr N x0 x1 x2).heap[j]? = wr.heap[j]? := fun j hj => set3_far _ _ _ _ _ j hj
  refine ⟨(far g (by omega)).trans h.hg, ?_, set3_heap h.hN, (far (N + 1) (by omega)).trans h.hX, hne⟩
  unfold set3
  exact ((h.touch.set (p := ⟨N, 0, none⟩) (.inr (Nat.le_of_eq hne.2.2.2.symm)) _).set (p := ⟨N, 1, none⟩) (.inr (Nat.le_of_eq hne.2.2.2.symm)) _).set (p := ⟨N, 2, none⟩) (.inr (Nat.le_of_eq hne.2.2.2.symm)) _
/-- Its end. -/
theorem Mid.ends {off n c m : Nat} {bs : List Value} {wait : List UInt8} {x : It} {l : List It} {F : Nat → Prop} {A : Option Addr} {iv0 : Value} (hd : DecAt w g hv iv0 (.slice A x.body.length m :: bs) ⟨wait, k, x :: l, ov⟩ F) (hG : iv0 = .slice (some ⟨G, off, none⟩) n c) (h : Mid w wr g G N hv k iv ov x0 x1 x2 y0 y1 y2)
    (ho : OwnAt wr 51 3 iv l.length (cellsF l bs)) (hiv : ∀ j, iv.ownBlock = some j → j = G) :
    NextDid (.pointer (some ⟨g, 0, none⟩)) ⟨wait, k, x :: l, ov⟩ F w (.returned (.tuple #[.agg #[.int .i64 (x.skip : Int), .int .u8 (x.kind.toNat : Int), .slice A x.body.length m], .bool true])) wr := by
  have hne := h.ne
  have hGi : iv0.ownBlock = some G := by rw [hG]; rfl
  have far : ∀ j, j < w.heap.size → j ≠ g → j ≠ G → wr.heap[j]? = w.heap[j]? := fun j h1 h2 h3 => h.touch.block j h1 fun e => e.elim h2 h3
  have fb : ∀ u ∈ (.slice A x.body.length m :: bs), ∀ j, u.ownBlock = some j → wr.heap[j]? = w.heap[j]? := fun u hu j hj => far j (hd.box.body_lt hu hj) (hd.box.body_ne hu hj).1 fun e => (hd.box.body_ne hu hj).2 (e ▸ hGi)
  have hl : bs.length = l.length := by have := hd.box.hl; simpa using this
  have hbox : Box wr g hv k iv l bs ov := by
    refine ⟨h.hg, ho, hl, fun i hi u hu => ?_, fun u hu j hj => ?_, (List.pairwise_cons.1 hd.box.ha).2⟩
    · have hm : u ∈ bs := List.mem_of_getElem? hu
      exact (hd.box.hb (i + 1) (by simp; omega) u (by simpa using hu)).keep fun j hj => fb u (List.mem_cons_of_mem _ hm) j hj
    · obtain ⟨cur, hc⟩ := hd.box.ht u (List.mem_cons_of_mem _ hu) j hj
      exact ⟨cur, (fb u (List.mem_cons_of_mem _ hu) j hj).trans hc⟩
  have hown : Owns wr 0 hv wait := hd.own.below_ fun j hj => by
    obtain ⟨cur, hc⟩ := hd.own.type j hj
    have hx := hd.box.u8_ne hc
    exact far j (heap_lt hc) hx.1 fun e => hx.2 (e ▸ hGi)
  have hmem : (Value.slice A x.body.length m) ∈ (Value.slice A x.body.length m :: bs) := List.mem_cons_self
  refine ⟨Role g hv iv bs, fun j => (Value.slice A x.body.length m).ownBlock = some j, A, m, rfl, ?_, ?_, ?_⟩
  · exact moved_of (d' := ⟨wait, k, l, ov⟩) hd hbox hown (fun u hu => hd.apart u (List.mem_cons_of_mem _ hu)) (h.touch.mono fun j hj => hj.imp_right fun e => .inl (by rw [e]; exact hGi)) (fun j hj => .inl (hiv j hj ▸ hGi)) (fun j hj => .inl hj) fun u hu j hj => .inl ⟨u, List.mem_cons_of_mem _ hu, hj⟩
  · exact (hd.box.hb 0 (by simp) _ rfl).keep fun j hj => fb _ hmem j hj
  · intro j hj
    refine ⟨.inl (hd.role j (.inr (.inr (.inr ⟨_, hmem, hj⟩)))), Nat.lt_of_lt_of_le (hd.box.body_lt hmem hj) h.touch.size, fun hr => ?_⟩
    have hx := hd.box.body_ne hmem hj
    rcases hr with e | e | e | ⟨u, hu, e⟩
    · exact hx.1 e
    · exact hd.apart _ hmem j e hj
    · exact hx.2 (hiv j e ▸ hGi)
    · exact (List.pairwise_cons.1 hd.box.ha).1 u hu j hj e
end
/-- The first element's cells. -/
theorem own3 {w : World} {e : TypeId} {G off n c : Nat} {a b d : Value} {xs : List Value} (h : OwnAt w e 3 (.slice (some ⟨G, off, none⟩) n c) n ([a, b, d] ++ xs)) (hn : (0 : Int) < (n : Int)) :
    w.cell? ⟨G, off, none⟩ = some a ∧ w.cell? ⟨G, off + 1, none⟩ = some b ∧ w.cell? ⟨G, off + 2, none⟩ = some d ∧ w.frozen? ⟨G, off, none⟩ = false ∧ w.frozen? ⟨G, off + 1, none⟩ = false ∧ w.frozen? ⟨G, off + 2, none⟩ = false := by
  obtain ⟨cur, hc⟩ := h.block G rfl
  exact ⟨h.cell 0 a rfl, h.cell 1 b rfl, h.cell 2 d rfl, heap_frozen hc _, heap_frozen hc _, heap_frozen hc _⟩
theorem own_zero {w : World} {e : TypeId} {G off n c : Nat} {a b d : Value} {xs : List Value} (h : OwnAt w e 3 (.slice (some ⟨G, off, none⟩) n c) n ([a, b, d] ++ xs)) (hn : 0 < n) (z0 z1 z2 : Value) :
    OwnAt (((w.setCell ⟨G, off, none⟩ z0).setCell ⟨G, off + 1, none⟩ z1).setCell ⟨G, off + 2, none⟩ z2) e 3 (.slice (some ⟨G, off, none⟩) n c) n ([z0, z1, z2] ++ xs) := by
  exact ((h.set_ (i := 0) z0 (by omega)).set_ (i := 1) z1 (by omega)).set_ (i := 2) z2 (by omega)
set_option maxRecDepth 100000 in
theorem next_some (g G off n c : Nat) (hv A0 : Value) (A : Option Addr) (m : Nat) (bs : List Value) (wait : List UInt8) (k : Nat) (x : It) (l : List It) (ov : Bool) (F : Nat → Prop) (w : World) (hd : DecAt w g hv (.slice (some ⟨G, off, none⟩) n c) (.slice A x.body.length m :: bs) ⟨wait, k, x :: l, ov⟩ F) (hn : n = l.length + 1) :
    Calls Tryd.prog 23 #[.pointer (some ⟨g, 0, none⟩)] w (NextDid (.pointer (some ⟨g, 0, none⟩)) ⟨wait, k, x :: l, ov⟩ F w) := by
  obtain ⟨bl, hbl⟩ : ∃ bl, x.body.length = bl := ⟨_, rfl⟩
  rw [hbl] at hd
  have HN := Lib.hid (And.intro hn hbl)
  have HD := Lib.hid hd
  have h1 : ((n : Int) == 0) = false := by rw [beq_eq_false_iff_ne]; omega
  have h2 : (0 : Int) < (n : Int) := by omega
  have hlt := hd.box.lt
  have hi := hd.box.hi
  rw [show (x :: l).length = n from hn.symm] at hi
  have c0 := hi.cell 0 (.int .i64 (x.skip : Int)) rfl
  have c1 := hi.cell 1 (.int .u8 (x.kind.toNat : Int)) rfl
  have c2 := hi.cell 2 (.slice A bl m) rfl
  rw [Nat.add_zero] at c0
  obtain ⟨sk, hsk⟩ : ∃ sk : Int, (x.skip : Int) = sk := ⟨_, rfl⟩
  obtain ⟨kd, hkd⟩ : ∃ kd : Int, (x.kind.toNat : Int) = kd := ⟨_, rfl⟩
  rw [hsk] at c0
  rw [hkd] at c1
  have HK := Lib.hid (And.intro hsk hkd)
  have hGl : G < w.heap.size := hd.box.iv_lt G rfl
  obtain ⟨a0, a1, a2, a3, f0, f1, f2, f3⟩ := hd.box.blk
  have d2 : ∀ o, (w.alloc o).cell? ⟨g, 2, none⟩ = some (.slice (some ⟨G, off, none⟩) n c) := fun o => ((bmore (bself w) o).cell hlt).trans a2
  have e0 : ∀ o, (w.alloc o).cell? ⟨G, off, none⟩ = some (.int .i64 sk) := fun o => ((bmore (bself w) o).cell (p := ⟨G, off, none⟩) hGl).trans c0
  have e1 : ∀ o, (w.alloc o).cell? ⟨G, off + 1, none⟩ = some (.int .u8 kd) := fun o => ((bmore (bself w) o).cell (p := ⟨G, off + 1, none⟩) hGl).trans c1
  have e2 : ∀ o, (w.alloc o).cell? ⟨G, off + 2, none⟩ = some (.slice A bl m) := fun o => ((bmore (bself w) o).cell (p := ⟨G, off + 2, none⟩) hGl).trans c2
  clear hd hlt hi hn hsk hkd hGl hbl
  go_enter Tryd.func23, Tryd.ntmps23
  go_upto_region 4 with (fail)
  obtain ⟨N, hN⟩ : ∃ N, N = w.heap.size := ⟨_, rfl⟩
  rw [← hN]
  have HM : Hid (Mid w ((w.alloc (Obj.cells #[Value.int IntKind.i64 0, Value.int IntKind.u8 0, Value.slice none 0 0] 51)).alloc (Obj.cells #[Value.int IntKind.i64 sk, Value.int IntKind.u8 kd, Value.slice A bl m] 51)) g G N hv k (.slice (some ⟨G, off, none⟩) n c) ov (.int .i64 sk) (.int .u8 kd) (.slice A bl m) (.int .i64 0) (.int .u8 0) (.slice none 0 0) ∧ OwnAt ((w.alloc (Obj.cells #[Value.int IntKind.i64 0, Value.int IntKind.u8 0, Value.slice none 0 0] 51)).alloc (Obj.cells #[Value.int IntKind.i64 sk, Value.int IntKind.u8 kd, Value.slice A bl m] 51)) 51 3 (.slice (some ⟨G, off, none⟩) n c) n ([.int .i64 sk, .int .u8 kd, .slice A bl m] ++ cellsF l bs)) := Lib.hid (by
    obtain ⟨q1, q2, q3, q4⟩ := two_blocks (w := w) (o1 := Obj.cells #[Value.int IntKind.i64 0, Value.int IntKind.u8 0, Value.slice none 0 0] 51) (o2 := Obj.cells #[Value.int IntKind.i64 sk, Value.int IntKind.u8 kd, Value.slice A bl m] 51) (Below.refl _ _)
    have hb := HD.out.box
    have hg := fun j hj => q3.block j (hb.iv_lt j hj)
    refine ⟨⟨(q3.block g hb.lt).trans hb.hg, Touch.of_below q3, hN ▸ q1, hN ▸ q2, ⟨(hb.iv_ne G rfl).symm, hb.lt, hb.iv_lt G rfl, hN⟩⟩, ?_⟩
    have ho := hb.hi.keep hg
    obtain ⟨rfl, rfl⟩ := HK.out
    have hn := HN.out.1
    rw [hn] at ho ⊢
    exact ho)
  generalize ((w.alloc (Obj.cells #[Value.int IntKind.i64 0, Value.int IntKind.u8 0, Value.slice none 0 0] 51)).alloc (Obj.cells #[Value.int IntKind.i64 sk, Value.int IntKind.u8 kd, Value.slice A bl m] 51)) = wa at HM ⊢
  clear a0 a1 a2 a3 f0 f1 f2 f3 c0 c1 c2 d2 e0 e1 e2 hN
  obtain ⟨a0, a1, a2, a3, f0, f1, f2, f3⟩ := blk4 HM.out.1.hg
  obtain ⟨c0, c1, c2, j0, j1, j2⟩ := own3 HM.out.2 h2
  go_upto_region 5 with (fail)
  have HM2 := Lib.hid (And.intro (((HM.out.1.setG off (.int .i64 0)).setG (off + 1) (.int .u8 0)).setG (off + 2) (.slice none 0 0)) (own_zero HM.out.2 (by have := HN.out.1; omega) (.int .i64 0) (.int .u8 0) (.slice none 0 0)))
  generalize ((wa.setCell { block := G, off := off } (Value.int IntKind.i64 0)).setCell { block := G, off := off + 1 } (Value.int IntKind.u8 0)).setCell { block := G, off := off + 2 } (Value.slice none 0 0) = wb at HM2 ⊢
  clear a0 a1 a2 a3 f0 f1 f2 f3 c0 c1 c2 j0 j1 j2 HM
  obtain ⟨a0, a1, a2, a3, f0, f1, f2, f3⟩ := blk4 HM2.out.1.hg
  have h3 : (1 : Int) ≤ (n : Int) := by omega
  have h4 : (n : Int) ≤ (c : Int) := by
    obtain ⟨A', c', e, hc⟩ := HM2.out.2.open_
    simp only [Value.slice.injEq] at e
    omega
  go_upto_region 6 with (fail)
  have HA := Lib.hid (if_addr c 1 (some ⟨G, off, none⟩) (some ⟨G, off + 3, none⟩))
  generalize (if c = 1 then some { block := G, off := off } else some { block := G, off := off + 3 } : Option Addr) = A' at HA ⊢
  have HM3 := Lib.hid (HM2.out.1.setg (.slice A' (n - 1) (c - 1)))
  have HO3 := Lib.hid (fun (j : Nat) (hj : j ≠ g) => (Below.heap_setCell wb ⟨g, 2, none⟩ (.slice A' (n - 1) (c - 1)) j hj : (wb.setCell ⟨g, 2, none⟩ (.slice A' (n - 1) (c - 1))).heap[j]? = wb.heap[j]?))
  generalize wb.setCell { block := g, off := 2 } (Value.slice A' (n - 1) (c - 1)) = wc at HM3 HO3 ⊢
  clear a0 a1 a2 a3 f0 f1 f2 f3 h1 h2 h3
  obtain ⟨a0, a1, a2, a3, f0, f1, f2, f3⟩ := blk4 HM3.out.hg
  by_cases hn1 : n = 1
  · have h3 : (((n - 1 : Nat) : Int) == 0) = true := by rw [hn1]; rfl
    have HN1 := Lib.hid hn1
    clear hn1 h4
    go_upto_region 8 with (fail)
    have HM4 := Lib.hid (HM3.out.setg (.slice none 0 0))
    generalize wc.setCell { block := g, off := 2 } (Value.slice none 0 0) = wd at HM4 ⊢
    clear a0 a1 a2 a3 f0 f1 f2 f3
    obtain ⟨b0, b1, b2, _, _, _⟩ := blk3 HM4.out.hX
    obtain ⟨i0, i1, i2, j0, j1, j2⟩ := blk3 HM4.out.hN
    go_wp2
    have HM5 := Lib.hid HM4.out.setN
    unfold set3 at HM5
    have HF5 := Lib.hid (fun (j : Nat) (hj : j ≠ N) => (set3_far wd N (.int .i64 sk) (.int .u8 kd) (.slice A bl m) j hj))
    unfold set3 at HF5
    generalize ((wd.setCell { block := N, off := 0 } (Value.int IntKind.i64 sk)).setCell { block := N, off := 1 } (Value.int IntKind.u8 kd)).setCell { block := N, off := 2 } (Value.slice A bl m) = we at HM5 HF5 ⊢
    clear b0 b1 b2 i0 i1 i2 j0 j1 j2
    obtain ⟨b0, b1, b2, _, _, _⟩ := blk3 HM5.out.hN
    refine bodyPost_ret (v := .tuple #[.agg #[.int .i64 sk, .int .u8 kd, .slice A bl m], .bool true]) (by simp [results, Tryd.results23, go_sem, b0, b1, b2]) rfl ?_
    obtain ⟨rfl, rfl⟩ := HK.out
    have hn := HN.out.1
    obtain rfl := HN.out.2
    have hl : l = [] := List.eq_nil_of_length_eq_zero (by have := HN1.out; omega)
    subst hl
    exact HM5.out.ends HD.out rfl (OwnAt.none_ _ _ _) (fun j hj => by simp [Value.ownBlock] at hj)
  · have h3 : (((n - 1 : Nat) : Int) == 0) = false := by have := HN.out.1; rw [beq_eq_false_iff_ne]; omega
    have HN1 := Lib.hid (show n ≠ 1 ∧ n ≤ c from ⟨hn1, by obtain ⟨A', c', e, hc⟩ := HM2.out.2.open_; simp only [Value.slice.injEq] at e; omega⟩)
    clear hn1 h4
    go_upto_region 8 with (fail)
    have HM4 := HM3
    clear a0 a1 a2 a3 f0 f1 f2 f3
    obtain ⟨b0, b1, b2, _, _, _⟩ := blk3 HM4.out.hX
    obtain ⟨i0, i1, i2, j0, j1, j2⟩ := blk3 HM4.out.hN
    go_wp2
    have HM5 := Lib.hid HM4.out.setN
    unfold set3 at HM5
    have HF5 := Lib.hid (fun (j : Nat) (hj : j ≠ N) => (set3_far wc N (.int .i64 sk) (.int .u8 kd) (.slice A bl m) j hj))
    unfold set3 at HF5
    generalize ((wc.setCell { block := N, off := 0 } (Value.int IntKind.i64 sk)).setCell { block := N, off := 1 } (Value.int IntKind.u8 kd)).setCell { block := N, off := 2 } (Value.slice A bl m) = we at HM5 HF5 ⊢
    clear b0 b1 b2 i0 i1 i2 j0 j1 j2
    obtain ⟨b0, b1, b2, _, _, _⟩ := blk3 HM5.out.hN
    refine bodyPost_ret (v := .tuple #[.agg #[.int .i64 sk, .int .u8 kd, .slice A bl m], .bool true]) (by simp [results, Tryd.results23, go_sem, b0, b1, b2]) rfl ?_
    obtain ⟨rfl, rfl⟩ := HK.out
    have hn := HN.out.1
    obtain rfl := HN.out.2
    have hne := HM5.out.ne
    have hA : A' = some ⟨G, off + 3, none⟩ := HA.out.elim id fun q => absurd q.1 (by have := HN1.out; omega)
    subst hA
    have ho := HM2.out.2
    obtain ⟨d, rfl⟩ : ∃ d, n = d + 1 := ⟨n - 1, by omega⟩
    have ht := ho.tail rfl (by have := HN1.out; omega)
    have hd : d = l.length := by omega
    rw [show d + 1 - 1 = d by omega] at HM5
    refine HM5.out.ends HD.out rfl ?_ (fun j hj => by simpa [Value.ownBlock] using hj.symm)
    rw [← hd]
    refine ht.keep fun j hj => ?_
    have hj2 : j = G := by simpa [Value.ownBlock] using hj.symm
    subst hj2
    exact (HF5.out j (by omega)).trans (HO3.out j hne.1.symm)
theorem next_any (p : Value) (d : DS) (F : Nat → Prop) (w : World) (hd : Dec w p d F) : Calls Tryd.prog 23 #[p] w (NextDid p d F w) := by
  obtain ⟨g, hv, iv, bs, rfl, h⟩ := hd
  obtain ⟨wait, k, l, ov⟩ := d
  cases l with
  | nil =>
    obtain ⟨A, c, rfl, _⟩ := h.box.hi.open_
    exact next_none g hv A c bs wait k ov F w h
  | cons x l =>
    have hl := h.box.hl
    cases bs with
    | nil => simp at hl
    | cons b bs =>
      have hb := h.box.hb 0 (by simp) b rfl
      obtain ⟨A, m, rfl⟩ : ∃ A m, b = .slice A x.body.length m := by
        rcases hb with ⟨e, A, c, rfl, _⟩ | ⟨X, o, c, rfl, _⟩
        · have e2 : x.body = [] := e
          exact ⟨A, c, by rw [e2]; rfl⟩
        · exact ⟨_, _, rfl⟩
      rcases h.box.hi.2 with ⟨_, h0⟩ | ⟨G, off, c, cur, rfl, _⟩
      · simp at h0
      · exact next_some g G off _ c hv (.bool true) A m bs wait k x l ov F w h (by simp)

set_option maxRecDepth 100000 in
theorem fput_long (kind : UInt8) (A : Option Addr) (c n : Nat) (w : World) (hl : 256 < n) :
    Calls Tryd.prog 29 #[.int .u8 (kind.toNat : Int), .slice A n c] w fun e w' => ∃ B m, e = .returned (.tuple #[.slice B 0 m, .int .i64 13]) ∧ Below w.heap.size w w' := by
  have h1 : (256 : Int) < (n : Int) := by omega
  go_enter Tryd.func29, Tryd.ntmps29
  go_wp2
  refine bodyPost_ret (v := .tuple #[.slice none 0 0, .int .i64 13]) (by simp [results, Tryd.results29, go_sem]) rfl ?_
  exact ⟨none, 0, rfl, bself w⟩
/-- An append of any slice of bytes, its length a number. -/
theorem wp_app_n {ops : Array Oper} {rest : List Oper} {o : Oper} {a : Act} {Q : Exit → Act → World → Prop} {w : World} (hgd : o.guard = none) (s x : Operand)
    (ho : o.op = .call { callee := .builtin .append, args := #[s, x], argTypes := #[31, 31] })
    (base B : Nat) (v : Value) (l m : List UInt8) (A : Option Addr) (c n : Nat) (hn : m.length = n) (hs : a.eval s = v) (hown : Owns w base v l) (hx : a.eval x = .slice A n c) (hA : A = none → c = 0)
    (hr : Row w B A (bc m)) (hf : Fits (l.length + n)) (hbase : base ≤ w.heap.size)
    (h : ∀ v' w', Owns w' base v' (l ++ m) → Below base w w' → wpList Tryd.prog ops Q rest (a.put o.dst v') w') : wpList Tryd.prog ops Q (o :: rest) a w := by
  subst hn
  exact wp_app_any hgd s x ho base B v l m A c hs hown hx hA hr hf hbase h
theorem own_form {w : World} {base z : Nat} {v : Value} {l : List UInt8} (h : Owns w base v l) (hz : l.length = z) (h0 : 0 < z) : ∃ g cap, v = .slice (some ⟨g, 0, none⟩) z cap ∧ base ≤ g ∧ g < w.heap.size ∧ z ≤ cap := by
  subst hz
  obtain ⟨_, h2 | ⟨g, cap, cur, rfl, hg, hh, hn, _⟩⟩ := h
  · omega
  · exact ⟨g, cap, rfl, hg, heap_lt hh, hn⟩
theorem fresh_of {w : World} {base : Nat} {v : Value} {l : List UInt8} (h : Owns w base v l) (h0 : 0 < l.length) : Fresh w base v l := by
  obtain ⟨g, cap, rfl, hg, hlt, hc⟩ := own_form h rfl h0
  refine ⟨g, 0, cap, rfl, hc, hg, hlt, fun i hi => ?_⟩
  rw [Nat.zero_add]
  exact h.cell_ i hi
theorem lit_four (w : World) (kind : UInt8) (kd : Int) (n : Nat) (hk : (kind.toNat : Int) = kd) (hn : n ≤ 256) (t : TypeId) (ht : t = 5) :
    Owns (w.alloc (.cells #[.int .u8 165, .int .u8 kd, .int .u8 ((n : Int) / 256), .int .u8 ((n : Int) % 256)] t)) w.heap.size (.slice (some ⟨w.heap.size, 0, none⟩) 4 4) [165, kind, UInt8.ofNat (n / 256), UInt8.ofNat (n % 256)] := by
  subst ht
  have h := World.ownsRow_lit (base := w.heap.size) (e := 5) (size := 1) w #[.int .u8 165, .int .u8 kd, .int .u8 ((n : Int) / 256), .int .u8 ((n : Int) % 256)] 4 (Nat.le_refl _) (by unfold maxLen; omega) rfl
  have e : (#[Value.int .u8 165, .int .u8 kd, .int .u8 ((n : Int) / 256), .int .u8 ((n : Int) % 256)] : Array Value).toList = bc [165, kind, UInt8.ofNat (n / 256), UInt8.ofNat (n % 256)] := by
    have e1 : ((UInt8.ofNat (n / 256)).toNat : Int) = (n : Int) / 256 := by rw [u8_nat _ (by omega)]; omega
    have e2 : ((UInt8.ofNat (n % 256)).toNat : Int) = (n : Int) % 256 := by rw [u8_nat _ (by omega)]; omega
    show [Value.int .u8 165, Value.int .u8 kd, Value.int .u8 ((n : Int) / 256), Value.int .u8 ((n : Int) % 256)] = [Value.int .u8 165, Value.int .u8 (kind.toNat : Int), Value.int .u8 ((UInt8.ofNat (n / 256)).toNat : Int), Value.int .u8 ((UInt8.ofNat (n % 256)).toNat : Int)]
    rw [e1, e2, hk]
  rw [e] at h
  exact h
set_option maxRecDepth 100000 in
theorem fput_any (W : World) (hT : Tabs W) (kind : UInt8) (A : Option Addr) (c : Nat) (body : List UInt8) (w : World) (hW : Below W.heap.size W w) (hr : Row w w.heap.size A (bc body)) (hc : body.length ≤ c) (hA : A = none → c = 0) (hl : body.length ≤ 256) :
    Calls Tryd.prog 29 #[.int .u8 (kind.toNat : Int), .slice A body.length c] w fun e w' => ∃ v, e = .returned (.tuple #[v, .int .i64 0]) ∧ Fresh w' w.heap.size v (putF kind body) ∧ Below w.heap.size w w' := by
  obtain ⟨n, hn⟩ : ∃ n, body.length = n := ⟨_, rfl⟩
  obtain ⟨kd, hkd⟩ : ∃ kd : Int, (kind.toNat : Int) = kd := ⟨_, rfl⟩
  obtain ⟨hd, hhd⟩ : ∃ hd, headF kind body = hd := ⟨_, rfl⟩
  obtain ⟨u, hu⟩ : ∃ u, sumC hd = u := ⟨_, rfl⟩
  have hul : u < 4294967296 := by rw [← hu]; exact Nat.lt_of_lt_of_le (sumC_lt _) (by omega)
  have hlen : hd.length = n + 3 := by rw [← hhd]; unfold headF; simp [hn]
  have hl4 : [165, kind, UInt8.ofNat (n / 256), UInt8.ofNat (n % 256)] ++ body = 165 :: hd := by rw [← hhd]; unfold headF; rw [hn]; rfl
  have HE := Lib.hid (show 165 :: hd ++ putC u = putF kind body by rw [← hu, ← hhd]; rfl)
  have HL4 := Lib.hid hl4
  have HA := Lib.hid hA
  have HR := Lib.hid hr
  have HN := Lib.hid hn
  have HLit := Lib.hid (fun t ht => lit_four w kind kd n hkd (by omega) t ht)
  have HS := Lib.hid (fun (w1 : World) (g cap z : Nat) (hz : z = n + 4) (hzc : z ≤ cap) (ho : Owns w1 w.heap.size (.slice (some ⟨g, 0, none⟩) z cap) (165 :: hd)) (hb : Below w.heap.size w w1) => show Calls Tryd.prog 58 #[.slice (some ⟨g, 1, none⟩) (z - 1) (cap - 1)] w1 fun e w' => e = .returned (.int .u32 (u : Nat)) ∧ Below w1.heap.size w1 w' from by
    have hlt := ho.lt g rfl
    have h := csum_any W hT (some ⟨g, 1, none⟩) (cap - 1) hd w1 (bstep hW hb) (Lies.row hlt fun i hi => by
      have := (ho.cell_ (i + 1) (by simp; omega)).1
      rw [show 1 + i = i + 1 by omega, this]
      rfl) (by omega)
    rw [hlen, hu] at h
    rw [show z - 1 = n + 3 by omega]
    exact h)
  have HU := Lib.hid hul
  obtain ⟨z, hz⟩ : ∃ z, z = n + 4 := ⟨_, rfl⟩
  have HZ := Lib.hid (show (165 :: hd).length = z ∧ 0 < z ∧ z = n + 4 ∧ z ≤ 1000 by rw [List.length_cons, hlen]; omega)
  have z1 : (1 : Int) ≤ (z : Int) := by omega
  rw [hn, hkd]
  rw [hn] at hc hl
  have h1 : ¬ (256 : Int) < (n : Int) := by omega
  have h9 : n ≤ 256 := hl
  clear hA hr hT hW hn hkd hhd hu hlen hl4 hul hc hl hz
  go_enter Tryd.func29, Tryd.ntmps29
  go_wp2_with (first
    | (at_builtin; refine wp_app_n rfl (.tmp 18) (.tmp 19) rfl w.heap.size w.heap.size _ [165, kind, UInt8.ofNat (n / 256), UInt8.ofNat (n % 256)] body A c n HN.out rfl (HLit.out _ rfl) rfl HA.out (HR.out.below_ (bmore (bself w) _)) (by simp; unfold Fits; omega) (by simp) ?_; intro v1 w1 ho1 hb1; rw [HL4.out] at ho1; obtain ⟨g, cap, rfl, hg1, hg2, hg3⟩ := own_form ho1 HZ.out.1 HZ.out.2.1; have hcap : ¬ cap = 1 := (by have := HZ.out.2.2.1; omega); have hcap2 : (z : Int) ≤ (cap : Int) := (by omega); have HG := Lib.hid (And.intro hg1 (And.intro hg2 hg3)); have HO1 := Lib.hid ho1; have HB1 := Lib.hid (((bself w).alloc (Nat.le_refl _) _).trans hb1); clear ho1 hb1 hg1 hg2 hg3)
    | (go_at_call 58; (with_reducible refine Calls.mono (HS.out w1 g cap z HZ.out.2.2.1 HG.out.2.2 HO1.out HB1.out) ?_); rintro e w2 ⟨rfl, hb⟩; have HO2 := Lib.hid (HO1.out.over hb); have HB2 := Lib.hid (bstep HB1.out hb); clear hb)
    | (go_at_call 57; (with_reducible refine (cput_any u _ HU.out).mono ?_); rintro e w3 ⟨v3, rfl, hl3, hb⟩; obtain ⟨A3, c3, rfl, hr3, _, hA3⟩ := lies_row hl3; have HR3 := Lib.hid (And.intro hr3 hA3); have HO3 := Lib.hid (HO2.out.over hb); have HB3 := Lib.hid (bstep HB2.out hb); clear hb hl3 hr3 hA3)
    | (at_builtin; refine wp_app_any rfl (.tmp 21) (.tmp 25) rfl w.heap.size w3.heap.size _ (165 :: hd) (putC u) A3 c3 rfl HO3.out rfl HR3.out.2 HR3.out.1 (by have := HZ.out; rw [HZ.out.1]; unfold putC Fits; simp; omega) HB3.out.size ?_; intro v4 w4 ho4 hb4; rw [HE.out] at ho4; have HO4 := Lib.hid ho4; have HB4 := Lib.hid (HB3.out.trans hb4); clear ho4 hb4))
  refine bodyPost_ret (v := .tuple #[v4, .int .i64 0]) (by simp [results, Tryd.results29, go_sem]) rfl ?_
  exact ⟨v4, rfl, fresh_of HO4.out (by unfold putF; simp), HB4.out⟩
end Go.Proofs.YtiflpjdiokloaaaDoor
