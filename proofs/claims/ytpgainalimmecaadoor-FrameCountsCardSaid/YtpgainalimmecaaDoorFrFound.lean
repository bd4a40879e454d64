/-
  Layer 4: contract of the program's found.
-/
import Derived.Test.YtpgainalimmecaaDoorFrTell
namespace Go.Proofs.YtpgainalimmecaaDoor
open Go.RowKit
set_option linter.unusedVariables false

/-- What found leaves. -/
def FoundDid (g : Nat) (hv iv : Value) (bs : List Value) (ov : Bool) (lm : List It) (kd : UInt8) (body : List UInt8) (w : World) (e : Ending) (w' : World) : Prop := ∃ iv' bs', e = .returned (.tuple #[]) ∧ Stepped w g hv iv bs 0 (lm ++ [⟨0, kd, body⟩]) ov w' iv' bs'
theorem clone_n (ad : Addr) (c n : Nat) (l : List UInt8) (w : World) (hn : l.length = n) (hr : Row w w.heap.size (some ad) (bc l)) (hf : Fits n) : Calls Tryd.prog 31 #[.slice (some ad) n c] w fun e w' => ∃ A c', e = .returned (.slice A n c') ∧ Owns w' w.heap.size (.slice A n c') l ∧ Below w.heap.size w w' := by
  subst hn
  exact clone_some ad c l w hr hf
theorem Owns.type {w : World} {base : Nat} {v : Value} {l : List UInt8} (h : Owns w base v l) : ∀ j, v.ownBlock = some j → ∃ cur, w.heap[j]? = some (Obj.cells cur 5 (0, 0)) := by
  rcases h.2 with ⟨rfl, _⟩ | ⟨g, cap, cur, rfl, hg, hh, _⟩
  · intro j hj; simp [Value.ownBlock] at hj
  · intro j hj; simp [Value.ownBlock] at hj; subst hj; exact ⟨cur, hh⟩
theorem Owns.liesIn {w : World} {base : Nat} {v : Value} {l : List UInt8} (h : Owns w base v l) : LiesIn w (fun j => v.ownBlock = some j) v l := by
  rcases h.lies with ⟨rfl, rfl⟩ | ⟨b, off, c, rfl, hl, _, hc⟩
  · exact .inl ⟨rfl, none, 0, rfl, fun _ => rfl⟩
  · exact .inr ⟨b, off, c, rfl, hl, rfl, hc⟩
theorem found_end {w w1 w2 : World} {g n : Nat} {hv iv iv1 : Value} {lm : List It} {bs bs1 : List Value} {ov : Bool} {kd : UInt8} {body : List UInt8} {A2 : Option Addr} {c2 : Nat}
    (hs : Stepped w g hv iv bs 0 lm ov w1 iv1 bs1) (hb : Below w1.heap.size w1 w2) (ho : Owns w2 w1.heap.size (.slice A2 n c2) body) :
    ∀ w3 A3 c3, Below w2.heap.size w2 (w2.drew.alloc (Obj.cells #[Value.int IntKind.i64 0, Value.int IntKind.u8 (kd.toNat : Int), Value.slice A2 n c2] 42)) →
      GrewAt (w2.drew.alloc (Obj.cells #[Value.int IntKind.i64 0, Value.int IntKind.u8 (kd.toNat : Int), Value.slice A2 n c2] 42)) 42 3 iv1 (.slice A3 (lm.length + 1) c3) (lm.length + 1) (cellsF lm bs1 ++ [Value.int IntKind.i64 0, Value.int IntKind.u8 (kd.toNat : Int), Value.slice A2 n c2]) w3 →
      FoundDid g hv iv bs ov lm kd body w (.returned (.tuple #[])) (w3.setCell ⟨g, 2, none⟩ (.slice A3 (lm.length + 1) c3)) := by
  intro w3 A3 c3 hw hg
  have hb2 := hs.box.over hb
  obtain ⟨q1, q2, q3⟩ := hb2.push (x := ⟨0, kd, body⟩) (b := .slice A2 n c2) hw hg rfl rfl ho.liesIn ho.type (fun u hu j hj hj2 => by
    have := hs.box.body_lt hu hj
    have := ho.ge j hj2
    omega)
  refine ⟨_, _, rfl, hs.trans ⟨q1, (Touch.of_below hb).trans (q2.mono fun j hj => hj) (fun j hj => .inl hj), fun j hj => (q3 j hj).elim .inl fun q => .inr (Nat.le_trans hb.size q), [.slice A2 n c2], rfl, fun u hu j hj => ?_⟩⟩
  rw [List.mem_singleton] at hu
  subst hu
  exact ho.ge j hj

set_option maxRecDepth 100000 in
set_option maxHeartbeats 1000000 in
theorem found_any (g k X off c0 n : Nat) (hv iv : Value) (l : List It) (bs : List Value) (ov : Bool) (kd0 : UInt8) (body : List UInt8) (w : World) (hB : Box w g hv k iv l bs ov) (hl : l.length ≤ 1000000) (lm : List It) (hlm : l ++ skipI k = lm)
    (hX : ∃ cur fr, w.heap[X]? = some (Obj.cells cur 5 fr)) (hn : body.length = n) (hn2 : n ≤ 1000000) (hc0 : n + 7 ≤ c0) (hk : w.cell? ⟨X, off + 1, none⟩ = some (.int .u8 (kd0.toNat : Int))) (hb : ∀ i (h : i < body.length), w.cell? ⟨X, off + 4 + i, none⟩ = some (.int .u8 (body[i].toNat : Int))) :
    Calls Tryd.prog 40 #[.pointer (some ⟨g, 0, none⟩), .slice (some ⟨X, off, none⟩) (n + 7) c0] w (FoundDid g hv iv bs ov lm kd0 body w) := by
  have hlt : X < w.heap.size := by obtain ⟨cur, fr, h⟩ := hX; exact (Array.getElem?_eq_some_iff.1 h).1
  have hXT : ∀ w', Touch (fun j => j = g ∨ iv.ownBlock = some j) w w' → w'.heap[X]? = w.heap[X]? := fun w' ht => by
    obtain ⟨cur, fr, h⟩ := hX
    have := hB.u8_ne h
    exact ht.block X hlt fun e => e.elim this.1 this.2
  have HT := Lib.hid (tells_any g k hv iv l bs ov w hB hl)
  unfold TellDid at HT
  rw [hlm] at HT
  have HX := Lib.hid hXT
  have HC := Lib.hid (show ∀ w1, w1.heap[X]? = w.heap[X]? → w.heap.size ≤ w1.heap.size → Calls Tryd.prog 31 #[.slice (some ⟨X, off + 4, none⟩) n (c0 - 4)] w1 fun e w' => ∃ A c', e = .returned (.slice A n c') ∧ Owns w' w1.heap.size (.slice A n c') body ∧ Below w1.heap.size w1 w' from
    fun w1 h1 h2 => clone_n _ _ n body w1 hn (Lies.row (Nat.lt_of_lt_of_le hlt h2) fun i hi => (World.cell?_of_block (w := w) h1).trans (hb i hi)) (by unfold Fits; omega))
  have HY := Lib.hid (And.intro hlt hk)
  have HL := Lib.hid (show lm.length ≤ 1000001 by have := skipI_length k; rw [← hlm, List.length_append]; omega)
  have k1 : (4 : Int) ≤ (n : Int) + 7 - 3 := by omega
  have k2 : (n : Int) + 7 - 3 ≤ (c0 : Int) := by omega
  have k3 : IntKind.i64.wrap ((n : Int) + 7 - 3) = (n : Int) + 7 - 3 := IntWalk.i64_in _ (by omega)
  have k4 : ((n : Int) + 7 - 3).toNat = n + 4 := by omega
  have k5 : (0 : Int) ≤ (n : Int) + 7 - 3 := by omega
  have k6 : (1 : Int) < (n : Int) + 7 := by omega
  have k7 : (4 : Int) ≤ (c0 : Int) := by omega
  have k8 : ¬ c0 = 4 := by omega
  have k9 : n + 4 ≤ c0 := by omega
  clear hX hn hn2 hk hb hB hXT hlt hl hlm
  go_enter Tryd.func40, Tryd.ntmps40
  go_wp2_with (first
    | (go_at_call 34; (with_reducible refine HT.out.mono ?_); rintro e w1 ⟨iv1, bs1, rfl, hs1⟩; have HS := Lib.hid hs1; clear hs1)
    | (go_at_call 31; (with_reducible refine Calls.mono (HC.out w1 (HX.out w1 HS.out.touch) HS.out.touch.size) ?_); rintro e w2 ⟨A2, c2, rfl, ho, hb⟩; have HO := Lib.hid ho; have HW := Lib.hid hb; clear ho hb))
  have HB2 := Lib.hid (HS.out.box.over HW.out)
  obtain ⟨A, c, rfl, _⟩ := HB2.out.hi.open_
  have HF := Lib.hid (found_end (kd := kd0) HS.out HW.out HO.out)
  have hXw : w2.heap[X]? = w.heap[X]? := (HW.out.block X (Nat.lt_of_lt_of_le HY.out.1 HS.out.touch.size)).trans (HX.out w1 HS.out.touch)
  have hXl : X < w2.heap.size := Nat.lt_of_lt_of_le HY.out.1 (Nat.le_trans HS.out.touch.size HW.out.size)
  obtain ⟨a0, a1, a2, a3, f0, f1, f2, f3⟩ := HB2.out.blk
  have d2 : ∀ o, (w2.alloc o).cell? ⟨g, 2, none⟩ = some (.slice A lm.length c) := fun o => ((bmore (bself w2) o).cell HB2.out.lt).trans a2
  have e1 : w2.cell? ⟨X, off + 1, none⟩ = some (.int .u8 (kd0.toNat : Int)) := (World.cell?_of_block (w := w) hXw).trans HY.out.2
  have e2 : ∀ o, (w2.alloc o).cell? ⟨X, off + 1, none⟩ = some (.int .u8 (kd0.toNat : Int)) := fun o => ((bmore (bself w2) o).cell (p := ⟨X, off + 1, none⟩) hXl).trans e1
  obtain ⟨kd, hkd⟩ : ∃ kd : Int, (kd0.toNat : Int) = kd := ⟨_, rfl⟩
  rw [hkd] at e1 HF
  simp only [hkd] at e2
  clear hXw hXl hkd
  refine wp_region_held_drew (S := fun w' => Hid True) (by kernel_rfl) ?_ (fun hHeld => ?_)
  · (try dsimp only)
    exact Lib.hid trivial
  refine wpAnyH_take (i := 0) (v := ?_) rfl (by kernel_rfl) (by kernel_rfl) (by kernel_rfl) (fun _ _ _ h => h) (Or.inl ⟨by rfl, ?_⟩) (by assumption) ?_
  rotate_left
  · intro w hSw
    (try dsimp only at hSw)
    go_simp
    try with_reducible rfl
  (try simp only [Act.put, List.getElem_toArray, List.getElem_cons_zero, List.setIfInBounds_toArray, List.set_cons_zero, List.set_cons_succ])
  refine wpAnyH_take (i := 1) (v := ?_) rfl (by kernel_rfl) (by kernel_rfl) (by kernel_rfl) (fun _ _ _ h => h) (Or.inl ⟨by rfl, ?_⟩) (by assumption) ?_
  rotate_left
  · intro w hSw
    (try dsimp only at hSw)
    go_simp
    try with_reducible rfl
  (try simp only [Act.put, List.getElem_toArray, List.getElem_cons_succ, List.getElem_cons_zero, List.setIfInBounds_toArray, List.set_cons_zero, List.set_cons_succ])
  refine wpAnyH_take (i := 2) (v := ?_) rfl (by kernel_rfl) (by kernel_rfl) (by kernel_rfl) (fun _ _ _ h => h) (Or.inl ⟨by rfl, ?_⟩) (by assumption) ?_
  rotate_left
  · intro w hSw
    (try dsimp only at hSw)
    go_simp
    try with_reducible rfl
  (try simp only [Act.put, List.getElem_toArray, List.getElem_cons_succ, List.getElem_cons_zero, List.setIfInBounds_toArray, List.set_cons_zero, List.set_cons_succ])
  refine wpAnyH_take (i := 3) (v := ?_) rfl (by kernel_rfl) (by kernel_rfl) (by kernel_rfl) (fun _ _ _ h => h) (Or.inl ⟨by rfl, ?_⟩) (by assumption) ?_
  rotate_left
  · intro w hSw
    (try dsimp only at hSw)
    go_simp
    try with_reducible rfl
  (try simp only [Act.put, List.getElem_toArray, List.getElem_cons_succ, List.getElem_cons_zero, List.setIfInBounds_toArray, List.set_cons_zero, List.set_cons_succ])
  refine wpAnyH_take (i := 5) (v := ?_) rfl (by kernel_rfl) (by kernel_rfl) (by kernel_rfl) (fun _ _ _ h => h) (Or.inl ⟨by rfl, ?_⟩) (by assumption) ?_
  rotate_left
  · intro w hSw
    (try dsimp only at hSw)
    go_simp
    try with_reducible rfl
  (try simp only [Act.put, List.getElem_toArray, List.getElem_cons_succ, List.getElem_cons_zero, List.setIfInBounds_toArray, List.set_cons_zero, List.set_cons_succ])
  refine wpAnyH_take (i := 6) (v := ?_) rfl (by kernel_rfl) (by kernel_rfl) (by kernel_rfl) (fun _ _ _ h => h) (Or.inl ⟨by rfl, ?_⟩) (by assumption) ?_
  rotate_left
  · intro w hSw
    (try dsimp only at hSw)
    go_simp
    try with_reducible rfl
  (try simp only [Act.put, List.getElem_toArray, List.getElem_cons_succ, List.getElem_cons_zero, List.setIfInBounds_toArray, List.set_cons_zero, List.set_cons_succ])
  refine wpAnyH_take (i := 8) (v := ?_) rfl (by kernel_rfl) (by kernel_rfl) (by kernel_rfl) (fun _ _ _ h => h) (Or.inl ⟨by rfl, ?_⟩) (by assumption) ?_
  rotate_left
  · intro w hSw
    (try dsimp only at hSw)
    go_simp
    try with_reducible rfl
  (try simp only [Act.put, List.getElem_toArray, List.getElem_cons_succ, List.getElem_cons_zero, List.setIfInBounds_toArray, List.set_cons_zero, List.set_cons_succ])
  refine wpAnyH_ready (rs := [4, 7]) (by kernel_rfl) (by simp) ?_
  refine AllReadyH.cons rfl (fun K hK => ?_) (AllReadyH.cons rfl (fun K hK => ?_) AllReadyH.nil)
  · go_simp
    refine hK.out _ _ ?_ (fun hHeld => ?_)
    · (try dsimp only)
      exact Lib.hid trivial
    clear hK K
    (try simp only [Act.put, List.getElem_toArray, List.getElem_cons_succ, List.getElem_cons_zero, List.setIfInBounds_toArray, List.set_cons_zero, List.set_cons_succ])
    refine wpAnyH_ready (rs := [7]) (by kernel_rfl) (by simp) ?_
    refine AllReadyH.cons rfl (fun K hK => ?_) AllReadyH.nil
    go_simp
    refine hK.out _ _ ?_ (fun hHeld => ?_)
    · (try dsimp only)
      exact Lib.hid trivial
    clear hK K
    (try simp only [Act.put, List.getElem_toArray, List.getElem_cons_succ, List.getElem_cons_zero, List.setIfInBounds_toArray, List.set_cons_zero, List.set_cons_succ])
    refine wpAnyH_take (i := 9) (v := ?_) rfl (by kernel_rfl) (by kernel_rfl) (by kernel_rfl) (fun _ _ _ h => h) (Or.inl ⟨by rfl, ?_⟩) (by assumption) ?_
    rotate_left
    · intro w hSw
      (try dsimp only at hSw)
      go_simp
      try with_reducible rfl
    (try simp only [Act.put, List.getElem_toArray, List.getElem_cons_succ, List.getElem_cons_zero, List.setIfInBounds_toArray, List.set_cons_zero, List.set_cons_succ])
    refine wpAnyH_take (i := 10) (v := ?_) rfl (by kernel_rfl) (by kernel_rfl) (by kernel_rfl) (fun _ _ _ h => h) (Or.inl ⟨by rfl, ?_⟩) (by assumption) ?_
    rotate_left
    · intro w hSw
      (try dsimp only at hSw)
      go_simp
      try with_reducible rfl
    (try simp only [Act.put, List.getElem_toArray, List.getElem_cons_succ, List.getElem_cons_zero, List.setIfInBounds_toArray, List.set_cons_zero, List.set_cons_succ])
    refine wpAnyH_ready (rs := [11]) (by kernel_rfl) (by simp) ?_
    refine AllReadyH.cons rfl (fun K hK => ?_) AllReadyH.nil
    go_simp
    refine hK.out _ _ ?_ (fun hHeld => ?_)
    · (try dsimp only)
      exact Lib.hid trivial
    clear hK K
    (try simp only [Act.put, List.getElem_toArray, List.getElem_cons_succ, List.getElem_cons_zero, List.setIfInBounds_toArray, List.set_cons_zero, List.set_cons_succ])
    refine wpAnyH_ready (rs := [12]) (by kernel_rfl) (by simp) ?_
    refine AllReadyH.cons rfl (fun K hK => ?_) AllReadyH.nil
    rw [if_pos (by rfl)]
    refine wp_app_off_op (.tmp 17) (.tmp 24) 52 42 _ 3 40 Tryd.underlying52 info_item rfl (by omega) rfl (.slice A lm.length c) _ lm.length 1 (cellsF lm bs1) _ (by simp [go_sem]) (by simp [go_sem]) (HB2.out.over ((bself w2).drew.alloc (Nat.le_refl _) _)).hi (Seq.lit_ w2.drew [Value.int IntKind.i64 0, Value.int IntKind.u8 kd, Value.slice A2 n c2] _) (by simp [Value.oneCell']) (by have := HL.out; omega) ?_
    intro v1 w3 hg1
    obtain ⟨A3, c3, rfl, _⟩ := hg1.own.open_
    have hgb := HB2.out.push_g ((bself w2).drew.alloc (Nat.le_refl _) _) hg1
    have HP := Lib.hid (HF.out w3 A3 c3 ((bself w2).drew.alloc (Nat.le_refl _) _) hg1)
    clear hg1
    refine hK.out _ _ ?_ (fun hHeld => ?_)
    · (try dsimp only)
      exact Lib.hid trivial
    clear hK K
    (try simp only [Act.put, List.getElem_toArray, List.getElem_cons_succ, List.getElem_cons_zero, List.setIfInBounds_toArray, List.set_cons_zero, List.set_cons_succ])
    refine wpAnyH_take (i := 13) (v := ?_) rfl (by kernel_rfl) (by kernel_rfl) (by kernel_rfl) (fun _ _ _ h => h) (Or.inl ⟨by rfl, ?_⟩) (by assumption) ?_
    rotate_left
    · intro w hSw
      (try dsimp only at hSw)
      go_simp
      try with_reducible rfl
    (try simp only [Act.put, List.getElem_toArray, List.getElem_cons_succ, List.getElem_cons_zero, List.setIfInBounds_toArray, List.set_cons_zero, List.set_cons_succ])
    refine wpAnyH_take (i := 14) (v := ?_) rfl (by kernel_rfl) (by kernel_rfl) (by kernel_rfl) (fun _ _ _ h => h) (Or.inl ⟨by rfl, ?_⟩) (by assumption) ?_
    rotate_left
    · intro w hSw
      (try dsimp only at hSw)
      go_simp
      try with_reducible rfl
    (try simp only [Act.put, List.getElem_toArray, List.getElem_cons_succ, List.getElem_cons_zero, List.setIfInBounds_toArray, List.set_cons_zero, List.set_cons_succ])
    refine wpAnyH_ready (rs := [15]) (by kernel_rfl) (by simp) ?_
    refine AllReadyH.cons rfl (fun K hK => ?_) AllReadyH.nil
    clear a0 a1 a2 a3 f0 f1 f2 f3 d2 e1 e2
    obtain ⟨a0, a1, a2, a3, f0, f1, f2, f3⟩ := blk4 hgb
    clear hgb
    go_simp
    refine hK.out _ _ ?_ (fun hHeld => ?_)
    · (try dsimp only)
      exact Lib.hid trivial
    clear hK K
    (try simp only [Act.put, List.getElem_toArray, List.getElem_cons_succ, List.getElem_cons_zero, List.setIfInBounds_toArray, List.set_cons_zero, List.set_cons_succ])
    refine wpAnyH_done (by kernel_rfl) ?_ _
    go_wp2
    refine bodyPost_end (v := .tuple #[]) (results_none rfl _ _ _) rfl ?_
    exact HP.out
  · go_simp
    refine hK.out _ _ ?_ (fun hHeld => ?_)
    · (try dsimp only)
      exact Lib.hid trivial
    clear hK K
    (try simp only [Act.put, List.getElem_toArray, List.getElem_cons_succ, List.getElem_cons_zero, List.setIfInBounds_toArray, List.set_cons_zero, List.set_cons_succ])
    refine wpAnyH_take (i := 9) (v := ?_) rfl (by kernel_rfl) (by kernel_rfl) (by kernel_rfl) (fun _ _ _ h => h) (Or.inl ⟨by rfl, ?_⟩) (by assumption) ?_
    rotate_left
    · intro w hSw
      (try dsimp only at hSw)
      go_simp
      try with_reducible rfl
    (try simp only [Act.put, List.getElem_toArray, List.getElem_cons_succ, List.getElem_cons_zero, List.setIfInBounds_toArray, List.set_cons_zero, List.set_cons_succ])
    refine wpAnyH_take (i := 10) (v := ?_) rfl (by kernel_rfl) (by kernel_rfl) (by kernel_rfl) (fun _ _ _ h => h) (Or.inl ⟨by rfl, ?_⟩) (by assumption) ?_
    rotate_left
    · intro w hSw
      (try dsimp only at hSw)
      go_simp
      try with_reducible rfl
    (try simp only [Act.put, List.getElem_toArray, List.getElem_cons_succ, List.getElem_cons_zero, List.setIfInBounds_toArray, List.set_cons_zero, List.set_cons_succ])
    refine wpAnyH_ready (rs := [4, 11]) (by kernel_rfl) (by simp) ?_
    refine AllReadyH.cons rfl (fun K hK => ?_) (AllReadyH.cons rfl (fun K hK => ?_) AllReadyH.nil)
    · go_simp
      refine hK.out _ _ ?_ (fun hHeld => ?_)
      · (try dsimp only)
        exact Lib.hid trivial
      clear hK K
      (try simp only [Act.put, List.getElem_toArray, List.getElem_cons_succ, List.getElem_cons_zero, List.setIfInBounds_toArray, List.set_cons_zero, List.set_cons_succ])
      refine wpAnyH_ready (rs := [11]) (by kernel_rfl) (by simp) ?_
      refine AllReadyH.cons rfl (fun K hK => ?_) AllReadyH.nil
      go_simp
      refine hK.out _ _ ?_ (fun hHeld => ?_)
      · (try dsimp only)
        exact Lib.hid trivial
      clear hK K
      (try simp only [Act.put, List.getElem_toArray, List.getElem_cons_succ, List.getElem_cons_zero, List.setIfInBounds_toArray, List.set_cons_zero, List.set_cons_succ])
      refine wpAnyH_ready (rs := [12]) (by kernel_rfl) (by simp) ?_
      refine AllReadyH.cons rfl (fun K hK => ?_) AllReadyH.nil
      rw [if_pos (by rfl)]
      refine wp_app_off_op (.tmp 17) (.tmp 24) 52 42 _ 3 40 Tryd.underlying52 info_item rfl (by omega) rfl (.slice A lm.length c) _ lm.length 1 (cellsF lm bs1) _ (by simp [go_sem]) (by simp [go_sem]) (HB2.out.over ((bself w2).drew.alloc (Nat.le_refl _) _)).hi (Seq.lit_ w2.drew [Value.int IntKind.i64 0, Value.int IntKind.u8 kd, Value.slice A2 n c2] _) (by simp [Value.oneCell']) (by have := HL.out; omega) ?_
      intro v1 w3 hg1
      obtain ⟨A3, c3, rfl, _⟩ := hg1.own.open_
      have hgb := HB2.out.push_g ((bself w2).drew.alloc (Nat.le_refl _) _) hg1
      have HP := Lib.hid (HF.out w3 A3 c3 ((bself w2).drew.alloc (Nat.le_refl _) _) hg1)
      clear hg1
      refine hK.out _ _ ?_ (fun hHeld => ?_)
      · (try dsimp only)
        exact Lib.hid trivial
      clear hK K
      (try simp only [Act.put, List.getElem_toArray, List.getElem_cons_succ, List.getElem_cons_zero, List.setIfInBounds_toArray, List.set_cons_zero, List.set_cons_succ])
      refine wpAnyH_take (i := 13) (v := ?_) rfl (by kernel_rfl) (by kernel_rfl) (by kernel_rfl) (fun _ _ _ h => h) (Or.inl ⟨by rfl, ?_⟩) (by assumption) ?_
      rotate_left
      · intro w hSw
        (try dsimp only at hSw)
        go_simp
        try with_reducible rfl
      (try simp only [Act.put, List.getElem_toArray, List.getElem_cons_succ, List.getElem_cons_zero, List.setIfInBounds_toArray, List.set_cons_zero, List.set_cons_succ])
      refine wpAnyH_take (i := 14) (v := ?_) rfl (by kernel_rfl) (by kernel_rfl) (by kernel_rfl) (fun _ _ _ h => h) (Or.inl ⟨by rfl, ?_⟩) (by assumption) ?_
      rotate_left
      · intro w hSw
        (try dsimp only at hSw)
        go_simp
        try with_reducible rfl
      (try simp only [Act.put, List.getElem_toArray, List.getElem_cons_succ, List.getElem_cons_zero, List.setIfInBounds_toArray, List.set_cons_zero, List.set_cons_succ])
      refine wpAnyH_ready (rs := [15]) (by kernel_rfl) (by simp) ?_
      refine AllReadyH.cons rfl (fun K hK => ?_) AllReadyH.nil
      clear a0 a1 a2 a3 f0 f1 f2 f3 d2 e1 e2
      obtain ⟨a0, a1, a2, a3, f0, f1, f2, f3⟩ := blk4 hgb
      clear hgb
      go_simp
      refine hK.out _ _ ?_ (fun hHeld => ?_)
      · (try dsimp only)
        exact Lib.hid trivial
      clear hK K
      (try simp only [Act.put, List.getElem_toArray, List.getElem_cons_succ, List.getElem_cons_zero, List.setIfInBounds_toArray, List.set_cons_zero, List.set_cons_succ])
      refine wpAnyH_done (by kernel_rfl) ?_ _
      go_wp2
      refine bodyPost_end (v := .tuple #[]) (results_none rfl _ _ _) rfl ?_
      exact HP.out
    · go_simp
      refine hK.out _ _ ?_ (fun hHeld => ?_)
      · (try dsimp only)
        exact Lib.hid trivial
      clear hK K
      (try simp only [Act.put, List.getElem_toArray, List.getElem_cons_succ, List.getElem_cons_zero, List.setIfInBounds_toArray, List.set_cons_zero, List.set_cons_succ])
      refine wpAnyH_ready (rs := [4]) (by kernel_rfl) (by simp) ?_
      refine AllReadyH.cons rfl (fun K hK => ?_) AllReadyH.nil
      go_simp
      refine hK.out _ _ ?_ (fun hHeld => ?_)
      · (try dsimp only)
        exact Lib.hid trivial
      clear hK K
      (try simp only [Act.put, List.getElem_toArray, List.getElem_cons_succ, List.getElem_cons_zero, List.setIfInBounds_toArray, List.set_cons_zero, List.set_cons_succ])
      refine wpAnyH_ready (rs := [12]) (by kernel_rfl) (by simp) ?_
      refine AllReadyH.cons rfl (fun K hK => ?_) AllReadyH.nil
      rw [if_pos (by rfl)]
      refine wp_app_off_op (.tmp 17) (.tmp 24) 52 42 _ 3 40 Tryd.underlying52 info_item rfl (by omega) rfl (.slice A lm.length c) _ lm.length 1 (cellsF lm bs1) _ (by simp [go_sem]) (by simp [go_sem]) (HB2.out.over ((bself w2).drew.alloc (Nat.le_refl _) _)).hi (Seq.lit_ w2.drew [Value.int IntKind.i64 0, Value.int IntKind.u8 kd, Value.slice A2 n c2] _) (by simp [Value.oneCell']) (by have := HL.out; omega) ?_
      intro v1 w3 hg1
      obtain ⟨A3, c3, rfl, _⟩ := hg1.own.open_
      have hgb := HB2.out.push_g ((bself w2).drew.alloc (Nat.le_refl _) _) hg1
      have HP := Lib.hid (HF.out w3 A3 c3 ((bself w2).drew.alloc (Nat.le_refl _) _) hg1)
      clear hg1
      refine hK.out _ _ ?_ (fun hHeld => ?_)
      · (try dsimp only)
        exact Lib.hid trivial
      clear hK K
      (try simp only [Act.put, List.getElem_toArray, List.getElem_cons_succ, List.getElem_cons_zero, List.setIfInBounds_toArray, List.set_cons_zero, List.set_cons_succ])
      refine wpAnyH_take (i := 13) (v := ?_) rfl (by kernel_rfl) (by kernel_rfl) (by kernel_rfl) (fun _ _ _ h => h) (Or.inl ⟨by rfl, ?_⟩) (by assumption) ?_
      rotate_left
      · intro w hSw
        (try dsimp only at hSw)
        go_simp
        try with_reducible rfl
      (try simp only [Act.put, List.getElem_toArray, List.getElem_cons_succ, List.getElem_cons_zero, List.setIfInBounds_toArray, List.set_cons_zero, List.set_cons_succ])
      refine wpAnyH_take (i := 14) (v := ?_) rfl (by kernel_rfl) (by kernel_rfl) (by kernel_rfl) (fun _ _ _ h => h) (Or.inl ⟨by rfl, ?_⟩) (by assumption) ?_
      rotate_left
      · intro w hSw
        (try dsimp only at hSw)
        go_simp
        try with_reducible rfl
      (try simp only [Act.put, List.getElem_toArray, List.getElem_cons_succ, List.getElem_cons_zero, List.setIfInBounds_toArray, List.set_cons_zero, List.set_cons_succ])
      refine wpAnyH_ready (rs := [15]) (by kernel_rfl) (by simp) ?_
      refine AllReadyH.cons rfl (fun K hK => ?_) AllReadyH.nil
      clear a0 a1 a2 a3 f0 f1 f2 f3 d2 e1 e2
      obtain ⟨a0, a1, a2, a3, f0, f1, f2, f3⟩ := blk4 hgb
      clear hgb
      go_simp
      refine hK.out _ _ ?_ (fun hHeld => ?_)
      · (try dsimp only)
        exact Lib.hid trivial
      clear hK K
      (try simp only [Act.put, List.getElem_toArray, List.getElem_cons_succ, List.getElem_cons_zero, List.setIfInBounds_toArray, List.set_cons_zero, List.set_cons_succ])
      refine wpAnyH_done (by kernel_rfl) ?_ _
      go_wp2
      refine bodyPost_end (v := .tuple #[]) (results_none rfl _ _ _) rfl ?_
      exact HP.out
end Go.Proofs.YtpgainalimmecaaDoor
