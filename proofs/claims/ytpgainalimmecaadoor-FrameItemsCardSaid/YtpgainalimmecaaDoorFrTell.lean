/-
  Layer 4: contract of the program's tellSkipped.
-/
import Derived.Test.YtpgainalimmecaaDoorFrBox
namespace Go.Proofs.YtpgainalimmecaaDoor
open Go.RowKit
set_option linter.unusedVariables false

theorem info_item : (Tryd.prog.info? 42).map (fun i => (i.zero, i.size, i.bytes)) = some (some (.agg #[.int .i64 0, .int .u8 0, .slice none 0 0]), 3, 40) := by kernel_rfl
theorem Box.push_g {w wa w1 : World} {g k n : Nat} {hv iv v1 : Value} {l : List It} {bs xs : List Value} {ov : Bool} (h : Box w g hv k iv l bs ov) (hw : Below w.heap.size w wa) (hg : GrewAt wa 42 3 iv v1 n xs w1) : w1.heap[g]? = some (.cells #[hv, .int .i64 (k : Int), iv, .bool ov] 75 (0, 0)) :=
  (hg.grown.block g (h.over hw).lt fun e => h.iv_ne g e.symm rfl).trans (h.over hw).hg
/-- What tellSkipped leaves. -/
def TellDid (g : Nat) (hv : Value) (k : Nat) (iv : Value) (l : List It) (bs : List Value) (ov : Bool) (w : World) (e : Ending) (w' : World) : Prop := ∃ iv' bs', e = .returned (.tuple #[]) ∧ Stepped w g hv iv bs 0 (l ++ skipI k) ov w' iv' bs'
theorem tell_end {w w2 : World} {g k : Nat} {hv iv v1 : Value} {l : List It} {bs : List Value} {ov : Bool} (hk : 0 < k)
    (h : Box w2 g hv k v1 (l ++ [⟨k, 0, []⟩]) (bs ++ [.slice none 0 0]) ov ∧ Touch (fun j => j = g ∨ iv.ownBlock = some j) w w2 ∧ (∀ j, v1.ownBlock = some j → iv.ownBlock = some j ∨ w.heap.size ≤ j)) :
    TellDid g hv k iv l bs ov w (.returned (.tuple #[])) (w2.setCell ⟨g, 1, none⟩ (.int .i64 0)) := by
  have hs : l ++ skipI k = l ++ [⟨k, 0, []⟩] := by unfold skipI; rw [if_pos hk]
  refine ⟨v1, bs ++ [.slice none 0 0], rfl, ?_, h.2.1.set (.inl (.inl rfl)) _, h.2.2, [.slice none 0 0], rfl, fun u hu j hj => ?_⟩
  · rw [hs]
    exact h.1.set_ 1 _ hv 0 v1 ov rfl h.1.hi
  · rw [List.mem_singleton] at hu; subst hu; simp [Value.ownBlock] at hj

set_option maxRecDepth 100000 in
set_option maxHeartbeats 1000000 in
theorem tells_pos (g k : Nat) (hv iv : Value) (l : List It) (bs : List Value) (ov : Bool) (w : World) (hB : Box w g hv k iv l bs ov) (hk : 0 < k) (hl : l.length ≤ 1000000) :
    Calls Tryd.prog 34 #[.pointer (some ⟨g, 0, none⟩)] w (TellDid g hv k iv l bs ov w) := by
  obtain ⟨A, c, rfl, hnc⟩ := hB.hi.open_
  have HB := Lib.hid hB
  have HK := Lib.hid hk
  have HL := Lib.hid hl
  have h1 : (0 : Int) < (k : Int) := by omega
  obtain ⟨a0, a1, a2, a3, f0, f1, f2, f3⟩ := hB.blk
  have d1 : ∀ o, (w.alloc o).cell? ⟨g, 1, none⟩ = some (.int .i64 (k : Int)) := fun o => ((bmore (bself w) o).cell hB.lt).trans a1
  have d2 : ∀ o, (w.alloc o).cell? ⟨g, 2, none⟩ = some (.slice A l.length c) := fun o => ((bmore (bself w) o).cell hB.lt).trans a2
  clear hB hk hl hnc
  go_enter Tryd.func34, Tryd.ntmps34
  go_wp2
  refine wp_region_held_drew (S := fun w' => Hid True) (by kernel_rfl) ?_ (fun hHeld => ?_)
  · (try dsimp only)
    exact Lib.hid trivial
  refine wpAnyH_take (i := 0) (v := ?_) rfl (by kernel_rfl) (by kernel_rfl) (by kernel_rfl) (fun _ _ _ h => h) (Or.inl ⟨by rfl, ?_⟩) (by assumption) ?_
  rotate_left
  · intro w hSw
    (try dsimp only at hSw)
    go_simp
    try with_reducible rfl
  (try simp only [Act.put, List.getElem_toArray, List.getElem_cons_zero, List.setIfInBounds_toArray, List.set_cons_zero, List.set_cons_succ])
  refine wpAnyH_take (i := 1) (v := ?_) rfl (by kernel_rfl) (by kernel_rfl) (by kernel_rfl) (fun _ _ _ h => h) (Or.inl ⟨by rfl, ?_⟩) (by assumption) ?_
  rotate_left
  · intro w hSw
    (try dsimp only at hSw)
    go_simp
    try with_reducible rfl
  (try simp only [Act.put, List.getElem_toArray, List.getElem_cons_succ, List.getElem_cons_zero, List.setIfInBounds_toArray, List.set_cons_zero, List.set_cons_succ])
  refine wpAnyH_take (i := 2) (v := ?_) rfl (by kernel_rfl) (by kernel_rfl) (by kernel_rfl) (fun _ _ _ h => h) (Or.inl ⟨by rfl, ?_⟩) (by assumption) ?_
  rotate_left
  · intro w hSw
    (try dsimp only at hSw)
    go_simp
    try with_reducible rfl
  (try simp only [Act.put, List.getElem_toArray, List.getElem_cons_succ, List.getElem_cons_zero, List.setIfInBounds_toArray, List.set_cons_zero, List.set_cons_succ])
  refine wpAnyH_take (i := 3) (v := ?_) rfl (by kernel_rfl) (by kernel_rfl) (by kernel_rfl) (fun _ _ _ h => h) (Or.inl ⟨by rfl, ?_⟩) (by assumption) ?_
  rotate_left
  · intro w hSw
    (try dsimp only at hSw)
    go_simp
    try with_reducible rfl
  (try simp only [Act.put, List.getElem_toArray, List.getElem_cons_succ, List.getElem_cons_zero, List.setIfInBounds_toArray, List.set_cons_zero, List.set_cons_succ])
  refine wpAnyH_take (i := 5) (v := ?_) rfl (by kernel_rfl) (by kernel_rfl) (by kernel_rfl) (fun _ _ _ h => h) (Or.inl ⟨by rfl, ?_⟩) (by assumption) ?_
  rotate_left
  · intro w hSw
    (try dsimp only at hSw)
    go_simp
    try with_reducible rfl
  (try simp only [Act.put, List.getElem_toArray, List.getElem_cons_succ, List.getElem_cons_zero, List.setIfInBounds_toArray, List.set_cons_zero, List.set_cons_succ])
  refine wpAnyH_take (i := 6) (v := ?_) rfl (by kernel_rfl) (by kernel_rfl) (by kernel_rfl) (fun _ _ _ h => h) (Or.inl ⟨by rfl, ?_⟩) (by assumption) ?_
  rotate_left
  · intro w hSw
    (try dsimp only at hSw)
    go_simp
    try with_reducible rfl
  (try simp only [Act.put, List.getElem_toArray, List.getElem_cons_succ, List.getElem_cons_zero, List.setIfInBounds_toArray, List.set_cons_zero, List.set_cons_succ])
  refine wpAnyH_take (i := 7) (v := ?_) rfl (by kernel_rfl) (by kernel_rfl) (by kernel_rfl) (fun _ _ _ h => h) (Or.inl ⟨by rfl, ?_⟩) (by assumption) ?_
  rotate_left
  · intro w hSw
    (try dsimp only at hSw)
    go_simp
    try with_reducible rfl
  (try simp only [Act.put, List.getElem_toArray, List.getElem_cons_succ, List.getElem_cons_zero, List.setIfInBounds_toArray, List.set_cons_zero, List.set_cons_succ])
  refine wpAnyH_ready (rs := [4, 8]) (by kernel_rfl) (by simp) ?_
  refine AllReadyH.cons rfl (fun K hK => ?_) (AllReadyH.cons rfl (fun K hK => ?_) AllReadyH.nil)
  · go_simp
    refine hK.out _ _ ?_ (fun hHeld => ?_)
    · (try dsimp only)
      exact Lib.hid trivial
    clear hK K
    (try simp only [Act.put, List.getElem_toArray, List.getElem_cons_succ, List.getElem_cons_zero, List.setIfInBounds_toArray, List.set_cons_zero, List.set_cons_succ])
    refine wpAnyH_ready (rs := [8]) (by kernel_rfl) (by simp) ?_
    refine AllReadyH.cons rfl (fun K hK => ?_) AllReadyH.nil
    go_simp
    refine hK.out _ _ ?_ (fun hHeld => ?_)
    · (try dsimp only)
      exact Lib.hid trivial
    clear hK K
    (try simp only [Act.put, List.getElem_toArray, List.getElem_cons_succ, List.getElem_cons_zero, List.setIfInBounds_toArray, List.set_cons_zero, List.set_cons_succ])
    refine wpAnyH_take (i := 9) (v := ?_) rfl (by kernel_rfl) (by kernel_rfl) (by kernel_rfl) (fun _ _ _ h => h) (Or.inl ⟨by rfl, ?_⟩) (by assumption) ?_
    rotate_left
    · intro w hSw
      (try dsimp only at hSw)
      go_simp
      try with_reducible rfl
    (try simp only [Act.put, List.getElem_toArray, List.getElem_cons_succ, List.getElem_cons_zero, List.setIfInBounds_toArray, List.set_cons_zero, List.set_cons_succ])
    refine wpAnyH_ready (rs := [10]) (by kernel_rfl) (by simp) ?_
    refine AllReadyH.cons rfl (fun K hK => ?_) AllReadyH.nil
    go_simp
    refine hK.out _ _ ?_ (fun hHeld => ?_)
    · (try dsimp only)
      exact Lib.hid trivial
    clear hK K
    (try simp only [Act.put, List.getElem_toArray, List.getElem_cons_succ, List.getElem_cons_zero, List.setIfInBounds_toArray, List.set_cons_zero, List.set_cons_succ])
    refine wpAnyH_ready (rs := [11]) (by kernel_rfl) (by simp) ?_
    refine AllReadyH.cons rfl (fun K hK => ?_) AllReadyH.nil
    rw [if_pos (by rfl)]
    refine wp_app_off_op (.tmp 11) (.tmp 17) 52 42 _ 3 40 Tryd.underlying52 info_item rfl (by omega) rfl (.slice A l.length c) _ l.length 1 (cellsF l bs) _ (by simp [go_sem]) (by simp [go_sem]) (HB.out.over ((bself w).drew.alloc (Nat.le_refl _) _)).hi (Seq.lit_ w.drew [Value.int IntKind.i64 (k : Int), Value.int IntKind.u8 0, Value.slice none 0 0] _) (by simp [Value.oneCell']) (by have := HL.out; omega) ?_
    intro v1 w1 hg1
    obtain ⟨A1, c1, rfl, _⟩ := hg1.own.open_
    have hgb := HB.out.push_g ((bself w).drew.alloc (Nat.le_refl _) _) hg1
    have HP := Lib.hid (HB.out.push (x := ⟨k, 0, []⟩) (b := .slice none 0 0) ((bself w).drew.alloc (Nat.le_refl _) _) hg1 rfl rfl (.inl ⟨rfl, none, 0, rfl, fun _ => rfl⟩) (fun j hj => by simp [Value.ownBlock] at hj) (fun u _ j _ hj => by simp [Value.ownBlock] at hj))
    clear hg1
    refine hK.out _ _ ?_ (fun hHeld => ?_)
    · (try dsimp only)
      exact Lib.hid trivial
    clear hK K
    (try simp only [Act.put, List.getElem_toArray, List.getElem_cons_succ, List.getElem_cons_zero, List.setIfInBounds_toArray, List.set_cons_zero, List.set_cons_succ])
    refine wpAnyH_take (i := 12) (v := ?_) rfl (by kernel_rfl) (by kernel_rfl) (by kernel_rfl) (fun _ _ _ h => h) (Or.inl ⟨by rfl, ?_⟩) (by assumption) ?_
    rotate_left
    · intro w hSw
      (try dsimp only at hSw)
      go_simp
      try with_reducible rfl
    (try simp only [Act.put, List.getElem_toArray, List.getElem_cons_succ, List.getElem_cons_zero, List.setIfInBounds_toArray, List.set_cons_zero, List.set_cons_succ])
    refine wpAnyH_take (i := 13) (v := ?_) rfl (by kernel_rfl) (by kernel_rfl) (by kernel_rfl) (fun _ _ _ h => h) (Or.inl ⟨by rfl, ?_⟩) (by assumption) ?_
    rotate_left
    · intro w hSw
      (try dsimp only at hSw)
      go_simp
      try with_reducible rfl
    (try simp only [Act.put, List.getElem_toArray, List.getElem_cons_succ, List.getElem_cons_zero, List.setIfInBounds_toArray, List.set_cons_zero, List.set_cons_succ])
    refine wpAnyH_ready (rs := [14]) (by kernel_rfl) (by simp) ?_
    refine AllReadyH.cons rfl (fun K hK => ?_) AllReadyH.nil
    clear a0 a1 a2 a3 f0 f1 f2 f3 d1 d2
    obtain ⟨a0, a1, a2, a3, f0, f1, f2, f3⟩ := blk4 hgb
    clear hgb
    go_simp
    refine hK.out _ _ ?_ (fun hHeld => ?_)
    · (try dsimp only)
      exact Lib.hid trivial
    clear hK K
    (try simp only [Act.put, List.getElem_toArray, List.getElem_cons_succ, List.getElem_cons_zero, List.setIfInBounds_toArray, List.set_cons_zero, List.set_cons_succ])
    refine wpAnyH_done (by kernel_rfl) ?_ _
    generalize w1.setCell { block := g, off := 2 } (Value.slice A1 (l.length + 1) c1) = w2 at HP ⊢
    clear a0 a1 a2 a3 f0 f1 f2 f3
    obtain ⟨a0, a1, a2, a3, f0, f1, f2, f3⟩ := HP.out.1.blk
    go_wp2
    refine bodyPost_end (v := .tuple #[]) (results_none rfl _ _ _) rfl ?_
    exact tell_end HK.out HP.out
  · go_simp
    refine hK.out _ _ ?_ (fun hHeld => ?_)
    · (try dsimp only)
      exact Lib.hid trivial
    clear hK K
    (try simp only [Act.put, List.getElem_toArray, List.getElem_cons_succ, List.getElem_cons_zero, List.setIfInBounds_toArray, List.set_cons_zero, List.set_cons_succ])
    refine wpAnyH_take (i := 9) (v := ?_) rfl (by kernel_rfl) (by kernel_rfl) (by kernel_rfl) (fun _ _ _ h => h) (Or.inl ⟨by rfl, ?_⟩) (by assumption) ?_
    rotate_left
    · intro w hSw
      (try dsimp only at hSw)
      go_simp
      try with_reducible rfl
    (try simp only [Act.put, List.getElem_toArray, List.getElem_cons_succ, List.getElem_cons_zero, List.setIfInBounds_toArray, List.set_cons_zero, List.set_cons_succ])
    refine wpAnyH_ready (rs := [4, 10]) (by kernel_rfl) (by simp) ?_
    refine AllReadyH.cons rfl (fun K hK => ?_) (AllReadyH.cons rfl (fun K hK => ?_) AllReadyH.nil)
    · go_simp
      refine hK.out _ _ ?_ (fun hHeld => ?_)
      · (try dsimp only)
        exact Lib.hid trivial
      clear hK K
      (try simp only [Act.put, List.getElem_toArray, List.getElem_cons_succ, List.getElem_cons_zero, List.setIfInBounds_toArray, List.set_cons_zero, List.set_cons_succ])
      refine wpAnyH_ready (rs := [10]) (by kernel_rfl) (by simp) ?_
      refine AllReadyH.cons rfl (fun K hK => ?_) AllReadyH.nil
      go_simp
      refine hK.out _ _ ?_ (fun hHeld => ?_)
      · (try dsimp only)
        exact Lib.hid trivial
      clear hK K
      (try simp only [Act.put, List.getElem_toArray, List.getElem_cons_succ, List.getElem_cons_zero, List.setIfInBounds_toArray, List.set_cons_zero, List.set_cons_succ])
      refine wpAnyH_ready (rs := [11]) (by kernel_rfl) (by simp) ?_
      refine AllReadyH.cons rfl (fun K hK => ?_) AllReadyH.nil
      rw [if_pos (by rfl)]
      refine wp_app_off_op (.tmp 11) (.tmp 17) 52 42 _ 3 40 Tryd.underlying52 info_item rfl (by omega) rfl (.slice A l.length c) _ l.length 1 (cellsF l bs) _ (by simp [go_sem]) (by simp [go_sem]) (HB.out.over ((bself w).drew.alloc (Nat.le_refl _) _)).hi (Seq.lit_ w.drew [Value.int IntKind.i64 (k : Int), Value.int IntKind.u8 0, Value.slice none 0 0] _) (by simp [Value.oneCell']) (by have := HL.out; omega) ?_
      intro v1 w1 hg1
      obtain ⟨A1, c1, rfl, _⟩ := hg1.own.open_
      have hgb := HB.out.push_g ((bself w).drew.alloc (Nat.le_refl _) _) hg1
      have HP := Lib.hid (HB.out.push (x := ⟨k, 0, []⟩) (b := .slice none 0 0) ((bself w).drew.alloc (Nat.le_refl _) _) hg1 rfl rfl (.inl ⟨rfl, none, 0, rfl, fun _ => rfl⟩) (fun j hj => by simp [Value.ownBlock] at hj) (fun u _ j _ hj => by simp [Value.ownBlock] at hj))
      clear hg1
      refine hK.out _ _ ?_ (fun hHeld => ?_)
      · (try dsimp only)
        exact Lib.hid trivial
      clear hK K
      (try simp only [Act.put, List.getElem_toArray, List.getElem_cons_succ, List.getElem_cons_zero, List.setIfInBounds_toArray, List.set_cons_zero, List.set_cons_succ])
      refine wpAnyH_take (i := 12) (v := ?_) rfl (by kernel_rfl) (by kernel_rfl) (by kernel_rfl) (fun _ _ _ h => h) (Or.inl ⟨by rfl, ?_⟩) (by assumption) ?_
      rotate_left
      · intro w hSw
        (try dsimp only at hSw)
        go_simp
        try with_reducible rfl
      (try simp only [Act.put, List.getElem_toArray, List.getElem_cons_succ, List.getElem_cons_zero, List.setIfInBounds_toArray, List.set_cons_zero, List.set_cons_succ])
      refine wpAnyH_take (i := 13) (v := ?_) rfl (by kernel_rfl) (by kernel_rfl) (by kernel_rfl) (fun _ _ _ h => h) (Or.inl ⟨by rfl, ?_⟩) (by assumption) ?_
      rotate_left
      · intro w hSw
        (try dsimp only at hSw)
        go_simp
        try with_reducible rfl
      (try simp only [Act.put, List.getElem_toArray, List.getElem_cons_succ, List.getElem_cons_zero, List.setIfInBounds_toArray, List.set_cons_zero, List.set_cons_succ])
      refine wpAnyH_ready (rs := [14]) (by kernel_rfl) (by simp) ?_
      refine AllReadyH.cons rfl (fun K hK => ?_) AllReadyH.nil
      clear a0 a1 a2 a3 f0 f1 f2 f3 d1 d2
      obtain ⟨a0, a1, a2, a3, f0, f1, f2, f3⟩ := blk4 hgb
      clear hgb
      go_simp
      refine hK.out _ _ ?_ (fun hHeld => ?_)
      · (try dsimp only)
        exact Lib.hid trivial
      clear hK K
      (try simp only [Act.put, List.getElem_toArray, List.getElem_cons_succ, List.getElem_cons_zero, List.setIfInBounds_toArray, List.set_cons_zero, List.set_cons_succ])
      refine wpAnyH_done (by kernel_rfl) ?_ _
      generalize w1.setCell { block := g, off := 2 } (Value.slice A1 (l.length + 1) c1) = w2 at HP ⊢
      clear a0 a1 a2 a3 f0 f1 f2 f3
      obtain ⟨a0, a1, a2, a3, f0, f1, f2, f3⟩ := HP.out.1.blk
      go_wp2
      refine bodyPost_end (v := .tuple #[]) (results_none rfl _ _ _) rfl ?_
      exact tell_end HK.out HP.out
    · go_simp
      refine hK.out _ _ ?_ (fun hHeld => ?_)
      · (try dsimp only)
        exact Lib.hid trivial
      clear hK K
      (try simp only [Act.put, List.getElem_toArray, List.getElem_cons_succ, List.getElem_cons_zero, List.setIfInBounds_toArray, List.set_cons_zero, List.set_cons_succ])
      refine wpAnyH_ready (rs := [4]) (by kernel_rfl) (by simp) ?_
      refine AllReadyH.cons rfl (fun K hK => ?_) AllReadyH.nil
      go_simp
      refine hK.out _ _ ?_ (fun hHeld => ?_)
      · (try dsimp only)
        exact Lib.hid trivial
      clear hK K
      (try simp only [Act.put, List.getElem_toArray, List.getElem_cons_succ, List.getElem_cons_zero, List.setIfInBounds_toArray, List.set_cons_zero, List.set_cons_succ])
      refine wpAnyH_ready (rs := [11]) (by kernel_rfl) (by simp) ?_
      refine AllReadyH.cons rfl (fun K hK => ?_) AllReadyH.nil
      rw [if_pos (by rfl)]
      refine wp_app_off_op (.tmp 11) (.tmp 17) 52 42 _ 3 40 Tryd.underlying52 info_item rfl (by omega) rfl (.slice A l.length c) _ l.length 1 (cellsF l bs) _ (by simp [go_sem]) (by simp [go_sem]) (HB.out.over ((bself w).drew.alloc (Nat.le_refl _) _)).hi (Seq.lit_ w.drew [Value.int IntKind.i64 (k : Int), Value.int IntKind.u8 0, Value.slice none 0 0] _) (by simp [Value.oneCell']) (by have := HL.out; omega) ?_
      intro v1 w1 hg1
      obtain ⟨A1, c1, rfl, _⟩ := hg1.own.open_
      have hgb := HB.out.push_g ((bself w).drew.alloc (Nat.le_refl _) _) hg1
      have HP := Lib.hid (HB.out.push (x := ⟨k, 0, []⟩) (b := .slice none 0 0) ((bself w).drew.alloc (Nat.le_refl _) _) hg1 rfl rfl (.inl ⟨rfl, none, 0, rfl, fun _ => rfl⟩) (fun j hj => by simp [Value.ownBlock] at hj) (fun u _ j _ hj => by simp [Value.ownBlock] at hj))
      clear hg1
      refine hK.out _ _ ?_ (fun hHeld => ?_)
      · (try dsimp only)
        exact Lib.hid trivial
      clear hK K
      (try simp only [Act.put, List.getElem_toArray, List.getElem_cons_succ, List.getElem_cons_zero, List.setIfInBounds_toArray, List.set_cons_zero, List.set_cons_succ])
      refine wpAnyH_take (i := 12) (v := ?_) rfl (by kernel_rfl) (by kernel_rfl) (by kernel_rfl) (fun _ _ _ h => h) (Or.inl ⟨by rfl, ?_⟩) (by assumption) ?_
      rotate_left
      · intro w hSw
        (try dsimp only at hSw)
        go_simp
        try with_reducible rfl
      (try simp only [Act.put, List.getElem_toArray, List.getElem_cons_succ, List.getElem_cons_zero, List.setIfInBounds_toArray, List.set_cons_zero, List.set_cons_succ])
      refine wpAnyH_take (i := 13) (v := ?_) rfl (by kernel_rfl) (by kernel_rfl) (by kernel_rfl) (fun _ _ _ h => h) (Or.inl ⟨by rfl, ?_⟩) (by assumption) ?_
      rotate_left
      · intro w hSw
        (try dsimp only at hSw)
        go_simp
        try with_reducible rfl
      (try simp only [Act.put, List.getElem_toArray, List.getElem_cons_succ, List.getElem_cons_zero, List.setIfInBounds_toArray, List.set_cons_zero, List.set_cons_succ])
      refine wpAnyH_ready (rs := [14]) (by kernel_rfl) (by simp) ?_
      refine AllReadyH.cons rfl (fun K hK => ?_) AllReadyH.nil
      clear a0 a1 a2 a3 f0 f1 f2 f3 d1 d2
      obtain ⟨a0, a1, a2, a3, f0, f1, f2, f3⟩ := blk4 hgb
      clear hgb
      go_simp
      refine hK.out _ _ ?_ (fun hHeld => ?_)
      · (try dsimp only)
        exact Lib.hid trivial
      clear hK K
      (try simp only [Act.put, List.getElem_toArray, List.getElem_cons_succ, List.getElem_cons_zero, List.setIfInBounds_toArray, List.set_cons_zero, List.set_cons_succ])
      refine wpAnyH_done (by kernel_rfl) ?_ _
      generalize w1.setCell { block := g, off := 2 } (Value.slice A1 (l.length + 1) c1) = w2 at HP ⊢
      clear a0 a1 a2 a3 f0 f1 f2 f3
      obtain ⟨a0, a1, a2, a3, f0, f1, f2, f3⟩ := HP.out.1.blk
      go_wp2
      refine bodyPost_end (v := .tuple #[]) (results_none rfl _ _ _) rfl ?_
      exact tell_end HK.out HP.out

set_option maxRecDepth 100000 in
theorem tells_zero (g : Nat) (hv iv : Value) (l : List It) (bs : List Value) (ov : Bool) (w : World) (hB : Box w g hv 0 iv l bs ov) :
    Calls Tryd.prog 34 #[.pointer (some ⟨g, 0, none⟩)] w (TellDid g hv 0 iv l bs ov w) := by
  have HB := Lib.hid hB
  obtain ⟨a0, a1, a2, a3, f0, f1, f2, f3⟩ := hB.blk
  clear hB
  go_enter Tryd.func34, Tryd.ntmps34
  go_wp2
  refine bodyPost_end (v := .tuple #[]) (results_none rfl _ _ _) rfl ?_
  exact ⟨iv, bs, rfl, by rw [show l ++ skipI 0 = l by simp [skipI]]; exact Stepped.refl HB.out⟩

theorem tells_any (g k : Nat) (hv iv : Value) (l : List It) (bs : List Value) (ov : Bool) (w : World) (hB : Box w g hv k iv l bs ov) (hl : l.length ≤ 1000000) :
    Calls Tryd.prog 34 #[.pointer (some ⟨g, 0, none⟩)] w (TellDid g hv k iv l bs ov w) := by
  by_cases h0 : 0 < k
  · exact tells_pos g k hv iv l bs ov w hB h0 hl
  · obtain rfl : k = 0 := by omega
    exact tells_zero g hv iv l bs ov w hB
end Go.Proofs.YtpgainalimmecaaDoor
