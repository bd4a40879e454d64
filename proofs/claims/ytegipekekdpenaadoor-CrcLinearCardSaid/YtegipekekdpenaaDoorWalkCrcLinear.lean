/-
  The walk of the law CrcLinear.
-/
import Derived.Test.YtegipekekdpenaaDoorWalkCrcZero
import Derived.Test.YtegipekekdpenaaDoorFlat
import Derived.Deep.RegionHeld3
namespace Go.Proofs.YtegipekekdpenaaDoor
open Go.RowKit
set_option linter.unusedVariables false

/-- Three slices of the call's own, and what was there before. -/
def Three (W w : World) (base : Nat) (a b c : Value) (la lb lc : List UInt8) : Prop :=
  Owns w base a la ∧ Owns w base b lb ∧ Owns w base c lc ∧ Apart a b ∧ Apart a c ∧ Apart b c ∧ Below base W w ∧ base ≤ w.heap.size
theorem Three.alloc {W w : World} {base : Nat} {a b c : Value} {la lb lc : List UInt8} (h : Three W w base a b c la lb lc) (o : Obj) : Three W (w.alloc o) base a b c la lb lc := by
  obtain ⟨h1, h2, h3, h4, h5, h6, h7, h8⟩ := h
  exact ⟨h1.alloc o, h2.alloc o, h3.alloc o, h4, h5, h6, h7.alloc h8 o, by simp; omega⟩
theorem Three.drew {W w : World} {base : Nat} {a b c : Value} {la lb lc : List UInt8} (h : Three W w base a b c la lb lc) : Three W w.drew base a b c la lb lc := by
  obtain ⟨h1, h2, h3, h4, h5, h6, h7, h8⟩ := h
  exact ⟨h1.below_ fun _ _ => rfl, h2.below_ fun _ _ => rfl, h3.below_ fun _ _ => rfl, h4, h5, h6, h7.drew, h8⟩
theorem Three.first {W w w' : World} {base : Nat} {a b c a' : Value} {la lb lc m : List UInt8} (h : Three W w base a b c la lb lc) (hp : Pushed w base a a' m w') : Three W w' base a' b c m lb lc := by
  obtain ⟨h1, h2, h3, h4, h5, h6, h7, h8⟩ := h
  obtain ⟨k1, k2⟩ := hp.other h2 h4
  obtain ⟨k3, k4⟩ := hp.other h3 h5
  exact ⟨hp.1, k1, k3, k2, k4, h6, h7.trans hp.2.2.2, Nat.le_trans h8 hp.2.2.2.size⟩
theorem Three.second {W w w' : World} {base : Nat} {a b c b' : Value} {la lb lc m : List UInt8} (h : Three W w base a b c la lb lc) (hp : Pushed w base b b' m w') : Three W w' base a b' c la m lc := by
  obtain ⟨h1, h2, h3, h4, h5, h6, h7, h8⟩ := h
  obtain ⟨k1, k2⟩ := hp.other h1 h4.symm
  obtain ⟨k3, k4⟩ := hp.other h3 h6
  exact ⟨k1, hp.1, k3, k2.symm, h5, k4, h7.trans hp.2.2.2, Nat.le_trans h8 hp.2.2.2.size⟩
theorem Three.third {W w w' : World} {base : Nat} {a b c c' : Value} {la lb lc m : List UInt8} (h : Three W w base a b c la lb lc) (hp : Pushed w base c c' m w') : Three W w' base a b c' la lb m := by
  obtain ⟨h1, h2, h3, h4, h5, h6, h7, h8⟩ := h
  obtain ⟨k1, k2⟩ := hp.other h1 h5.symm
  obtain ⟨k3, k4⟩ := hp.other h2 h6.symm
  exact ⟨k1, k3, hp.1, h4, k2.symm, k4.symm, h7.trans hp.2.2.2, Nat.le_trans h8 hp.2.2.2.size⟩

theorem linear_end (ps : List (UInt8 × UInt8)) : sumC (ps.map (·.1)) ^^^ sumC (ps.map (·.2)) ^^^ sumC (List.replicate ps.length 0) = sumC (ps.map fun p => p.1 ^^^ p.2) := by
  have h := sumC_linear (ps.map (·.1)) (ps.map (·.2)) (by simp)
  rw [List.length_map] at h
  rw [h]
  congr 1
  induction ps with
  | nil => rfl
  | cons p ps ih => simp [ih (by simpa using sumC_linear (ps.map (·.1)) (ps.map (·.2)) (by simp))]

theorem pair_cells {W w : World} {b off : Nat} {ps : List (UInt8 × UInt8)} {p q : UInt8} {k : Nat} (hc : ∀ i u, (bc (flat ps))[i]? = some u → W.cell? ⟨b, off + i, none⟩ = some u) (hB : b < W.heap.size) (hb : Below W.heap.size W w) (hk : k < ps.length) (hp : ps[k] = (p, q)) :
    w.cell? ⟨b, off + k * 2, none⟩ = some (.int .u8 (p.toNat : Int)) ∧ w.cell? ⟨b, off + k * 2 + 1, none⟩ = some (.int .u8 (q.toNat : Int)) := by
  obtain ⟨h1, h2⟩ := flat_get ps k hk
  rw [hp] at h1 h2
  refine ⟨(hb.cell (p := ⟨b, off + k * 2, none⟩) hB).trans ?_, (hb.cell (p := ⟨b, off + k * 2 + 1, none⟩) hB).trans ?_⟩
  · rw [show off + k * 2 = off + 2 * k by omega]
    exact hc _ _ (by simp [bc, h1])
  · rw [show off + k * 2 + 1 = off + (2 * k + 1) by omega]
    exact hc _ _ (by simp [bc, h2])
theorem lin_S {W w' : World} {b off : Nat} {ps : List (UInt8 × UInt8)} {p q : UInt8} {k : Nat} (hc : ∀ i u, (bc (flat ps))[i]? = some u → W.cell? ⟨b, off + i, none⟩ = some u) (hB : b < W.heap.size) (hb : Below W.heap.size W w') (hk : k < ps.length) (hp : ps[k] = (p, q)) :
    w'.cell? ⟨b, off + k * 2, none⟩ = some (.int .u8 (p.toNat : Int)) ∧ w'.cell? ⟨b, off + k * 2 + 1, none⟩ = some (.int .u8 (q.toNat : Int)) ∧ Hid (Below W.heap.size W w') :=
  ⟨(pair_cells hc hB hb hk hp).1, (pair_cells hc hB hb hk hp).2, Lib.hid hb⟩
theorem take_map {α : Type} (f : UInt8 × UInt8 → α) (ps : List (UInt8 × UInt8)) (k : Nat) (h : k < ps.length) {x : UInt8 × UInt8} (hx : ps[k] = x) : (ps.take (k + 1)).map f = (ps.take k).map f ++ [f x] := by
  rw [List.take_succ_eq_append_getElem h, List.map_append, hx]; rfl
theorem new_cell (w : World) (u : Value) (t : TypeId) : (w.alloc (.cells #[u] t)).cell? ⟨w.heap.size, 0, none⟩ = some u := by
  rw [heap_cell (heap_alloc_new w _)]; rfl

set_option maxRecDepth 100000 in
set_option maxHeartbeats 1000000 in
theorem crcLinear_core (A : Option Addr) (c : Nat) (ps : List (UInt8 × UInt8)) (W : World) (hT : Tabs W) (hR : Row W W.heap.size A (bc (flat ps))) (hl : ps.length ≤ 300) :
    Calls Tryd.prog 5 #[.slice A ps.length c] W fun e w' => e = .returned (.bool true) ∧ Below W.heap.size W w' := by
  have HT := Lib.hid hT
  have HR := Lib.hid hR
  have HL := Lib.hid hl
  clear hT hR
  go_enter Tryd.func5, Tryd.ntmps5
  go_wp2_with (go_at_call 8; ((with_reducible refine (awake3_any W HT.out).mono ?_); rintro e w1 ⟨rfl, hb1⟩; have HB1 := Lib.hid hb1; obtain ⟨w2, hmk, ho2, hb2⟩ := make_zeros w1 w1.heap.size ps.length (by have := HL.out; omega) (Nat.le_refl _); have HO2 := Lib.hid ho2; have HB2 := Lib.hid (bstep HB1.out hb2); clear hb1 ho2 hb2))
  go_loopw [4, 5, 6, 8] (fun a b c i wr => ∃ k : Nat, k ≤ ps.length ∧ i = .int .i64 k ∧ Hid (Three w2 wr w2.heap.size a b c ((ps.take k).map (·.1)) ((ps.take k).map (·.2)) ((ps.take k).map fun p => p.1 ^^^ p.2))) (fun _ _ _ i _ => ps.length - (intOf i).toNat)
  case atStart => exact ⟨0, Nat.zero_le _, rfl, Lib.hid ⟨Owns.none_ _ _, Owns.none_ _ _, Owns.none_ _ _, Apart.none_ _, Apart.none_ _, Apart.none_ _, Below.refl _ _, Nat.le_refl _⟩⟩
  case round =>
    obtain ⟨k, hk, rfl, H3⟩ := hrel
    by_cases hlt : k < ps.length
    · obtain ⟨b, off, rfl, hbB, hc⟩ := HR.out (by intro e; have := congrArg List.length e; rw [bc_length, flat_length] at this; simp at this; omega)
      have HC := Lib.hid hc
      clear hc
      obtain ⟨p, q, hpq⟩ : ∃ p q, ps[k] = (p, q) := ⟨_, _, rfl⟩
      have HPQ := Lib.hid hpq
      have HW := Lib.hid (HB2.out.trans (H3.out.2.2.2.2.2.2.1.mono HB2.out.size))
      obtain ⟨c0, c1⟩ := pair_cells HC.out hbB HW.out hlt hpq
      have HF : Hid (k ≤ 300) := Lib.hid (by have := HL.out; omega)
      clear hpq
      go_wp2_with (first
        | (at_builtin; refine wp_push_at rfl (.tmp 24) (.tmp 30) rfl w2.heap.size _ _ p _ 1 wr.heap.size rfl (H3.out.alloc _).1 rfl (new_cell _ _ _) rfl (Fits.of (by have := HF.out; simp; omega)) (by have := H3.out.2.2.2.2.2.2.2; simp; omega) ?_; intro v1 wa hp1; have T1 := Lib.hid ((H3.out.alloc _).first hp1); have HWa := Lib.hid (HB2.out.trans (T1.out.2.2.2.2.2.2.1.mono HB2.out.size)); obtain ⟨d0, d1⟩ := pair_cells HC.out hbB HWa.out hlt HPQ.out; clear hp1 c0 c1)
        | (at_builtin; refine wp_push_at rfl (.tmp 32) (.tmp 38) rfl w2.heap.size _ _ q _ 1 wa.heap.size rfl (T1.out.alloc _).2.1 rfl (new_cell _ _ _) rfl (Fits.of (by have := HF.out; simp; omega)) (by have := T1.out.2.2.2.2.2.2.2; simp; omega) ?_; intro v2 wb hp2; have T2 := Lib.hid ((T1.out.alloc _).second hp2); have HWb := Lib.hid (HB2.out.trans (T2.out.2.2.2.2.2.2.1.mono HB2.out.size)); obtain ⟨e0, e1⟩ := pair_cells HC.out hbB HWb.out hlt HPQ.out; clear hp2 d0 d1))
      obtain ⟨r, hr0⟩ : ∃ r : UInt8, r = p ^^^ q := ⟨_, rfl⟩
      have HRR := Lib.hid hr0
      obtain ⟨r, hr0⟩ : ∃ r : UInt8, r = p ^^^ q := ⟨_, rfl⟩
      have HRR := Lib.hid hr0
      obtain ⟨r, hr0⟩ : ∃ r : UInt8, r = p ^^^ q := ⟨_, rfl⟩
      have HRR := Lib.hid hr0
      obtain ⟨r, hr0⟩ : ∃ r : UInt8, r = p ^^^ q := ⟨_, rfl⟩
      have HRR := Lib.hid hr0
      have hxb : Go.bits .xor .u8 (p.toNat : Int) (q.toNat : Int) = (r.toNat : Int) := by rw [u8_xor_nat _ _ p.toNat_lt q.toNat_lt, hr0, UInt8.toNat_xor]
      clear hr0
      refine wp_region_held_drew (S := fun w' => w'.cell? ⟨b, off + k * 2, none⟩ = some (.int .u8 (p.toNat : Int)) ∧ w'.cell? ⟨b, off + k * 2 + 1, none⟩ = some (.int .u8 (q.toNat : Int)) ∧ Hid (Below W.heap.size W w')) (by kernel_rfl) ?_ (fun hHeld => ?_)
      · (try dsimp only)
        exact lin_S HC.out hbB HWb.out.drew hlt HPQ.out
      refine wpAnyH_take (i := 0) (v := ?_) rfl (by kernel_rfl) (by kernel_rfl) (by kernel_rfl) (fun _ _ _ h => h) (Or.inl ⟨by rfl, ?_⟩) (by assumption) ?_
      rotate_left
      · intro w hSw
        (try dsimp only at hSw)
        go_simp
        try with_reducible rfl
      (try simp only [Act.put, List.getElem_toArray, List.getElem_cons_zero, List.setIfInBounds_toArray, List.set_cons_zero, List.set_cons_succ])
      refine wpAnyH_take (i := 1) (v := ?_) rfl (by kernel_rfl) (by kernel_rfl) (by kernel_rfl) (fun _ _ _ h => h) (Or.inl ⟨by rfl, ?_⟩) (by assumption) ?_
      rotate_left
      · intro w hSw
        (try dsimp only at hSw)
        go_simp
        try with_reducible rfl
      (try simp only [Act.put, List.getElem_toArray, List.getElem_cons_succ, List.getElem_cons_zero, List.setIfInBounds_toArray, List.set_cons_zero, List.set_cons_succ])
      refine wpAnyH_take (i := 2) (v := ?_) rfl (by kernel_rfl) (by kernel_rfl) (by kernel_rfl) (fun _ _ _ h => h) (Or.inl ⟨by rfl, ?_⟩) (by assumption) ?_
      rotate_left
      · intro w hSw
        (try dsimp only at hSw)
        go_simp
        try with_reducible rfl
      (try simp only [Act.put, List.getElem_toArray, List.getElem_cons_succ, List.getElem_cons_zero, List.setIfInBounds_toArray, List.set_cons_zero, List.set_cons_succ])
      refine wpAnyH_take (i := 3) (v := ?_) rfl (by kernel_rfl) (by kernel_rfl) (by kernel_rfl) (fun _ _ _ h => h) (Or.inl ⟨by rfl, ?_⟩) (by assumption) ?_
      rotate_left
      · intro w hSw
        (try dsimp only at hSw)
        go_simp
        try with_reducible rfl
      (try simp only [Act.put, List.getElem_toArray, List.getElem_cons_succ, List.getElem_cons_zero, List.setIfInBounds_toArray, List.set_cons_zero, List.set_cons_succ])
      refine wpAnyH_take (i := 4) (v := ?_) rfl (by kernel_rfl) (by kernel_rfl) (by kernel_rfl) (fun _ _ _ h => h) (Or.inl ⟨by rfl, ?_⟩) (by assumption) ?_
      rotate_left
      · intro w hSw
        (try dsimp only at hSw)
        go_simp
        try with_reducible rfl
      (try simp only [Act.put, List.getElem_toArray, List.getElem_cons_succ, List.getElem_cons_zero, List.setIfInBounds_toArray, List.set_cons_zero, List.set_cons_succ])
      refine wpAnyH_take (i := 5) (v := ?_) rfl (by kernel_rfl) (by kernel_rfl) (by kernel_rfl) (fun _ _ _ h => h) (Or.inl ⟨by rfl, ?_⟩) (by assumption) ?_
      rotate_left
      · intro w hSw
        (try dsimp only at hSw)
        go_simp
        try with_reducible rfl
      (try simp only [Act.put, List.getElem_toArray, List.getElem_cons_succ, List.getElem_cons_zero, List.setIfInBounds_toArray, List.set_cons_zero, List.set_cons_succ])
      refine wpAnyH_take (i := 6) (v := ?_) rfl (by kernel_rfl) (by kernel_rfl) (by kernel_rfl) (fun _ _ _ h => h) (Or.inl ⟨by rfl, ?_⟩) (by assumption) ?_
      rotate_left
      · intro w hSw
        (try dsimp only at hSw)
        go_simp
        try with_reducible rfl
      (try simp only [Act.put, List.getElem_toArray, List.getElem_cons_succ, List.getElem_cons_zero, List.setIfInBounds_toArray, List.set_cons_zero, List.set_cons_succ])
      refine wpAnyH_take (i := 7) (v := ?_) rfl (by kernel_rfl) (by kernel_rfl) (by kernel_rfl) (fun _ _ _ h => h) (Or.inl ⟨by rfl, ?_⟩) (by assumption) ?_
      rotate_left
      · intro w hSw
        (try dsimp only at hSw)
        go_simp
        try with_reducible rfl
      (try simp only [Act.put, List.getElem_toArray, List.getElem_cons_succ, List.getElem_cons_zero, List.setIfInBounds_toArray, List.set_cons_zero, List.set_cons_succ])
      refine wpAnyH_take (i := 8) (v := ?_) rfl (by kernel_rfl) (by kernel_rfl) (by kernel_rfl) (fun _ _ _ h => h) (Or.inl ⟨by rfl, ?_⟩) (by assumption) ?_
      rotate_left
      · intro w hSw
        (try dsimp only at hSw)
        go_simp
        try with_reducible rfl
      (try simp only [Act.put, List.getElem_toArray, List.getElem_cons_succ, List.getElem_cons_zero, List.setIfInBounds_toArray, List.set_cons_zero, List.set_cons_succ])
      refine wpAnyH_take (i := 9) (v := ?_) rfl (by kernel_rfl) (by kernel_rfl) (by kernel_rfl) (fun _ _ _ h => h) (Or.inl ⟨by rfl, ?_⟩) (by assumption) ?_
      rotate_left
      · intro w hSw
        (try dsimp only at hSw)
        go_simp
        try with_reducible rfl
      (try simp only [Act.put, List.getElem_toArray, List.getElem_cons_succ, List.getElem_cons_zero, List.setIfInBounds_toArray, List.set_cons_zero, List.set_cons_succ])
      refine wpAnyH_take (i := 10) (v := ?_) rfl (by kernel_rfl) (by kernel_rfl) (by kernel_rfl) (fun _ _ _ h => h) (Or.inl ⟨by rfl, ?_⟩) (by assumption) ?_
      rotate_left
      · intro w hSw
        (try dsimp only at hSw)
        go_simp
        try with_reducible rfl
      (try simp only [Act.put, List.getElem_toArray, List.getElem_cons_succ, List.getElem_cons_zero, List.setIfInBounds_toArray, List.set_cons_zero, List.set_cons_succ])
      refine wpAnyH_take (i := 11) (v := ?_) rfl (by kernel_rfl) (by kernel_rfl) (by kernel_rfl) (fun _ _ _ h => h) (Or.inl ⟨by rfl, ?_⟩) (by assumption) ?_
      rotate_left
      · intro w hSw
        (try dsimp only at hSw)
        go_simp
        try with_reducible rfl
      (try simp only [Act.put, List.getElem_toArray, List.getElem_cons_succ, List.getElem_cons_zero, List.setIfInBounds_toArray, List.set_cons_zero, List.set_cons_succ])
      refine wpAnyH_ready (rs := [12]) (by kernel_rfl) (by simp) ?_
      refine AllReadyH.cons rfl (fun K hK => ?_) AllReadyH.nil
      go_simp
      have hS := lin_S HC.out hbB (HWb.out.drew.alloc HWb.out.size (.cells #[.int .u8 (r.toNat : Int)] 5)) hlt HPQ.out
      refine hK.out _ _ ?_ (fun hHeld => ?_)
      · (try dsimp only)
        exact hS
      clear hK K
      (try simp only [Act.put, List.getElem_toArray, List.getElem_cons_succ, List.getElem_cons_zero, List.setIfInBounds_toArray, List.set_cons_zero, List.set_cons_succ])
      refine wpAnyH_ready (rs := [13]) (by kernel_rfl) (by simp) ?_
      refine AllReadyH.cons rfl (fun K hK => ?_) AllReadyH.nil
      rw [if_pos (by rfl)]
      refine wp_push_op (.tmp 40) (.tmp 52) rfl w2.heap.size _ _ r _ 1 wb.heap.size rfl (T2.out.drew.alloc _).2.2.1 rfl (by simp [go_sem]) rfl (Fits.of (by have := HF.out; simp; omega)) (by have := T2.out.2.2.2.2.2.2.2; simp; omega) ?_
      intro v3 wc hp3
      have T3 := Lib.hid ((T2.out.drew.alloc _).third hp3)
      have HWc := Lib.hid (HB2.out.trans (T3.out.2.2.2.2.2.2.1.mono HB2.out.size))
      have hS3 := lin_S HC.out hbB HWc.out hlt HPQ.out
      clear hp3
      refine hK.out _ _ ?_ (fun hHeld => ?_)
      · (try dsimp only)
        exact hS3
      clear hK K
      (try simp only [Act.put, List.getElem_toArray, List.getElem_cons_succ, List.getElem_cons_zero, List.setIfInBounds_toArray, List.set_cons_zero, List.set_cons_succ])
      refine wpAnyH_take (i := 14) (v := ?_) rfl (by kernel_rfl) (by kernel_rfl) (by kernel_rfl) (fun _ _ _ h => h) (Or.inl ⟨by rfl, ?_⟩) (by assumption) ?_
      rotate_left
      · intro w hSw
        (try dsimp only at hSw)
        go_simp
        try with_reducible rfl
      (try simp only [Act.put, List.getElem_toArray, List.getElem_cons_succ, List.getElem_cons_zero, List.setIfInBounds_toArray, List.set_cons_zero, List.set_cons_succ])
      refine wpAnyH_done (by kernel_rfl) ?_ _
      go_wp2
      go_roundw
      case rel => exact ⟨k + 1, by omega, by go_num, Lib.hid (by rw [take_map _ ps k hlt HPQ.out, take_map _ ps k hlt HPQ.out, take_map _ ps k hlt HPQ.out]; have t3 := T3.out; rw [HRR.out] at t3; exact t3)⟩
      case measure => simp [intOf]; omega
    · obtain rfl : k = ps.length := by omega
      have h3 := H3.out
      rw [List.take_length] at h3
      obtain ⟨oa, ob, oc, _, _, _, hb3, _⟩ := h3
      obtain ⟨Aa, ca, rfl, hra, _, _⟩ := lies_row oa.lies
      obtain ⟨Ab, cb, rfl, hrb, _, _⟩ := lies_row ob.lies
      obtain ⟨Ac, cc, rfl, hrc, _, _⟩ := lies_row oc.lies
      obtain ⟨Az, cz, hz, hrz, _, _⟩ := lies_row HO2.out.lies
      obtain ⟨rfl, _⟩ : Az = some ⟨w1.heap.size, 0, none⟩ ∧ cz = ps.length := by
        rw [List.length_replicate] at hz
        simp only [Value.slice.injEq] at hz
        exact ⟨hz.1.symm, hz.2.2.symm⟩
      have HRz := Lib.hid ((hrz.below_ hb3).more hb3.size)
      have HRa := Lib.hid hra
      have HRb := Lib.hid hrb
      have HRc := Lib.hid hrc
      have HWr := Lib.hid (HB2.out.trans (hb3.mono HB2.out.size))
      have hE := linear_end ps
      obtain ⟨sa, hsa⟩ : ∃ n, sumC (ps.map (·.1)) = n := ⟨_, rfl⟩
      obtain ⟨sb, hsb⟩ : ∃ n, sumC (ps.map (·.2)) = n := ⟨_, rfl⟩
      obtain ⟨sz, hsz⟩ : ∃ n, sumC (List.replicate ps.length 0) = n := ⟨_, rfl⟩
      obtain ⟨x, hx⟩ : ∃ n, sa ^^^ sb = n := ⟨_, rfl⟩
      obtain ⟨y, hy⟩ : ∃ n, x ^^^ sz = n := ⟨_, rfl⟩
      have la : sa < 16777216 := by rw [← hsa]; exact sumC_lt _
      have lb : sb < 16777216 := by rw [← hsb]; exact sumC_lt _
      have lz : sz < 16777216 := by rw [← hsz]; exact sumC_lt _
      have lx : x < 16777216 := by rw [← hx]; exact xor_lt la lb
      rw [hsa, hsb, hsz, hx, hy] at hE
      have x1 : Go.bits .xor .u32 (sa : Int) (sb : Int) = (x : Int) := by rw [u32_xor_nat _ _ (by omega) (by omega), hx]
      have x2 : Go.bits .xor .u32 (x : Int) (sz : Int) = (y : Int) := by rw [u32_xor_nat _ _ (by omega) (by omega), hy]
      have E1 := Lib.hid hsa
      have E2 := Lib.hid hsb
      have E3 := Lib.hid hsz
      have E4 := Lib.hid hE.symm
      have HN := Lib.hid (show ∀ f : UInt8 × UInt8 → UInt8, (ps.map f).length = ps.length from fun f => List.length_map _)
      have HM := Lib.hid (show ∀ f : UInt8 × UInt8 → UInt8, (ps.map f).length ≤ 1000000 from fun f => by rw [List.length_map]; omega)
      clear hra hrb hrc hrz hz hsa hsb hsz hx hy hE oa ob oc hb3 la lb lz lx H3
      rw [HN.out, HN.out, HN.out]
      go_wp2_with (first
        | (go_at_call 11; ((with_reducible refine (csum_n W HT.out Aa ca ps.length (ps.map (·.1)) wr (HN.out _) HWr.out HRa.out (HM.out _) E1.out).mono ?_); rintro e v1 ⟨rfl, hb⟩; have F1 := Lib.hid hb; clear hb))
        | (go_at_call 11; ((with_reducible refine (csum_n W HT.out Ab cb ps.length (ps.map (·.2)) v1 (HN.out _) (bstep HWr.out F1.out) ((HRb.out.below_ F1.out).more F1.out.size) (HM.out _) E2.out).mono ?_); rintro e v2 ⟨rfl, hb⟩; have F2 := Lib.hid (bstep F1.out hb); clear hb))
        | (go_at_call 11; ((with_reducible refine (csum_n W HT.out _ ps.length ps.length (List.replicate ps.length 0) v2 List.length_replicate (bstep HWr.out F2.out) ((HRz.out.below_ F2.out).more F2.out.size) (by rw [List.length_replicate]; have := HL.out; omega) E3.out).mono ?_); rintro e v3 ⟨rfl, hb⟩; have F3 := Lib.hid (bstep F2.out hb); clear hb))
        | (go_at_call 11; ((with_reducible refine (csum_n W HT.out Ac cc ps.length (ps.map fun p => p.1 ^^^ p.2) v3 (HN.out _) (bstep HWr.out F3.out) ((HRc.out.below_ F3.out).more F3.out.size) (HM.out _) E4.out).mono ?_); rintro e v4 ⟨rfl, hb⟩; have F4 := Lib.hid (bstep HWr.out (bstep F3.out hb)); clear hb)))
      go_ret
      exact ⟨rfl, F4.out⟩

set_option maxRecDepth 100000 in
theorem crcLinear_walk (A : Option Addr) (c : Nat) (ps : List (UInt8 × UInt8)) (W : World) (hT : Tabs W) (hlc : ps.length ≤ c) (hA : A = none → c = 0) (hR : Row W W.heap.size A (bc (flat ps))) :
    Calls Tryd.prog 5 #[.slice A ps.length c] W fun e w' => e = .returned (.bool true) ∧ Below W.heap.size W w' := by
  by_cases hl : ps.length ≤ 300
  · exact crcLinear_core A c ps W hT hR hl
  · have HT := Lib.hid hT
    go_enter Tryd.func5, Tryd.ntmps5
    go_wp2_with (go_at_call 8; ((with_reducible refine (awake3_any W HT.out).mono ?_); rintro e w1 ⟨rfl, hb1⟩; have HB1 := Lib.hid hb1; clear hb1))
    go_ret
    exact ⟨rfl, HB1.out⟩
end Go.Proofs.YtegipekekdpenaaDoor
