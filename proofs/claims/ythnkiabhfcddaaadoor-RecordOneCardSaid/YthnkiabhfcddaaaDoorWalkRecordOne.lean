/-
  The walk of the law RecordOne.
-/
import Derived.Test.YthnkiabhfcddaaaDoorPackT
import Derived.Deep.RegionHeld3
namespace Go.Proofs.YthnkiabhfcddaaaDoor
open Go.RowKit
set_option linter.unusedVariables false

theorem take_bad7 {k : Nat} {b : List UInt8} {r : Rec} {x : Int} (h : takeR k b = (r, x)) (hx : x ≠ 0) : r = noRec := by
  unfold takeR at h
  by_cases h0 : k < 17 ∨ 32 < k
  · rw [if_pos h0] at h
    simp only [Prod.mk.injEq] at h
    exact h.1.symm
  · rw [if_neg h0] at h
    unfold finR at h
    split at h
    · split at h
      · simp only [Prod.mk.injEq] at h
        exact absurd h.2.symm hx
      · simp only [Prod.mk.injEq] at h
        exact h.1.symm
    · simp only [Prod.mk.injEq] at h
      exact h.1.symm
theorem putF_mid7 (kind : UInt8) (body : List UInt8) : ((putF kind body).drop 4).take body.length = body := by
  unfold putF headF
  simp
/-- The middle of bytes. -/
theorem liesB_mid7 {w : World} {B b off n c : Nat} {l : List UInt8} (h : LiesB w B (.slice (some ⟨b, off, none⟩) n c) l) (m : Nat) (hm : 4 + m ≤ l.length) : LiesB w B (.slice (some ⟨b, off + 4, none⟩) m (c - 4)) ((l.drop 4).take m) := by
  have hlen : ((l.drop 4).take m).length = m := by rw [List.length_take, List.length_drop]; omega
  rcases h with ⟨rfl, _⟩ | ⟨b', off', c', e, hl, hB, hc⟩
  · simp at hm
  · simp only [Value.slice.injEq, Option.some.injEq, Addr.mk.injEq] at e
    obtain ⟨⟨rfl, rfl, _⟩, rfl, rfl⟩ := e
    refine .inr ⟨b, off + 4, c - 4, by rw [hlen], by rw [hlen]; omega, hB, fun i hi => ?_⟩
    rw [hlen] at hi
    rw [show off + 4 + i = off + (4 + i) by omega, hc (4 + i) (by omega)]
    simp
/-- What the last test reads. -/
abbrev OneR (W : World) (g : Nat) (r : Rec) (w' : World) : Prop :=
  w'.cell? ⟨g, 0, none⟩ = some (.int .u8 (r.kind : Int)) ∧ w'.cell? ⟨g, 1, none⟩ = some (.int .i64 r.src) ∧ w'.cell? ⟨g, 2, none⟩ = some (.int .u64 (r.seq : Int)) ∧ w'.cell? ⟨g, 3, none⟩ = some (.int .i64 r.at_) ∧ w'.cell? ⟨g, 4, none⟩ = some (.int .i64 r.num) ∧ w'.cell? ⟨g, 5, none⟩ = some (.int .i64 r.code) ∧ w'.cell? ⟨g, 6, none⟩ = some (.bool r.yes) ∧ w'.cell? ⟨g, 7, none⟩ = some (.string (mkB r.text)) ∧ Hid (g < w'.heap.size ∧ Below W.heap.size W w')
section
variable {W w1 w2 : World} {g : Nat} {r : Rec}
theorem oneR_of (hg : RecAt w1 g 0 r) (k : g < w1.heap.size ∧ Below W.heap.size W w1) : OneR W g r w1 := by
  obtain ⟨g0, g1, g2, g3, g4, g5, g6, g7⟩ := hg
  exact ⟨g0, g1, g2, g3, g4, g5, g6, g7, Lib.hid k⟩
theorem oneR_hid (k : OneR W g r w1) : g < w1.heap.size ∧ Below W.heap.size W w1 := k.2.2.2.2.2.2.2.2.out
theorem oneR_at (k : OneR W g r w1) : RecAt w1 g 0 r := by
  obtain ⟨g0, g1, g2, g3, g4, g5, g6, g7, _⟩ := k
  exact ⟨g0, g1, g2, g3, g4, g5, g6, g7⟩
theorem oneR_over (k : OneR W g r w1) (hb : Below w1.heap.size w1 w2) : OneR W g r w2 :=
  oneR_of ((oneR_at k).over (oneR_hid k).1 hb) ⟨Nat.lt_of_lt_of_le (oneR_hid k).1 hb.size, bstep (oneR_hid k).2 hb⟩
theorem oneR_drew (k : OneR W g r w1) : OneR W g r w1.drew := oneR_over k (bself w1).drew
end
set_option maxRecDepth 100000 in
set_option maxHeartbeats 4000000 in
theorem recordOne_any (k : Nat) (A : Option Addr) (n c : Nat) (b : List UInt8) (W : World) (hT : TbR W) (hk : k < 256) (hb : LiesB W W.heap.size (.slice A n c) b) (hn : b.length = n) :
    Calls Tryd.prog 7 #[.int .u8 (k : Int), .slice A n c] W fun e w' => e = .returned (.bool true) ∧ Below W.heap.size W w' := by
  have HA := Lib.hid (awake7_any W hT)
  have HB := Lib.hid hb
  have HN := Lib.hid hn
  by_cases h6 : n ≤ 600
  · have q6 : ¬ (600 : Int) < (n : Int) := by omega
    rcases hr : takeR k b with ⟨r, x⟩
    have HM := Lib.hid (fun w (hW : Below W.heap.size W w) (h : LiesB w w.heap.size (.slice A n c) b) => ctake7_any W hT k _ b w hW h (by omega) hr)
    by_cases hx : x = 0
    · subst hx
      have hx1 : ((0 : Int) != 0) = false := rfl
      obtain ⟨i1, i2, i3, i4⟩ := take_inv7 hr hk
      obtain ⟨pb, hpb⟩ : ∃ pb, putR r = pb := ⟨_, rfl⟩
      have hpe : pb = putF (UInt8.ofNat k) b := by rw [← hpb]; unfold putR; rw [i1, if_pos rfl, i2, i3]
      have hpl : pb.length = n + 7 := by rw [hpe, putF_length, hn]
      have HMID : Hid (((pb.drop 4).take n).length = n) := Lib.hid (by rw [List.length_take, List.length_drop]; omega)
      have HPL : Hid (4 + n ≤ pb.length) := Lib.hid (by omega)
      have hmid : (pb.drop 4).take n = b := by rw [hpe, ← hn]; exact putF_mid7 _ _
      obtain ⟨sb, hsb⟩ : ∃ sb, showR r = sb := ⟨_, rfl⟩
      have hsb0 : sb ≠ [] := by rw [← hsb]; exact show_some i1
      have hss : ((mkB sb).toList != (⟨#[]⟩ : ByteArray).toList) = true := by
        rw [mkB_toList, ByteArray.toList_eq]
        simpa [bne_iff_ne] using hsb0
      have hs2 : ((mkB sb).toList == (⟨#[]⟩ : ByteArray).toList) = false := by simpa [bne] using hss
      have hs3 : (mkB sb).toList.isEmpty = false := by rw [mkB_toList]; cases sb with | nil => exact absurd rfl hsb0 | cons _ _ => rfl
      have HMY := Lib.hid (fun w hW => cmay7_any W hT r w hW i4 i1)
      have HP := Lib.hid (fun w hW => cput7_any W hT r w hW i4 hpb)
      have HSH := Lib.hid (fun w hW => cshow7_any W hT r w hW i4 hsb)
      have hkk : ((r.kind : Int) == (k : Int)) = true := by rw [i2]; simp
      have HBB : Hid (((mkB ((pb.drop 4).take n)).toList == (mkB b).toList) = true) := Lib.hid (by rw [hmid]; simp)
      obtain ⟨L, hL⟩ : ∃ L, pb.length = L := ⟨_, rfl⟩
      rw [hL] at HP
      have hw7 : IntKind.i64.wrap ((n : Int) + 7) = (L : Int) := by rw [IntWalk.i64_in _ (by omega)]; omega
      have hLL : ((L : Int) == (L : Int)) = true := by simp
      obtain ⟨M, hM⟩ : ∃ M, M = 4 + n := ⟨_, rfl⟩
      have hw4 : IntKind.i64.wrap (4 + (n : Int)) = (M : Int) := by rw [IntWalk.i64_in _ (by omega)]; omega
      have hML : M ≤ L := by omega
      have h4M : (4 : Int) ≤ (M : Int) := by omega
      have HM4 : Hid (M - 4 = n) := Lib.hid (by omega)
      have h7L : 7 ≤ L := by omega
      have HLE := Lib.hid hL
      clear hr hk hb hn h6 i1 i2 i3 i4 hpb hpe hpl hmid hsb hsb0 hL hM hT
      go_enter Tryd.func7, Tryd.ntmps7
      go_upto_region 7 with (first
        | (go_at_call 9; (with_reducible refine HA.out.mono ?_); rintro e w1 ⟨rfl, hb⟩; have HB1 := Lib.hid hb; clear hb)
        | (go_at_call 17; (with_reducible refine (HM.out _ HB1.out (HB.out.over (Nat.le_refl _) HB1.out)).mono ?_); rintro e w2 ⟨rfl, hb⟩; have HB2 := Lib.hid (bstep HB1.out hb); clear hb))
      have hS0 : OneR W w2.heap.size r (w2.alloc (recB r 24)) := oneR_of (recAt_blk (heap_alloc_new w2 _)) ⟨by simp, bmore HB2.out _⟩
      have HS0 := Lib.hid hS0
      unfold recB at HS0
      obtain ⟨g, hg⟩ : ∃ g, g = w2.heap.size := ⟨_, rfl⟩
      rw [← hg] at HS0 ⊢
      generalize w2.alloc (Obj.cells #[Value.int IntKind.u8 (r.kind : Int), Value.int IntKind.i64 r.src, Value.int IntKind.u64 (r.seq : Int), Value.int IntKind.i64 r.at_, Value.int IntKind.i64 r.num, Value.int IntKind.i64 r.code, Value.bool r.yes, Value.string (mkB r.text)] 24) = w3 at HS0 ⊢
      clear hg hS0 HB2 HB1
      obtain ⟨m0, m1, m2, m3, m4, m5, m6, m7⟩ := oneR_at HS0.out
      go_upto_region 10 with (go_at_call 13; ((with_reducible refine Calls.mono (HP.out _ (oneR_hid HS0.out).2) ?_); rintro e w7 ⟨G8, z8, rfl, hl, hb⟩; have HS7 := Lib.hid (oneR_over HS0.out hb); have HL := Lib.hid hl; clear hb hl))
      clear m0 m1 m2 m3 m4 m5 m6 m7 HS0
      have HB7 := Lib.hid (HB.out.over (Nat.le_refl _) (oneR_hid HS7.out).2)
      obtain ⟨bp, op, rfl⟩ : ∃ bp op, G8 = some ⟨bp, op, none⟩ := by
        rcases HL.out with ⟨h, _⟩ | ⟨b3, o3, c3, e, _⟩
        · have := HLE.out; rw [h] at this; simp at this; omega
        · simp only [Value.slice.injEq] at e; exact ⟨b3, o3, e.1⟩
      have hLz : L ≤ z8 := by have h := (liesB_slice HL.out).2.1; have := HLE.out; omega
      have hMz : (M : Int) ≤ (z8 : Int) := by omega
      have hz4 : ¬ z8 = 4 := by omega
      have hz5 : ¬ z8 - 4 = 0 := by omega
      have hbb := HBB.out
      have hm4 := HM4.out
      have hS := HS7.out
      unfold OneR at hS
      refine wp_region_held_drew (S := fun w' => w'.cell? ⟨g, 0, none⟩ = some (.int .u8 (r.kind : Int)) ∧ w'.cell? ⟨g, 1, none⟩ = some (.int .i64 r.src) ∧ w'.cell? ⟨g, 2, none⟩ = some (.int .u64 (r.seq : Int)) ∧ w'.cell? ⟨g, 3, none⟩ = some (.int .i64 r.at_) ∧ w'.cell? ⟨g, 4, none⟩ = some (.int .i64 r.num) ∧ w'.cell? ⟨g, 5, none⟩ = some (.int .i64 r.code) ∧ w'.cell? ⟨g, 6, none⟩ = some (.bool r.yes) ∧ w'.cell? ⟨g, 7, none⟩ = some (.string (mkB r.text)) ∧ Hid (g < w'.heap.size ∧ Below W.heap.size W w')) (by kernel_rfl) ?_ (fun hHeld => ?_)
      · (try dsimp only)
        (first | (with_reducible assumption) | (with_reducible exact oneR_drew (by assumption)))
      refine wpAnyH_take (i := 0) (v := ?_) rfl (by kernel_rfl) (by kernel_rfl) (by kernel_rfl) (fun _ _ _ h => h) (Or.inl ⟨by rfl, ?_⟩) (by assumption) ?_
      rotate_left
      · intro w hSw
        (try dsimp only at hSw)
        go_simp
        try with_reducible rfl
      (try simp only [Act.put, List.getElem_toArray, List.getElem_cons_zero, List.setIfInBounds_toArray, List.set_cons_zero, List.set_cons_succ])
      refine wpAnyH_ready (rs := [1]) (by kernel_rfl) (by simp) ?_
      refine AllReadyH.cons rfl (fun K hK => ?_) AllReadyH.nil
      go_simp
      (go_at_call 11; ((with_reducible refine Calls.mono (HMY.out _ ?_) ?_); (exact (oneR_hid (W := W) (g := g) (r := r) (by assumption)).2); rintro e w8 ⟨rfl, hb⟩; have hs_w8 := oneR_over (by assumption) hb; have hc1 := conv_of7 HMID.out (liesB_mid7 (HL.out.over (Nat.le_refl _) ((bself w7).drew.trans (hb.mono (bself w7).drew.size))) n HPL.out); have hc2 := conv_of7 HN.out (HB7.out.over (Nat.le_refl _) ((bself w7).drew.trans (hb.mono (bself w7).drew.size))); clear hb))
      go_wp2_with fail
      refine hK.out _ _ ?_ (fun hHeld => ?_)
      · (try dsimp only)
        (first | (with_reducible assumption) | (with_reducible exact oneR_drew (by assumption)))
      clear hK K
      (try simp only [Act.put, List.getElem_toArray, List.getElem_cons_succ, List.getElem_cons_zero, List.setIfInBounds_toArray, List.set_cons_zero, List.set_cons_succ])
      refine wpAnyH_take (i := 2) (v := ?_) rfl (by kernel_rfl) (by kernel_rfl) (by kernel_rfl) (fun _ _ _ h => h) (Or.inl ⟨by rfl, ?_⟩) (by assumption) ?_
      rotate_left
      · intro w hSw
        (try dsimp only at hSw)
        go_simp
        try with_reducible rfl
      (try simp only [Act.put, List.getElem_toArray, List.getElem_cons_succ, List.getElem_cons_zero, List.setIfInBounds_toArray, List.set_cons_zero, List.set_cons_succ])
      refine wpAnyH_take (i := 3) (v := ?_) rfl (by kernel_rfl) (by kernel_rfl) (by kernel_rfl) (fun _ _ _ h => h) (Or.inl ⟨by rfl, ?_⟩) (by assumption) ?_
      rotate_left
      · intro w hSw
        (try dsimp only at hSw)
        go_simp
        try with_reducible rfl
      (try simp only [Act.put, List.getElem_toArray, List.getElem_cons_succ, List.getElem_cons_zero, List.setIfInBounds_toArray, List.set_cons_zero, List.set_cons_succ])
      refine wpAnyH_take (i := 4) (v := ?_) rfl (by kernel_rfl) (by kernel_rfl) (by kernel_rfl) (fun _ _ _ h => h) (Or.inl ⟨by rfl, ?_⟩) (by assumption) ?_
      rotate_left
      · intro w hSw
        (try dsimp only at hSw)
        go_simp
        try with_reducible rfl
      (try simp only [Act.put, List.getElem_toArray, List.getElem_cons_succ, List.getElem_cons_zero, List.setIfInBounds_toArray, List.set_cons_zero, List.set_cons_succ])
      refine wpAnyH_take (i := 5) (v := ?_) rfl (by kernel_rfl) (by kernel_rfl) (by kernel_rfl) (fun _ _ _ h => h) (Or.inl ⟨by rfl, ?_⟩) (by assumption) ?_
      rotate_left
      · intro w hSw
        (try dsimp only at hSw)
        go_simp
        try with_reducible rfl
      (try simp only [Act.put, List.getElem_toArray, List.getElem_cons_succ, List.getElem_cons_zero, List.setIfInBounds_toArray, List.set_cons_zero, List.set_cons_succ])
      refine wpAnyH_take (i := 6) (v := ?_) rfl (by kernel_rfl) (by kernel_rfl) (by kernel_rfl) (fun _ _ _ h => h) (Or.inl ⟨by rfl, ?_⟩) (by assumption) ?_
      rotate_left
      · intro w hSw
        (try dsimp only at hSw)
        go_simp
        try with_reducible rfl
      (try simp only [Act.put, List.getElem_toArray, List.getElem_cons_succ, List.getElem_cons_zero, List.setIfInBounds_toArray, List.set_cons_zero, List.set_cons_succ])
      refine wpAnyH_take (i := 7) (v := ?_) rfl (by kernel_rfl) (by kernel_rfl) (by kernel_rfl) (fun _ _ _ h => h) (Or.inl ⟨by rfl, ?_⟩) (by assumption) ?_
      rotate_left
      · intro w hSw
        (try dsimp only at hSw)
        go_simp
        try with_reducible rfl
      (try simp only [Act.put, List.getElem_toArray, List.getElem_cons_succ, List.getElem_cons_zero, List.setIfInBounds_toArray, List.set_cons_zero, List.set_cons_succ])
      refine wpAnyH_take (i := 8) (v := ?_) rfl (by kernel_rfl) (by kernel_rfl) (by kernel_rfl) (fun _ _ _ h => h) (Or.inl ⟨by rfl, ?_⟩) (by assumption) ?_
      rotate_left
      · intro w hSw
        (try dsimp only at hSw)
        go_simp
        try with_reducible rfl
      (try simp only [Act.put, List.getElem_toArray, List.getElem_cons_succ, List.getElem_cons_zero, List.setIfInBounds_toArray, List.set_cons_zero, List.set_cons_succ])
      refine wpAnyH_take (i := 9) (v := ?_) rfl (by kernel_rfl) (by kernel_rfl) (by kernel_rfl) (fun _ _ _ h => h) (Or.inl ⟨by rfl, ?_⟩) (by assumption) ?_
      rotate_left
      · intro w hSw
        (try dsimp only at hSw)
        go_simp
        try with_reducible rfl
      (try simp only [Act.put, List.getElem_toArray, List.getElem_cons_succ, List.getElem_cons_zero, List.setIfInBounds_toArray, List.set_cons_zero, List.set_cons_succ])
      refine wpAnyH_take (i := 10) (v := ?_) rfl (by kernel_rfl) (by kernel_rfl) (by kernel_rfl) (fun _ _ _ h => h) (Or.inl ⟨by rfl, ?_⟩) (by assumption) ?_
      rotate_left
      · intro w hSw
        (try dsimp only at hSw)
        go_simp
        try with_reducible rfl
      (try simp only [Act.put, List.getElem_toArray, List.getElem_cons_succ, List.getElem_cons_zero, List.setIfInBounds_toArray, List.set_cons_zero, List.set_cons_succ])
      refine wpAnyH_take (i := 11) (v := ?_) rfl (by kernel_rfl) (by kernel_rfl) (by kernel_rfl) (fun _ _ _ h => h) (Or.inl ⟨by rfl, ?_⟩) (by assumption) ?_
      rotate_left
      · intro w hSw
        (try dsimp only at hSw)
        go_simp
        try with_reducible rfl
      (try simp only [Act.put, List.getElem_toArray, List.getElem_cons_succ, List.getElem_cons_zero, List.setIfInBounds_toArray, List.set_cons_zero, List.set_cons_succ])
      refine wpAnyH_take (i := 12) (v := ?_) rfl (by kernel_rfl) (by kernel_rfl) (by kernel_rfl) (fun _ _ _ h => h) (Or.inl ⟨by rfl, ?_⟩) (by assumption) ?_
      rotate_left
      · intro w hSw
        (try dsimp only at hSw)
        go_simp
        try with_reducible rfl
      (try simp only [Act.put, List.getElem_toArray, List.getElem_cons_succ, List.getElem_cons_zero, List.setIfInBounds_toArray, List.set_cons_zero, List.set_cons_succ])
      refine wpAnyH_take (i := 13) (v := ?_) rfl (by kernel_rfl) (by kernel_rfl) (by kernel_rfl) (fun _ _ _ h => h) (Or.inl ⟨by rfl, ?_⟩) (by assumption) ?_
      rotate_left
      · intro w hSw
        (try dsimp only at hSw)
        go_simp
        try with_reducible rfl
      (try simp only [Act.put, List.getElem_toArray, List.getElem_cons_succ, List.getElem_cons_zero, List.setIfInBounds_toArray, List.set_cons_zero, List.set_cons_succ])
      refine wpAnyH_take (i := 14) (v := ?_) rfl (by kernel_rfl) (by kernel_rfl) (by kernel_rfl) (fun _ _ _ h => h) (Or.inl ⟨by rfl, ?_⟩) (by assumption) ?_
      rotate_left
      · intro w hSw
        (try dsimp only at hSw)
        go_simp
        try with_reducible rfl
      (try simp only [Act.put, List.getElem_toArray, List.getElem_cons_succ, List.getElem_cons_zero, List.setIfInBounds_toArray, List.set_cons_zero, List.set_cons_succ])
      refine wpAnyH_take (i := 15) (v := ?_) rfl (by kernel_rfl) (by kernel_rfl) (by kernel_rfl) (fun _ _ _ h => h) (Or.inl ⟨by rfl, ?_⟩) (by assumption) ?_
      rotate_left
      · intro w hSw
        (try dsimp only at hSw)
        go_simp
        try with_reducible rfl
      (try simp only [Act.put, List.getElem_toArray, List.getElem_cons_succ, List.getElem_cons_zero, List.setIfInBounds_toArray, List.set_cons_zero, List.set_cons_succ])
      refine wpAnyH_take (i := 16) (v := ?_) rfl (by kernel_rfl) (by kernel_rfl) (by kernel_rfl) (fun _ _ _ h => h) (Or.inl ⟨by rfl, ?_⟩) (by assumption) ?_
      rotate_left
      · intro w hSw
        (try dsimp only at hSw)
        go_simp
        try with_reducible rfl
      (try simp only [Act.put, List.getElem_toArray, List.getElem_cons_succ, List.getElem_cons_zero, List.setIfInBounds_toArray, List.set_cons_zero, List.set_cons_succ])
      refine wpAnyH_take (i := 17) (v := ?_) rfl (by kernel_rfl) (by kernel_rfl) (by kernel_rfl) (fun _ _ _ h => h) (Or.inl ⟨by rfl, ?_⟩) (by assumption) ?_
      rotate_left
      · intro w hSw
        (try dsimp only at hSw)
        go_simp
        try with_reducible rfl
      (try simp only [Act.put, List.getElem_toArray, List.getElem_cons_succ, List.getElem_cons_zero, List.setIfInBounds_toArray, List.set_cons_zero, List.set_cons_succ])
      refine wpAnyH_take (i := 18) (v := ?_) rfl (by kernel_rfl) (by kernel_rfl) (by kernel_rfl) (fun _ _ _ h => h) (Or.inl ⟨by rfl, ?_⟩) (by assumption) ?_
      rotate_left
      · intro w hSw
        (try dsimp only at hSw)
        go_simp
        try with_reducible rfl
      (try simp only [Act.put, List.getElem_toArray, List.getElem_cons_succ, List.getElem_cons_zero, List.setIfInBounds_toArray, List.set_cons_zero, List.set_cons_succ])
      refine wpAnyH_take (i := 19) (v := ?_) rfl (by kernel_rfl) (by kernel_rfl) (by kernel_rfl) (fun _ _ _ h => h) (Or.inl ⟨by rfl, ?_⟩) (by assumption) ?_
      rotate_left
      · intro w hSw
        (try dsimp only at hSw)
        go_simp
        try with_reducible rfl
      (try simp only [Act.put, List.getElem_toArray, List.getElem_cons_succ, List.getElem_cons_zero, List.setIfInBounds_toArray, List.set_cons_zero, List.set_cons_succ])
      refine wpAnyH_take (i := 20) (v := ?_) rfl (by kernel_rfl) (by kernel_rfl) (by kernel_rfl) (fun _ _ _ h => h) (Or.inl ⟨by rfl, ?_⟩) (by assumption) ?_
      rotate_left
      · intro w hSw
        (try dsimp only at hSw)
        go_simp
        try with_reducible rfl
      (try simp only [Act.put, List.getElem_toArray, List.getElem_cons_succ, List.getElem_cons_zero, List.setIfInBounds_toArray, List.set_cons_zero, List.set_cons_succ])
      refine wpAnyH_take (i := 21) (v := ?_) rfl (by kernel_rfl) (by kernel_rfl) (by kernel_rfl) (fun _ _ _ h => h) (Or.inl ⟨by rfl, ?_⟩) (by assumption) ?_
      rotate_left
      · intro w hSw
        (try dsimp only at hSw)
        go_simp
        try with_reducible rfl
      (try simp only [Act.put, List.getElem_toArray, List.getElem_cons_succ, List.getElem_cons_zero, List.setIfInBounds_toArray, List.set_cons_zero, List.set_cons_succ])
      refine wpAnyH_take (i := 23) (v := ?_) rfl (by kernel_rfl) (by kernel_rfl) (by kernel_rfl) (fun _ _ _ h => h) (Or.inl ⟨by rfl, ?_⟩) (by assumption) ?_
      rotate_left
      · intro w hSw
        (try dsimp only at hSw)
        go_simp
        try with_reducible rfl
      (try simp only [Act.put, List.getElem_toArray, List.getElem_cons_succ, List.getElem_cons_zero, List.setIfInBounds_toArray, List.set_cons_zero, List.set_cons_succ])
      refine wpAnyH_ready (rs := [22, 24]) (by kernel_rfl) (by simp) ?_
      refine AllReadyH.cons rfl (fun K hK => ?_) (AllReadyH.cons rfl (fun K hK => ?_) AllReadyH.nil)
      · go_simp
        refine hK.out _ _ ?_ (fun hHeld => ?_)
        · (try dsimp only)
          (first | (with_reducible assumption) | (with_reducible exact oneR_drew (by assumption)))
        clear hK K
        (try simp only [Act.put, List.getElem_toArray, List.getElem_cons_succ, List.getElem_cons_zero, List.setIfInBounds_toArray, List.set_cons_zero, List.set_cons_succ])
        refine wpAnyH_ready (rs := [24]) (by kernel_rfl) (by simp) ?_
        refine AllReadyH.cons rfl (fun K hK => ?_) AllReadyH.nil
        go_simp
        refine hK.out _ _ ?_ (fun hHeld => ?_)
        · (try dsimp only)
          (first | (with_reducible assumption) | (with_reducible exact oneR_drew (by assumption)))
        clear hK K
        (try simp only [Act.put, List.getElem_toArray, List.getElem_cons_succ, List.getElem_cons_zero, List.setIfInBounds_toArray, List.set_cons_zero, List.set_cons_succ])
        refine wpAnyH_take (i := 25) (v := ?_) rfl (by kernel_rfl) (by kernel_rfl) (by kernel_rfl) (fun _ _ _ h => h) (Or.inl ⟨by rfl, ?_⟩) (by assumption) ?_
        rotate_left
        · intro w hSw
          (try dsimp only at hSw)
          go_simp
          try with_reducible rfl
        (try simp only [Act.put, List.getElem_toArray, List.getElem_cons_succ, List.getElem_cons_zero, List.setIfInBounds_toArray, List.set_cons_zero, List.set_cons_succ])
        refine wpAnyH_take (i := 26) (v := ?_) rfl (by kernel_rfl) (by kernel_rfl) (by kernel_rfl) (fun _ _ _ h => h) (Or.inl ⟨by rfl, ?_⟩) (by assumption) ?_
        rotate_left
        · intro w hSw
          (try dsimp only at hSw)
          go_simp
          try with_reducible rfl
        (try simp only [Act.put, List.getElem_toArray, List.getElem_cons_succ, List.getElem_cons_zero, List.setIfInBounds_toArray, List.set_cons_zero, List.set_cons_succ])
        refine wpAnyH_take (i := 27) (v := ?_) rfl (by kernel_rfl) (by kernel_rfl) (by kernel_rfl) (fun _ _ _ h => h) (Or.inl ⟨by rfl, ?_⟩) (by assumption) ?_
        rotate_left
        · intro w hSw
          (try dsimp only at hSw)
          go_simp
          try with_reducible rfl
        (try simp only [Act.put, List.getElem_toArray, List.getElem_cons_succ, List.getElem_cons_zero, List.setIfInBounds_toArray, List.set_cons_zero, List.set_cons_succ])
        refine wpAnyH_take (i := 28) (v := ?_) rfl (by kernel_rfl) (by kernel_rfl) (by kernel_rfl) (fun _ _ _ h => h) (Or.inl ⟨by rfl, ?_⟩) (by assumption) ?_
        rotate_left
        · intro w hSw
          (try dsimp only at hSw)
          go_simp
          try with_reducible rfl
        (try simp only [Act.put, List.getElem_toArray, List.getElem_cons_succ, List.getElem_cons_zero, List.setIfInBounds_toArray, List.set_cons_zero, List.set_cons_succ])
        refine wpAnyH_ready (rs := [29]) (by kernel_rfl) (by simp) ?_
        refine AllReadyH.cons rfl (fun K hK => ?_) AllReadyH.nil
        go_simp
        (go_at_call 15; ((with_reducible refine Calls.mono (HSH.out _ ?_) ?_); (exact (oneR_hid (W := W) (g := g) (r := r) (by assumption)).2); rintro e w9 ⟨rfl, hb⟩; have hs_w9 := oneR_over (by assumption) hb; clear hb))
        go_wp2_with fail
        refine hK.out _ _ ?_ (fun hHeld => ?_)
        · (try dsimp only)
          (first | (with_reducible assumption) | (with_reducible exact oneR_drew (by assumption)))
        clear hK K
        (try simp only [Act.put, List.getElem_toArray, List.getElem_cons_succ, List.getElem_cons_zero, List.setIfInBounds_toArray, List.set_cons_zero, List.set_cons_succ])
        refine wpAnyH_take (i := 30) (v := ?_) rfl (by kernel_rfl) (by kernel_rfl) (by kernel_rfl) (fun _ _ _ h => h) (Or.inl ⟨by rfl, ?_⟩) (by assumption) ?_
        rotate_left
        · intro w hSw
          (try dsimp only at hSw)
          go_simp
          try with_reducible rfl
        (try simp only [Act.put, List.getElem_toArray, List.getElem_cons_succ, List.getElem_cons_zero, List.setIfInBounds_toArray, List.set_cons_zero, List.set_cons_succ])
        refine wpAnyH_take (i := 31) (v := ?_) rfl (by kernel_rfl) (by kernel_rfl) (by kernel_rfl) (fun _ _ _ h => h) (Or.inl ⟨by rfl, ?_⟩) (by assumption) ?_
        rotate_left
        · intro w hSw
          (try dsimp only at hSw)
          go_simp
          try with_reducible rfl
        (try simp only [Act.put, List.getElem_toArray, List.getElem_cons_succ, List.getElem_cons_zero, List.setIfInBounds_toArray, List.set_cons_zero, List.set_cons_succ])
        refine wpAnyH_take (i := 32) (v := ?_) rfl (by kernel_rfl) (by kernel_rfl) (by kernel_rfl) (fun _ _ _ h => h) (Or.inl ⟨by rfl, ?_⟩) (by assumption) ?_
        rotate_left
        · intro w hSw
          (try dsimp only at hSw)
          go_simp
          try with_reducible rfl
        (try simp only [Act.put, List.getElem_toArray, List.getElem_cons_succ, List.getElem_cons_zero, List.setIfInBounds_toArray, List.set_cons_zero, List.set_cons_succ])
        refine wpAnyH_done (by kernel_rfl) ?_ _
        have HZ := Lib.hid (oneR_hid hs_w9).2
        go_wp2
        go_ret
        exact ⟨rfl, HZ.out⟩
      · go_simp
        refine hK.out _ _ ?_ (fun hHeld => ?_)
        · (try dsimp only)
          (first | (with_reducible assumption) | (with_reducible exact oneR_drew (by assumption)))
        clear hK K
        (try simp only [Act.put, List.getElem_toArray, List.getElem_cons_succ, List.getElem_cons_zero, List.setIfInBounds_toArray, List.set_cons_zero, List.set_cons_succ])
        refine wpAnyH_ready (rs := [22]) (by kernel_rfl) (by simp) ?_
        refine AllReadyH.cons rfl (fun K hK => ?_) AllReadyH.nil
        go_simp
        refine hK.out _ _ ?_ (fun hHeld => ?_)
        · (try dsimp only)
          (first | (with_reducible assumption) | (with_reducible exact oneR_drew (by assumption)))
        clear hK K
        (try simp only [Act.put, List.getElem_toArray, List.getElem_cons_succ, List.getElem_cons_zero, List.setIfInBounds_toArray, List.set_cons_zero, List.set_cons_succ])
        refine wpAnyH_take (i := 25) (v := ?_) rfl (by kernel_rfl) (by kernel_rfl) (by kernel_rfl) (fun _ _ _ h => h) (Or.inl ⟨by rfl, ?_⟩) (by assumption) ?_
        rotate_left
        · intro w hSw
          (try dsimp only at hSw)
          go_simp
          try with_reducible rfl
        (try simp only [Act.put, List.getElem_toArray, List.getElem_cons_succ, List.getElem_cons_zero, List.setIfInBounds_toArray, List.set_cons_zero, List.set_cons_succ])
        refine wpAnyH_take (i := 26) (v := ?_) rfl (by kernel_rfl) (by kernel_rfl) (by kernel_rfl) (fun _ _ _ h => h) (Or.inl ⟨by rfl, ?_⟩) (by assumption) ?_
        rotate_left
        · intro w hSw
          (try dsimp only at hSw)
          go_simp
          try with_reducible rfl
        (try simp only [Act.put, List.getElem_toArray, List.getElem_cons_succ, List.getElem_cons_zero, List.setIfInBounds_toArray, List.set_cons_zero, List.set_cons_succ])
        refine wpAnyH_take (i := 27) (v := ?_) rfl (by kernel_rfl) (by kernel_rfl) (by kernel_rfl) (fun _ _ _ h => h) (Or.inl ⟨by rfl, ?_⟩) (by assumption) ?_
        rotate_left
        · intro w hSw
          (try dsimp only at hSw)
          go_simp
          try with_reducible rfl
        (try simp only [Act.put, List.getElem_toArray, List.getElem_cons_succ, List.getElem_cons_zero, List.setIfInBounds_toArray, List.set_cons_zero, List.set_cons_succ])
        refine wpAnyH_take (i := 28) (v := ?_) rfl (by kernel_rfl) (by kernel_rfl) (by kernel_rfl) (fun _ _ _ h => h) (Or.inl ⟨by rfl, ?_⟩) (by assumption) ?_
        rotate_left
        · intro w hSw
          (try dsimp only at hSw)
          go_simp
          try with_reducible rfl
        (try simp only [Act.put, List.getElem_toArray, List.getElem_cons_succ, List.getElem_cons_zero, List.setIfInBounds_toArray, List.set_cons_zero, List.set_cons_succ])
        refine wpAnyH_ready (rs := [29]) (by kernel_rfl) (by simp) ?_
        refine AllReadyH.cons rfl (fun K hK => ?_) AllReadyH.nil
        go_simp
        (go_at_call 15; ((with_reducible refine Calls.mono (HSH.out _ ?_) ?_); (exact (oneR_hid (W := W) (g := g) (r := r) (by assumption)).2); rintro e w9 ⟨rfl, hb⟩; have hs_w9 := oneR_over (by assumption) hb; clear hb))
        go_wp2_with fail
        refine hK.out _ _ ?_ (fun hHeld => ?_)
        · (try dsimp only)
          (first | (with_reducible assumption) | (with_reducible exact oneR_drew (by assumption)))
        clear hK K
        (try simp only [Act.put, List.getElem_toArray, List.getElem_cons_succ, List.getElem_cons_zero, List.setIfInBounds_toArray, List.set_cons_zero, List.set_cons_succ])
        refine wpAnyH_take (i := 30) (v := ?_) rfl (by kernel_rfl) (by kernel_rfl) (by kernel_rfl) (fun _ _ _ h => h) (Or.inl ⟨by rfl, ?_⟩) (by assumption) ?_
        rotate_left
        · intro w hSw
          (try dsimp only at hSw)
          go_simp
          try with_reducible rfl
        (try simp only [Act.put, List.getElem_toArray, List.getElem_cons_succ, List.getElem_cons_zero, List.setIfInBounds_toArray, List.set_cons_zero, List.set_cons_succ])
        refine wpAnyH_take (i := 31) (v := ?_) rfl (by kernel_rfl) (by kernel_rfl) (by kernel_rfl) (fun _ _ _ h => h) (Or.inl ⟨by rfl, ?_⟩) (by assumption) ?_
        rotate_left
        · intro w hSw
          (try dsimp only at hSw)
          go_simp
          try with_reducible rfl
        (try simp only [Act.put, List.getElem_toArray, List.getElem_cons_succ, List.getElem_cons_zero, List.setIfInBounds_toArray, List.set_cons_zero, List.set_cons_succ])
        refine wpAnyH_take (i := 32) (v := ?_) rfl (by kernel_rfl) (by kernel_rfl) (by kernel_rfl) (fun _ _ _ h => h) (Or.inl ⟨by rfl, ?_⟩) (by assumption) ?_
        rotate_left
        · intro w hSw
          (try dsimp only at hSw)
          go_simp
          try with_reducible rfl
        (try simp only [Act.put, List.getElem_toArray, List.getElem_cons_succ, List.getElem_cons_zero, List.setIfInBounds_toArray, List.set_cons_zero, List.set_cons_succ])
        refine wpAnyH_done (by kernel_rfl) ?_ _
        have HZ := Lib.hid (oneR_hid hs_w9).2
        go_wp2
        go_ret
        exact ⟨rfl, HZ.out⟩
    · have hx1 : (x != 0) = true := by simp [hx]
      obtain rfl := take_bad7 hr hx
      have heq : ∀ w, (binOp .eql 24 (.agg #[.int .u8 0, .int .i64 0, .int .u64 0, .int .i64 0, .int .i64 0, .int .i64 0, .bool false, .string ⟨#[]⟩]) (.agg #[.int .u8 0, .int .i64 0, .int .u64 0, .int .i64 0, .int .i64 0, .int .i64 0, .bool false, .string ⟨#[]⟩])).run Tryd.prog w = .ok (.bool true) w := fun w => (run_eq_r7 w noRec noRec).trans (by rw [decide_eq_true rfl])
      have HM : Hid (∀ w, Below W.heap.size W w → LiesB w w.heap.size (.slice A n c) b → Calls Tryd.prog 17 #[.int .u8 (k : Int), .slice A n c] w fun e w' => e = .returned (.tuple #[.agg #[.int .u8 0, .int .i64 0, .int .u64 0, .int .i64 0, .int .i64 0, .int .i64 0, .bool false, .string ⟨#[]⟩], .int .i64 x]) ∧ Below w.heap.size w w') := Lib.hid HM.out
      clear hr hk hb hn h6 hT hx
      go_enter Tryd.func7, Tryd.ntmps7
      go_wp2_with (first
        | (go_at_call 9; (with_reducible refine HA.out.mono ?_); rintro e w1 ⟨rfl, hb⟩; have HB1 := Lib.hid hb; clear hb)
        | (go_at_call 17; (with_reducible refine (HM.out _ HB1.out (HB.out.over (Nat.le_refl _) HB1.out)).mono ?_); rintro e w2 ⟨rfl, hb⟩; have HB2 := Lib.hid (bstep HB1.out hb); clear hb))
      go_ret
      exact ⟨rfl, bmore HB2.out _⟩
  · have q6 : (600 : Int) < (n : Int) := by omega
    go_enter Tryd.func7, Tryd.ntmps7
    go_wp2_with (go_at_call 9; (with_reducible refine HA.out.mono ?_); rintro e w1 ⟨rfl, hb⟩; have HB1 := Lib.hid hb; clear hb)
    go_ret
    exact ⟨rfl, HB1.out⟩
theorem recordOne_row (t : UInt8) (A : Option Addr) (c : Nat) (l : List UInt8) (W : World) (hT : TbR W) (hb : LiesB W W.heap.size (.slice A l.length c) l) :
    Calls Tryd.prog 7 #[.int .u8 (t.toNat : Int), .slice A l.length c] W fun e w' => e = .returned (.bool true) ∧ Below W.heap.size W w' := recordOne_any t.toNat A _ c l W hT t.toNat_lt hb rfl
end Go.Proofs.YthnkiabhfcddaaaDoor
