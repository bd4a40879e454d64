/-
  The walk of the law OctetOne.
-/
import Derived.Test.YtbbioeiikobnnaaAwake
import Derived.Test.YtbbioeiikobnnaaCuts
import Derived.Deep.RegionHeld3
import Derived.IntWalk
namespace Go.Proofs.Ytbbioeiikobnnaa
open Go.RowKit
set_option linter.unusedVariables false
set_option linter.unusedSimpArgs false

theorem tk_ok {l : List UInt8} {u n : Nat} (h : tk l = (u, n, 0)) : l.take n = enc u ∧ n = (enc u).length ∧ u ≤ 18446744073709551615 ∧ 1 ≤ n := by
  have hr := (tk_range l).1
  rw [h] at hr
  have e8 : (256 : Nat) ^ 8 = 18446744073709551616 := by decide
  have hu : u ≤ 18446744073709551615 := by dsimp only at hr; omega
  have key : l.take n = enc u := by
    unfold tk at h
    split at h
    · simp at h
    · rename_i c r
      split at h
      · rename_i hc
        simp only [Prod.mk.injEq] at h
        obtain ⟨rfl, rfl, _⟩ := h
        unfold enc
        rw [if_pos hc]
        simp
      · split at h
        · simp at h
        · split at h
          · simp at h
          · rename_i hc hlen hbad
            simp only [Prod.mk.injEq] at h
            obtain ⟨rfl, rfl, _⟩ := h
            rw [List.take_succ_cons]
            exact ((enc_val_iff c (r.take (c.toNat - 247)) (by omega) (by rw [List.length_take]; omega)).2 hbad).symm
  have hn : n ≤ l.length := by have := (tk_range l).2.1; rw [h] at this; exact this
  have hlen : (l.take n).length = n := by rw [List.length_take]; omega
  have h1 := (enc_len u hu).1
  rw [key] at hlen
  exact ⟨key, hlen.symm, hu, by omega⟩

theorem enc_inj {x y : Nat} (hx : x ≤ 18446744073709551615) (hy : y ≤ 18446744073709551615) (h : enc x = enc y) : x = y := by
  have h1 := tk_enc x [] hx
  have h2 := tk_enc y [] hy
  rw [h, h2] at h1
  simp only [Prod.mk.injEq] at h1
  exact h1.1.symm

theorem u8_lt (a b : Nat) (ha : a < 256) (hb : b < 256) (h : a < b) : UInt8.ofNat a < UInt8.ofNat b := by
  rw [UInt8.lt_iff_toNat_lt, u8_nat a ha, u8_nat b hb]; exact h
theorem be_lt (k x y : Nat) (h : x % 256 ^ k < y % 256 ^ k) : be k x < be k y := by
  induction k with
  | zero => simp [Nat.mod_one] at h
  | succ k ih =>
    have hp : 0 < 256 ^ k := Nat.pow_pos (by decide)
    rw [Nat.pow_succ, Nat.mod_mul, Nat.mod_mul] at h
    have hx := Nat.mod_lt x hp
    have hy := Nat.mod_lt y hp
    have hdx := Nat.mod_lt (x / 256 ^ k) (show 0 < 256 by decide)
    have hdy := Nat.mod_lt (y / 256 ^ k) (show 0 < 256 by decide)
    show UInt8.ofNat (x / 256 ^ k % 256) :: be k x < UInt8.ofNat (y / 256 ^ k % 256) :: be k y
    rw [List.cons_lt_cons_iff]
    rcases Nat.lt_trichotomy (x / 256 ^ k % 256) (y / 256 ^ k % 256) with hd | hd | hd
    · exact .inl (u8_lt _ _ hdx hdy hd)
    · refine .inr ⟨by rw [hd], ih ?_⟩
      rw [hd] at h
      omega
    · exfalso
      have : 256 ^ k * (y / 256 ^ k % 256) + 256 ^ k ≤ 256 ^ k * (x / 256 ^ k % 256) := by
        have := Nat.mul_le_mul_left (256 ^ k) (show y / 256 ^ k % 256 + 1 ≤ x / 256 ^ k % 256 by omega)
        rwa [Nat.mul_add, Nat.mul_one] at this
      omega
theorem enc_lt {x y : Nat} (hx : x ≤ 18446744073709551615) (hy : y ≤ 18446744073709551615) (h : x < y) : enc x < enc y := by
  have hx8 := nb_lt8 x (by omega)
  have hy8 := nb_lt8 y (by omega)
  unfold enc
  by_cases h1 : y < 248
  · rw [if_pos h1, if_pos (by omega), List.cons_lt_cons_iff]
    exact .inl (u8_lt _ _ (by omega) (by omega) h)
  · have hy1 := nb_pos y (by omega)
    rw [if_neg h1]
    by_cases h2 : x < 248
    · rw [if_pos h2, List.cons_lt_cons_iff]
      exact .inl (u8_lt _ _ (by omega) (by omega) (by omega))
    · rw [if_neg h2, List.cons_lt_cons_iff]
      have hy2 := (nb_le_iff y (nb y)).1 (Nat.le_refl _)
      have hm : nb x ≤ nb y := (nb_le_iff x (nb y)).2 (by omega)
      rcases Nat.lt_or_ge (nb x) (nb y) with h3 | h3
      · exact .inl (u8_lt _ _ (by omega) (by omega) (by omega))
      · have e : nb x = nb y := by omega
        refine .inr ⟨by rw [e], ?_⟩
        rw [e]
        apply be_lt
        rw [Nat.mod_eq_of_lt (by omega), Nat.mod_eq_of_lt hy2]
        exact h
theorem conv_S {W w : World} {b off n c : Nat} {q : List UInt8} (hq : Hid (n = q.length)) (hc : Hid (b < W.heap.size ∧ ∀ j (h : j < q.length), W.cell? ⟨b, off + j, none⟩ = some (.int .u8 (q[j].toNat : Int)))) (hb : Hid (Below W.heap.size W w)) :
    (convert 24 9 (.slice (some ⟨b, off, none⟩) n c)).run Try.prog w = .ok (.string (mkB q)) w ∧ Hid (Below W.heap.size W w) := by
  refine ⟨?_, hb⟩
  rw [hq.out]
  have h := run_str (w := w) (b := b) (off := off) (cap := c) (l := q) q.length (Nat.le_refl _) (fun i hi => by rw [hb.out.cell hc.out.1]; exact hc.out.2 i hi)
  rw [List.take_length] at h
  exact h
theorem row_drew {w : World} {B : Nat} {A : Option Addr} {xs : List Value} (h : Row w B A xs) : Row w.drew B A xs := h
theorem conv_of {W w : World} {v : Value} {s : Value} (h : (convert 24 9 v).run Try.prog w = .ok s w ∧ Hid (Below W.heap.size W w)) : Hid (Below W.heap.size W w) := h.2
theorem below_drew_hid {W w : World} (h : Hid (Below W.heap.size W w)) : Hid (Below W.heap.size W w.drew) := Lib.hid h.out.drew
theorem below_alloc_hid {W w : World} (h : Hid (Below W.heap.size W w)) (o : Obj) : Hid (Below W.heap.size W (w.alloc o)) := Lib.hid (h.out.alloc h.out.size o)
theorem enc_lt_iff {x y : Nat} (hx : x ≤ 18446744073709551615) (hy : y ≤ 18446744073709551615) : enc x < enc y ↔ x < y := by
  constructor
  · intro h
    rcases Nat.lt_trichotomy x y with h1 | h1 | h1
    · exact h1
    · subst h1; exact absurd h (List.lt_irrefl _)
    · exact absurd h (List.lt_asymm (enc_lt hy hx h1))
  · exact enc_lt hx hy

theorem bytesLess_iff : ∀ (a b : List UInt8), Op.bytesLess a b = decide (a < b)
  | [], [] => by simp [Op.bytesLess]
  | [], _ :: _ => by simp [Op.bytesLess]
  | _ :: _, [] => by simp [Op.bytesLess]
  | x :: a, y :: b => by
    unfold Op.bytesLess
    rw [bytesLess_iff a b, Bool.eq_iff_iff]
    simp [List.cons_lt_cons_iff]
theorem put_less {x y : Nat} (hx : x ≤ 18446744073709551615) (hy : y ≤ 18446744073709551615) : Op.bytesLess (mkB (enc x)).toList (mkB (enc y)).toList = decide (x < y) := by
  have e1 : (mkB (enc x)).toList = enc x := by rw [ByteArray.toList_eq]; rfl
  have e2 : (mkB (enc y)).toList = enc y := by rw [ByteArray.toList_eq]; rfl
  rw [e1, e2, bytesLess_iff]
  simp only [enc_lt_iff hx hy]
theorem put_same {x y : Nat} (hx : x ≤ 18446744073709551615) (hy : y ≤ 18446744073709551615) : ((mkB (enc x)).toList == (mkB (enc y)).toList) = ((x : Int) == (y : Int)) := by
  have e1 : (mkB (enc x)).toList = enc x := by rw [ByteArray.toList_eq]; rfl
  have e2 : (mkB (enc y)).toList = enc y := by rw [ByteArray.toList_eq]; rfl
  rw [e1, e2, Bool.eq_iff_iff, beq_iff_eq, beq_iff_eq]
  constructor
  · intro h
    rw [enc_inj hx hy h]
  · intro h
    have : x = y := by omega
    rw [this]

set_option maxRecDepth 100000 in
set_option maxHeartbeats 4000000 in
theorem octetOne_walk (A0 : Option Addr) (c0 : Nat) (z0 : List Int) (A1 : Option Addr) (c1 : Nat) (z1 : List Int) (x y : Int) (W : World)
    (hl0 : z0.length ≤ c0) (hA0 : A0 = none → c0 = 0) (hr0 : Row W W.heap.size A0 (z0.map (Value.int .u8))) (hw0 : ∀ n ∈ z0, (Lit.int .u8 n).wf = true)
    (hl1 : z1.length ≤ c1) (hA1 : A1 = none → c1 = 0) (hr1 : Row W W.heap.size A1 (z1.map (Value.int .u8))) (hw1 : ∀ n ∈ z1, (Lit.int .u8 n).wf = true)
    (hx : (Lit.int .u64 x).wf = true) (hy : (Lit.int .u64 y).wf = true) :
    Calls Try.prog 7 #[.slice A0 z0.length c0, .slice A1 z1.length c1, .int .u64 x, .int .u64 y] W fun e w' => e = .returned (.bool true) ∧ Below W.heap.size W w' := by
  obtain ⟨l, e0, en0⟩ := ints_bc hw0
  obtain ⟨m, e1, en1⟩ := ints_bc hw1
  rw [e0] at hr0
  rw [e1] at hr1
  rw [en0, en1]
  rw [en0] at hl0
  have bx := bounds_u64 hx
  have by' := bounds_u64 hy
  obtain ⟨x, rfl⟩ : ∃ n : Nat, x = (n : Int) := ⟨x.toNat, by omega⟩
  obtain ⟨y, rfl⟩ : ∃ n : Nat, y = (n : Int) := ⟨y.toNat, by omega⟩
  have HX : Hid (x ≤ 18446744073709551615 ∧ y ≤ 18446744073709551615) := Lib.hid (by omega)
  have R0 := Lib.hid hr0
  have R1 := Lib.hid hr1
  have HA1 := Lib.hid hA1
  have HL0 := Lib.hid hl0
  clear hA0 hr0 hw0 hl1 hA1 hr1 hw1 hx hy bx by' e0 en0 e1 en1 hl0
  go_enter Try.func7, Try.ntmps7
  go_wp2_with (go_at_call 9; refine (awake_any _).mono ?_; rintro e w1 ⟨rfl, hb1⟩; have HB1 := Lib.hid hb1; clear hb1)
  all_goals first | (go_ret; exact ⟨rfl, HB1.out⟩) | skip
  have n0 : l.length ≤ 200 := by omega
  have n1 : m.length ≤ 200 := by omega
  rcases ht : tk l with ⟨u, n, er⟩
  have HT := Lib.hid ht
  by_cases her : er = 0
  · subst her
    obtain ⟨hk, hn, hu, hn1⟩ := tk_ok ht
    have hnl : n ≤ l.length := by have := (tk_range l).2.1; rw [ht] at this; exact this
    have HK := Lib.hid hk
    have HNN := Lib.hid hn
    have HU := Lib.hid hu
    obtain ⟨b, off, rfl, hb, hcs⟩ := R0.out (by intro e; have := congrArg List.length e; rw [bc_length, List.length_nil] at this; omega)
    have HC : Hid (b < W.heap.size ∧ ∀ j (h : j < (enc u).length), W.cell? ⟨b, off + j, none⟩ = some (.int .u8 ((enc u)[j].toNat : Int))) := Lib.hid ⟨hb, fun j hj => by
      have hj2 : j < l.length := by omega
      rw [hcs j _ (bc_get l j hj2)]
      have e : (l.take n)[j]? = (enc u)[j]? := by rw [hk]
      rw [List.getElem?_take, if_pos (by omega), List.getElem?_eq_getElem hj2, List.getElem?_eq_getElem hj] at e
      injection e with e
      rw [e]⟩
    have HT2 : Hid (tk (enc u ++ m) = (u, n, 0)) := Lib.hid (by rw [tk_enc u m hu, ← hn])
    have hcap := HL0.out
    have h9 := (enc_len u hu).2
    have hn9 : n ≤ 9 := by omega
    obtain ⟨L2, hL2⟩ : ∃ L, L = enc u ++ m := ⟨_, rfl⟩
    have HL2 := Lib.hid hL2
    rw [← hL2] at HT2
    have HN2 : Hid (L2.length ≤ 209) := Lib.hid (by rw [hL2, List.length_append]; omega)
    clear hL2
    clear ht hk hn hu hb hcs h9
    go_wp2_with (first
      | (go_at_call 12; (with_reducible refine (take_at l _ c0 W.heap.size _ (R0.out.below_ HB1.out) HL0.out (by omega) HT.out).mono ?_); rintro _ w2 ⟨rfl, rfl⟩)
      | (at_builtin; refine wp_app rfl (.tmp 38) (.tmp 41) rfl w1.heap.size _ [] (enc u) c0 ⟨b, off, none⟩ rfl (Owns.none_ _ _) (by rw [← HNN.out]; rfl) (fun j hj => by rw [Addr.add_lit, HB1.out.cell HC.out.1]; exact HC.out.2 j hj) (Fits.of (by rw [← HNN.out]; simp only [List.length_nil]; omega)) (Nat.le_refl _) ?_; rw [List.nil_append]; intro v2 w2 ho2 hb2; have HO2 := Lib.hid ho2; have HB2 := Lib.hid (HB1.out.trans (hb2.mono HB1.out.size)); have HZ2 := Lib.hid hb2.size; clear ho2 hb2)
      | (at_builtin; refine wp_app_any rfl (.tmp 43) (.tmp 44) rfl w1.heap.size W.heap.size v2 _ m A1 c1 rfl HO2.out rfl HA1.out (R1.out.below_ HB2.out) (Fits.of (by rw [← HNN.out]; omega)) HZ2.out ?_; rw [← HL2.out]; intro v3 w3 ho3 hb3; obtain ⟨A3, c3, rfl, hr3, hl3, _⟩ := lies_row ho3.lies; have HB3 := Lib.hid (HB2.out.trans (hb3.mono HB1.out.size)); have HR3 := Lib.hid hr3; have HL3 := Lib.hid hl3; clear ho3 hb3 hr3 hl3)
      | (go_at_call 12; (with_reducible refine (take_at L2 A3 c3 w3.heap.size _ HR3.out HL3.out (by have := HN2.out; omega) HT2.out).mono ?_); rintro _ w' ⟨rfl, rfl⟩))
    have hnI : (0 : Int) ≤ (n : Int) := by omega
    have hnJ : (n : Int) ≤ (l.length : Int) := by omega
    have hnK : (n : Int) ≤ (c0 : Int) := by omega
    obtain ⟨hcv, _⟩ := conv_S (c := c0) HNN HC HB3
    refine wp_region_held_drew (S := fun w' => (convert 24 9 (.slice (some ⟨b, off, none⟩) n c0)).run Try.prog w' = .ok (.string (mkB (enc u))) w' ∧ Hid (Below W.heap.size W w')) (by kernel_rfl) ?_ (fun hHeld => ?_)
    · (try dsimp only)
      (with_reducible first | assumption | exact conv_S HNN HC (by assumption) | exact conv_S HNN HC (below_drew_hid (by assumption)) | exact conv_S HNN HC (below_alloc_hid (by assumption) _) | exact conv_S HNN HC (below_alloc_hid (conv_of (by assumption)) _))
    refine wpAnyH_take (i := 0) (v := ?_) rfl (by kernel_rfl) (by kernel_rfl) (by kernel_rfl) (fun _ _ _ h => h) (Or.inl ⟨by rfl, ?_⟩) (by assumption) ?_
    rotate_left
    · intro w hSw
      (try dsimp only at hSw)
      go_simp
      try with_reducible rfl
    (try simp only [Act.put, List.getElem_toArray, List.getElem_cons_succ, List.getElem_cons_zero, List.setIfInBounds_toArray, List.set_cons_zero, List.set_cons_succ])
    refine wpAnyH_take (i := 4) (v := ?_) rfl (by kernel_rfl) (by kernel_rfl) (by kernel_rfl) (fun _ _ _ h => h) (Or.inl ⟨by rfl, ?_⟩) (by assumption) ?_
    rotate_left
    · intro w hSw
      (try dsimp only at hSw)
      go_simp
      try with_reducible rfl
    (try simp only [Act.put, List.getElem_toArray, List.getElem_cons_succ, List.getElem_cons_zero, List.setIfInBounds_toArray, List.set_cons_zero, List.set_cons_succ])
    refine wpAnyH_take (i := 5) (v := ?_) rfl (by kernel_rfl) (by kernel_rfl) (by kernel_rfl) (fun _ _ _ h => h) (Or.inl ⟨by rfl, ?_⟩) (by assumption) ?_
    rotate_left
    · intro w hSw
      (try dsimp only at hSw)
      go_simp
      try with_reducible rfl
    (try simp only [Act.put, List.getElem_toArray, List.getElem_cons_succ, List.getElem_cons_zero, List.setIfInBounds_toArray, List.set_cons_zero, List.set_cons_succ])
    refine wpAnyH_take (i := 6) (v := ?_) rfl (by kernel_rfl) (by kernel_rfl) (by kernel_rfl) (fun _ _ _ h => h) (Or.inl ⟨by rfl, ?_⟩) (by assumption) ?_
    rotate_left
    · intro w hSw
      (try dsimp only at hSw)
      go_simp
      try with_reducible rfl
    (try simp only [Act.put, List.getElem_toArray, List.getElem_cons_succ, List.getElem_cons_zero, List.setIfInBounds_toArray, List.set_cons_zero, List.set_cons_succ])
    refine wpAnyH_take (i := 7) (v := ?_) rfl (by kernel_rfl) (by kernel_rfl) (by kernel_rfl) (fun _ _ _ h => h) (Or.inl ⟨by rfl, ?_⟩) (by assumption) ?_
    rotate_left
    · intro w hSw
      (try dsimp only at hSw)
      go_simp
      try with_reducible rfl
    (try simp only [Act.put, List.getElem_toArray, List.getElem_cons_succ, List.getElem_cons_zero, List.setIfInBounds_toArray, List.set_cons_zero, List.set_cons_succ])
    refine wpAnyH_ready (rs := [1]) (by kernel_rfl) (by simp) ?_
    refine AllReadyH.cons rfl (fun K hK => ?_) AllReadyH.nil
    go_simp
    refine hK.out _ _ ?_ (fun hHeld => ?_)
    · (try dsimp only)
      (with_reducible first | assumption | exact conv_S HNN HC (by assumption) | exact conv_S HNN HC (below_drew_hid (by assumption)) | exact conv_S HNN HC (below_alloc_hid (by assumption) _) | exact conv_S HNN HC (below_alloc_hid (conv_of (by assumption)) _))
    clear hK K
    (try simp only [Act.put, List.getElem_toArray, List.getElem_cons_succ, List.getElem_cons_zero, List.setIfInBounds_toArray, List.set_cons_zero, List.set_cons_succ])
    refine wpAnyH_ready (rs := [2]) (by kernel_rfl) (by simp) ?_
    refine AllReadyH.cons rfl (fun K hK => ?_) AllReadyH.nil
    go_simp
    go_at_call 14; (refine (put_at [u] (enc u) (by simp [encs]) (some ⟨w3.heap.size, 0, none⟩) 1 _ (by intro z hz; simp at hz; subst hz; exact HU.out) (row_drew (lit_row w3 [.int .u64 (u : Nat)] 27 _ rfl)) (by simp)).mono ?_); rintro _ w5 ⟨v5, rfl, ho5, hb5⟩; have hcv5 := owns_str ho5; have HB5 : Hid (Below W.heap.size W w5) := Lib.hid ((HB3.out.alloc HB3.out.size _).drew.trans (hb5.mono (by have := HB3.out.size; simp; omega))); clear ho5 hb5
    go_wp2_with fail
    refine hK.out _ _ ?_ (fun hHeld => ?_)
    · (try dsimp only)
      (with_reducible first | assumption | exact conv_S HNN HC (by assumption) | exact conv_S HNN HC (below_drew_hid (by assumption)) | exact conv_S HNN HC (below_alloc_hid (by assumption) _) | exact conv_S HNN HC (below_alloc_hid (conv_of (by assumption)) _))
    clear hK K
    (try simp only [Act.put, List.getElem_toArray, List.getElem_cons_succ, List.getElem_cons_zero, List.setIfInBounds_toArray, List.set_cons_zero, List.set_cons_succ])
    refine wpAnyH_ready (rs := [3]) (by kernel_rfl) (by simp) ?_
    refine AllReadyH.cons rfl (fun K hK => ?_) AllReadyH.nil
    go_simp
    refine hK.out _ _ ?_ (fun hHeld => ?_)
    · (try dsimp only)
      (with_reducible first | assumption | exact conv_S HNN HC (by assumption) | exact conv_S HNN HC (below_drew_hid (by assumption)) | exact conv_S HNN HC (below_alloc_hid (by assumption) _) | exact conv_S HNN HC (below_alloc_hid (conv_of (by assumption)) _))
    clear hK K
    (try simp only [Act.put, List.getElem_toArray, List.getElem_cons_succ, List.getElem_cons_zero, List.setIfInBounds_toArray, List.set_cons_zero, List.set_cons_succ])
    refine wpAnyH_take (i := 8) (v := ?_) rfl (by kernel_rfl) (by kernel_rfl) (by kernel_rfl) (fun _ _ _ h => h) (Or.inl ⟨by rfl, ?_⟩) (by assumption) ?_
    rotate_left
    · intro w hSw
      (try dsimp only at hSw)
      go_simp
      try with_reducible rfl
    (try simp only [Act.put, List.getElem_toArray, List.getElem_cons_succ, List.getElem_cons_zero, List.setIfInBounds_toArray, List.set_cons_zero, List.set_cons_succ])
    refine wpAnyH_take (i := 9) (v := ?_) rfl (by kernel_rfl) (by kernel_rfl) (by kernel_rfl) (fun _ _ _ h => h) (Or.inl ⟨by rfl, ?_⟩) (by assumption) ?_
    rotate_left
    · intro w hSw
      (try dsimp only at hSw)
      go_simp
      try with_reducible rfl
    (try simp only [Act.put, List.getElem_toArray, List.getElem_cons_succ, List.getElem_cons_zero, List.setIfInBounds_toArray, List.set_cons_zero, List.set_cons_succ])
    refine wpAnyH_take (i := 10) (v := ?_) rfl (by kernel_rfl) (by kernel_rfl) (by kernel_rfl) (fun _ _ _ h => h) (Or.inl ⟨by rfl, ?_⟩) (by assumption) ?_
    rotate_left
    · intro w hSw
      (try dsimp only at hSw)
      go_simp
      try with_reducible rfl
    (try simp only [Act.put, List.getElem_toArray, List.getElem_cons_succ, List.getElem_cons_zero, List.setIfInBounds_toArray, List.set_cons_zero, List.set_cons_succ])
    refine wpAnyH_take (i := 11) (v := ?_) rfl (by kernel_rfl) (by kernel_rfl) (by kernel_rfl) (fun _ _ _ h => h) (Or.inl ⟨by rfl, ?_⟩) (by assumption) ?_
    rotate_left
    · intro w hSw
      (try dsimp only at hSw)
      go_simp
      try with_reducible rfl
    (try simp only [Act.put, List.getElem_toArray, List.getElem_cons_succ, List.getElem_cons_zero, List.setIfInBounds_toArray, List.set_cons_zero, List.set_cons_succ])
    refine wpAnyH_take (i := 12) (v := ?_) rfl (by kernel_rfl) (by kernel_rfl) (by kernel_rfl) (fun _ _ _ h => h) (Or.inl ⟨by rfl, ?_⟩) (by assumption) ?_
    rotate_left
    · intro w hSw
      (try dsimp only at hSw)
      go_simp
      try with_reducible rfl
    (try simp only [Act.put, List.getElem_toArray, List.getElem_cons_succ, List.getElem_cons_zero, List.setIfInBounds_toArray, List.set_cons_zero, List.set_cons_succ])
    refine wpAnyH_take (i := 13) (v := ?_) rfl (by kernel_rfl) (by kernel_rfl) (by kernel_rfl) (fun _ _ _ h => h) (Or.inl ⟨by rfl, ?_⟩) (by assumption) ?_
    rotate_left
    · intro w hSw
      (try dsimp only at hSw)
      go_simp
      try with_reducible rfl
    (try simp only [Act.put, List.getElem_toArray, List.getElem_cons_succ, List.getElem_cons_zero, List.setIfInBounds_toArray, List.set_cons_zero, List.set_cons_succ])
    refine wpAnyH_take (i := 14) (v := ?_) rfl (by kernel_rfl) (by kernel_rfl) (by kernel_rfl) (fun _ _ _ h => h) (Or.inl ⟨by rfl, ?_⟩) (by assumption) ?_
    rotate_left
    · intro w hSw
      (try dsimp only at hSw)
      go_simp
      try with_reducible rfl
    (try simp only [Act.put, List.getElem_toArray, List.getElem_cons_succ, List.getElem_cons_zero, List.setIfInBounds_toArray, List.set_cons_zero, List.set_cons_succ])
    refine wpAnyH_take (i := 15) (v := ?_) rfl (by kernel_rfl) (by kernel_rfl) (by kernel_rfl) (fun _ _ _ h => h) (Or.inl ⟨by rfl, ?_⟩) (by assumption) ?_
    rotate_left
    · intro w hSw
      (try dsimp only at hSw)
      go_simp
      try with_reducible rfl
    (try simp only [Act.put, List.getElem_toArray, List.getElem_cons_succ, List.getElem_cons_zero, List.setIfInBounds_toArray, List.set_cons_zero, List.set_cons_succ])
    refine wpAnyH_take (i := 16) (v := ?_) rfl (by kernel_rfl) (by kernel_rfl) (by kernel_rfl) (fun _ _ _ h => h) (Or.inl ⟨by rfl, ?_⟩) (by assumption) ?_
    rotate_left
    · intro w hSw
      (try dsimp only at hSw)
      go_simp
      try with_reducible rfl
    (try simp only [Act.put, List.getElem_toArray, List.getElem_cons_succ, List.getElem_cons_zero, List.setIfInBounds_toArray, List.set_cons_zero, List.set_cons_succ])
    refine wpAnyH_take (i := 17) (v := ?_) rfl (by kernel_rfl) (by kernel_rfl) (by kernel_rfl) (fun _ _ _ h => h) (Or.inl ⟨by rfl, ?_⟩) (by assumption) ?_
    rotate_left
    · intro w hSw
      (try dsimp only at hSw)
      go_simp
      try with_reducible rfl
    (try simp only [Act.put, List.getElem_toArray, List.getElem_cons_succ, List.getElem_cons_zero, List.setIfInBounds_toArray, List.set_cons_zero, List.set_cons_succ])
    refine wpAnyH_take (i := 18) (v := ?_) rfl (by kernel_rfl) (by kernel_rfl) (by kernel_rfl) (fun _ _ _ h => h) (Or.inl ⟨by rfl, ?_⟩) (by assumption) ?_
    rotate_left
    · intro w hSw
      (try dsimp only at hSw)
      go_simp
      try with_reducible rfl
    (try simp only [Act.put, List.getElem_toArray, List.getElem_cons_succ, List.getElem_cons_zero, List.setIfInBounds_toArray, List.set_cons_zero, List.set_cons_succ])
    refine wpAnyH_take (i := 19) (v := ?_) rfl (by kernel_rfl) (by kernel_rfl) (by kernel_rfl) (fun _ _ _ h => h) (Or.inl ⟨by rfl, ?_⟩) (by assumption) ?_
    rotate_left
    · intro w hSw
      (try dsimp only at hSw)
      go_simp
      try with_reducible rfl
    (try simp only [Act.put, List.getElem_toArray, List.getElem_cons_succ, List.getElem_cons_zero, List.setIfInBounds_toArray, List.set_cons_zero, List.set_cons_succ])
    refine wpAnyH_take (i := 20) (v := ?_) rfl (by kernel_rfl) (by kernel_rfl) (by kernel_rfl) (fun _ _ _ h => h) (Or.inl ⟨by rfl, ?_⟩) (by assumption) ?_
    rotate_left
    · intro w hSw
      (try dsimp only at hSw)
      go_simp
      try with_reducible rfl
    (try simp only [Act.put, List.getElem_toArray, List.getElem_cons_succ, List.getElem_cons_zero, List.setIfInBounds_toArray, List.set_cons_zero, List.set_cons_succ])
    refine wpAnyH_take (i := 21) (v := ?_) rfl (by kernel_rfl) (by kernel_rfl) (by kernel_rfl) (fun _ _ _ h => h) (Or.inl ⟨by rfl, ?_⟩) (by assumption) ?_
    rotate_left
    · intro w hSw
      (try dsimp only at hSw)
      go_simp
      try with_reducible rfl
    (try simp only [Act.put, List.getElem_toArray, List.getElem_cons_succ, List.getElem_cons_zero, List.setIfInBounds_toArray, List.set_cons_zero, List.set_cons_succ])
    refine wpAnyH_take (i := 22) (v := ?_) rfl (by kernel_rfl) (by kernel_rfl) (by kernel_rfl) (fun _ _ _ h => h) (Or.inl ⟨by rfl, ?_⟩) (by assumption) ?_
    rotate_left
    · intro w hSw
      (try dsimp only at hSw)
      go_simp
      try with_reducible rfl
    (try simp only [Act.put, List.getElem_toArray, List.getElem_cons_succ, List.getElem_cons_zero, List.setIfInBounds_toArray, List.set_cons_zero, List.set_cons_succ])
    refine wpAnyH_done (by kernel_rfl) ?_ _
    go_wp2_with fail
    refine (put_at [x] (enc x) (by simp [encs]) (some ⟨w5.heap.size, 0, none⟩) 1 _ (by intro z hz; simp at hz; subst hz; exact HX.out.1) (lit_row w5 [.int .u64 (x : Nat)] 27 _ rfl) (by simp)).mono ?_
    rintro _ w6 ⟨v6, rfl, ho6, hb6⟩
    have hcv6 := owns_str ho6
    have HB6 : Hid (Below W.heap.size W w6) := Lib.hid ((HB5.out.alloc HB5.out.size _).trans (hb6.mono (by have := HB5.out.size; simp; omega)))
    clear ho6 hb6 hcv5 hHeld
    go_wp2_with fail
    refine (put_at [y] (enc y) (by simp [encs]) (some ⟨w6.heap.size, 0, none⟩) 1 _ (by intro z hz; simp at hz; subst hz; exact HX.out.2) (lit_row w6 [.int .u64 (y : Nat)] 27 _ rfl) (by simp)).mono ?_
    rintro _ w7 ⟨v7, rfl, ho7, hb7⟩
    have hcv7 := owns_str ho7
    have HB7 : Hid (Below W.heap.size W w7) := Lib.hid ((HB6.out.alloc HB6.out.size _).trans (hb7.mono (by have := HB6.out.size; simp; omega)))
    clear ho7 hb7 hcv6
    have c1' := put_less HX.out.1 HX.out.2
    have c2' := put_same HX.out.1 HX.out.2
    go_wp2_with fail
    go_ret
    exact ⟨rfl, HB7.out⟩
  · have hr := (tk_range l).2.2.2
    rw [ht] at hr
    obtain ⟨rfl, rfl⟩ := hr her
    have hne : (er == 0) = false := by simp [her]
    clear hr ht her
    go_wp2_with (go_at_call 12; (with_reducible refine (take_at l _ c0 W.heap.size _ (R0.out.below_ HB1.out) HL0.out (by omega) HT.out).mono ?_); rintro _ w2 ⟨rfl, rfl⟩)
    refine (put_at [x] (enc x) (by simp [encs]) (some ⟨w1.heap.size, 0, none⟩) 1 _ (by intro z hz; simp at hz; subst hz; exact HX.out.1) (lit_row w1 [.int .u64 (x : Nat)] 27 _ rfl) (by simp)).mono ?_
    rintro _ w6 ⟨v6, rfl, ho6, hb6⟩
    have hcv6 := owns_str ho6
    have HB6 : Hid (Below W.heap.size W w6) := Lib.hid ((HB1.out.alloc HB1.out.size _).trans (hb6.mono (by have := HB1.out.size; simp; omega)))
    clear ho6 hb6
    go_wp2_with fail
    refine (put_at [y] (enc y) (by simp [encs]) (some ⟨w6.heap.size, 0, none⟩) 1 _ (by intro z hz; simp at hz; subst hz; exact HX.out.2) (lit_row w6 [.int .u64 (y : Nat)] 27 _ rfl) (by simp)).mono ?_
    rintro _ w7 ⟨v7, rfl, ho7, hb7⟩
    have hcv7 := owns_str ho7
    have HB7 : Hid (Below W.heap.size W w7) := Lib.hid ((HB6.out.alloc HB6.out.size _).trans (hb7.mono (by have := HB6.out.size; simp; omega)))
    clear ho7 hb7 hcv6
    have c1' := put_less HX.out.1 HX.out.2
    have c2' := put_same HX.out.1 HX.out.2
    go_wp2_with fail
    go_ret
    exact ⟨rfl, HB7.out⟩
end Go.Proofs.Ytbbioeiikobnnaa
