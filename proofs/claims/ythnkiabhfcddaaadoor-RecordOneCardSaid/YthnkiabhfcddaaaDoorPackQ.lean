/-
  Texts of the proofs, put together: CrcSum, Crc.
-/
import Derived.Test.YthnkiabhfcddaaaDoorPackF
import Derived.Test.YthnkiabhfcddaaaDoorPackM
import Derived.Test.YthnkiabhfcddaaaDoorPackC
import Derived.Test.YthnkiabhfcddaaaDoorPackA
import Derived.Laws.BitsAllLaws
import Derived.Lib.LaidTab
import Derived.Lib.AppendIntMem
import Derived.Deep.RegionHeld3
/-
  Contracts of package crc: More, Sum, Put: four bits at once by the package's table.
-/
namespace Go.Proofs.YthnkiabhfcddaaaDoor
open Go.RowKit
set_option linter.unusedVariables false

/-- The table's numbers. -/
def crcTab : List Int := [0, 8801531, 9098509, 825846, 9692897, 1419802, 1651692, 10452759, 10584377, 2608578, 2839604, 11344079, 3303384, 11807523, 12104405, 4128302]
theorem crcTab_at (j : Nat) (h : j < 16) : crcTab.getD j 0 = (tab j : Int) := by
  have k : ∀ i : Fin 16, crcTab.getD i.val 0 = (tab i.val : Int) := by decide +kernel
  exact k ⟨j, h⟩
/-- What crc reads of the package's variables, in every world in which what stood in W stands. -/
def Tabs (W : World) : Prop := Lib.TabBelow Tryd.prog W.heap.size W "lookout/crc.turns" .u32 crcTab
theorem gTab : Tryd.prog.globalNamed "lookout/crc.turns" = some 1 := by kernel_rfl
theorem Tabs.cell {W w : World} (hT : Tabs W) (hW : Below W.heap.size W w) (j : Nat) (h : j < 16) : w.cell? ⟨1, j, none⟩ = some (.int .u32 (tab j : Int)) := by
  have := (hT w hW).cell gTab j (by simpa [crcTab] using h)
  rw [crcTab_at j h] at this
  exact this
theorem tab_lt (j : Nat) : tab j < 16777216 ∨ 16 ≤ j := by
  by_cases h : j < 16
  · exact .inl (feed_lt _ _ (by omega))
  · exact .inr (by omega)

set_option maxRecDepth 100000 in
theorem four_any (W : World) (hT : Tabs W) (s n : Nat) (w : World) (hW : Below W.heap.size W w) (hs : s < 16777216) (hn : n < 16) :
    Calls Tryd.prog 79 #[.int .u32 (s : Int), .int .u8 (n : Int)] w fun e w' => e = .returned (.int .u32 ((16 * s % 16777216 ^^^ tab (s / 1048576 ^^^ n) : Nat) : Int)) ∧ w = w' := by
  have hj : s / 1048576 ^^^ n < 16 := by
    have := Nat.xor_lt_two_pow (n := 4) (by omega : s / 1048576 < 2 ^ 4) (by omega : n < 2 ^ 4)
    omega
  have hc := hT.cell hW _ hj
  have ht := (tab_lt (s / 1048576 ^^^ n)).resolve_right (by omega)
  obtain ⟨j, hj0⟩ : ∃ j, j = s / 1048576 ^^^ n := ⟨_, rfl⟩
  rw [← hj0] at hj hc ht ⊢
  obtain ⟨t, ht0⟩ : ∃ t, t = tab j := ⟨_, rfl⟩
  rw [← ht0] at hc ht ⊢
  have hx : Go.bits BinOp.xor IntKind.u32 ((s : Int) / 1048576) (n : Int) = (j : Int) := by
    have k := u32_xor_nat (s / 1048576) n (by omega) (by omega)
    rw [hj0, ← k]
    congr 1
  obtain ⟨y, hy0⟩ : ∃ y, y = 16 * s % 16777216 := ⟨_, rfl⟩
  have hy : Go.bits BinOp.and IntKind.u32 ((s : Int) * 16) 16777215 = (y : Int) := by
    have k := u32_and_nat (s * 16) 16777215 (by omega) (by omega)
    rw [Nat.and_two_pow_sub_one_eq_mod (s * 16) 24] at k
    rw [hy0, Nat.mul_comm 16 s, ← k]
    congr 1
  have hyl : y < 16777216 := by omega
  rw [← hy0]
  have hz := u32_xor_nat y t (by omega) (by omega)
  have HW := Lib.hid hW
  clear hj0 ht0 hy0 hT hW
  go_enter Tryd.func79, Tryd.ntmps79
  go_wp2
  go_ret
  exact ⟨rfl, rfl⟩

/-- A register after four bits. -/
def fr (s n : Nat) : Nat := 16 * s % 16777216 ^^^ tab (s / 1048576 ^^^ n)
theorem fr_lt (s n : Nat) (hs : s < 16777216) (hn : n < 16) : fr s n < 16777216 := by
  unfold fr
  rw [← feed_four s n hs hn]
  exact feed_lt _ _ hs
theorem four_at (W : World) (hT : Tabs W) (s n r : Nat) (ni : Int) (w : World) (hW : Below W.heap.size W w) (hs : s < 16777216) (hni : ni = (n : Int)) (hn : n < 16) (h : fr s n = r) :
    Calls Tryd.prog 79 #[.int .u32 (s : Int), .int .u8 ni] w fun e w' => e = .returned (.int .u32 (r : Nat)) ∧ w = w' := by
  subst hni; subst h; exact four_any W hT s n w hW hs hn
theorem feed_fr (s : Nat) (c : UInt8) (hs : s < 16777216) : feed s (byteBits c) = fr (fr s (c.toNat / 16)) (c.toNat % 16) := feed_byte s c hs

set_option maxRecDepth 100000 in
theorem cmore_any (W : World) (hT : Tabs W) (s : Nat) (A : Option Addr) (c : Nat) (l : List UInt8) (w : World) (hW : Below W.heap.size W w) (hs : s < 4294967296) (hr : Row w w.heap.size A (bc l)) (hl : l.length ≤ 1000000) :
    Calls Tryd.prog 72 #[.int .u32 (s : Int), .slice A l.length c] w fun e w' => e = .returned (.int .u32 (moreC s l : Nat)) ∧ Below w.heap.size w w' := by
  have HR := Lib.hid hr
  have HW := Lib.hid hW
  have HT := Lib.hid hT
  have hx : Go.bits BinOp.and IntKind.u32 (s : Int) 16777215 = ((s % 16777216 : Nat) : Int) := by
    have k := u32_and_nat s 16777215 (by omega) (by omega)
    rw [Nat.and_two_pow_sub_one_eq_mod s 24] at k
    exact k
  have hx2 : s % 16777216 < 16777216 := by omega
  have HM : Hid (s % 16777216 = moreC s []) := Lib.hid rfl
  generalize s % 16777216 = s0 at hx hx2 HM
  clear hr hW hT
  go_enter Tryd.func72, Tryd.ntmps72
  go_wp2
  go_loop [0, 11] (fun x i => ∃ (k r : Nat), k ≤ l.length ∧ i = .int .i64 k ∧ x = .int .u32 (r : Nat) ∧ r < 16777216 ∧ Hid (r = moreC s (l.take k))) (fun _ i => l.length - (intOf i).toNat)
  case atStart => exact ⟨0, s0, Nat.zero_le _, rfl, rfl, hx2, HM⟩
  case round =>
    obtain ⟨k, r, hk, rfl, rfl, hrl, HK⟩ := hrel
    by_cases hlt : k < l.length
    · obtain ⟨b, off, rfl, hb, hc⟩ := HR.out.at_ k (by rw [bc_length]; exact hlt)
      have hc2 : w.cell? ⟨b, off + k, none⟩ = some (.int .u8 (l[k].toNat : Int)) := by
        rw [hc]
        simp [bc]
      have HN : Hid (moreC s (l.take (k + 1)) = fr (fr r (l[k].toNat / 16)) (l[k].toNat % 16)) := Lib.hid (by
        rw [List.take_succ_eq_append_getElem hlt, moreC_snoc, ← HK.out, feed_fr _ _ hrl])
      have HC : Hid (l[k].toNat < 256) := Lib.hid l[k].toNat_lt
      clear hb hc HK
      generalize l[k].toNat = z at hc2 HN HC
      have hza : Go.bits BinOp.and IntKind.u8 (z : Int) 15 = ((z % 16 : Nat) : Int) := by
        have k := u8_and_nat z 15 HC.out (by omega)
        rw [Nat.and_two_pow_sub_one_eq_mod z 4] at k
        exact k
      obtain ⟨q, HQ⟩ : ∃ q, Hid (fr r (z / 16) = q) := ⟨_, Lib.hid rfl⟩
      have hq : q < 16777216 := by rw [← HQ.out]; exact fr_lt _ _ hrl (by have := HC.out; omega)
      obtain ⟨p, HP⟩ : ∃ p, Hid (fr q (z % 16) = p) := ⟨_, Lib.hid rfl⟩
      have hp : p < 16777216 := by rw [← HP.out]; exact fr_lt _ _ hq (by omega)
      rw [HQ.out, HP.out] at HN
      have K1 := four_at W HT.out r (z / 16) q ((z : Int) / 16) w HW.out hrl (by omega) (by have := HC.out; omega) HQ.out
      have K2 := four_at W HT.out q (z % 16) p ((z : Int) % 16) w HW.out hq (by omega) (by omega) HP.out
      have HK1 := Lib.hid K1
      have HK2 := Lib.hid K2
      clear K1 K2
      go_wp2_with (go_at_call 79; first
        | ((with_reducible refine HK1.out.mono ?_); rintro _ w' ⟨rfl, rfl⟩)
        | ((with_reducible refine HK2.out.mono ?_); rintro _ w' ⟨rfl, rfl⟩))
      go_round
      case rel => exact ⟨k + 1, p, by omega, by go_num, rfl, hp, Lib.hid HN.out.symm⟩
      case measure => simp [intOf]; omega
    · obtain rfl : k = l.length := by omega
      go_wp2
      go_ret
      exact ⟨rt_u32 (by rw [HK.out, List.take_length]), Below.refl _ _⟩

theorem csum_any (W : World) (hT : Tabs W) (A : Option Addr) (c : Nat) (l : List UInt8) (w : World) (hW : Below W.heap.size W w) (hr : Row w w.heap.size A (bc l)) (hl : l.length ≤ 1000000) :
    Calls Tryd.prog 53 #[.slice A l.length c] w fun e w' => e = .returned (.int .u32 (sumC l : Nat)) ∧ Below w.heap.size w w' := by
  have HR := Lib.hid hr
  have HW := Lib.hid hW
  have HT := Lib.hid hT
  have HL := Lib.hid hl
  clear hr hW hT hl
  go_enter Tryd.func53, Tryd.ntmps53
  go_wp2_with (go_at_call 72; refine (cmore_any W HT.out 11994318 A c l _ HW.out (by omega) HR.out HL.out).mono ?_; rintro _ w' ⟨rfl, hb⟩)
  go_ret
  exact ⟨rfl, hb⟩

set_option maxRecDepth 100000 in
theorem cput_any (s : Nat) (w : World) (hs : s < 4294967296) :
    Calls Tryd.prog 52 #[.int .u32 (s : Int)] w fun e w' => ∃ v, e = .returned v ∧ Lies w' w'.heap.size v (putC s) ∧ Below w.heap.size w w' := by
  have e1 : (s : Int) / 65536 % 256 = ((UInt8.ofNat (s / 65536)).toNat : Int) := by simp
  have e2 : (s : Int) / 256 % 256 = ((UInt8.ofNat (s / 256)).toNat : Int) := by simp
  have e3 : (s : Int) % 256 = ((UInt8.ofNat s).toNat : Int) := by simp
  have HE : Hid (#[Value.int .u8 ((s : Int) / 65536 % 256), Value.int .u8 ((s : Int) / 256 % 256), Value.int .u8 ((s : Int) % 256)] = (bc (putC s)).toArray) := Lib.hid (by rw [e1, e2, e3]; rfl)
  clear e1 e2 e3
  go_enter Tryd.func52, Tryd.ntmps52
  go_wp2
  go_ret
  exact ⟨_, rfl, lit_lies w (putC s) _ HE.out, (Below.refl _ _).alloc (Nat.le_refl _) _⟩
end Go.Proofs.YthnkiabhfcddaaaDoor
/-
  Contract of package crc: Fits.
-/
namespace Go.Proofs.YthnkiabhfcddaaaDoor
open Go.RowKit
set_option linter.unusedVariables false

theorem fits_S {b off m c : Nat} {z : List UInt8} {W : World} (hR : Row W W.heap.size (some ⟨b, off + m, none⟩) (bc z) ∧ z.length = 3) {w' : World} (hb : Below W.heap.size W w') : (convert 30 9 (.slice (some ⟨b, off + m, none⟩) 3 (c - m))).run Tryd.prog w' = .ok (.string (mkB z)) w' ∧ Hid (Below W.heap.size W w') := by
  have h := run_str_any (c - m) (hR.1.below_ hb)
  rw [hR.2] at h
  exact ⟨h, Lib.hid hb⟩
theorem fits_drew {b off m c : Nat} {z : List UInt8} {W : World} (hR : Row W W.heap.size (some ⟨b, off + m, none⟩) (bc z) ∧ z.length = 3) {w' : World} (hb : Hid (Below W.heap.size W w')) : (convert 30 9 (.slice (some ⟨b, off + m, none⟩) 3 (c - m))).run Tryd.prog w'.drew = .ok (.string (mkB z)) w'.drew ∧ Hid (Below W.heap.size W w'.drew) :=
  fits_S hR hb.out.drew
theorem fsum (W : World) (hT : Tabs W) (m c : Nat) {b off : Nat} (y : List UInt8) (u : Nat) (w : World) (hy : y.length = m) (hm : m ≤ 1000000) (hr : Row W W.heap.size (some ⟨b, off, none⟩) (bc y)) (hW : Below W.heap.size W w) (hu : sumC y = u) :
    Calls Tryd.prog 53 #[.slice (some ⟨b, off, none⟩) m c] w fun e w' => e = .returned (.int .u32 (u : Nat)) ∧ Below w.heap.size w w' := by
  subst hy; subst hu
  exact csum_any W hT _ c y w hW ((hr.below_ hW).more hW.size) hm
theorem fput (u : Nat) (w : World) (hu : u < 4294967296) {p : List UInt8} (h : putC u = p) : Calls Tryd.prog 52 #[.int .u32 (u : Int)] w fun e w' => ∃ A c, e = .returned (.slice A p.length c) ∧ Row w' w'.heap.size A (bc p) ∧ Below w.heap.size w w' := by
  subst h
  refine (cput_any u w hu).mono fun e w' h => ?_
  obtain ⟨v, rfl, hl, hb⟩ := h
  obtain ⟨A, c, rfl, hr, _, _⟩ := lies_row hl
  exact ⟨A, c, rfl, hr, hb⟩

set_option maxRecDepth 100000 in
set_option maxHeartbeats 1000000 in
theorem cfits_some (W : World) (hT : Tabs W) (b off m n c : Nat) (y z p : List UInt8) (u : Nat) (q : Bool) (hn : n = m + 3) (hnc : n ≤ c) (hm : m ≤ 1000000) (hy : y.length = m) (hry : Row W W.heap.size (some ⟨b, off, none⟩) (bc y)) (hrz : Row W W.heap.size (some ⟨b, off + m, none⟩) (bc z) ∧ z.length = 3) (hu : sumC y = u) (hp : putC u = p) (hul : u < 4294967296) (hq : ((mkB z).toList == (mkB p).toList) = q) :
    Calls Tryd.prog 86 #[.slice (some ⟨b, off, none⟩) n c] W fun e w' => e = .returned (.bool q) ∧ Below W.heap.size W w' := by
  have HT := Lib.hid hT
  have HY := Lib.hid hry
  have HY2 := Lib.hid hy
  have HZ := Lib.hid hrz
  have HU := Lib.hid hu
  have HP := Lib.hid hp
  have HUL := Lib.hid hul
  have HQ := Lib.hid hq
  have HM := Lib.hid hm
  have k1 : (n : Int) - 3 = (m : Int) := by omega
  have k5 : IntKind.i64.wrap (m : Int) = (m : Int) := IntWalk.i64_in _ (by omega)
  have k2 : (m : Int) ≤ (n : Int) := by omega
  have k3 : (n : Int) ≤ (c : Int) := by omega
  have k4 : m ≤ n := by omega
  have k6 : n ≤ c := hnc
  have k7 : m ≤ c := by omega
  have k8 : n - m = 3 := by omega
  have k9 : ¬ c = m := by omega
  clear hT hry hy hrz hu hp hul hq hn hnc hm
  go_enter Tryd.func86, Tryd.ntmps86
  go_wp2
  have HB0 : Hid (Below W.heap.size W W) := Lib.hid (bself W)
  refine wp_region_held_drew (S := fun w' => (convert 30 9 (.slice (some ⟨b, off + m, none⟩) 3 (c - m))).run Tryd.prog w' = .ok (.string (mkB z)) w' ∧ Hid (Below W.heap.size W w')) (by kernel_rfl) ?_ (fun hHeld => ?_)
  · (try dsimp only)
    exact fits_drew HZ.out HB0
  refine wpAnyH_take (i := 0) (v := ?_) rfl (by kernel_rfl) (by kernel_rfl) (by kernel_rfl) (fun _ _ _ h => h) (Or.inl ⟨by rfl, ?_⟩) (by assumption) ?_
  rotate_left
  · intro w hSw
    (try dsimp only at hSw)
    go_simp
    try with_reducible rfl
  (try simp only [Act.put, List.getElem_toArray, List.getElem_cons_zero, List.setIfInBounds_toArray, List.set_cons_zero, List.set_cons_succ])
  refine wpAnyH_take (i := 1) (v := ?_) rfl (by kernel_rfl) (by kernel_rfl) (by kernel_rfl) (fun _ _ _ h => h) (Or.inl ⟨by rfl, ?_⟩) (by assumption) ?_
  rotate_left
  · intro w hSw
    (try dsimp only at hSw)
    go_simp
    try with_reducible rfl
  (try simp only [Act.put, List.getElem_toArray, List.getElem_cons_succ, List.getElem_cons_zero, List.setIfInBounds_toArray, List.set_cons_zero, List.set_cons_succ])
  refine wpAnyH_take (i := 2) (v := ?_) rfl (by kernel_rfl) (by kernel_rfl) (by kernel_rfl) (fun _ _ _ h => h) (Or.inl ⟨by rfl, ?_⟩) (by assumption) ?_
  rotate_left
  · intro w hSw
    (try dsimp only at hSw)
    go_simp
    try with_reducible rfl
  (try simp only [Act.put, List.getElem_toArray, List.getElem_cons_succ, List.getElem_cons_zero, List.setIfInBounds_toArray, List.set_cons_zero, List.set_cons_succ])
  refine wpAnyH_take (i := 3) (v := ?_) rfl (by kernel_rfl) (by kernel_rfl) (by kernel_rfl) (fun _ _ _ h => h) (Or.inl ⟨by rfl, ?_⟩) (by assumption) ?_
  rotate_left
  · intro w hSw
    (try dsimp only at hSw)
    go_simp
    try with_reducible rfl
  (try simp only [Act.put, List.getElem_toArray, List.getElem_cons_succ, List.getElem_cons_zero, List.setIfInBounds_toArray, List.set_cons_zero, List.set_cons_succ])
  refine wpAnyH_take (i := 4) (v := ?_) rfl (by kernel_rfl) (by kernel_rfl) (by kernel_rfl) (fun _ _ _ h => h) (Or.inl ⟨by rfl, ?_⟩) (by assumption) ?_
  rotate_left
  · intro w hSw
    (try dsimp only at hSw)
    go_simp
    try with_reducible rfl
  (try simp only [Act.put, List.getElem_toArray, List.getElem_cons_succ, List.getElem_cons_zero, List.setIfInBounds_toArray, List.set_cons_zero, List.set_cons_succ])
  refine wpAnyH_take (i := 5) (v := ?_) rfl (by kernel_rfl) (by kernel_rfl) (by kernel_rfl) (fun _ _ _ h => h) (Or.inl ⟨by rfl, ?_⟩) (by assumption) ?_
  rotate_left
  · intro w hSw
    (try dsimp only at hSw)
    go_simp
    try with_reducible rfl
  (try simp only [Act.put, List.getElem_toArray, List.getElem_cons_succ, List.getElem_cons_zero, List.setIfInBounds_toArray, List.set_cons_zero, List.set_cons_succ])
  refine wpAnyH_take (i := 6) (v := ?_) rfl (by kernel_rfl) (by kernel_rfl) (by kernel_rfl) (fun _ _ _ h => h) (Or.inl ⟨by rfl, ?_⟩) (by assumption) ?_
  rotate_left
  · intro w hSw
    (try dsimp only at hSw)
    go_simp
    try with_reducible rfl
  (try simp only [Act.put, List.getElem_toArray, List.getElem_cons_succ, List.getElem_cons_zero, List.setIfInBounds_toArray, List.set_cons_zero, List.set_cons_succ])
  refine wpAnyH_take (i := 7) (v := ?_) rfl (by kernel_rfl) (by kernel_rfl) (by kernel_rfl) (fun _ _ _ h => h) (Or.inl ⟨by rfl, ?_⟩) (by assumption) ?_
  rotate_left
  · intro w hSw
    (try dsimp only at hSw)
    go_simp
    try with_reducible rfl
  (try simp only [Act.put, List.getElem_toArray, List.getElem_cons_succ, List.getElem_cons_zero, List.setIfInBounds_toArray, List.set_cons_zero, List.set_cons_succ])
  refine wpAnyH_take (i := 8) (v := ?_) rfl (by kernel_rfl) (by kernel_rfl) (by kernel_rfl) (fun _ _ _ h => h) (Or.inl ⟨by rfl, ?_⟩) (by assumption) ?_
  rotate_left
  · intro w hSw
    (try dsimp only at hSw)
    go_simp
    try with_reducible rfl
  (try simp only [Act.put, List.getElem_toArray, List.getElem_cons_succ, List.getElem_cons_zero, List.setIfInBounds_toArray, List.set_cons_zero, List.set_cons_succ])
  refine wpAnyH_take (i := 9) (v := ?_) rfl (by kernel_rfl) (by kernel_rfl) (by kernel_rfl) (fun _ _ _ h => h) (Or.inl ⟨by rfl, ?_⟩) (by assumption) ?_
  rotate_left
  · intro w hSw
    (try dsimp only at hSw)
    go_simp
    try with_reducible rfl
  (try simp only [Act.put, List.getElem_toArray, List.getElem_cons_succ, List.getElem_cons_zero, List.setIfInBounds_toArray, List.set_cons_zero, List.set_cons_succ])
  refine wpAnyH_ready (rs := [10]) (by kernel_rfl) (by simp) ?_
  refine AllReadyH.cons rfl (fun K hK => ?_) AllReadyH.nil
  go_simp
  (go_at_call 53; ((with_reducible refine (fsum W HT.out m c y u _ HY2.out HM.out HY.out hHeld.2.out HU.out).mono ?_); rintro e v1 ⟨rfl, hb⟩; have hS := fits_S (c := c) HZ.out (bstep hHeld.2.out hb); clear hb))
  go_wp2_with fail
  refine hK.out _ _ ?_ (fun hHeld => ?_)
  · (try dsimp only)
    (first | assumption | exact fits_S HZ.out (by assumption) | exact fits_drew HZ.out (by assumption))
  clear hK K
  (try simp only [Act.put, List.getElem_toArray, List.getElem_cons_succ, List.getElem_cons_zero, List.setIfInBounds_toArray, List.set_cons_zero, List.set_cons_succ])
  refine wpAnyH_ready (rs := [11]) (by kernel_rfl) (by simp) ?_
  refine AllReadyH.cons rfl (fun K hK => ?_) AllReadyH.nil
  go_simp
  (go_at_call 52; ((with_reducible refine (fput u _ HUL.out HP.out).mono ?_); rintro e v2 ⟨A5, c5, rfl, hr5, hb⟩; have HR5 := Lib.hid hr5; have hS := fits_S (c := c) HZ.out (bstep hHeld.2.out hb); clear hb hr5))
  go_wp2_with fail
  refine hK.out _ _ ?_ (fun hHeld => ?_)
  · (try dsimp only)
    (first | assumption | exact fits_S HZ.out (by assumption) | exact fits_drew HZ.out (by assumption))
  clear hK K
  (try simp only [Act.put, List.getElem_toArray, List.getElem_cons_succ, List.getElem_cons_zero, List.setIfInBounds_toArray, List.set_cons_zero, List.set_cons_succ])
  refine wpAnyH_ready (rs := [12]) (by kernel_rfl) (by simp) ?_
  refine AllReadyH.cons rfl (fun K hK => ?_) AllReadyH.nil
  have hcv := run_str_any (w := v2) c5 (by first | exact HR5.out | exact HR5.out.below_ (Below.refl _ _).drew)
  go_simp
  clear hcv
  refine hK.out _ _ ?_ (fun hHeld => ?_)
  · (try dsimp only)
    (first | assumption | exact fits_S HZ.out (by assumption) | exact fits_drew HZ.out (by assumption))
  clear hK K
  (try simp only [Act.put, List.getElem_toArray, List.getElem_cons_succ, List.getElem_cons_zero, List.setIfInBounds_toArray, List.set_cons_zero, List.set_cons_succ])
  refine wpAnyH_take (i := 13) (v := ?_) rfl (by kernel_rfl) (by kernel_rfl) (by kernel_rfl) (fun _ _ _ h => h) (Or.inl ⟨by rfl, ?_⟩) (by assumption) ?_
  rotate_left
  · intro w hSw
    (try dsimp only at hSw)
    go_simp
    try with_reducible rfl
  (try simp only [Act.put, List.getElem_toArray, List.getElem_cons_succ, List.getElem_cons_zero, List.setIfInBounds_toArray, List.set_cons_zero, List.set_cons_succ])
  refine wpAnyH_take (i := 14) (v := ?_) rfl (by kernel_rfl) (by kernel_rfl) (by kernel_rfl) (fun _ _ _ h => h) (Or.inl ⟨by rfl, ?_⟩) (by assumption) ?_
  rotate_left
  · intro w hSw
    (try dsimp only at hSw)
    go_simp
    try with_reducible rfl
  (try simp only [Act.put, List.getElem_toArray, List.getElem_cons_succ, List.getElem_cons_zero, List.setIfInBounds_toArray, List.set_cons_zero, List.set_cons_succ])
  refine wpAnyH_take (i := 15) (v := ?_) rfl (by kernel_rfl) (by kernel_rfl) (by kernel_rfl) (fun _ _ _ h => h) (Or.inl ⟨by rfl, ?_⟩) (by assumption) ?_
  rotate_left
  · intro w hSw
    (try dsimp only at hSw)
    go_simp
    try with_reducible rfl
  (try simp only [Act.put, List.getElem_toArray, List.getElem_cons_succ, List.getElem_cons_zero, List.setIfInBounds_toArray, List.set_cons_zero, List.set_cons_succ])
  refine wpAnyH_done (by kernel_rfl) ?_ _
  have H := hHeld.2.out
  go_wp2
  go_ret
  exact ⟨by rw [← HQ.out]; rfl, H⟩
theorem Tabs.over {W w : World} (hT : Tabs W) (hW : Below W.heap.size W w) : Tabs w := fun w' h => hT w' (bstep hW h)

theorem cfits_any (W : World) (hT : Tabs W) (A : Option Addr) (c : Nat) (l : List UInt8) (w : World) (hW : Below W.heap.size W w) (hr : Row w w.heap.size A (bc l)) (hlc : l.length ≤ c) (hl : l.length ≤ 1000000) :
    Calls Tryd.prog 86 #[.slice A l.length c] w fun e w' => e = .returned (.bool (fitsC l)) ∧ Below w.heap.size w w' := by
  by_cases h : 3 ≤ l.length
  · obtain ⟨b, off, rfl, hb, hc⟩ := hr (by intro e; have := congrArg List.length e; rw [bc_length, List.length_nil] at this; omega)
    have hc' : ∀ i (h : i < l.length), w.cell? ⟨b, off + i, none⟩ = some (.int .u8 (l[i].toNat : Int)) := fun i hi => hc i _ (bc_get l i hi)
    refine cfits_some w (hT.over hW) b off (l.length - 3) l.length c (l.take (l.length - 3)) (l.drop (l.length - 3)) _ _ _ (by omega) hlc (by omega) (by rw [List.length_take]; omega) ?_ ⟨?_, by rw [List.length_drop]; omega⟩ rfl rfl (Nat.lt_of_lt_of_le (sumC_lt _) (by omega)) ?_
    · refine Lies.row hb fun i hi => ?_
      rw [List.length_take] at hi
      rw [hc' i (by omega), List.getElem_take]
    · refine Lies.row hb fun i hi => ?_
      rw [List.length_drop] at hi
      rw [Nat.add_assoc, hc' (l.length - 3 + i) (by omega), List.getElem_drop]
    · unfold fitsC
      rw [mkB_toList, mkB_toList, decide_eq_true h, Bool.true_and, Bool.eq_iff_iff]
      rw [beq_iff_eq, decide_eq_true_iff, eq_comm]
  · have HC := Lib.hid (show fitsC l = false by unfold fitsC; rw [decide_eq_false h]; rfl)
    have k1 : decide ((3 : Int) ≤ (l.length : Int)) = false := decide_eq_false (by omega)
    have k2 : IntKind.i64.wrap ((l.length : Int) - 3) = (l.length : Int) - 3 := IntWalk.i64_in _ (by omega)
    clear hT hr h hW
    go_enter Tryd.func86, Tryd.ntmps86
    go_wp2
    have HB0 : Hid (Below w.heap.size w w) := Lib.hid (bself w)
    refine wp_region_held_drew (S := fun w' => Hid (Below w.heap.size w w')) (by kernel_rfl) ?_ (fun hHeld => ?_)
    · (try dsimp only)
      exact Lib.hid HB0.out.drew
    refine wpAnyH_take (i := 0) (v := ?_) rfl (by kernel_rfl) (by kernel_rfl) (by kernel_rfl) (fun _ _ _ h => h) (Or.inl ⟨by rfl, ?_⟩) (by assumption) ?_
    rotate_left
    · intro w hSw
      (try dsimp only at hSw)
      go_simp
      try with_reducible rfl
    (try simp only [Act.put, List.getElem_toArray, List.getElem_cons_zero, List.setIfInBounds_toArray, List.set_cons_zero, List.set_cons_succ])
    refine wpAnyH_take (i := 1) (v := ?_) rfl (by kernel_rfl) (by kernel_rfl) (by kernel_rfl) (fun _ _ _ h => h) (Or.inl ⟨by rfl, ?_⟩) (by assumption) ?_
    rotate_left
    · intro w hSw
      (try dsimp only at hSw)
      go_simp
      try with_reducible rfl
    (try simp only [Act.put, List.getElem_toArray, List.getElem_cons_succ, List.getElem_cons_zero, List.setIfInBounds_toArray, List.set_cons_zero, List.set_cons_succ])
    refine wpAnyH_take (i := 2) (v := ?_) rfl (by kernel_rfl) (by kernel_rfl) (by kernel_rfl) (fun _ _ _ h => h) (Or.inl ⟨by rfl, ?_⟩) (by assumption) ?_
    rotate_left
    · intro w hSw
      (try dsimp only at hSw)
      go_simp
      try with_reducible rfl
    (try simp only [Act.put, List.getElem_toArray, List.getElem_cons_succ, List.getElem_cons_zero, List.setIfInBounds_toArray, List.set_cons_zero, List.set_cons_succ])
    refine wpAnyH_take (i := 3) (v := undef) rfl (by kernel_rfl) (by kernel_rfl) (by kernel_rfl) (fun _ _ _ h => h) (Or.inr ⟨by rfl, rfl⟩) (by assumption) ?_
    (try simp only [Act.put, List.getElem_toArray, List.getElem_cons_succ, List.getElem_cons_zero, List.setIfInBounds_toArray, List.set_cons_zero, List.set_cons_succ])
    refine wpAnyH_take (i := 4) (v := undef) rfl (by kernel_rfl) (by kernel_rfl) (by kernel_rfl) (fun _ _ _ h => h) (Or.inr ⟨by rfl, rfl⟩) (by assumption) ?_
    (try simp only [Act.put, List.getElem_toArray, List.getElem_cons_succ, List.getElem_cons_zero, List.setIfInBounds_toArray, List.set_cons_zero, List.set_cons_succ])
    refine wpAnyH_take (i := 5) (v := undef) rfl (by kernel_rfl) (by kernel_rfl) (by kernel_rfl) (fun _ _ _ h => h) (Or.inr ⟨by rfl, rfl⟩) (by assumption) ?_
    (try simp only [Act.put, List.getElem_toArray, List.getElem_cons_succ, List.getElem_cons_zero, List.setIfInBounds_toArray, List.set_cons_zero, List.set_cons_succ])
    refine wpAnyH_take (i := 6) (v := undef) rfl (by kernel_rfl) (by kernel_rfl) (by kernel_rfl) (fun _ _ _ h => h) (Or.inr ⟨by rfl, rfl⟩) (by assumption) ?_
    (try simp only [Act.put, List.getElem_toArray, List.getElem_cons_succ, List.getElem_cons_zero, List.setIfInBounds_toArray, List.set_cons_zero, List.set_cons_succ])
    refine wpAnyH_take (i := 7) (v := undef) rfl (by kernel_rfl) (by kernel_rfl) (by kernel_rfl) (fun _ _ _ h => h) (Or.inr ⟨by rfl, rfl⟩) (by assumption) ?_
    (try simp only [Act.put, List.getElem_toArray, List.getElem_cons_succ, List.getElem_cons_zero, List.setIfInBounds_toArray, List.set_cons_zero, List.set_cons_succ])
    refine wpAnyH_take (i := 8) (v := undef) rfl (by kernel_rfl) (by kernel_rfl) (by kernel_rfl) (fun _ _ _ h => h) (Or.inr ⟨by rfl, rfl⟩) (by assumption) ?_
    (try simp only [Act.put, List.getElem_toArray, List.getElem_cons_succ, List.getElem_cons_zero, List.setIfInBounds_toArray, List.set_cons_zero, List.set_cons_succ])
    refine wpAnyH_take (i := 9) (v := undef) rfl (by kernel_rfl) (by kernel_rfl) (by kernel_rfl) (fun _ _ _ h => h) (Or.inr ⟨by rfl, rfl⟩) (by assumption) ?_
    (try simp only [Act.put, List.getElem_toArray, List.getElem_cons_succ, List.getElem_cons_zero, List.setIfInBounds_toArray, List.set_cons_zero, List.set_cons_succ])
    refine wpAnyH_take (i := 10) (v := undef) rfl (by kernel_rfl) (by kernel_rfl) (by kernel_rfl) (fun _ _ _ h => h) (Or.inr ⟨by rfl, rfl⟩) (by assumption) ?_
    (try simp only [Act.put, List.getElem_toArray, List.getElem_cons_succ, List.getElem_cons_zero, List.setIfInBounds_toArray, List.set_cons_zero, List.set_cons_succ])
    refine wpAnyH_take (i := 11) (v := undef) rfl (by kernel_rfl) (by kernel_rfl) (by kernel_rfl) (fun _ _ _ h => h) (Or.inr ⟨by rfl, rfl⟩) (by assumption) ?_
    (try simp only [Act.put, List.getElem_toArray, List.getElem_cons_succ, List.getElem_cons_zero, List.setIfInBounds_toArray, List.set_cons_zero, List.set_cons_succ])
    refine wpAnyH_take (i := 12) (v := undef) rfl (by kernel_rfl) (by kernel_rfl) (by kernel_rfl) (fun _ _ _ h => h) (Or.inr ⟨by rfl, rfl⟩) (by assumption) ?_
    (try simp only [Act.put, List.getElem_toArray, List.getElem_cons_succ, List.getElem_cons_zero, List.setIfInBounds_toArray, List.set_cons_zero, List.set_cons_succ])
    refine wpAnyH_take (i := 13) (v := undef) rfl (by kernel_rfl) (by kernel_rfl) (by kernel_rfl) (fun _ _ _ h => h) (Or.inr ⟨by rfl, rfl⟩) (by assumption) ?_
    (try simp only [Act.put, List.getElem_toArray, List.getElem_cons_succ, List.getElem_cons_zero, List.setIfInBounds_toArray, List.set_cons_zero, List.set_cons_succ])
    refine wpAnyH_take (i := 14) (v := ?_) rfl (by kernel_rfl) (by kernel_rfl) (by kernel_rfl) (fun _ _ _ h => h) (Or.inl ⟨by rfl, ?_⟩) (by assumption) ?_
    rotate_left
    · intro w hSw
      (try dsimp only at hSw)
      go_simp
      try with_reducible rfl
    (try simp only [Act.put, List.getElem_toArray, List.getElem_cons_succ, List.getElem_cons_zero, List.setIfInBounds_toArray, List.set_cons_zero, List.set_cons_succ])
    refine wpAnyH_take (i := 15) (v := ?_) rfl (by kernel_rfl) (by kernel_rfl) (by kernel_rfl) (fun _ _ _ h => h) (Or.inl ⟨by rfl, ?_⟩) (by assumption) ?_
    rotate_left
    · intro w hSw
      (try dsimp only at hSw)
      go_simp
      try with_reducible rfl
    (try simp only [Act.put, List.getElem_toArray, List.getElem_cons_succ, List.getElem_cons_zero, List.setIfInBounds_toArray, List.set_cons_zero, List.set_cons_succ])
    refine wpAnyH_done (by kernel_rfl) ?_ _
    have H := hHeld.out
    go_wp2
    go_ret
    exact ⟨by rw [HC.out]; rfl, H⟩
end Go.Proofs.YthnkiabhfcddaaaDoor
