/-
  Contracts of package crc: More, Sum, Put: four bits at once by the package's table.
-/
import Derived.Test.YtpgainalimmecaaDoorCrcFour
import Derived.Test.YtpgainalimmecaaDoorRefCrc
import Derived.Test.YtpgainalimmecaaDoorBlob
import Derived.Test.YtpgainalimmecaaDoorPairs
import Derived.Laws.BitsAllLaws
import Derived.Lib.LaidTab
import Derived.Lib.AppendIntMem
import Derived.Deep.RegionHeld3
namespace Go.Proofs.YtpgainalimmecaaDoor
open Go.RowKit
set_option linter.unusedVariables false

/-- The table's numbers. -/
def crcTab : List Int := [0, 8801531, 9098509, 825846, 9692897, 1419802, 1651692, 10452759, 10584377, 2608578, 2839604, 11344079, 3303384, 11807523, 12104405, 4128302]
theorem crcTab_at (j : Nat) (h : j < 16) : crcTab.getD j 0 = (tab j : Int) := by
  have k : ∀ i : Fin 16, crcTab.getD i.val 0 = (tab i.val : Int) := by decide +kernel
  exact k ⟨j, h⟩
/-- What crc reads of the package's variables, in every world in which what stood in W stands. -/
def Tabs (W : World) : Prop := Lib.TabBelow Tryd.prog W.heap.size W "lookout/crc.turns" .u32 crcTab
theorem gTab : Tryd.prog.globalNamed "lookout/crc.turns" = some 0 := by kernel_rfl
theorem Tabs.cell {W w : World} (hT : Tabs W) (hW : Below W.heap.size W w) (j : Nat) (h : j < 16) : w.cell? ⟨0, j, none⟩ = some (.int .u32 (tab j : Int)) := by
  have := (hT w hW).cell gTab j (by simpa [crcTab] using h)
  rw [crcTab_at j h] at this
  exact this
theorem tab_lt (j : Nat) : tab j < 16777216 ∨ 16 ≤ j := by
  by_cases h : j < 16
  · exact .inl (feed_lt _ _ (by omega))
  · exact .inr (by omega)

set_option maxRecDepth 100000 in
theorem four_any (W : World) (hT : Tabs W) (s n : Nat) (w : World) (hW : Below W.heap.size W w) (hs : s < 16777216) (hn : n < 16) :
    Calls Tryd.prog 42 #[.int .u32 (s : Int), .int .u8 (n : Int)] w fun e w' => e = .returned (.int .u32 ((16 * s % 16777216 ^^^ tab (s / 1048576 ^^^ n) : Nat) : Int)) ∧ w = w' := by
  have hj : s / 1048576 ^^^ n < 16 := by
    have := Nat.xor_lt_two_pow (n := 4) (by omega : s / 1048576 < 2 ^ 4) (by omega : n < 2 ^ 4)
    omega
  have hc := hT.cell hW _ hj
  have ht := (tab_lt (s / 1048576 ^^^ n)).resolve_right (by omega)
  obtain ⟨j, hj0⟩ : ∃ j, j = s / 1048576 ^^^ n := ⟨_, rfl⟩
  rw [← hj0] at hj hc ht ⊢
  obtain ⟨t, ht0⟩ : ∃ t, t = tab j := ⟨_, rfl⟩
  rw [← ht0] at hc ht ⊢
  have hx : Go.bits BinOp.xor IntKind.u32 ((s : Int) / 1048576) (n : Int) = (j : Int) := by
    have k := u32_xor_nat (s / 1048576) n (by omega) (by omega)
    rw [hj0, ← k]
    congr 1
  obtain ⟨y, hy0⟩ : ∃ y, y = 16 * s % 16777216 := ⟨_, rfl⟩
  have hy : Go.bits BinOp.and IntKind.u32 ((s : Int) * 16) 16777215 = (y : Int) := by
    have k := u32_and_nat (s * 16) 16777215 (by omega) (by omega)
    rw [Nat.and_two_pow_sub_one_eq_mod (s * 16) 24] at k
    rw [hy0, Nat.mul_comm 16 s, ← k]
    congr 1
  have hyl : y < 16777216 := by omega
  rw [← hy0]
  have hz := u32_xor_nat y t (by omega) (by omega)
  have HW := Lib.hid hW
  clear hj0 ht0 hy0 hT hW
  go_enter Tryd.func42, Tryd.ntmps42
  go_wp2
  go_ret
  exact ⟨rfl, rfl⟩

/-- A register after four bits. -/
def fr (s n : Nat) : Nat := 16 * s % 16777216 ^^^ tab (s / 1048576 ^^^ n)
theorem fr_lt (s n : Nat) (hs : s < 16777216) (hn : n < 16) : fr s n < 16777216 := by
  unfold fr
  rw [← feed_four s n hs hn]
  exact feed_lt _ _ hs
theorem four_at (W : World) (hT : Tabs W) (s n r : Nat) (ni : Int) (w : World) (hW : Below W.heap.size W w) (hs : s < 16777216) (hni : ni = (n : Int)) (hn : n < 16) (h : fr s n = r) :
    Calls Tryd.prog 42 #[.int .u32 (s : Int), .int .u8 ni] w fun e w' => e = .returned (.int .u32 (r : Nat)) ∧ w = w' := by
  subst hni; subst h; exact four_any W hT s n w hW hs hn
theorem feed_fr (s : Nat) (c : UInt8) (hs : s < 16777216) : feed s (byteBits c) = fr (fr s (c.toNat / 16)) (c.toNat % 16) := feed_byte s c hs

set_option maxRecDepth 100000 in
theorem cmore_any (W : World) (hT : Tabs W) (s : Nat) (A : Option Addr) (c : Nat) (l : List UInt8) (w : World) (hW : Below W.heap.size W w) (hs : s < 4294967296) (hr : Row w w.heap.size A (bc l)) (hl : l.length ≤ 1000000) :
    Calls Tryd.prog 37 #[.int .u32 (s : Int), .slice A l.length c] w fun e w' => e = .returned (.int .u32 (moreC s l : Nat)) ∧ Below w.heap.size w w' := by
  have HR := Lib.hid hr
  have HW := Lib.hid hW
  have HT := Lib.hid hT
  have hx : Go.bits BinOp.and IntKind.u32 (s : Int) 16777215 = ((s % 16777216 : Nat) : Int) := by
    have k := u32_and_nat s 16777215 (by omega) (by omega)
    rw [Nat.and_two_pow_sub_one_eq_mod s 24] at k
    exact k
  have hx2 : s % 16777216 < 16777216 := by omega
  have HM : Hid (s % 16777216 = moreC s []) := Lib.hid rfl
  generalize s % 16777216 = s0 at hx hx2 HM
  clear hr hW hT
  go_enter Tryd.func37, Tryd.ntmps37
  go_wp2
  go_loop [0, 11] (fun x i => ∃ (k r : Nat), k ≤ l.length ∧ i = .int .i64 k ∧ x = .int .u32 (r : Nat) ∧ r < 16777216 ∧ Hid (r = moreC s (l.take k))) (fun _ i => l.length - (intOf i).toNat)
  case atStart => exact ⟨0, s0, Nat.zero_le _, rfl, rfl, hx2, HM⟩
  case round =>
    obtain ⟨k, r, hk, rfl, rfl, hrl, HK⟩ := hrel
    by_cases hlt : k < l.length
    · obtain ⟨b, off, rfl, hb, hc⟩ := HR.out.at_ k (by rw [bc_length]; exact hlt)
      have hc2 : w.cell? ⟨b, off + k, none⟩ = some (.int .u8 (l[k].toNat : Int)) := by
        rw [hc]
        simp [bc]
      have HN : Hid (moreC s (l.take (k + 1)) = fr (fr r (l[k].toNat / 16)) (l[k].toNat % 16)) := Lib.hid (by
        rw [List.take_succ_eq_append_getElem hlt, moreC_snoc, ← HK.out, feed_fr _ _ hrl])
      have HC : Hid (l[k].toNat < 256) := Lib.hid l[k].toNat_lt
      clear hb hc HK
      generalize l[k].toNat = z at hc2 HN HC
      have hza : Go.bits BinOp.and IntKind.u8 (z : Int) 15 = ((z % 16 : Nat) : Int) := by
        have k := u8_and_nat z 15 HC.out (by omega)
        rw [Nat.and_two_pow_sub_one_eq_mod z 4] at k
        exact k
      obtain ⟨q, HQ⟩ : ∃ q, Hid (fr r (z / 16) = q) := ⟨_, Lib.hid rfl⟩
      have hq : q < 16777216 := by rw [← HQ.out]; exact fr_lt _ _ hrl (by have := HC.out; omega)
      obtain ⟨p, HP⟩ : ∃ p, Hid (fr q (z % 16) = p) := ⟨_, Lib.hid rfl⟩
      have hp : p < 16777216 := by rw [← HP.out]; exact fr_lt _ _ hq (by omega)
      rw [HQ.out, HP.out] at HN
      have K1 := four_at W HT.out r (z / 16) q ((z : Int) / 16) w HW.out hrl (by omega) (by have := HC.out; omega) HQ.out
      have K2 := four_at W HT.out q (z % 16) p ((z : Int) % 16) w HW.out hq (by omega) (by omega) HP.out
      have HK1 := Lib.hid K1
      have HK2 := Lib.hid K2
      clear K1 K2
      go_wp2_with (go_at_call 42; first
        | ((with_reducible refine HK1.out.mono ?_); rintro _ w' ⟨rfl, rfl⟩)
        | ((with_reducible refine HK2.out.mono ?_); rintro _ w' ⟨rfl, rfl⟩))
      go_round
      case rel => exact ⟨k + 1, p, by omega, by go_num, rfl, hp, Lib.hid HN.out.symm⟩
      case measure => simp [intOf]; omega
    · obtain rfl : k = l.length := by omega
      go_wp2
      go_ret
      exact ⟨rt_u32 (by rw [HK.out, List.take_length]), Below.refl _ _⟩

theorem csum_any (W : World) (hT : Tabs W) (A : Option Addr) (c : Nat) (l : List UInt8) (w : World) (hW : Below W.heap.size W w) (hr : Row w w.heap.size A (bc l)) (hl : l.length ≤ 1000000) :
    Calls Tryd.prog 28 #[.slice A l.length c] w fun e w' => e = .returned (.int .u32 (sumC l : Nat)) ∧ Below w.heap.size w w' := by
  have HR := Lib.hid hr
  have HW := Lib.hid hW
  have HT := Lib.hid hT
  have HL := Lib.hid hl
  clear hr hW hT hl
  go_enter Tryd.func28, Tryd.ntmps28
  go_wp2_with (go_at_call 37; refine (cmore_any W HT.out 11994318 A c l _ HW.out (by omega) HR.out HL.out).mono ?_; rintro _ w' ⟨rfl, hb⟩)
  go_ret
  exact ⟨rfl, hb⟩

set_option maxRecDepth 100000 in
theorem cput_any (s : Nat) (w : World) (hs : s < 4294967296) :
    Calls Tryd.prog 27 #[.int .u32 (s : Int)] w fun e w' => ∃ v, e = .returned v ∧ Lies w' w'.heap.size v (putC s) ∧ Below w.heap.size w w' := by
  have e1 : (s : Int) / 65536 % 256 = ((UInt8.ofNat (s / 65536)).toNat : Int) := by simp
  have e2 : (s : Int) / 256 % 256 = ((UInt8.ofNat (s / 256)).toNat : Int) := by simp
  have e3 : (s : Int) % 256 = ((UInt8.ofNat s).toNat : Int) := by simp
  have HE : Hid (#[Value.int .u8 ((s : Int) / 65536 % 256), Value.int .u8 ((s : Int) / 256 % 256), Value.int .u8 ((s : Int) % 256)] = (bc (putC s)).toArray) := Lib.hid (by rw [e1, e2, e3]; rfl)
  clear e1 e2 e3
  go_enter Tryd.func27, Tryd.ntmps27
  go_wp2
  go_ret
  exact ⟨_, rfl, lit_lies w (putC s) _ HE.out, (Below.refl _ _).alloc (Nat.le_refl _) _⟩
end Go.Proofs.YtpgainalimmecaaDoor
