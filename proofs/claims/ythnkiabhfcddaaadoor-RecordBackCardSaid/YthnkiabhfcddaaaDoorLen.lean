/-
  Contracts of math/bits.Len64 (how many bits a number has room in) and of octet.width (the fewest bytes), for every number.
-/
import Derived.Test.YthnkiabhfcddaaaDoorProg
import Derived.WalkKit
import Derived.Laws.MathBits
import Derived.Test.YthnkiabhfcddaaaDoorBytes
namespace Go.Proofs.YthnkiabhfcddaaaDoor
open Go.RowKit

theorem toNat_shift (x : Int) (S : Nat) (h0 : 0 ≤ x) : (x / 2 ^ S).toNat = x.toNat / 2 ^ S := by
  obtain ⟨n, rfl⟩ := Int.eq_ofNat_of_zero_le h0
  have h : ((n : Int) / 2 ^ S) = ((n / 2 ^ S : Nat) : Int) := by simp
  rw [h]; rfl
theorem len_cut (x S q : Nat) (hqn : q = x / 2 ^ S) (hs : S = 0 ∨ 1 ≤ q) : bitLen x = S + bitLen q := by
  rw [hqn]
  rcases hs with rfl | hs
  · simp
  · exact bitLen_shift x S (by rw [← hqn]; omega)
theorem wrap_sum (S n : Nat) (v : Int) (hS : S ≤ 56) (hn : n ≤ 8) (hv : v = n) : wrap64 (S + wrap64 v) = ((S + n : Nat) : Int) := by
  subst hv
  unfold wrap64
  omega
theorem Int.toNat_lt_of {x : Int} {n : Nat} (h0 : 0 ≤ x) (h : x < n) : x.toNat < n := by omega
theorem len_way (x q v T : Int) (S : Nat) (hT : T = S) (h0 : 0 ≤ x) (hq : q = x / 2 ^ S) (ha : 0 ≤ q) (hb : q ≤ 255) (hs : S = 0 ∨ 1 ≤ q) (h56 : S ≤ 56) (hv : v = bitLen q.toNat) :
    wrap64 (T + wrap64 v) = (bitLen x.toNat : Int) := by
  subst hT
  have l := bitLen_le8 q.toNat (by omega)
  have hqn : q.toNat = x.toNat / 2 ^ S := by rw [hq]; exact toNat_shift x S h0
  have hs' : S = 0 ∨ 1 ≤ q.toNat := by omega
  rw [len_cut x.toNat S q.toNat hqn hs']
  exact wrap_sum S _ v h56 l hv

set_option maxHeartbeats 4000000 in
set_option maxRecDepth 100000 in
theorem len64_any (x : Int) (w : World) (h0 : 0 ≤ x) (h1 : x ≤ 18446744073709551615) :
    Calls Tryd.prog 85 #[.int .u64 x] w fun e w' => e = .returned (.int .i64 (bitLen x.toNat)) ∧ w = w' := by
  go_enter Tryd.func85, Tryd.ntmps85
  go_wp2
  all_goals (go_ret; refine ⟨congrArg Ending.returned (congrArg (Value.int IntKind.i64) ?_), rfl⟩)
  · exact len_way x (x / 4294967296 / 65536 / 256) _ _ 56 rfl h0 (by omega) (by omega) (by omega) (by omega) (by omega) (congrArg Nat.cast (len8tab_get _ (Int.toNat_lt_of (n := 256) (by omega) (by omega))))
  · exact len_way x (x / 4294967296 / 65536) _ _ 48 rfl h0 (by omega) (by omega) (by omega) (by omega) (by omega) (congrArg Nat.cast (len8tab_get _ (Int.toNat_lt_of (n := 256) (by omega) (by omega))))
  · exact len_way x (x / 4294967296 / 256) _ _ 40 rfl h0 (by omega) (by omega) (by omega) (by omega) (by omega) (congrArg Nat.cast (len8tab_get _ (Int.toNat_lt_of (n := 256) (by omega) (by omega))))
  · exact len_way x (x / 4294967296) _ _ 32 rfl h0 (by omega) (by omega) (by omega) (by omega) (by omega) (congrArg Nat.cast (len8tab_get _ (Int.toNat_lt_of (n := 256) (by omega) (by omega))))
  · exact len_way x (x / 65536 / 256) _ _ 24 rfl h0 (by omega) (by omega) (by omega) (by omega) (by omega) (congrArg Nat.cast (len8tab_get _ (Int.toNat_lt_of (n := 256) (by omega) (by omega))))
  · exact len_way x (x / 65536) _ _ 16 rfl h0 (by omega) (by omega) (by omega) (by omega) (by omega) (congrArg Nat.cast (len8tab_get _ (Int.toNat_lt_of (n := 256) (by omega) (by omega))))
  · exact len_way x (x / 256) _ _ 8 rfl h0 (by omega) (by omega) (by omega) (by omega) (by omega) (congrArg Nat.cast (len8tab_get _ (Int.toNat_lt_of (n := 256) (by omega) (by omega))))
  · have k := len_way x x _ 0 0 rfl h0 (by omega) (by omega) (by omega) (by omega) (by omega) (congrArg Nat.cast (len8tab_get _ (Int.toNat_lt_of (n := 256) (by omega) (by omega))))
    rw [Int.zero_add] at k
    rw [← k]

/-- octet.width: the fewest bytes that a number has room in. -/
theorem width_any (u : Nat) (w : World) (h : u ≤ 18446744073709551615) :
    Calls Tryd.prog 75 #[.int .u64 u] w fun e w' => e = .returned (.int .i64 (nb u)) ∧ w = w' := by
  have hb := nb_lt8 u (by omega)
  have hB : nb u = (bitLen u + 7) / 8 := rfl
  have hB2 : (bitLen u) ≤ 64 := by unfold nb at hb; omega
  clear hB
  go_enter Tryd.func75, Tryd.ntmps75
  go_wp2_with (go_at_call 85; refine (len64_any _ _ (by omega) (by omega)).mono ?_; rintro e w' ⟨rfl, rfl⟩)
  go_ret
  refine ⟨congrArg Ending.returned (congrArg (Value.int IntKind.i64) ?_), rfl⟩
  unfold nb
  omega
end Go.Proofs.YthnkiabhfcddaaaDoor
