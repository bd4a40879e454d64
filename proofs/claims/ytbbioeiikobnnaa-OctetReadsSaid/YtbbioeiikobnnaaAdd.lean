/-
  Contract of octet.add: bytes, and a number's bytes behind them.
-/
import Derived.Test.YtbbioeiikobnnaaMem
import Derived.Test.YtbbioeiikobnnaaLen
namespace Go.Proofs.Ytbbioeiikobnnaa
open Go.RowKit

theorem u8_of (u : Nat) (h : u < 256) : ((u : Nat) : Int) = ((UInt8.ofNat u).toNat : Int) := by
  have : (UInt8.ofNat u).toNat = u := by simp; omega
  rw [this]

set_option maxRecDepth 100000 in
set_option maxHeartbeats 1000000 in
theorem add_small (base u : Nat) (v : Value) (l : List UInt8) (w : World) (hu : u < 248) (hown : Owns w base v l) (hf : Fits (l.length + 1)) (hbase : base ≤ w.heap.size) :
    Calls Try.prog 33 #[v, .int .u64 u] w (Gets base (l ++ [UInt8.ofNat u]) w) := by
  have HO := Lib.hid hown
  clear hown
  go_enter Try.func33, Try.ntmps33
  go_wp2_with (at_builtin; (refine wp_push rfl (.tmp 9) (.tmp 12) rfl base v l (UInt8.ofNat u) u 1 w.heap.size rfl (HO.out.alloc _) rfl (by simp [go_sem]) (u8_of u (by omega)) hf (by simp; omega) ?_); intro v1 w1 ho1 hb1)
  go_ret
  exact ⟨v1, rfl, ho1, ((Below.refl _ _).alloc hbase _).trans hb1⟩

theorem byte_at (u m : Nat) : ((u : Int) / 2 ^ (8 * m) % 256) = ((UInt8.ofNat (u / 256 ^ m % 256)).toNat : Int) := by
  rw [← u8_of _ (by omega)]
  have e : (256 : Nat) ^ m = 2 ^ (8 * m) := by rw [Nat.pow_mul]
  rw [e]
  simp
theorem be_take (k u i : Nat) (h : i < k) : (be k u).take (i + 1) = (be k u).take i ++ [UInt8.ofNat (u / 256 ^ (k - 1 - i) % 256)] := by
  induction k generalizing i with
  | zero => omega
  | succ k ih =>
    cases i with
    | zero => simp [be]
    | succ i =>
      have e : k + 1 - 1 - (i + 1) = k - 1 - i := by omega
      rw [e]
      simp only [be, List.take_succ_cons, ih i (by omega), List.cons_append]

set_option maxRecDepth 100000 in
set_option maxHeartbeats 1000000 in
theorem add_big (base u : Nat) (v : Value) (l : List UInt8) (w : World) (hu : 248 ≤ u) (hu2 : u ≤ 18446744073709551615) (hown : Owns w base v l) (hf : Fits (l.length + 9)) (hbase : base ≤ w.heap.size) :
    Calls Try.prog 33 #[v, .int .u64 u] w (Gets base (l ++ (UInt8.ofNat (247 + nb u) :: be (nb u) u)) w) := by
  have h8 := nb_lt8 u (by omega)
  have h1 := nb_pos u (by omega)
  have HO := Lib.hid hown
  clear hown
  go_enter Try.func33, Try.ntmps33
  go_wp2_with (first
    | (go_at_call 32; refine (width_any _ _ (by omega)).mono ?_; rintro e w' ⟨rfl, rfl⟩)
    | (at_builtin; (refine wp_push rfl (.tmp 16) (.tmp 20) rfl base v l (UInt8.ofNat (247 + nb u)) ((247 + nb u : Nat) : Int) 1 w.heap.size rfl (HO.out.alloc _) rfl (by simp [go_sem]) (u8_of _ (by omega)) (hf.le (by omega)) (by simp; omega) ?_); intro v1 w1 ho1 hb1))
  have HO1 := Lib.hid ho1
  have HB1 := Lib.hid (((Below.refl _ _).alloc hbase _).trans hb1)
  clear ho1 hb1
  go_loopw [0, 23] (fun b i wr => ∃ k : Nat, k ≤ nb u ∧ i = .int .i64 k ∧ Hid (Owns wr base b (l ++ [UInt8.ofNat (247 + nb u)] ++ (be (nb u) u).take k)) ∧ Hid (Below base w wr)) (fun _ i _ => nb u - (intOf i).toNat)
  case atStart => exact ⟨0, Nat.zero_le _, rfl, by simpa using HO1, HB1⟩
  case round =>
    obtain ⟨k, hk, rfl, HO2, HB2⟩ := hrel
    by_cases hlt : k < nb u
    · go_wp2_with (at_builtin; refine wp_push rfl (.tmp 26) (.tmp 35) rfl base u0 (l ++ [UInt8.ofNat (247 + nb u)] ++ (be (nb u) u).take k) (UInt8.ofNat (u / 256 ^ (nb u - 1 - k) % 256)) ((u : Int) / 2 ^ (8 * (nb u - 1 - k)) % 256) 1 wr.heap.size rfl (HO2.out.alloc _) rfl (by simp [go_sem]) (byte_at _ _) (hf.le (by simp [be_length]; omega)) (by have := HB2.out.size; simp; omega) ?_; intro v2 w2 ho2 hb2)
      have HO3 := Lib.hid ho2
      have HB3 := Lib.hid (HB2.out.trans ((((Below.refl _ _).alloc (by have := HB2.out.size; omega) _).trans hb2)))
      clear ho2 hb2
      go_roundw
      case rel =>
        refine ⟨k + 1, by omega, by go_num, ?_, HB3⟩
        rw [be_take _ _ _ hlt, ← List.append_assoc]
        exact HO3
      case measure => simp [intOf]; omega
    · go_wp2
      go_ret
      have hk' : k = nb u := by omega
      subst hk'
      have h := HO2.out
      rw [List.take_of_length_le (by rw [be_length]; omega), List.append_assoc] at h
      exact ⟨_, rfl, h, HB2.out⟩

/-- octet.add. -/
theorem add_any (base u : Nat) (v : Value) (l : List UInt8) (w : World) (hu : u ≤ 18446744073709551615) (hown : Owns w base v l) (hf : Fits (l.length + 9)) (hbase : base ≤ w.heap.size) :
    Calls Try.prog 33 #[v, .int .u64 u] w (Gets base (l ++ enc u) w) := by
  unfold enc
  by_cases h : u < 248
  · rw [if_pos h]
    exact add_small base u v l w h hown (hf.le (by omega)) hbase
  · rw [if_neg h]
    exact add_big base u v l w (by omega) hu hown hf hbase
end Go.Proofs.Ytbbioeiikobnnaa
