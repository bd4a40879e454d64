/-
  Contract of octet.Take: the number that bytes begin with, how many bytes it has, or the error.
-/
import Derived.Test.YtbbioeiikobnnaaMem
import Derived.Test.YtbbioeiikobnnaaLen
namespace Go.Proofs.Ytbbioeiikobnnaa
open Go.RowKit

theorem bits_or (k x y : Nat) (hk : k ≤ 64) (hx : x * 2 ^ k < 18446744073709551616) (hy : y < 2 ^ k) : bits .or .u64 ((x * 2 ^ k : Nat) : Int) (y : Int) = ((x * 2 ^ k + y : Nat) : Int) := by
  have e : (2 : Nat) ^ 64 = 18446744073709551616 := by decide
  have hp : 2 ^ k ≤ 2 ^ 64 := Nat.pow_le_pow_right (by decide) hk
  rw [u64_or_nat _ _ hx (by omega), nat_join k _ _ (by simp) hy]
theorem or_byte (x y : Nat) (hx : x ≤ 72057594037927935) (hy : y < 256) : bits .or .u64 ((x : Int) * 256) (y : Int) = ((x * 256 + y : Nat) : Int) := by
  have := bits_or 8 x y (by decide) (by omega) (by omega)
  rw [← this]
  simp
theorem val_take_le (r : List UInt8) (k : Nat) (hk : k ≤ 7) : val (r.take k) ≤ 72057594037927935 := by
  have h := val_lt (r.take k)
  have h2 : 256 ^ (r.take k).length ≤ 256 ^ 7 := Nat.pow_le_pow_right (by decide) (by have := List.length_take_le k r; omega)
  have e : (256 : Nat) ^ 7 = 72057594037927936 := by decide
  omega
theorem val_take_succ (r : List UInt8) (k : Nat) (hk : k < r.length) : val (r.take (k + 1)) = val (r.take k) * 256 + r[k].toNat := by
  rw [List.take_succ_eq_append_getElem hk, val_snoc]

theorem ret3_int {a n n' e : Int} (h : n = n') : Ending.returned (.tuple #[.int .u64 a, .int .i64 n, .int .i64 e]) = .returned (.tuple #[.int .u64 a, .int .i64 n', .int .i64 e]) := by rw [h]

/-- What a call of Take ends in. -/
def Took (l : List UInt8) (w : World) (e : Ending) (w' : World) : Prop := e = .returned (.tuple #[.int .u64 (tk l).1, .int .i64 (tk l).2.1, .int .i64 (tk l).2.2]) ∧ w = w'

theorem take_nil (A : Option Addr) (cap : Nat) (w : World) : Calls Try.prog 12 #[.slice A 0 cap] w (Took [] w) := by
  go_enter Try.func12, Try.ntmps12
  go_wp2
  go_ret3
  exact ⟨rfl, rfl⟩

set_option maxRecDepth 100000 in
set_option maxHeartbeats 1000000 in
theorem take_low (c : UInt8) (r : List UInt8) (b off cap : Nat) (w : World) (hc : c.toNat < 248) (hcell : w.cell? ⟨b, off, none⟩ = some (.int .u8 (c.toNat : Int))) :
    Calls Try.prog 12 #[.slice (some ⟨b, off, none⟩) (c :: r).length cap] w (Took (c :: r) w) := by
  have e : tk (c :: r) = (c.toNat, 1, 0) := by simp [tk, hc]
  have HE := Lib.hid e
  clear e
  have hl : 0 < (c :: r).length := by simp
  generalize hn : (c :: r).length = n at hl
  clear hn
  go_enter Try.func12, Try.ntmps12
  go_wp2
  go_ret3
  exact ⟨by rw [HE.out]; rfl, rfl⟩

set_option maxRecDepth 100000 in
set_option maxHeartbeats 1000000 in
theorem take_short (c : UInt8) (r : List UInt8) (b off cap : Nat) (w : World) (hc : 248 ≤ c.toNat) (hr : r.length < c.toNat - 247) (hcell : w.cell? ⟨b, off, none⟩ = some (.int .u8 (c.toNat : Int))) :
    Calls Try.prog 12 #[.slice (some ⟨b, off, none⟩) (c :: r).length cap] w (Took (c :: r) w) := by
  have e : tk (c :: r) = (0, 0, 10) := tk_short c r hc hr
  have HE := Lib.hid e
  clear e
  have hl : 0 < (c :: r).length ∧ (c :: r).length < c.toNat - 247 + 1 := by simp; omega
  have hc2 := c.toNat_lt
  generalize hn : (c :: r).length = n at hl
  generalize hm : c.toNat = m at hcell hc hl hc2
  clear hn hm hr
  obtain ⟨hl1, hl2⟩ := hl
  go_enter Try.func12, Try.ntmps12
  go_wp2
  go_ret3
  exact ⟨by rw [HE.out]; rfl, rfl⟩

set_option maxRecDepth 100000 in
set_option maxHeartbeats 1000000 in
theorem take_long (c : UInt8) (r : List UInt8) (b off cap : Nat) (w : World) (hc : 248 ≤ c.toNat) (hr : c.toNat - 247 ≤ r.length) (hcap : r.length + 1 ≤ cap) (hm : r.length + 1 ≤ 1152921504606846976)
    (hcell : w.cell? ⟨b, off, none⟩ = some (.int .u8 (c.toNat : Int))) (hcells : ∀ j (h : j < r.length), w.cell? ⟨b, off + 1 + j, none⟩ = some (.int .u8 (r[j].toNat : Int))) :
    Calls Try.prog 12 #[.slice (some ⟨b, off, none⟩) (r.length + 1) cap] w (Took (c :: r) w) := by
  have HT : Hid (tk (c :: r) = if val (r.take (c.toNat - 247)) < 248 ∨ nb (val (r.take (c.toNat - 247))) < c.toNat - 247 then (0, 0, 11) else (val (r.take (c.toNat - 247)), c.toNat - 247 + 1, 0)) := tk_long c r hc hr
  have hc2 := c.toNat_lt
  obtain ⟨m, hm0⟩ : ∃ m, m + 247 = c.toNat := ⟨c.toNat - 247, by omega⟩
  have e1 : c.toNat - 247 = m := by omega
  rw [e1] at HT hr
  rw [← hm0] at hcell hc hc2
  have hval : val (r.take m) ≤ 18446744073709551615 := by
    have h := val_lt (r.take m)
    have h2 : 256 ^ (r.take m).length ≤ 256 ^ 8 := Nat.pow_le_pow_right (by decide) (by have := List.length_take_le m r; omega)
    have e : (256 : Nat) ^ 8 = 18446744073709551616 := by decide
    omega
  have HV := Lib.hid hval
  have HC := Lib.hid hcells
  have HM := Lib.hid hm
  clear hcells hm hm0 e1 hval
  go_enter Try.func12, Try.ntmps12
  go_wp2
  go_loop [6, 34] (fun u i => ∃ k : Nat, k ≤ m ∧ i = .int .i64 k ∧ u = .int .u64 (val (r.take k) : Nat)) (fun _ i => m - (intOf i).toNat)
  case atStart => exact ⟨0, Nat.zero_le _, rfl, by simp [val]⟩
  case round =>
    obtain ⟨k, hk, rfl, rfl⟩ := hrel
    by_cases hlt : k < m
    · have hx := val_take_le r k (by omega)
      have hcell2 := HC.out k (by omega)
      have ho := or_byte (val (r.take k)) r[k].toNat hx (r[k].toNat_lt)
      have hy := r[k].toNat_lt
      have hs := val_take_succ r k (by omega)
      have HS := Lib.hid hs
      clear hs
      go_wp2
      go_round
      case rel => exact ⟨k + 1, by omega, by go_num, by rw [HS.out]; rfl⟩
      case measure => simp [intOf]; omega
    · have hk' : k = m := by omega
      subst hk'
      have hx := HV.out
      generalize hX : val (r.take k) = x at hx HT
      clear hX HV
      by_cases h1 : x < 248
      · have HT2 := HT.out
        rw [if_pos (Or.inl h1)] at HT2
        have HT3 := Lib.hid HT2
        clear HT HT2
        go_wp2
        go_ret3
        exact ⟨by rw [HT3.out]; rfl, rfl⟩
      · by_cases h2 : nb x < k
        · have HT2 := HT.out
          rw [if_pos (Or.inr h2)] at HT2
          have HT3 := Lib.hid HT2
          clear HT HT2
          go_wp2_with (go_at_call 32; refine (width_any _ _ (by omega)).mono ?_; rintro e w' ⟨rfl, rfl⟩)
          go_ret3
          exact ⟨by rw [HT3.out]; rfl, rfl⟩
        · have HT2 := HT.out
          rw [if_neg (by omega)] at HT2
          have HT3 := Lib.hid HT2
          clear HT HT2
          go_wp2_with (go_at_call 32; refine (width_any _ _ (by omega)).mono ?_; rintro e w' ⟨rfl, rfl⟩)
          go_ret3
          exact ⟨by rw [HT3.out]; exact ret3_int (by dsimp only; omega), rfl⟩

/-- octet.Take, for any bytes. -/
theorem take_any (l : List UInt8) (A : Option Addr) (cap B : Nat) (w : World) (hr : Row w B A (bc l)) (hcap : l.length ≤ cap) (hm : l.length ≤ 1152921504606846976) :
    Calls Try.prog 12 #[.slice A l.length cap] w (Took l w) := by
  cases l with
  | nil => exact take_nil A cap w
  | cons c r =>
    obtain ⟨b, off, rfl, _, hc⟩ := hr (by simp [bc])
    have h0 := hc 0 _ rfl
    have hcs : ∀ j (h : j < r.length), w.cell? ⟨b, off + 1 + j, none⟩ = some (.int .u8 (r[j].toNat : Int)) := fun j h => by
      have := hc (j + 1) _ (bc_get (c :: r) (j + 1) (by simp; omega))
      rw [show off + 1 + j = off + (j + 1) by omega]
      exact this
    rcases Nat.lt_or_ge c.toNat 248 with h | h
    · exact take_low c r b off cap w h h0
    · rcases Nat.lt_or_ge r.length (c.toNat - 247) with h2 | h2
      · exact take_short c r b off cap w h h2 h0
      · exact take_long c r b off cap w h h2 (by simpa using hcap) (by simpa using hm) h0 hcs
end Go.Proofs.Ytbbioeiikobnnaa
