/-
  Contracts of the functions on plain integers: octet.Sign, octet.Plain, and the reference's Sign and Plain, for every number.
-/
import Derived.Test.YtbbioeiikobnnaaProg
import Derived.WalkKit
import Derived.Laws.BitsAllLaws
import Derived.Lib.BitFns
namespace Go.Proofs.Ytbbioeiikobnnaa
open Go.RowKit

/-- A number with a sign as one without. -/
def sgn (n : Int) : Int := if n < 0 then -2 * n - 1 else 2 * n
/-- And back. -/
def pln (u : Int) : Int := if u % 2 = 0 then u / 2 else -(u / 2) - 1

theorem or_one (x : Int) (h0 : 0 ≤ x) (h1 : x ≤ 9223372036854775807) : bits .or .u64 (x * 2) 1 = x * 2 + 1 := by
  have h := u64_or (x * 2) 1 (by omega) (by omega) (by omega) (by omega)
  rw [h]
  have e : (x * 2).toNat ||| (1 : Int).toNat = (x * 2).toNat + 1 := by
    refine nat_join 1 _ _ ?_ (by decide)
    omega
  rw [e]
  omega

theorem and_one (x : Int) (h0 : 0 ≤ x) (h1 : x ≤ 18446744073709551615) : bits .and .u64 x 1 = x % 2 := by
  have h := u64_and x 1 (by omega) (by omega) (by omega) (by omega)
  rw [h]
  have e : x.toNat &&& (1 : Int).toNat = x.toNat % 2 := nat_mask1 _
  rw [e]
  omega

theorem ret_int {k : IntKind} {a b : Int} (h : a = b) : Ending.returned (.int k a) = .returned (.int k b) := by rw [h]

theorem sign_any (n : Int) (w : World) (h1 : -9223372036854775808 ≤ n) (h2 : n ≤ 9223372036854775807) :
    Calls Try.prog 16 #[.int .i64 n] w fun e w' => e = .returned (.int .u64 (sgn n)) ∧ w = w' := by
  by_cases hn : n < 0
  · have ho := or_one (-1 - n) (by omega) (by omega)
    go_enter Try.func16, Try.ntmps16
    go_wp2
    go_ret
    refine ⟨ret_int ?_, rfl⟩
    simp only [sgn]
    omega
  · go_enter Try.func16, Try.ntmps16
    go_wp2
    go_ret
    refine ⟨ret_int ?_, rfl⟩
    simp only [sgn]
    omega

theorem plain_any (u : Int) (w : World) (h1 : 0 ≤ u) (h2 : u ≤ 18446744073709551615) :
    Calls Try.prog 17 #[.int .u64 u] w fun e w' => e = .returned (.int .i64 (pln u)) ∧ w = w' := by
  have ha := and_one u h1 h2
  by_cases hu : u % 2 = 1
  all_goals
   go_enter Try.func17, Try.ntmps17
   go_wp2
   go_ret
   refine ⟨ret_int ?_, rfl⟩
   first | rw [pln, if_pos (by omega)] | rw [pln, if_neg (by omega)]
   try omega

theorem rsign_any (n : Int) (w : World) (h1 : -9223372036854775808 ≤ n) (h2 : n ≤ 9223372036854775807) :
    Calls Try.prog 18 #[.int .i64 n] w fun e w' => e = .returned (.int .u64 (sgn n)) ∧ w = w' := by
  by_cases hn : n < 0
  all_goals
    go_enter Try.func18, Try.ntmps18
    go_wp2
    go_ret
    refine ⟨ret_int ?_, rfl⟩
    simp only [sgn]
    omega

theorem rplain_any (u : Int) (w : World) (h1 : 0 ≤ u) (h2 : u ≤ 18446744073709551615) :
    Calls Try.prog 19 #[.int .u64 u] w fun e w' => e = .returned (.int .i64 (pln u)) ∧ w = w' := by
  by_cases hu : u % 2 = 0
  all_goals
   go_enter Try.func19, Try.ntmps19
   go_wp2
   go_ret
   refine ⟨ret_int ?_, rfl⟩
   first | rw [pln, if_pos (by omega)] | rw [pln, if_neg (by omega)]
   try omega

theorem sgn_range (n : Int) (h1 : -9223372036854775808 ≤ n) (h2 : n ≤ 9223372036854775807) : 0 ≤ sgn n ∧ sgn n ≤ 18446744073709551615 := by
  unfold sgn; omega
theorem pln_range (u : Int) (h1 : 0 ≤ u) (h2 : u ≤ 18446744073709551615) : -9223372036854775808 ≤ pln u ∧ pln u ≤ 9223372036854775807 := by
  unfold pln; omega
theorem pln_sgn (n : Int) : pln (sgn n) = n := by unfold pln sgn; omega
theorem sgn_pln (u : Int) (h : 0 ≤ u) : sgn (pln u) = u := by unfold pln sgn; omega
end Go.Proofs.Ytbbioeiikobnnaa
