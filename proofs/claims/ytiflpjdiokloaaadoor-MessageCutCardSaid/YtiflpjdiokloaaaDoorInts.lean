/-
  Contracts of the functions on plain integers: octet.Sign, octet.Plain, and the reference's Sign and Plain, for every number.
-/
import Derived.Test.YtiflpjdiokloaaaDoorPackD
import Derived.Test.YtiflpjdiokloaaaDoorProg
import Derived.WalkKit
import Derived.Laws.BitsAllLaws
import Derived.Lib.BitFns
namespace Go.Proofs.YtiflpjdiokloaaaDoor
open Go.RowKit
theorem sign_any (n : Int) (w : World) (h1 : -9223372036854775808 ≤ n) (h2 : n ≤ 9223372036854775807) :
    Calls Tryd.prog 54 #[.int .i64 n] w fun e w' => e = .returned (.int .u64 (sgn n)) ∧ w = w' := by
  by_cases hn : n < 0
  · have ho := or_one (-1 - n) (by omega) (by omega)
    go_enter Tryd.func54, Tryd.ntmps54
    go_wp2
    go_ret
    refine ⟨ret_int ?_, rfl⟩
    simp only [sgn]
    omega
  · go_enter Tryd.func54, Tryd.ntmps54
    go_wp2
    go_ret
    refine ⟨ret_int ?_, rfl⟩
    simp only [sgn]
    omega

theorem plain_any (u : Int) (w : World) (h1 : 0 ≤ u) (h2 : u ≤ 18446744073709551615) :
    Calls Tryd.prog 78 #[.int .u64 u] w fun e w' => e = .returned (.int .i64 (pln u)) ∧ w = w' := by
  have ha := and_one u h1 h2
  by_cases hu : u % 2 = 1
  all_goals
   go_enter Tryd.func78, Tryd.ntmps78
   go_wp2
   go_ret
   refine ⟨ret_int ?_, rfl⟩
   first | rw [pln, if_pos (by omega)] | rw [pln, if_neg (by omega)]
   try omega

theorem rsign_any (n : Int) (w : World) (h1 : -9223372036854775808 ≤ n) (h2 : n ≤ 9223372036854775807) :
    Calls Tryd.prog 33 #[.int .i64 n] w fun e w' => e = .returned (.int .u64 (sgn n)) ∧ w = w' := by
  by_cases hn : n < 0
  all_goals
    go_enter Tryd.func33, Tryd.ntmps33
    go_wp2
    go_ret
    refine ⟨ret_int ?_, rfl⟩
    simp only [sgn]
    omega

theorem rplain_any (u : Int) (w : World) (h1 : 0 ≤ u) (h2 : u ≤ 18446744073709551615) :
    Calls Tryd.prog 44 #[.int .u64 u] w fun e w' => e = .returned (.int .i64 (pln u)) ∧ w = w' := by
  by_cases hu : u % 2 = 0
  all_goals
   go_enter Tryd.func44, Tryd.ntmps44
   go_wp2
   go_ret
   refine ⟨ret_int ?_, rfl⟩
   first | rw [pln, if_pos (by omega)] | rw [pln, if_neg (by omega)]
   try omega
end Go.Proofs.YtiflpjdiokloaaaDoor
