/-
  The reader: Int, Moment.
-/
import Derived.Test.YtiflpjdiokloaaaDoorPackD
import Derived.Test.YtiflpjdiokloaaaDoorInts
namespace Go.Proofs.YtiflpjdiokloaaaDoor
open Go.RowKit
set_option linter.unusedVariables false

theorem int_any (g : Nat) (l : List UInt8) (e : Int) (w : World) (h : Rdr w g l e) :
    Calls Tryd.prog 65 #[.pointer (some ⟨g, 0, none⟩)] w (Did g (.int .i64 (pln (rdNum l e).1)) (rdNum l e).2 w) := by
  have HR := Lib.hid h
  have hu := rdNum_lt l e
  clear h
  rcases hd : rdNum l e with ⟨u, l', e'⟩
  rw [hd] at hu
  dsimp only at hu
  have HD := Lib.hid hd
  have HU := Lib.hid hu
  clear hd hu
  go_enter Tryd.func65, Tryd.ntmps65
  go_wp2_with (first
    | (go_at_call 36; refine (num_at g _ _ _ HR.out HD.out).mono ?_; rintro e w' ⟨rfl, hr1, hg1⟩)
    | (go_at_call 78; refine (plain_any _ _ (by omega) (by have := HU.out; omega)).mono ?_; rintro e w' ⟨rfl, rfl⟩))
  go_ret
  exact ⟨rfl, hr1, hg1⟩
theorem int_nil (w : World) : Calls Tryd.prog 65 #[.pointer none] w fun e w' => e = .returned (.int .i64 0) ∧ w = w' := by
  go_enter Tryd.func65, Tryd.ntmps65
  go_wp2_with (first
    | (go_at_call 36; refine (num_nil _).mono ?_; rintro e w' ⟨rfl, rfl⟩)
    | (go_at_call 78; refine (plain_any _ _ (by omega) (by omega)).mono ?_; rintro e w' ⟨rfl, rfl⟩))
  go_ret
  exact ⟨rfl, rfl⟩
theorem moment_any (g : Nat) (l : List UInt8) (e : Int) (w : World) (h : Rdr w g l e) :
    Calls Tryd.prog 38 #[.pointer (some ⟨g, 0, none⟩)] w (Did g (.int .i64 (rdMoment l e).1) (rdMoment l e).2 w) := by
  have HR := Lib.hid h
  have hu := rdNum_lt l e
  have HM : Hid (rdMoment l e = if (rdNum l e).1 ≤ 9223372036854775807 then (((rdNum l e).1 : Int), (rdNum l e).2) else (0, [], 13)) := Lib.hid rfl
  clear h
  rcases hd : rdNum l e with ⟨u, l', e'⟩
  rw [hd] at hu HM
  dsimp only at hu HM
  have HD := Lib.hid hd
  clear hd
  by_cases hlt : u ≤ 9223372036854775807
  · have HM2 := HM.out
    rw [if_pos hlt] at HM2
    rw [HM2]
    clear HM HM2
    go_enter Tryd.func38, Tryd.ntmps38
    go_wp2_with (go_at_call 36; refine (num_at g _ _ _ HR.out HD.out).mono ?_; rintro e w' ⟨rfl, hr1, hg1⟩)
    go_ret
    exact ⟨rfl, hr1, hg1⟩
  · have HM2 := HM.out
    rw [if_neg hlt] at HM2
    rw [HM2]
    clear HM HM2
    go_enter Tryd.func38, Tryd.ntmps38
    go_wp2_with (first
      | (go_at_call 36; refine (num_at g _ _ _ HR.out HD.out).mono ?_; rintro e w' ⟨rfl, ⟨v1, hh1, hl1, hm1⟩, hg1⟩; have HH1 := Lib.hid hh1; clear hh1 hl1 hm1)
      | (go_at_call 63; refine (fail_any g _ _ _ _ HH1.out).mono ?_; rintro e w' ⟨rfl, hr2, hg2⟩))
    go_ret
    exact ⟨rfl, hr2, hg1.trans hg2⟩
theorem moment_nil (w : World) : Calls Tryd.prog 38 #[.pointer none] w fun e w' => e = .returned (.int .i64 0) ∧ w = w' := by
  go_enter Tryd.func38, Tryd.ntmps38
  go_wp2_with (go_at_call 36; refine (num_nil _).mono ?_; rintro e w' ⟨rfl, rfl⟩)
  go_ret
  exact ⟨rfl, rfl⟩
end Go.Proofs.YtiflpjdiokloaaaDoor
