/-
  Contract of layer 5's law's 'awake'.
-/
import Derived.Test.YtckhhphchphmlaaLabelAt
namespace Go.Proofs.Ytckhhphchphmlaa
open Go.RowKit
set_option linter.unusedVariables false

set_option maxRecDepth 100000 in
theorem awake5_any (w : World) : Calls Try.prog 9 #[] w fun e w' => e = .returned (.bool true) ∧ Below w.heap.size w w' := by
  obtain ⟨l, hl⟩ : ∃ l, l = [(⟨[97], 1⟩ : Pr), ⟨[97], 2⟩, ⟨[98], 1⟩] := ⟨_, rfl⟩
  have HC := Lib.hid (show Calls Try.prog 14 #[.slice (some ⟨w.heap.size, 0, none⟩) 4 4] (w.alloc (.cells #[.string ⟨#[97]⟩, .int .i64 2, .string ⟨#[98]⟩, .int .i64 1, .string ⟨#[97]⟩, .int .i64 1, .string ⟨#[97]⟩, .int .i64 2] 38)) (GaveQ (w.alloc (.cells #[.string ⟨#[97]⟩, .int .i64 2, .string ⟨#[98]⟩, .int .i64 1, .string ⟨#[97]⟩, .int .i64 1, .string ⟨#[97]⟩, .int .i64 2] 38)) l) from
    lof_any _ 4 4 [(⟨[97], 2⟩ : Pr), ⟨[98], 1⟩, ⟨[97], 1⟩, ⟨[97], 2⟩] _ (props_lit w _ _ _ rfl) (by simp) (by rw [hl]; decide))
  have HR := Lib.hid (show rightL l = true by rw [hl]; decide)
  have HH1 := Lib.hid (show holdsL l [97] 5 1 = true by rw [hl]; decide)
  have HH2 := Lib.hid (show holdsL l [98] 2 1 = false by rw [hl]; decide)
  have HL := Lib.hid hl
  have HS : Hid ((⟨#[97]⟩ : ByteArray) = mkB [97] ∧ (⟨#[98]⟩ : ByteArray) = mkB [98] ∧ (⟨#[97, 95, 49]⟩ : ByteArray) = mkB [97, 95, 49] ∧ (⟨#[116, 114, 117, 101]⟩ : ByteArray) = mkB [116, 114, 117, 101] ∧ nameL [97, 95, 49] = true ∧ nameL [116, 114, 117, 101] = false) := Lib.hid ⟨rfl, rfl, rfl, rfl, rfl, rfl⟩
  have HN := Lib.hid (show l.length ≤ 1000 by rw [hl]; simp)
  have e98 : ((mkB [98]).toList == [98]) = true := by rw [mkB_toList]; rfl
  clear hl
  go_enter Try.func9, Try.ntmps9
  go_wp2_with (first
    | (go_at_call 14; (with_reducible refine HC.out.mono ?_); rintro e w1 ⟨A, n, c, rfl, hp, hb⟩; have HB := Lib.hid (bstep (bmore (bself w) _) hb); obtain ⟨hn, hnc⟩ := hp.len; obtain ⟨bb, off, rfl⟩ := hp.some_ (by rw [HL.out]; simp); have HP := Lib.hid hp; rw [HL.out] at hp hn; obtain rfl : n = 3 := hn; obtain ⟨_, _, c1⟩ := hp.cells 0 (by simp); obtain ⟨_, c2, _⟩ := hp.cells 2 (by simp); clear hp hb)
    | (go_at_call 18; (with_reducible refine (lright_any _ _ _ l _ HP.out HN.out HR.out).mono ?_); rintro e w2 ⟨rfl, hb⟩; have HP2 := Lib.hid (HP.out.over (Nat.le_refl _) hb); have HB2 := Lib.hid (bstep HB.out hb); clear hb)
    | (go_at_call 20; (with_reducible refine (lholds_s _ _ _ l _ [97] 5 1 _ HS.out.1 HP2.out HN.out HH1.out).mono ?_); rintro e w3 ⟨rfl, hb⟩; have HP3 := Lib.hid (HP2.out.over (Nat.le_refl _) hb); have HB3 := Lib.hid (bstep HB2.out hb); clear hb)
    | (go_at_call 20; (with_reducible refine (lholds_s _ _ _ l _ [98] 2 1 _ HS.out.2.1 HP3.out HN.out HH2.out).mono ?_); rintro e w4 ⟨rfl, hb⟩; have HB4 := Lib.hid (bstep HB3.out hb); clear hb)
    | (go_at_call 10; (with_reducible refine (lname_s _ [97, 95, 49] _ HS.out.2.2.1 HS.out.2.2.2.2.1).mono ?_); rintro e w5 ⟨rfl, hb⟩; have HB5 := Lib.hid (bstep HB4.out hb); clear hb)
    | (go_at_call 10; (with_reducible refine (lname_s _ [116, 114, 117, 101] _ HS.out.2.2.2.1 HS.out.2.2.2.2.2).mono ?_); rintro e w6 ⟨rfl, hb⟩; have HB6 := Lib.hid (bstep HB5.out hb); clear hb))
  go_ret
  exact ⟨rfl, HB6.out⟩
end Go.Proofs.Ytckhhphchphmlaa
