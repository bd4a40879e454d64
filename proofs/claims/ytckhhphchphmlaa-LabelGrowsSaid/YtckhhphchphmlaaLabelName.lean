/-
  Package label's contracts of letter, inner and Name.
-/
import Derived.Test.YtckhhphchphmlaaRefName
namespace Go.Proofs.Ytckhhphchphmlaa
open Go.RowKit
set_option linter.unusedVariables false

set_option maxRecDepth 100000 in
theorem letter_any (c : Int) (w : World) {x : Bool} (hx : (decide (97 ≤ c) && decide (c ≤ 122)) = x) :
    Calls Try.prog 22 #[.int .u8 c] w fun e w' => e = .returned (.bool x) ∧ w' = w := by
  subst hx
  by_cases f1 : (97 : Int) ≤ c <;> by_cases f2 : c ≤ 122
  all_goals
    go_enter Try.func22, Try.ntmps22
    go_wp2
    go_ret
    exact ⟨by simp [f1, f2], rfl⟩
set_option maxRecDepth 100000 in
theorem inner_any (c : Int) (w : World) {x : Bool} (hx : (decide (48 ≤ c) && decide (c ≤ 57) || c == 95) = x) :
    Calls Try.prog 23 #[.int .u8 c] w fun e w' => e = .returned (.bool x) ∧ w' = w := by
  subst hx
  by_cases f1 : (48 : Int) ≤ c <;> by_cases f2 : c ≤ 57 <;> cases f3 : c == 95
  all_goals
    go_enter Try.func23, Try.ntmps23
    go_wp2
    go_ret
    exact ⟨by simp [f1, f2], rfl⟩
set_option maxRecDepth 100000 in
theorem lname_is (l : List UInt8) (w : World) :
    Calls Try.prog 10 #[.string (mkB l)] w fun e w' => e = .returned (.bool (nameL l)) ∧ w' = w := by
  obtain ⟨n, hn⟩ : ∃ n, l.length = n := ⟨_, rfl⟩
  have hsz : (mkB l).size = n := by rw [mkB_size, hn]
  by_cases h0 : l = []
  · subst h0
    have e0 : ((mkB []).toList == []) = true := by rw [mkB_toList]; rfl
    go_enter Try.func10, Try.ntmps10
    go_wp2
    go_ret
    exact ⟨rfl, rfl⟩
  · have e0 : ((mkB l).toList == []) = false := by rw [mkB_toList]; simpa using h0
    by_cases h1 : 12 < n
    · have h2 : (12 : Int) < (n : Int) := by omega
      go_enter Try.func10, Try.ntmps10
      go_wp2
      go_ret
      exact ⟨by rw [name_long (by omega)]; rfl, rfl⟩
    · have h2 : ¬ (12 : Int) < (n : Int) := by omega
      have e1 : ((mkB l).toList == [116, 114, 117, 101]) = (l == [116, 114, 117, 101]) := by rw [mkB_toList]
      have e2 : ((mkB l).toList == [102, 97, 108, 115, 101]) = (l == [102, 97, 108, 115, 101]) := by rw [mkB_toList]
      cases t1 : l == [116, 114, 117, 101] with
      | true =>
        rw [t1] at e1
        have HE := Lib.hid (name_word (.inl t1))
        clear t1
        go_enter Try.func10, Try.ntmps10
        go_wp2
        go_ret
        exact ⟨by rw [HE.out]; rfl, rfl⟩
      | false =>
        cases t2 : l == [102, 97, 108, 115, 101] with
        | true =>
          rw [t1] at e1
          rw [t2] at e2
          have HE := Lib.hid (name_word (.inr t2))
          clear t1 t2
          go_enter Try.func10, Try.ntmps10
          go_wp2
          go_ret
          exact ⟨by rw [HE.out]; rfl, rfl⟩
        | false =>
          rw [t1] at e1
          rw [t2] at e2
          have HG := Lib.hid (name_good h0 (by omega) t1 t2)
          have HN := Lib.hid hn
          have HZ := Lib.hid (show n ≠ 0 by intro e; rw [e] at hn; exact h0 (List.eq_nil_of_length_eq_zero hn))
          clear t1 t2 h0 hn
          go_enter Try.func10, Try.ntmps10
          go_wp2
          clear e0 e1 e2
          go_loop [21] (fun i => ∃ k : Nat, k ≤ n ∧ i = .int .i64 k ∧ Hid (k = 0 ∨ nameTo l k = true)) (fun i => n - (intOf i).toNat)
          case atStart => exact ⟨0, Nat.zero_le _, rfl, Lib.hid (.inl rfl)⟩
          case round =>
            obtain ⟨k, hk, rfl, HP⟩ := hrel
            by_cases hlt : k < n
            · have hlt2 : ((k : Nat) : Int) < (n : Int) := by omega
              have hkl : k < l.length := by have := HN.out; omega
              have hks : k < (mkB l).size := by rw [hsz]; exact hlt
              obtain ⟨c, hc⟩ : ∃ c : Int, ((mkB l)[k].toNat : Int) = c := ⟨_, rfl⟩
              have HX := Lib.hid (show (l[k].toNat : Int) = c from hc)
              have hL : (decide (97 ≤ c) && decide (c ≤ 122)) = letterL l[k] := by
                have := HX.out
                unfold letterL
                congr 1 <;> exact decide_eq_decide.2 (by omega)
              have hO : (decide (48 ≤ c) && decide (c ≤ 57) || c == 95) = otherL l[k] := by
                have := HX.out
                unfold otherL
                congr 1
                · congr 1 <;> exact decide_eq_decide.2 (by omega)
                · rw [Bool.eq_iff_iff, beq_iff_eq, beq_iff_eq]; omega
              have HB := Lib.hid (fun h => name_bad (l := l) k hkl h)
              have HX2 := Lib.hid (fun h => name_next (l := l) (k := k) hkl HP.out h)
              have HK0 : Hid ((((k : Int) == 0) = true → k = 0) ∧ (((k : Int) == 0) = false → k ≠ 0)) := Lib.hid ⟨fun h => by rw [beq_iff_eq] at h; omega, fun h => by rw [beq_eq_false_iff_ne] at h; omega⟩
              generalize letterL l[k] = b1 at hL HB HX2
              generalize otherL l[k] = b2 at hO HB HX2
              have HCL := Lib.hid (fun w' => letter_any c w' hL)
              have HCO := Lib.hid (fun w' => inner_any c w' hO)
              clear HX hL hO
              have hk9 : (k : Int) ≤ 12 := by omega
              cases hk0 : ((k : Int) == 0) <;> cases b1 <;> cases b2
              all_goals
                have hk1 := HK0.out
                rw [hk0] at hk1
                first
                  | (have HB2 := Lib.hid (HB.out ⟨rfl, (by first | exact .inl (hk1.1 rfl) | exact .inr rfl)⟩)
                     clear hk1 HK0 HB HX2
                     go_wp2_with (first
                      | (go_at_call 22; (with_reducible refine (HCL.out _).mono ?_); rintro e w' ⟨rfl, rfl⟩)
                      | (go_at_call 23; (with_reducible refine (HCO.out _).mono ?_); rintro e w' ⟨rfl, rfl⟩))
                     go_ret
                     exact ⟨by rw [HB2.out]; rfl, rfl⟩)
                  | (have HG2 := Lib.hid (HX2.out (by first | exact .inl rfl | exact .inr ⟨hk1.2 rfl, rfl⟩))
                     clear hk1 HK0 HB HX2
                     go_wp2_with (first
                      | (go_at_call 22; (with_reducible refine (HCL.out _).mono ?_); rintro e w' ⟨rfl, rfl⟩)
                      | (go_at_call 23; (with_reducible refine (HCO.out _).mono ?_); rintro e w' ⟨rfl, rfl⟩))
                     go_round
                     case rel => exact ⟨k + 1, by omega, by go_num, Lib.hid (.inr HG2.out)⟩
                     case measure => simp [intOf]; omega)
            · have hlt2 : ¬ ((k : Nat) : Int) < (n : Int) := by omega
              have HK := Lib.hid (show k = l.length by have := HN.out; omega)
              go_wp2
              go_ret
              refine ⟨?_, rfl⟩
              rw [HG.out (by rw [← HK.out]; exact HP.out.elim (fun e => absurd e (by have := HZ.out; omega)) id)]
              rfl
theorem lname_at (l : List UInt8) (w : World) {q : Bool} (hq : nameL l = q) : Calls Try.prog 10 #[.string (mkB l)] w fun e w' => e = .returned (.bool q) ∧ w' = w := by
  subst hq; exact lname_is l w
theorem lname_any (l : List UInt8) (w : World) {q : Bool} (hq : nameL l = q) :
    Calls Try.prog 10 #[.string (mkB l)] w fun e w' => e = .returned (.bool q) ∧ Below w.heap.size w w' := by
  subst hq
  exact (lname_is l w).mono fun e w' h => ⟨h.1, by rw [h.2]; exact bself w⟩
end Go.Proofs.Ytckhhphchphmlaa
