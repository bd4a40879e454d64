/-
  Texts of the proofs, put together: RefWith, RefMay7.
-/
import Derived.Test.YthnkiabhfcddaaaDoorPackG
import Derived.Deep.Cut
/-
  Contracts of layer 7's reference: number, with.
-/
namespace Go.Proofs.YthnkiabhfcddaaaDoor
open Go.RowKit
set_option linter.unusedVariables false

set_option maxRecDepth 100000 in
set_option maxHeartbeats 1000000 in
theorem rwith_1 (k : Nat) (s : Int) (q : Nat) (a n c : Int) (y : Bool) (t : List UInt8) (m : Nat) (w : World) (hm : m ≤ 9223372036854775807) :
    Calls Tryd.prog 41 #[.agg #[.int .u8 (k : Int), .int .i64 s, .int .u64 (q : Int), .int .i64 a, .int .i64 n, .int .i64 c, .bool y, .string (mkB t)], .int .i64 1, .int .u64 (m : Int)] w fun e w' => e = .returned (.agg #[.int .u8 (k : Int), .int .i64 (m : Int), .int .u64 (q : Int), .int .i64 a, .int .i64 n, .int .i64 c, .bool y, .string (mkB t)]) ∧ Below w.heap.size w w' := by
  have hm9 : (m : Int) ≤ 9223372036854775807 := by omega
  go_enter Tryd.func41, Tryd.ntmps41
  go_wp2
  obtain ⟨x0, x1, x2, x3, x4, x5, x6, x7⟩ := recAt_blk (r := ⟨k, (m : Int), q, a, n, c, y, t⟩) (heap_alloc_new (w.alloc (recB ⟨k, (m : Int), q, a, n, c, y, t⟩ 26)) (recB ⟨k, (m : Int), q, a, n, c, y, t⟩ 26))
  unfold recB at x0 x1 x2 x3 x4 x5 x6 x7
  rw [World.size_alloc] at x0 x1 x2 x3 x4 x5 x6 x7
  dsimp only at x0 x1 x2 x3 x4 x5 x6 x7
  refine bodyPost_ret (v := .agg #[.int .u8 (k : Int), .int .i64 (m : Int), .int .u64 (q : Int), .int .i64 a, .int .i64 n, .int .i64 c, .bool y, .string (mkB t)]) (by simp [results, Tryd.results41, go_sem, x0, x1, x2, x3, x4, x5, x6, x7]) rfl ?_
  exact ⟨rfl, bmore (bmore (bself w) _) _⟩
set_option maxRecDepth 100000 in
set_option maxHeartbeats 1000000 in
theorem rwith_2 (k : Nat) (s : Int) (q : Nat) (a n c : Int) (y : Bool) (t : List UInt8) (m : Nat) (w : World) (hm : m ≤ 18446744073709551615) :
    Calls Tryd.prog 41 #[.agg #[.int .u8 (k : Int), .int .i64 s, .int .u64 (q : Int), .int .i64 a, .int .i64 n, .int .i64 c, .bool y, .string (mkB t)], .int .i64 2, .int .u64 (m : Int)] w fun e w' => e = .returned (.agg #[.int .u8 (k : Int), .int .i64 s, .int .u64 (m : Int), .int .i64 a, .int .i64 n, .int .i64 c, .bool y, .string (mkB t)]) ∧ Below w.heap.size w w' := by
  have hm9 : (m : Int) ≤ 18446744073709551615 := by omega
  go_enter Tryd.func41, Tryd.ntmps41
  go_wp2
  obtain ⟨x0, x1, x2, x3, x4, x5, x6, x7⟩ := recAt_blk (r := ⟨k, s, m, a, n, c, y, t⟩) (heap_alloc_new (w.alloc (recB ⟨k, s, m, a, n, c, y, t⟩ 26)) (recB ⟨k, s, m, a, n, c, y, t⟩ 26))
  unfold recB at x0 x1 x2 x3 x4 x5 x6 x7
  rw [World.size_alloc] at x0 x1 x2 x3 x4 x5 x6 x7
  dsimp only at x0 x1 x2 x3 x4 x5 x6 x7
  refine bodyPost_ret (v := .agg #[.int .u8 (k : Int), .int .i64 s, .int .u64 (m : Int), .int .i64 a, .int .i64 n, .int .i64 c, .bool y, .string (mkB t)]) (by simp [results, Tryd.results41, go_sem, x0, x1, x2, x3, x4, x5, x6, x7]) rfl ?_
  exact ⟨rfl, bmore (bmore (bself w) _) _⟩
set_option maxRecDepth 100000 in
set_option maxHeartbeats 1000000 in
theorem rwith_3 (k : Nat) (s : Int) (q : Nat) (a n c : Int) (y : Bool) (t : List UInt8) (m : Nat) (w : World) (hm : m ≤ 9223372036854775807) :
    Calls Tryd.prog 41 #[.agg #[.int .u8 (k : Int), .int .i64 s, .int .u64 (q : Int), .int .i64 a, .int .i64 n, .int .i64 c, .bool y, .string (mkB t)], .int .i64 3, .int .u64 (m : Int)] w fun e w' => e = .returned (.agg #[.int .u8 (k : Int), .int .i64 s, .int .u64 (q : Int), .int .i64 (m : Int), .int .i64 n, .int .i64 c, .bool y, .string (mkB t)]) ∧ Below w.heap.size w w' := by
  have hm9 : (m : Int) ≤ 9223372036854775807 := by omega
  go_enter Tryd.func41, Tryd.ntmps41
  go_wp2
  obtain ⟨x0, x1, x2, x3, x4, x5, x6, x7⟩ := recAt_blk (r := ⟨k, s, q, (m : Int), n, c, y, t⟩) (heap_alloc_new (w.alloc (recB ⟨k, s, q, (m : Int), n, c, y, t⟩ 26)) (recB ⟨k, s, q, (m : Int), n, c, y, t⟩ 26))
  unfold recB at x0 x1 x2 x3 x4 x5 x6 x7
  rw [World.size_alloc] at x0 x1 x2 x3 x4 x5 x6 x7
  dsimp only at x0 x1 x2 x3 x4 x5 x6 x7
  refine bodyPost_ret (v := .agg #[.int .u8 (k : Int), .int .i64 s, .int .u64 (q : Int), .int .i64 (m : Int), .int .i64 n, .int .i64 c, .bool y, .string (mkB t)]) (by simp [results, Tryd.results41, go_sem, x0, x1, x2, x3, x4, x5, x6, x7]) rfl ?_
  exact ⟨rfl, bmore (bmore (bself w) _) _⟩
set_option maxRecDepth 100000 in
set_option maxHeartbeats 1000000 in
theorem rwith_4 (k : Nat) (s : Int) (q : Nat) (a n c : Int) (y : Bool) (t : List UInt8) (m : Nat) (w : World) (hm : m ≤ 9223372036854775807) :
    Calls Tryd.prog 41 #[.agg #[.int .u8 (k : Int), .int .i64 s, .int .u64 (q : Int), .int .i64 a, .int .i64 n, .int .i64 c, .bool y, .string (mkB t)], .int .i64 4, .int .u64 (m : Int)] w fun e w' => e = .returned (.agg #[.int .u8 (k : Int), .int .i64 s, .int .u64 (q : Int), .int .i64 a, .int .i64 (m : Int), .int .i64 c, .bool y, .string (mkB t)]) ∧ Below w.heap.size w w' := by
  have hm9 : (m : Int) ≤ 9223372036854775807 := by omega
  go_enter Tryd.func41, Tryd.ntmps41
  go_wp2
  obtain ⟨x0, x1, x2, x3, x4, x5, x6, x7⟩ := recAt_blk (r := ⟨k, s, q, a, (m : Int), c, y, t⟩) (heap_alloc_new (w.alloc (recB ⟨k, s, q, a, (m : Int), c, y, t⟩ 26)) (recB ⟨k, s, q, a, (m : Int), c, y, t⟩ 26))
  unfold recB at x0 x1 x2 x3 x4 x5 x6 x7
  rw [World.size_alloc] at x0 x1 x2 x3 x4 x5 x6 x7
  dsimp only at x0 x1 x2 x3 x4 x5 x6 x7
  refine bodyPost_ret (v := .agg #[.int .u8 (k : Int), .int .i64 s, .int .u64 (q : Int), .int .i64 a, .int .i64 (m : Int), .int .i64 c, .bool y, .string (mkB t)]) (by simp [results, Tryd.results41, go_sem, x0, x1, x2, x3, x4, x5, x6, x7]) rfl ?_
  exact ⟨rfl, bmore (bmore (bself w) _) _⟩
set_option maxRecDepth 100000 in
set_option maxHeartbeats 1000000 in
theorem rwith_5 (k : Nat) (s : Int) (q : Nat) (a n c : Int) (y : Bool) (t : List UInt8) (m : Nat) (w : World) (hm : m ≤ 9223372036854775807) :
    Calls Tryd.prog 41 #[.agg #[.int .u8 (k : Int), .int .i64 s, .int .u64 (q : Int), .int .i64 a, .int .i64 n, .int .i64 c, .bool y, .string (mkB t)], .int .i64 5, .int .u64 (m : Int)] w fun e w' => e = .returned (.agg #[.int .u8 (k : Int), .int .i64 s, .int .u64 (q : Int), .int .i64 a, .int .i64 n, .int .i64 (m : Int), .bool y, .string (mkB t)]) ∧ Below w.heap.size w w' := by
  have hm9 : (m : Int) ≤ 9223372036854775807 := by omega
  go_enter Tryd.func41, Tryd.ntmps41
  go_wp2
  obtain ⟨x0, x1, x2, x3, x4, x5, x6, x7⟩ := recAt_blk (r := ⟨k, s, q, a, n, (m : Int), y, t⟩) (heap_alloc_new (w.alloc (recB ⟨k, s, q, a, n, (m : Int), y, t⟩ 26)) (recB ⟨k, s, q, a, n, (m : Int), y, t⟩ 26))
  unfold recB at x0 x1 x2 x3 x4 x5 x6 x7
  rw [World.size_alloc] at x0 x1 x2 x3 x4 x5 x6 x7
  dsimp only at x0 x1 x2 x3 x4 x5 x6 x7
  refine bodyPost_ret (v := .agg #[.int .u8 (k : Int), .int .i64 s, .int .u64 (q : Int), .int .i64 a, .int .i64 n, .int .i64 (m : Int), .bool y, .string (mkB t)]) (by simp [results, Tryd.results41, go_sem, x0, x1, x2, x3, x4, x5, x6, x7]) rfl ?_
  exact ⟨rfl, bmore (bmore (bself w) _) _⟩
set_option maxRecDepth 100000 in
set_option maxHeartbeats 1000000 in
theorem rwith_6 (k : Nat) (s : Int) (q : Nat) (a n c : Int) (y : Bool) (t : List UInt8) (m : Nat) (w : World) (hm : m ≤ 18446744073709551615) :
    Calls Tryd.prog 41 #[.agg #[.int .u8 (k : Int), .int .i64 s, .int .u64 (q : Int), .int .i64 a, .int .i64 n, .int .i64 c, .bool y, .string (mkB t)], .int .i64 6, .int .u64 (m : Int)] w fun e w' => e = .returned (.agg #[.int .u8 (k : Int), .int .i64 s, .int .u64 (q : Int), .int .i64 a, .int .i64 n, .int .i64 c, .bool ((m : Int) == 1), .string (mkB t)]) ∧ Below w.heap.size w w' := by
  have hm9 : (m : Int) ≤ 18446744073709551615 := by omega
  go_enter Tryd.func41, Tryd.ntmps41
  go_wp2
  obtain ⟨x0, x1, x2, x3, x4, x5, x6, x7⟩ := recAt_blk (r := ⟨k, s, q, a, n, c, ((m : Int) == 1), t⟩) (heap_alloc_new (w.alloc (recB ⟨k, s, q, a, n, c, ((m : Int) == 1), t⟩ 26)) (recB ⟨k, s, q, a, n, c, ((m : Int) == 1), t⟩ 26))
  unfold recB at x0 x1 x2 x3 x4 x5 x6 x7
  rw [World.size_alloc] at x0 x1 x2 x3 x4 x5 x6 x7
  dsimp only at x0 x1 x2 x3 x4 x5 x6 x7
  refine bodyPost_ret (v := .agg #[.int .u8 (k : Int), .int .i64 s, .int .u64 (q : Int), .int .i64 a, .int .i64 n, .int .i64 c, .bool ((m : Int) == 1), .string (mkB t)]) (by simp [results, Tryd.results41, go_sem, x0, x1, x2, x3, x4, x5, x6, x7]) rfl ?_
  exact ⟨rfl, bmore (bmore (bself w) _) _⟩
set_option maxRecDepth 100000 in
theorem rnumber_1 (k : Nat) (s : Int) (q : Nat) (a n c : Int) (y : Bool) (t : List UInt8) (w : World) (h0 : 0 ≤ s) (h1 : s ≤ 9223372036854775807) :
    Calls Tryd.prog 32 #[.agg #[.int .u8 (k : Int), .int .i64 s, .int .u64 (q : Int), .int .i64 a, .int .i64 n, .int .i64 c, .bool y, .string (mkB t)], .int .i64 1] w fun e w' => e = .returned (.int .u64 s) ∧ Below w.heap.size w w' := by
  go_enter Tryd.func32, Tryd.ntmps32
  go_wp2
  go_ret
  exact ⟨rfl, bmore (bself w) _⟩
set_option maxRecDepth 100000 in
theorem rnumber_2 (k : Nat) (s : Int) (q : Nat) (a n c : Int) (y : Bool) (t : List UInt8) (w : World) (h1 : (q : Int) ≤ 18446744073709551615) :
    Calls Tryd.prog 32 #[.agg #[.int .u8 (k : Int), .int .i64 s, .int .u64 (q : Int), .int .i64 a, .int .i64 n, .int .i64 c, .bool y, .string (mkB t)], .int .i64 2] w fun e w' => e = .returned (.int .u64 (q : Int)) ∧ Below w.heap.size w w' := by
  go_enter Tryd.func32, Tryd.ntmps32
  go_wp2
  go_ret
  exact ⟨rfl, bmore (bself w) _⟩
set_option maxRecDepth 100000 in
theorem rnumber_3 (k : Nat) (s : Int) (q : Nat) (a n c : Int) (y : Bool) (t : List UInt8) (w : World) (h0 : 0 ≤ a) (h1 : a ≤ 9223372036854775807) :
    Calls Tryd.prog 32 #[.agg #[.int .u8 (k : Int), .int .i64 s, .int .u64 (q : Int), .int .i64 a, .int .i64 n, .int .i64 c, .bool y, .string (mkB t)], .int .i64 3] w fun e w' => e = .returned (.int .u64 a) ∧ Below w.heap.size w w' := by
  go_enter Tryd.func32, Tryd.ntmps32
  go_wp2
  go_ret
  exact ⟨rfl, bmore (bself w) _⟩
set_option maxRecDepth 100000 in
theorem rnumber_4 (k : Nat) (s : Int) (q : Nat) (a n c : Int) (y : Bool) (t : List UInt8) (w : World) (h0 : 0 ≤ n) (h1 : n ≤ 9223372036854775807) :
    Calls Tryd.prog 32 #[.agg #[.int .u8 (k : Int), .int .i64 s, .int .u64 (q : Int), .int .i64 a, .int .i64 n, .int .i64 c, .bool y, .string (mkB t)], .int .i64 4] w fun e w' => e = .returned (.int .u64 n) ∧ Below w.heap.size w w' := by
  go_enter Tryd.func32, Tryd.ntmps32
  go_wp2
  go_ret
  exact ⟨rfl, bmore (bself w) _⟩
set_option maxRecDepth 100000 in
theorem rnumber_5 (k : Nat) (s : Int) (q : Nat) (a n c : Int) (y : Bool) (t : List UInt8) (w : World) (h0 : 0 ≤ c) (h1 : c ≤ 9223372036854775807) :
    Calls Tryd.prog 32 #[.agg #[.int .u8 (k : Int), .int .i64 s, .int .u64 (q : Int), .int .i64 a, .int .i64 n, .int .i64 c, .bool y, .string (mkB t)], .int .i64 5] w fun e w' => e = .returned (.int .u64 c) ∧ Below w.heap.size w w' := by
  go_enter Tryd.func32, Tryd.ntmps32
  go_wp2
  go_ret
  exact ⟨rfl, bmore (bself w) _⟩
set_option maxRecDepth 100000 in
theorem rnumber_6 (k : Nat) (s : Int) (q : Nat) (a n c : Int) (y : Bool) (t : List UInt8) (w : World) :
    Calls Tryd.prog 32 #[.agg #[.int .u8 (k : Int), .int .i64 s, .int .u64 (q : Int), .int .i64 a, .int .i64 n, .int .i64 c, .bool y, .string (mkB t)], .int .i64 6] w fun e w' => e = .returned (.int .u64 (if y = true then 1 else 0)) ∧ Below w.heap.size w w' := by
  cases y
  all_goals
    go_enter Tryd.func32, Tryd.ntmps32
    go_wp2
    go_ret
    exact ⟨rfl, bmore (bself w) _⟩
end Go.Proofs.YthnkiabhfcddaaaDoor
/-
  Contract of layer 7's reference: May.
-/
namespace Go.Proofs.YthnkiabhfcddaaaDoor
open Go.RowKit
set_option linter.unusedVariables false

theorem mayR_in {r : Rec} (h : ¬ (r.kind < 17 ∨ 32 < r.kind ∨ r.src < 0 ∨ 7 < r.src ∨ r.at_ < 0 ∨ r.num < 0 ∨ r.code < 0 ∨ 255 < r.code ∨ 240 < r.text.length)) :
    mayR r = ((hasR r.kind 1 || (r.src == 0)) && (hasR r.kind 2 || ((r.seq : Int) == 0)) && (hasR r.kind 3 || (r.at_ == 0)) && (hasR r.kind 4 || (r.num == 0)) && (hasR r.kind 5 || (r.code == 0)) && (hasR r.kind 6 || !r.yes) && (hasR r.kind 7 || ((mkB r.text).toList == []))) := by
  have e : ((mkB r.text).toList == []) = decide (r.text = []) := by rw [mkB_toList, Bool.eq_iff_iff, beq_iff_eq, decide_eq_true_eq]
  have e2 : ((r.seq : Int) == 0) = decide (r.seq = 0) := by rw [Bool.eq_iff_iff, beq_iff_eq, decide_eq_true_eq]; omega
  have e3 : ∀ x : Int, (x == 0) = decide (x = 0) := fun x => by rw [Bool.eq_iff_iff, beq_iff_eq, decide_eq_true_eq]
  unfold mayR
  rw [if_neg h, e, e2, e3, e3, e3, e3]
theorem mayR_out {r : Rec} (h : r.kind < 17 ∨ 32 < r.kind ∨ r.src < 0 ∨ 7 < r.src ∨ r.at_ < 0 ∨ r.num < 0 ∨ r.code < 0 ∨ 255 < r.code ∨ 240 < r.text.length) : mayR r = false := by unfold mayR; rw [if_pos h]
set_option maxRecDepth 100000 in
set_option maxHeartbeats 4000000 in
theorem rmay7_any (k : Nat) (s : Int) (q : Nat) (a n c : Int) (y : Bool) (t : List UInt8) (w : World) {x : Bool} (hx : mayR ⟨k, s, q, a, n, c, y, t⟩ = x) :
    Calls Tryd.prog 12 #[.agg #[.int .u8 (k : Int), .int .i64 s, .int .u64 (q : Int), .int .i64 a, .int .i64 n, .int .i64 c, .bool y, .string (mkB t)]] w fun e w' => e = .returned (.bool x) ∧ Below w.heap.size w w' := by
  obtain ⟨m0, m1, m2, m3, m4, m5, m6, m7⟩ := recAt_blk (r := ⟨k, s, q, a, n, c, y, t⟩) (heap_alloc_new w (recB ⟨k, s, q, a, n, c, y, t⟩ 26))
  have HB := Lib.hid (bmore (bself w) (recB ⟨k, s, q, a, n, c, y, t⟩ 26))
  unfold recB at m0 m1 m2 m3 m4 m5 m6 m7 HB
  dsimp only at m0 m1 m2 m3 m4 m5 m6 m7
  obtain ⟨z, hz⟩ : ∃ z, (mkB t).size = z := ⟨_, rfl⟩
  have hz2 : t.length = z := by rw [← hz, mkB_size]
  by_cases h : k < 17
  · have HX : Hid (x = false) := Lib.hid (by rw [← hx]; exact mayR_out (.inl h))
    have g0 : (k : Int) < 17 := by omega
    clear hx h
    go_enter Tryd.func12, Tryd.ntmps12
    go_wp2
    go_ret
    exact ⟨by rw [HX.out]; rfl, HB.out⟩
  have g0 : ¬ (k : Int) < 17 := by omega
  have r0 := Lib.hid h
  clear h
  by_cases h : 32 < k
  · have HX : Hid (x = false) := Lib.hid (by rw [← hx]; exact mayR_out (.inr (.inl h)))
    have g1 : (32 : Int) < (k : Int) := by omega
    clear hx h
    go_enter Tryd.func12, Tryd.ntmps12
    go_wp2
    go_ret
    exact ⟨by rw [HX.out]; rfl, HB.out⟩
  have g1 : ¬ (32 : Int) < (k : Int) := by omega
  have r1 := Lib.hid h
  clear h
  by_cases h : s < 0
  · have HX : Hid (x = false) := Lib.hid (by rw [← hx]; exact mayR_out (.inr (.inr (.inl h))))
    have g2 : s < 0 := by omega
    clear hx h
    go_enter Tryd.func12, Tryd.ntmps12
    go_wp2
    go_ret
    exact ⟨by rw [HX.out]; rfl, HB.out⟩
  have g2 : ¬ s < 0 := by omega
  have r2 := Lib.hid h
  clear h
  by_cases h : 7 < s
  · have HX : Hid (x = false) := Lib.hid (by rw [← hx]; exact mayR_out (.inr (.inr (.inr (.inl h)))))
    have g3 : 7 < s := by omega
    clear hx h
    go_enter Tryd.func12, Tryd.ntmps12
    go_wp2
    go_ret
    exact ⟨by rw [HX.out]; rfl, HB.out⟩
  have g3 : ¬ 7 < s := by omega
  have r3 := Lib.hid h
  clear h
  by_cases h : a < 0
  · have HX : Hid (x = false) := Lib.hid (by rw [← hx]; exact mayR_out (.inr (.inr (.inr (.inr (.inl h))))))
    have g4 : a < 0 := by omega
    clear hx h
    go_enter Tryd.func12, Tryd.ntmps12
    go_wp2
    go_ret
    exact ⟨by rw [HX.out]; rfl, HB.out⟩
  have g4 : ¬ a < 0 := by omega
  have r4 := Lib.hid h
  clear h
  by_cases h : n < 0
  · have HX : Hid (x = false) := Lib.hid (by rw [← hx]; exact mayR_out (.inr (.inr (.inr (.inr (.inr (.inl h)))))))
    have g5 : n < 0 := by omega
    clear hx h
    go_enter Tryd.func12, Tryd.ntmps12
    go_wp2
    go_ret
    exact ⟨by rw [HX.out]; rfl, HB.out⟩
  have g5 : ¬ n < 0 := by omega
  have r5 := Lib.hid h
  clear h
  by_cases h : c < 0
  · have HX : Hid (x = false) := Lib.hid (by rw [← hx]; exact mayR_out (.inr (.inr (.inr (.inr (.inr (.inr (.inl h))))))))
    have g6 : c < 0 := by omega
    clear hx h
    go_enter Tryd.func12, Tryd.ntmps12
    go_wp2
    go_ret
    exact ⟨by rw [HX.out]; rfl, HB.out⟩
  have g6 : ¬ c < 0 := by omega
  have r6 := Lib.hid h
  clear h
  by_cases h : 255 < c
  · have HX : Hid (x = false) := Lib.hid (by rw [← hx]; exact mayR_out (.inr (.inr (.inr (.inr (.inr (.inr (.inr (.inl h)))))))))
    have g7 : 255 < c := by omega
    clear hx h
    go_enter Tryd.func12, Tryd.ntmps12
    go_wp2
    go_ret
    exact ⟨by rw [HX.out]; rfl, HB.out⟩
  have g7 : ¬ 255 < c := by omega
  have r7 := Lib.hid h
  clear h
  by_cases h : 240 < t.length
  · have HX : Hid (x = false) := Lib.hid (by rw [← hx]; exact mayR_out (.inr (.inr (.inr (.inr (.inr (.inr (.inr (.inr (h))))))))))
    have g8 : (240 : Int) < (z : Int) := by omega
    clear hx h
    go_enter Tryd.func12, Tryd.ntmps12
    go_wp2
    go_ret
    exact ⟨by rw [HX.out]; rfl, HB.out⟩
  have g8 : ¬ (240 : Int) < (z : Int) := by omega
  have r8 := Lib.hid h
  clear h
  have HE := Lib.hid (hx.symm.trans (mayR_in (r := ⟨k, s, q, a, n, c, y, t⟩) (by have := r0.out; have := r1.out; have := r2.out; have := r3.out; have := r4.out; have := r5.out; have := r6.out; have := r7.out; have := r8.out; dsimp only; omega)))
  have HPT := has_pat (k := k) (by have := r0.out; have := r1.out; omega)
  clear hx r0 r1 r2 r3 r4 r5 r6 r7 r8 hz2
  dsimp only at HE
  obtain ⟨t1, e1⟩ : ∃ b, (s == 0) = b := ⟨_, rfl⟩
  obtain ⟨t2, e2⟩ : ∃ b, ((q : Int) == 0) = b := ⟨_, rfl⟩
  obtain ⟨t3, e3⟩ : ∃ b, (a == 0) = b := ⟨_, rfl⟩
  obtain ⟨t4, e4⟩ : ∃ b, (n == 0) = b := ⟨_, rfl⟩
  obtain ⟨t5, e5⟩ : ∃ b, (c == 0) = b := ⟨_, rfl⟩
  obtain ⟨t7, e7⟩ : ∃ b, ((mkB t).toList == []) = b := ⟨_, rfl⟩
  rw [e1, e2, e3, e4, e5, e7] at HE
  go_enter Tryd.func12, Tryd.ntmps12
  go_upto_region 4 with (fail)
  clear g0 g1 g2 g3 g4 g5 g6 g7 g8
  rcases HPT with ⟨p1, p2, p3, p4, p5, p6, p7⟩ | ⟨p1, p2, p3, p4, p5, p6, p7⟩ | ⟨p1, p2, p3, p4, p5, p6, p7⟩ | ⟨p1, p2, p3, p4, p5, p6, p7⟩ | ⟨p1, p2, p3, p4, p5, p6, p7⟩ | ⟨p1, p2, p3, p4, p5, p6, p7⟩ | ⟨p1, p2, p3, p4, p5, p6, p7⟩ | ⟨p1, p2, p3, p4, p5, p6, p7⟩ | ⟨p1, p2, p3, p4, p5, p6, p7⟩ | ⟨p1, p2, p3, p4, p5, p6, p7⟩ | ⟨p1, p2, p3, p4, p5, p6, p7⟩
  · have H1 := Lib.hid (rhas_1 k true p1)
    have H2 := Lib.hid (rhas_2 k false p2)
    have H3 := Lib.hid (rhas_3 k false p3)
    have H4 := Lib.hid (rhas_4 k true p4)
    have H5 := Lib.hid (rhas_5 k false p5)
    have H6 := Lib.hid (rhas_6 k false p6)
    have H7 := Lib.hid (rhas_7 k false p7)
    rw [p1, p2, p3, p4, p5, p6, p7] at HE
    clear p1 p2 p3 p4 p5 p6 p7
    cases t2 with
    | false =>
      go_wp2_with (first
        | (go_at_call 23; (with_reducible refine (H1.out _).mono ?_); rintro e w' ⟨rfl, rfl⟩)
        | (go_at_call 23; (with_reducible refine (H2.out _).mono ?_); rintro e w' ⟨rfl, rfl⟩)
        | (go_at_call 23; (with_reducible refine (H3.out _).mono ?_); rintro e w' ⟨rfl, rfl⟩)
        | (go_at_call 23; (with_reducible refine (H4.out _).mono ?_); rintro e w' ⟨rfl, rfl⟩)
        | (go_at_call 23; (with_reducible refine (H5.out _).mono ?_); rintro e w' ⟨rfl, rfl⟩)
        | (go_at_call 23; (with_reducible refine (H6.out _).mono ?_); rintro e w' ⟨rfl, rfl⟩)
        | (go_at_call 23; (with_reducible refine (H7.out _).mono ?_); rintro e w' ⟨rfl, rfl⟩))
      go_ret
      exact ⟨by rw [HE.out]; rfl, HB.out⟩
    | true =>
      cases t3 with
      | false =>
        go_wp2_with (first
        | (go_at_call 23; (with_reducible refine (H1.out _).mono ?_); rintro e w' ⟨rfl, rfl⟩)
        | (go_at_call 23; (with_reducible refine (H2.out _).mono ?_); rintro e w' ⟨rfl, rfl⟩)
        | (go_at_call 23; (with_reducible refine (H3.out _).mono ?_); rintro e w' ⟨rfl, rfl⟩)
        | (go_at_call 23; (with_reducible refine (H4.out _).mono ?_); rintro e w' ⟨rfl, rfl⟩)
        | (go_at_call 23; (with_reducible refine (H5.out _).mono ?_); rintro e w' ⟨rfl, rfl⟩)
        | (go_at_call 23; (with_reducible refine (H6.out _).mono ?_); rintro e w' ⟨rfl, rfl⟩)
        | (go_at_call 23; (with_reducible refine (H7.out _).mono ?_); rintro e w' ⟨rfl, rfl⟩))
        go_ret
        exact ⟨by rw [HE.out]; rfl, HB.out⟩
      | true =>
        cases t5 with
        | false =>
          go_wp2_with (first
        | (go_at_call 23; (with_reducible refine (H1.out _).mono ?_); rintro e w' ⟨rfl, rfl⟩)
        | (go_at_call 23; (with_reducible refine (H2.out _).mono ?_); rintro e w' ⟨rfl, rfl⟩)
        | (go_at_call 23; (with_reducible refine (H3.out _).mono ?_); rintro e w' ⟨rfl, rfl⟩)
        | (go_at_call 23; (with_reducible refine (H4.out _).mono ?_); rintro e w' ⟨rfl, rfl⟩)
        | (go_at_call 23; (with_reducible refine (H5.out _).mono ?_); rintro e w' ⟨rfl, rfl⟩)
        | (go_at_call 23; (with_reducible refine (H6.out _).mono ?_); rintro e w' ⟨rfl, rfl⟩)
        | (go_at_call 23; (with_reducible refine (H7.out _).mono ?_); rintro e w' ⟨rfl, rfl⟩))
          go_ret
          exact ⟨by rw [HE.out]; rfl, HB.out⟩
        | true =>
          cases y with
          | true =>
            go_wp2_with (first
        | (go_at_call 23; (with_reducible refine (H1.out _).mono ?_); rintro e w' ⟨rfl, rfl⟩)
        | (go_at_call 23; (with_reducible refine (H2.out _).mono ?_); rintro e w' ⟨rfl, rfl⟩)
        | (go_at_call 23; (with_reducible refine (H3.out _).mono ?_); rintro e w' ⟨rfl, rfl⟩)
        | (go_at_call 23; (with_reducible refine (H4.out _).mono ?_); rintro e w' ⟨rfl, rfl⟩)
        | (go_at_call 23; (with_reducible refine (H5.out _).mono ?_); rintro e w' ⟨rfl, rfl⟩)
        | (go_at_call 23; (with_reducible refine (H6.out _).mono ?_); rintro e w' ⟨rfl, rfl⟩)
        | (go_at_call 23; (with_reducible refine (H7.out _).mono ?_); rintro e w' ⟨rfl, rfl⟩))
            go_ret
            exact ⟨by rw [HE.out]; rfl, HB.out⟩
          | false =>
            cases t7 with
            | false =>
              go_wp2_with (first
        | (go_at_call 23; (with_reducible refine (H1.out _).mono ?_); rintro e w' ⟨rfl, rfl⟩)
        | (go_at_call 23; (with_reducible refine (H2.out _).mono ?_); rintro e w' ⟨rfl, rfl⟩)
        | (go_at_call 23; (with_reducible refine (H3.out _).mono ?_); rintro e w' ⟨rfl, rfl⟩)
        | (go_at_call 23; (with_reducible refine (H4.out _).mono ?_); rintro e w' ⟨rfl, rfl⟩)
        | (go_at_call 23; (with_reducible refine (H5.out _).mono ?_); rintro e w' ⟨rfl, rfl⟩)
        | (go_at_call 23; (with_reducible refine (H6.out _).mono ?_); rintro e w' ⟨rfl, rfl⟩)
        | (go_at_call 23; (with_reducible refine (H7.out _).mono ?_); rintro e w' ⟨rfl, rfl⟩))
              go_ret
              exact ⟨by rw [HE.out]; rfl, HB.out⟩
            | true =>
              go_wp2_with (first
        | (go_at_call 23; (with_reducible refine (H1.out _).mono ?_); rintro e w' ⟨rfl, rfl⟩)
        | (go_at_call 23; (with_reducible refine (H2.out _).mono ?_); rintro e w' ⟨rfl, rfl⟩)
        | (go_at_call 23; (with_reducible refine (H3.out _).mono ?_); rintro e w' ⟨rfl, rfl⟩)
        | (go_at_call 23; (with_reducible refine (H4.out _).mono ?_); rintro e w' ⟨rfl, rfl⟩)
        | (go_at_call 23; (with_reducible refine (H5.out _).mono ?_); rintro e w' ⟨rfl, rfl⟩)
        | (go_at_call 23; (with_reducible refine (H6.out _).mono ?_); rintro e w' ⟨rfl, rfl⟩)
        | (go_at_call 23; (with_reducible refine (H7.out _).mono ?_); rintro e w' ⟨rfl, rfl⟩))
              go_ret
              exact ⟨by rw [HE.out]; rfl, HB.out⟩
  · have H1 := Lib.hid (rhas_1 k true p1)
    have H2 := Lib.hid (rhas_2 k false p2)
    have H3 := Lib.hid (rhas_3 k false p3)
    have H4 := Lib.hid (rhas_4 k false p4)
    have H5 := Lib.hid (rhas_5 k true p5)
    have H6 := Lib.hid (rhas_6 k false p6)
    have H7 := Lib.hid (rhas_7 k false p7)
    rw [p1, p2, p3, p4, p5, p6, p7] at HE
    clear p1 p2 p3 p4 p5 p6 p7
    cases t2 with
    | false =>
      go_wp2_with (first
        | (go_at_call 23; (with_reducible refine (H1.out _).mono ?_); rintro e w' ⟨rfl, rfl⟩)
        | (go_at_call 23; (with_reducible refine (H2.out _).mono ?_); rintro e w' ⟨rfl, rfl⟩)
        | (go_at_call 23; (with_reducible refine (H3.out _).mono ?_); rintro e w' ⟨rfl, rfl⟩)
        | (go_at_call 23; (with_reducible refine (H4.out _).mono ?_); rintro e w' ⟨rfl, rfl⟩)
        | (go_at_call 23; (with_reducible refine (H5.out _).mono ?_); rintro e w' ⟨rfl, rfl⟩)
        | (go_at_call 23; (with_reducible refine (H6.out _).mono ?_); rintro e w' ⟨rfl, rfl⟩)
        | (go_at_call 23; (with_reducible refine (H7.out _).mono ?_); rintro e w' ⟨rfl, rfl⟩))
      go_ret
      exact ⟨by rw [HE.out]; rfl, HB.out⟩
    | true =>
      cases t3 with
      | false =>
        go_wp2_with (first
        | (go_at_call 23; (with_reducible refine (H1.out _).mono ?_); rintro e w' ⟨rfl, rfl⟩)
        | (go_at_call 23; (with_reducible refine (H2.out _).mono ?_); rintro e w' ⟨rfl, rfl⟩)
        | (go_at_call 23; (with_reducible refine (H3.out _).mono ?_); rintro e w' ⟨rfl, rfl⟩)
        | (go_at_call 23; (with_reducible refine (H4.out _).mono ?_); rintro e w' ⟨rfl, rfl⟩)
        | (go_at_call 23; (with_reducible refine (H5.out _).mono ?_); rintro e w' ⟨rfl, rfl⟩)
        | (go_at_call 23; (with_reducible refine (H6.out _).mono ?_); rintro e w' ⟨rfl, rfl⟩)
        | (go_at_call 23; (with_reducible refine (H7.out _).mono ?_); rintro e w' ⟨rfl, rfl⟩))
        go_ret
        exact ⟨by rw [HE.out]; rfl, HB.out⟩
      | true =>
        cases t4 with
        | false =>
          go_wp2_with (first
        | (go_at_call 23; (with_reducible refine (H1.out _).mono ?_); rintro e w' ⟨rfl, rfl⟩)
        | (go_at_call 23; (with_reducible refine (H2.out _).mono ?_); rintro e w' ⟨rfl, rfl⟩)
        | (go_at_call 23; (with_reducible refine (H3.out _).mono ?_); rintro e w' ⟨rfl, rfl⟩)
        | (go_at_call 23; (with_reducible refine (H4.out _).mono ?_); rintro e w' ⟨rfl, rfl⟩)
        | (go_at_call 23; (with_reducible refine (H5.out _).mono ?_); rintro e w' ⟨rfl, rfl⟩)
        | (go_at_call 23; (with_reducible refine (H6.out _).mono ?_); rintro e w' ⟨rfl, rfl⟩)
        | (go_at_call 23; (with_reducible refine (H7.out _).mono ?_); rintro e w' ⟨rfl, rfl⟩))
          go_ret
          exact ⟨by rw [HE.out]; rfl, HB.out⟩
        | true =>
          cases y with
          | true =>
            go_wp2_with (first
        | (go_at_call 23; (with_reducible refine (H1.out _).mono ?_); rintro e w' ⟨rfl, rfl⟩)
        | (go_at_call 23; (with_reducible refine (H2.out _).mono ?_); rintro e w' ⟨rfl, rfl⟩)
        | (go_at_call 23; (with_reducible refine (H3.out _).mono ?_); rintro e w' ⟨rfl, rfl⟩)
        | (go_at_call 23; (with_reducible refine (H4.out _).mono ?_); rintro e w' ⟨rfl, rfl⟩)
        | (go_at_call 23; (with_reducible refine (H5.out _).mono ?_); rintro e w' ⟨rfl, rfl⟩)
        | (go_at_call 23; (with_reducible refine (H6.out _).mono ?_); rintro e w' ⟨rfl, rfl⟩)
        | (go_at_call 23; (with_reducible refine (H7.out _).mono ?_); rintro e w' ⟨rfl, rfl⟩))
            go_ret
            exact ⟨by rw [HE.out]; rfl, HB.out⟩
          | false =>
            cases t7 with
            | false =>
              go_wp2_with (first
        | (go_at_call 23; (with_reducible refine (H1.out _).mono ?_); rintro e w' ⟨rfl, rfl⟩)
        | (go_at_call 23; (with_reducible refine (H2.out _).mono ?_); rintro e w' ⟨rfl, rfl⟩)
        | (go_at_call 23; (with_reducible refine (H3.out _).mono ?_); rintro e w' ⟨rfl, rfl⟩)
        | (go_at_call 23; (with_reducible refine (H4.out _).mono ?_); rintro e w' ⟨rfl, rfl⟩)
        | (go_at_call 23; (with_reducible refine (H5.out _).mono ?_); rintro e w' ⟨rfl, rfl⟩)
        | (go_at_call 23; (with_reducible refine (H6.out _).mono ?_); rintro e w' ⟨rfl, rfl⟩)
        | (go_at_call 23; (with_reducible refine (H7.out _).mono ?_); rintro e w' ⟨rfl, rfl⟩))
              go_ret
              exact ⟨by rw [HE.out]; rfl, HB.out⟩
            | true =>
              go_wp2_with (first
        | (go_at_call 23; (with_reducible refine (H1.out _).mono ?_); rintro e w' ⟨rfl, rfl⟩)
        | (go_at_call 23; (with_reducible refine (H2.out _).mono ?_); rintro e w' ⟨rfl, rfl⟩)
        | (go_at_call 23; (with_reducible refine (H3.out _).mono ?_); rintro e w' ⟨rfl, rfl⟩)
        | (go_at_call 23; (with_reducible refine (H4.out _).mono ?_); rintro e w' ⟨rfl, rfl⟩)
        | (go_at_call 23; (with_reducible refine (H5.out _).mono ?_); rintro e w' ⟨rfl, rfl⟩)
        | (go_at_call 23; (with_reducible refine (H6.out _).mono ?_); rintro e w' ⟨rfl, rfl⟩)
        | (go_at_call 23; (with_reducible refine (H7.out _).mono ?_); rintro e w' ⟨rfl, rfl⟩))
              go_ret
              exact ⟨by rw [HE.out]; rfl, HB.out⟩
  · have H1 := Lib.hid (rhas_1 k true p1)
    have H2 := Lib.hid (rhas_2 k true p2)
    have H3 := Lib.hid (rhas_3 k true p3)
    have H4 := Lib.hid (rhas_4 k false p4)
    have H5 := Lib.hid (rhas_5 k true p5)
    have H6 := Lib.hid (rhas_6 k false p6)
    have H7 := Lib.hid (rhas_7 k false p7)
    rw [p1, p2, p3, p4, p5, p6, p7] at HE
    clear p1 p2 p3 p4 p5 p6 p7
    cases t4 with
    | false =>
      go_wp2_with (first
        | (go_at_call 23; (with_reducible refine (H1.out _).mono ?_); rintro e w' ⟨rfl, rfl⟩)
        | (go_at_call 23; (with_reducible refine (H2.out _).mono ?_); rintro e w' ⟨rfl, rfl⟩)
        | (go_at_call 23; (with_reducible refine (H3.out _).mono ?_); rintro e w' ⟨rfl, rfl⟩)
        | (go_at_call 23; (with_reducible refine (H4.out _).mono ?_); rintro e w' ⟨rfl, rfl⟩)
        | (go_at_call 23; (with_reducible refine (H5.out _).mono ?_); rintro e w' ⟨rfl, rfl⟩)
        | (go_at_call 23; (with_reducible refine (H6.out _).mono ?_); rintro e w' ⟨rfl, rfl⟩)
        | (go_at_call 23; (with_reducible refine (H7.out _).mono ?_); rintro e w' ⟨rfl, rfl⟩))
      go_ret
      exact ⟨by rw [HE.out]; rfl, HB.out⟩
    | true =>
      cases y with
      | true =>
        go_wp2_with (first
        | (go_at_call 23; (with_reducible refine (H1.out _).mono ?_); rintro e w' ⟨rfl, rfl⟩)
        | (go_at_call 23; (with_reducible refine (H2.out _).mono ?_); rintro e w' ⟨rfl, rfl⟩)
        | (go_at_call 23; (with_reducible refine (H3.out _).mono ?_); rintro e w' ⟨rfl, rfl⟩)
        | (go_at_call 23; (with_reducible refine (H4.out _).mono ?_); rintro e w' ⟨rfl, rfl⟩)
        | (go_at_call 23; (with_reducible refine (H5.out _).mono ?_); rintro e w' ⟨rfl, rfl⟩)
        | (go_at_call 23; (with_reducible refine (H6.out _).mono ?_); rintro e w' ⟨rfl, rfl⟩)
        | (go_at_call 23; (with_reducible refine (H7.out _).mono ?_); rintro e w' ⟨rfl, rfl⟩))
        go_ret
        exact ⟨by rw [HE.out]; rfl, HB.out⟩
      | false =>
        cases t7 with
        | false =>
          go_wp2_with (first
        | (go_at_call 23; (with_reducible refine (H1.out _).mono ?_); rintro e w' ⟨rfl, rfl⟩)
        | (go_at_call 23; (with_reducible refine (H2.out _).mono ?_); rintro e w' ⟨rfl, rfl⟩)
        | (go_at_call 23; (with_reducible refine (H3.out _).mono ?_); rintro e w' ⟨rfl, rfl⟩)
        | (go_at_call 23; (with_reducible refine (H4.out _).mono ?_); rintro e w' ⟨rfl, rfl⟩)
        | (go_at_call 23; (with_reducible refine (H5.out _).mono ?_); rintro e w' ⟨rfl, rfl⟩)
        | (go_at_call 23; (with_reducible refine (H6.out _).mono ?_); rintro e w' ⟨rfl, rfl⟩)
        | (go_at_call 23; (with_reducible refine (H7.out _).mono ?_); rintro e w' ⟨rfl, rfl⟩))
          go_ret
          exact ⟨by rw [HE.out]; rfl, HB.out⟩
        | true =>
          go_wp2_with (first
        | (go_at_call 23; (with_reducible refine (H1.out _).mono ?_); rintro e w' ⟨rfl, rfl⟩)
        | (go_at_call 23; (with_reducible refine (H2.out _).mono ?_); rintro e w' ⟨rfl, rfl⟩)
        | (go_at_call 23; (with_reducible refine (H3.out _).mono ?_); rintro e w' ⟨rfl, rfl⟩)
        | (go_at_call 23; (with_reducible refine (H4.out _).mono ?_); rintro e w' ⟨rfl, rfl⟩)
        | (go_at_call 23; (with_reducible refine (H5.out _).mono ?_); rintro e w' ⟨rfl, rfl⟩)
        | (go_at_call 23; (with_reducible refine (H6.out _).mono ?_); rintro e w' ⟨rfl, rfl⟩)
        | (go_at_call 23; (with_reducible refine (H7.out _).mono ?_); rintro e w' ⟨rfl, rfl⟩))
          go_ret
          exact ⟨by rw [HE.out]; rfl, HB.out⟩
  · have H1 := Lib.hid (rhas_1 k true p1)
    have H2 := Lib.hid (rhas_2 k true p2)
    have H3 := Lib.hid (rhas_3 k true p3)
    have H4 := Lib.hid (rhas_4 k false p4)
    have H5 := Lib.hid (rhas_5 k false p5)
    have H6 := Lib.hid (rhas_6 k false p6)
    have H7 := Lib.hid (rhas_7 k false p7)
    rw [p1, p2, p3, p4, p5, p6, p7] at HE
    clear p1 p2 p3 p4 p5 p6 p7
    cases t4 with
    | false =>
      go_wp2_with (first
        | (go_at_call 23; (with_reducible refine (H1.out _).mono ?_); rintro e w' ⟨rfl, rfl⟩)
        | (go_at_call 23; (with_reducible refine (H2.out _).mono ?_); rintro e w' ⟨rfl, rfl⟩)
        | (go_at_call 23; (with_reducible refine (H3.out _).mono ?_); rintro e w' ⟨rfl, rfl⟩)
        | (go_at_call 23; (with_reducible refine (H4.out _).mono ?_); rintro e w' ⟨rfl, rfl⟩)
        | (go_at_call 23; (with_reducible refine (H5.out _).mono ?_); rintro e w' ⟨rfl, rfl⟩)
        | (go_at_call 23; (with_reducible refine (H6.out _).mono ?_); rintro e w' ⟨rfl, rfl⟩)
        | (go_at_call 23; (with_reducible refine (H7.out _).mono ?_); rintro e w' ⟨rfl, rfl⟩))
      go_ret
      exact ⟨by rw [HE.out]; rfl, HB.out⟩
    | true =>
      cases t5 with
      | false =>
        go_wp2_with (first
        | (go_at_call 23; (with_reducible refine (H1.out _).mono ?_); rintro e w' ⟨rfl, rfl⟩)
        | (go_at_call 23; (with_reducible refine (H2.out _).mono ?_); rintro e w' ⟨rfl, rfl⟩)
        | (go_at_call 23; (with_reducible refine (H3.out _).mono ?_); rintro e w' ⟨rfl, rfl⟩)
        | (go_at_call 23; (with_reducible refine (H4.out _).mono ?_); rintro e w' ⟨rfl, rfl⟩)
        | (go_at_call 23; (with_reducible refine (H5.out _).mono ?_); rintro e w' ⟨rfl, rfl⟩)
        | (go_at_call 23; (with_reducible refine (H6.out _).mono ?_); rintro e w' ⟨rfl, rfl⟩)
        | (go_at_call 23; (with_reducible refine (H7.out _).mono ?_); rintro e w' ⟨rfl, rfl⟩))
        go_ret
        exact ⟨by rw [HE.out]; rfl, HB.out⟩
      | true =>
        cases y with
        | true =>
          go_wp2_with (first
        | (go_at_call 23; (with_reducible refine (H1.out _).mono ?_); rintro e w' ⟨rfl, rfl⟩)
        | (go_at_call 23; (with_reducible refine (H2.out _).mono ?_); rintro e w' ⟨rfl, rfl⟩)
        | (go_at_call 23; (with_reducible refine (H3.out _).mono ?_); rintro e w' ⟨rfl, rfl⟩)
        | (go_at_call 23; (with_reducible refine (H4.out _).mono ?_); rintro e w' ⟨rfl, rfl⟩)
        | (go_at_call 23; (with_reducible refine (H5.out _).mono ?_); rintro e w' ⟨rfl, rfl⟩)
        | (go_at_call 23; (with_reducible refine (H6.out _).mono ?_); rintro e w' ⟨rfl, rfl⟩)
        | (go_at_call 23; (with_reducible refine (H7.out _).mono ?_); rintro e w' ⟨rfl, rfl⟩))
          go_ret
          exact ⟨by rw [HE.out]; rfl, HB.out⟩
        | false =>
          cases t7 with
          | false =>
            go_wp2_with (first
        | (go_at_call 23; (with_reducible refine (H1.out _).mono ?_); rintro e w' ⟨rfl, rfl⟩)
        | (go_at_call 23; (with_reducible refine (H2.out _).mono ?_); rintro e w' ⟨rfl, rfl⟩)
        | (go_at_call 23; (with_reducible refine (H3.out _).mono ?_); rintro e w' ⟨rfl, rfl⟩)
        | (go_at_call 23; (with_reducible refine (H4.out _).mono ?_); rintro e w' ⟨rfl, rfl⟩)
        | (go_at_call 23; (with_reducible refine (H5.out _).mono ?_); rintro e w' ⟨rfl, rfl⟩)
        | (go_at_call 23; (with_reducible refine (H6.out _).mono ?_); rintro e w' ⟨rfl, rfl⟩)
        | (go_at_call 23; (with_reducible refine (H7.out _).mono ?_); rintro e w' ⟨rfl, rfl⟩))
            go_ret
            exact ⟨by rw [HE.out]; rfl, HB.out⟩
          | true =>
            go_wp2_with (first
        | (go_at_call 23; (with_reducible refine (H1.out _).mono ?_); rintro e w' ⟨rfl, rfl⟩)
        | (go_at_call 23; (with_reducible refine (H2.out _).mono ?_); rintro e w' ⟨rfl, rfl⟩)
        | (go_at_call 23; (with_reducible refine (H3.out _).mono ?_); rintro e w' ⟨rfl, rfl⟩)
        | (go_at_call 23; (with_reducible refine (H4.out _).mono ?_); rintro e w' ⟨rfl, rfl⟩)
        | (go_at_call 23; (with_reducible refine (H5.out _).mono ?_); rintro e w' ⟨rfl, rfl⟩)
        | (go_at_call 23; (with_reducible refine (H6.out _).mono ?_); rintro e w' ⟨rfl, rfl⟩)
        | (go_at_call 23; (with_reducible refine (H7.out _).mono ?_); rintro e w' ⟨rfl, rfl⟩))
            go_ret
            exact ⟨by rw [HE.out]; rfl, HB.out⟩
  · have H1 := Lib.hid (rhas_1 k true p1)
    have H2 := Lib.hid (rhas_2 k true p2)
    have H3 := Lib.hid (rhas_3 k false p3)
    have H4 := Lib.hid (rhas_4 k false p4)
    have H5 := Lib.hid (rhas_5 k false p5)
    have H6 := Lib.hid (rhas_6 k false p6)
    have H7 := Lib.hid (rhas_7 k false p7)
    rw [p1, p2, p3, p4, p5, p6, p7] at HE
    clear p1 p2 p3 p4 p5 p6 p7
    cases t3 with
    | false =>
      go_wp2_with (first
        | (go_at_call 23; (with_reducible refine (H1.out _).mono ?_); rintro e w' ⟨rfl, rfl⟩)
        | (go_at_call 23; (with_reducible refine (H2.out _).mono ?_); rintro e w' ⟨rfl, rfl⟩)
        | (go_at_call 23; (with_reducible refine (H3.out _).mono ?_); rintro e w' ⟨rfl, rfl⟩)
        | (go_at_call 23; (with_reducible refine (H4.out _).mono ?_); rintro e w' ⟨rfl, rfl⟩)
        | (go_at_call 23; (with_reducible refine (H5.out _).mono ?_); rintro e w' ⟨rfl, rfl⟩)
        | (go_at_call 23; (with_reducible refine (H6.out _).mono ?_); rintro e w' ⟨rfl, rfl⟩)
        | (go_at_call 23; (with_reducible refine (H7.out _).mono ?_); rintro e w' ⟨rfl, rfl⟩))
      go_ret
      exact ⟨by rw [HE.out]; rfl, HB.out⟩
    | true =>
      cases t4 with
      | false =>
        go_wp2_with (first
        | (go_at_call 23; (with_reducible refine (H1.out _).mono ?_); rintro e w' ⟨rfl, rfl⟩)
        | (go_at_call 23; (with_reducible refine (H2.out _).mono ?_); rintro e w' ⟨rfl, rfl⟩)
        | (go_at_call 23; (with_reducible refine (H3.out _).mono ?_); rintro e w' ⟨rfl, rfl⟩)
        | (go_at_call 23; (with_reducible refine (H4.out _).mono ?_); rintro e w' ⟨rfl, rfl⟩)
        | (go_at_call 23; (with_reducible refine (H5.out _).mono ?_); rintro e w' ⟨rfl, rfl⟩)
        | (go_at_call 23; (with_reducible refine (H6.out _).mono ?_); rintro e w' ⟨rfl, rfl⟩)
        | (go_at_call 23; (with_reducible refine (H7.out _).mono ?_); rintro e w' ⟨rfl, rfl⟩))
        go_ret
        exact ⟨by rw [HE.out]; rfl, HB.out⟩
      | true =>
        cases t5 with
        | false =>
          go_wp2_with (first
        | (go_at_call 23; (with_reducible refine (H1.out _).mono ?_); rintro e w' ⟨rfl, rfl⟩)
        | (go_at_call 23; (with_reducible refine (H2.out _).mono ?_); rintro e w' ⟨rfl, rfl⟩)
        | (go_at_call 23; (with_reducible refine (H3.out _).mono ?_); rintro e w' ⟨rfl, rfl⟩)
        | (go_at_call 23; (with_reducible refine (H4.out _).mono ?_); rintro e w' ⟨rfl, rfl⟩)
        | (go_at_call 23; (with_reducible refine (H5.out _).mono ?_); rintro e w' ⟨rfl, rfl⟩)
        | (go_at_call 23; (with_reducible refine (H6.out _).mono ?_); rintro e w' ⟨rfl, rfl⟩)
        | (go_at_call 23; (with_reducible refine (H7.out _).mono ?_); rintro e w' ⟨rfl, rfl⟩))
          go_ret
          exact ⟨by rw [HE.out]; rfl, HB.out⟩
        | true =>
          cases y with
          | true =>
            go_wp2_with (first
        | (go_at_call 23; (with_reducible refine (H1.out _).mono ?_); rintro e w' ⟨rfl, rfl⟩)
        | (go_at_call 23; (with_reducible refine (H2.out _).mono ?_); rintro e w' ⟨rfl, rfl⟩)
        | (go_at_call 23; (with_reducible refine (H3.out _).mono ?_); rintro e w' ⟨rfl, rfl⟩)
        | (go_at_call 23; (with_reducible refine (H4.out _).mono ?_); rintro e w' ⟨rfl, rfl⟩)
        | (go_at_call 23; (with_reducible refine (H5.out _).mono ?_); rintro e w' ⟨rfl, rfl⟩)
        | (go_at_call 23; (with_reducible refine (H6.out _).mono ?_); rintro e w' ⟨rfl, rfl⟩)
        | (go_at_call 23; (with_reducible refine (H7.out _).mono ?_); rintro e w' ⟨rfl, rfl⟩))
            go_ret
            exact ⟨by rw [HE.out]; rfl, HB.out⟩
          | false =>
            cases t7 with
            | false =>
              go_wp2_with (first
        | (go_at_call 23; (with_reducible refine (H1.out _).mono ?_); rintro e w' ⟨rfl, rfl⟩)
        | (go_at_call 23; (with_reducible refine (H2.out _).mono ?_); rintro e w' ⟨rfl, rfl⟩)
        | (go_at_call 23; (with_reducible refine (H3.out _).mono ?_); rintro e w' ⟨rfl, rfl⟩)
        | (go_at_call 23; (with_reducible refine (H4.out _).mono ?_); rintro e w' ⟨rfl, rfl⟩)
        | (go_at_call 23; (with_reducible refine (H5.out _).mono ?_); rintro e w' ⟨rfl, rfl⟩)
        | (go_at_call 23; (with_reducible refine (H6.out _).mono ?_); rintro e w' ⟨rfl, rfl⟩)
        | (go_at_call 23; (with_reducible refine (H7.out _).mono ?_); rintro e w' ⟨rfl, rfl⟩))
              go_ret
              exact ⟨by rw [HE.out]; rfl, HB.out⟩
            | true =>
              go_wp2_with (first
        | (go_at_call 23; (with_reducible refine (H1.out _).mono ?_); rintro e w' ⟨rfl, rfl⟩)
        | (go_at_call 23; (with_reducible refine (H2.out _).mono ?_); rintro e w' ⟨rfl, rfl⟩)
        | (go_at_call 23; (with_reducible refine (H3.out _).mono ?_); rintro e w' ⟨rfl, rfl⟩)
        | (go_at_call 23; (with_reducible refine (H4.out _).mono ?_); rintro e w' ⟨rfl, rfl⟩)
        | (go_at_call 23; (with_reducible refine (H5.out _).mono ?_); rintro e w' ⟨rfl, rfl⟩)
        | (go_at_call 23; (with_reducible refine (H6.out _).mono ?_); rintro e w' ⟨rfl, rfl⟩)
        | (go_at_call 23; (with_reducible refine (H7.out _).mono ?_); rintro e w' ⟨rfl, rfl⟩))
              go_ret
              exact ⟨by rw [HE.out]; rfl, HB.out⟩
  · have H1 := Lib.hid (rhas_1 k true p1)
    have H2 := Lib.hid (rhas_2 k false p2)
    have H3 := Lib.hid (rhas_3 k true p3)
    have H4 := Lib.hid (rhas_4 k false p4)
    have H5 := Lib.hid (rhas_5 k false p5)
    have H6 := Lib.hid (rhas_6 k false p6)
    have H7 := Lib.hid (rhas_7 k false p7)
    rw [p1, p2, p3, p4, p5, p6, p7] at HE
    clear p1 p2 p3 p4 p5 p6 p7
    cases t2 with
    | false =>
      go_wp2_with (first
        | (go_at_call 23; (with_reducible refine (H1.out _).mono ?_); rintro e w' ⟨rfl, rfl⟩)
        | (go_at_call 23; (with_reducible refine (H2.out _).mono ?_); rintro e w' ⟨rfl, rfl⟩)
        | (go_at_call 23; (with_reducible refine (H3.out _).mono ?_); rintro e w' ⟨rfl, rfl⟩)
        | (go_at_call 23; (with_reducible refine (H4.out _).mono ?_); rintro e w' ⟨rfl, rfl⟩)
        | (go_at_call 23; (with_reducible refine (H5.out _).mono ?_); rintro e w' ⟨rfl, rfl⟩)
        | (go_at_call 23; (with_reducible refine (H6.out _).mono ?_); rintro e w' ⟨rfl, rfl⟩)
        | (go_at_call 23; (with_reducible refine (H7.out _).mono ?_); rintro e w' ⟨rfl, rfl⟩))
      go_ret
      exact ⟨by rw [HE.out]; rfl, HB.out⟩
    | true =>
      cases t4 with
      | false =>
        go_wp2_with (first
        | (go_at_call 23; (with_reducible refine (H1.out _).mono ?_); rintro e w' ⟨rfl, rfl⟩)
        | (go_at_call 23; (with_reducible refine (H2.out _).mono ?_); rintro e w' ⟨rfl, rfl⟩)
        | (go_at_call 23; (with_reducible refine (H3.out _).mono ?_); rintro e w' ⟨rfl, rfl⟩)
        | (go_at_call 23; (with_reducible refine (H4.out _).mono ?_); rintro e w' ⟨rfl, rfl⟩)
        | (go_at_call 23; (with_reducible refine (H5.out _).mono ?_); rintro e w' ⟨rfl, rfl⟩)
        | (go_at_call 23; (with_reducible refine (H6.out _).mono ?_); rintro e w' ⟨rfl, rfl⟩)
        | (go_at_call 23; (with_reducible refine (H7.out _).mono ?_); rintro e w' ⟨rfl, rfl⟩))
        go_ret
        exact ⟨by rw [HE.out]; rfl, HB.out⟩
      | true =>
        cases t5 with
        | false =>
          go_wp2_with (first
        | (go_at_call 23; (with_reducible refine (H1.out _).mono ?_); rintro e w' ⟨rfl, rfl⟩)
        | (go_at_call 23; (with_reducible refine (H2.out _).mono ?_); rintro e w' ⟨rfl, rfl⟩)
        | (go_at_call 23; (with_reducible refine (H3.out _).mono ?_); rintro e w' ⟨rfl, rfl⟩)
        | (go_at_call 23; (with_reducible refine (H4.out _).mono ?_); rintro e w' ⟨rfl, rfl⟩)
        | (go_at_call 23; (with_reducible refine (H5.out _).mono ?_); rintro e w' ⟨rfl, rfl⟩)
        | (go_at_call 23; (with_reducible refine (H6.out _).mono ?_); rintro e w' ⟨rfl, rfl⟩)
        | (go_at_call 23; (with_reducible refine (H7.out _).mono ?_); rintro e w' ⟨rfl, rfl⟩))
          go_ret
          exact ⟨by rw [HE.out]; rfl, HB.out⟩
        | true =>
          cases y with
          | true =>
            go_wp2_with (first
        | (go_at_call 23; (with_reducible refine (H1.out _).mono ?_); rintro e w' ⟨rfl, rfl⟩)
        | (go_at_call 23; (with_reducible refine (H2.out _).mono ?_); rintro e w' ⟨rfl, rfl⟩)
        | (go_at_call 23; (with_reducible refine (H3.out _).mono ?_); rintro e w' ⟨rfl, rfl⟩)
        | (go_at_call 23; (with_reducible refine (H4.out _).mono ?_); rintro e w' ⟨rfl, rfl⟩)
        | (go_at_call 23; (with_reducible refine (H5.out _).mono ?_); rintro e w' ⟨rfl, rfl⟩)
        | (go_at_call 23; (with_reducible refine (H6.out _).mono ?_); rintro e w' ⟨rfl, rfl⟩)
        | (go_at_call 23; (with_reducible refine (H7.out _).mono ?_); rintro e w' ⟨rfl, rfl⟩))
            go_ret
            exact ⟨by rw [HE.out]; rfl, HB.out⟩
          | false =>
            cases t7 with
            | false =>
              go_wp2_with (first
        | (go_at_call 23; (with_reducible refine (H1.out _).mono ?_); rintro e w' ⟨rfl, rfl⟩)
        | (go_at_call 23; (with_reducible refine (H2.out _).mono ?_); rintro e w' ⟨rfl, rfl⟩)
        | (go_at_call 23; (with_reducible refine (H3.out _).mono ?_); rintro e w' ⟨rfl, rfl⟩)
        | (go_at_call 23; (with_reducible refine (H4.out _).mono ?_); rintro e w' ⟨rfl, rfl⟩)
        | (go_at_call 23; (with_reducible refine (H5.out _).mono ?_); rintro e w' ⟨rfl, rfl⟩)
        | (go_at_call 23; (with_reducible refine (H6.out _).mono ?_); rintro e w' ⟨rfl, rfl⟩)
        | (go_at_call 23; (with_reducible refine (H7.out _).mono ?_); rintro e w' ⟨rfl, rfl⟩))
              go_ret
              exact ⟨by rw [HE.out]; rfl, HB.out⟩
            | true =>
              go_wp2_with (first
        | (go_at_call 23; (with_reducible refine (H1.out _).mono ?_); rintro e w' ⟨rfl, rfl⟩)
        | (go_at_call 23; (with_reducible refine (H2.out _).mono ?_); rintro e w' ⟨rfl, rfl⟩)
        | (go_at_call 23; (with_reducible refine (H3.out _).mono ?_); rintro e w' ⟨rfl, rfl⟩)
        | (go_at_call 23; (with_reducible refine (H4.out _).mono ?_); rintro e w' ⟨rfl, rfl⟩)
        | (go_at_call 23; (with_reducible refine (H5.out _).mono ?_); rintro e w' ⟨rfl, rfl⟩)
        | (go_at_call 23; (with_reducible refine (H6.out _).mono ?_); rintro e w' ⟨rfl, rfl⟩)
        | (go_at_call 23; (with_reducible refine (H7.out _).mono ?_); rintro e w' ⟨rfl, rfl⟩))
              go_ret
              exact ⟨by rw [HE.out]; rfl, HB.out⟩
  · have H1 := Lib.hid (rhas_1 k true p1)
    have H2 := Lib.hid (rhas_2 k false p2)
    have H3 := Lib.hid (rhas_3 k false p3)
    have H4 := Lib.hid (rhas_4 k false p4)
    have H5 := Lib.hid (rhas_5 k false p5)
    have H6 := Lib.hid (rhas_6 k false p6)
    have H7 := Lib.hid (rhas_7 k false p7)
    rw [p1, p2, p3, p4, p5, p6, p7] at HE
    clear p1 p2 p3 p4 p5 p6 p7
    cases t2 with
    | false =>
      go_wp2_with (first
        | (go_at_call 23; (with_reducible refine (H1.out _).mono ?_); rintro e w' ⟨rfl, rfl⟩)
        | (go_at_call 23; (with_reducible refine (H2.out _).mono ?_); rintro e w' ⟨rfl, rfl⟩)
        | (go_at_call 23; (with_reducible refine (H3.out _).mono ?_); rintro e w' ⟨rfl, rfl⟩)
        | (go_at_call 23; (with_reducible refine (H4.out _).mono ?_); rintro e w' ⟨rfl, rfl⟩)
        | (go_at_call 23; (with_reducible refine (H5.out _).mono ?_); rintro e w' ⟨rfl, rfl⟩)
        | (go_at_call 23; (with_reducible refine (H6.out _).mono ?_); rintro e w' ⟨rfl, rfl⟩)
        | (go_at_call 23; (with_reducible refine (H7.out _).mono ?_); rintro e w' ⟨rfl, rfl⟩))
      go_ret
      exact ⟨by rw [HE.out]; rfl, HB.out⟩
    | true =>
      cases t3 with
      | false =>
        go_wp2_with (first
        | (go_at_call 23; (with_reducible refine (H1.out _).mono ?_); rintro e w' ⟨rfl, rfl⟩)
        | (go_at_call 23; (with_reducible refine (H2.out _).mono ?_); rintro e w' ⟨rfl, rfl⟩)
        | (go_at_call 23; (with_reducible refine (H3.out _).mono ?_); rintro e w' ⟨rfl, rfl⟩)
        | (go_at_call 23; (with_reducible refine (H4.out _).mono ?_); rintro e w' ⟨rfl, rfl⟩)
        | (go_at_call 23; (with_reducible refine (H5.out _).mono ?_); rintro e w' ⟨rfl, rfl⟩)
        | (go_at_call 23; (with_reducible refine (H6.out _).mono ?_); rintro e w' ⟨rfl, rfl⟩)
        | (go_at_call 23; (with_reducible refine (H7.out _).mono ?_); rintro e w' ⟨rfl, rfl⟩))
        go_ret
        exact ⟨by rw [HE.out]; rfl, HB.out⟩
      | true =>
        cases t4 with
        | false =>
          go_wp2_with (first
        | (go_at_call 23; (with_reducible refine (H1.out _).mono ?_); rintro e w' ⟨rfl, rfl⟩)
        | (go_at_call 23; (with_reducible refine (H2.out _).mono ?_); rintro e w' ⟨rfl, rfl⟩)
        | (go_at_call 23; (with_reducible refine (H3.out _).mono ?_); rintro e w' ⟨rfl, rfl⟩)
        | (go_at_call 23; (with_reducible refine (H4.out _).mono ?_); rintro e w' ⟨rfl, rfl⟩)
        | (go_at_call 23; (with_reducible refine (H5.out _).mono ?_); rintro e w' ⟨rfl, rfl⟩)
        | (go_at_call 23; (with_reducible refine (H6.out _).mono ?_); rintro e w' ⟨rfl, rfl⟩)
        | (go_at_call 23; (with_reducible refine (H7.out _).mono ?_); rintro e w' ⟨rfl, rfl⟩))
          go_ret
          exact ⟨by rw [HE.out]; rfl, HB.out⟩
        | true =>
          cases t5 with
          | false =>
            go_wp2_with (first
        | (go_at_call 23; (with_reducible refine (H1.out _).mono ?_); rintro e w' ⟨rfl, rfl⟩)
        | (go_at_call 23; (with_reducible refine (H2.out _).mono ?_); rintro e w' ⟨rfl, rfl⟩)
        | (go_at_call 23; (with_reducible refine (H3.out _).mono ?_); rintro e w' ⟨rfl, rfl⟩)
        | (go_at_call 23; (with_reducible refine (H4.out _).mono ?_); rintro e w' ⟨rfl, rfl⟩)
        | (go_at_call 23; (with_reducible refine (H5.out _).mono ?_); rintro e w' ⟨rfl, rfl⟩)
        | (go_at_call 23; (with_reducible refine (H6.out _).mono ?_); rintro e w' ⟨rfl, rfl⟩)
        | (go_at_call 23; (with_reducible refine (H7.out _).mono ?_); rintro e w' ⟨rfl, rfl⟩))
            go_ret
            exact ⟨by rw [HE.out]; rfl, HB.out⟩
          | true =>
            cases y with
            | true =>
              go_wp2_with (first
        | (go_at_call 23; (with_reducible refine (H1.out _).mono ?_); rintro e w' ⟨rfl, rfl⟩)
        | (go_at_call 23; (with_reducible refine (H2.out _).mono ?_); rintro e w' ⟨rfl, rfl⟩)
        | (go_at_call 23; (with_reducible refine (H3.out _).mono ?_); rintro e w' ⟨rfl, rfl⟩)
        | (go_at_call 23; (with_reducible refine (H4.out _).mono ?_); rintro e w' ⟨rfl, rfl⟩)
        | (go_at_call 23; (with_reducible refine (H5.out _).mono ?_); rintro e w' ⟨rfl, rfl⟩)
        | (go_at_call 23; (with_reducible refine (H6.out _).mono ?_); rintro e w' ⟨rfl, rfl⟩)
        | (go_at_call 23; (with_reducible refine (H7.out _).mono ?_); rintro e w' ⟨rfl, rfl⟩))
              go_ret
              exact ⟨by rw [HE.out]; rfl, HB.out⟩
            | false =>
              cases t7 with
              | false =>
                go_wp2_with (first
        | (go_at_call 23; (with_reducible refine (H1.out _).mono ?_); rintro e w' ⟨rfl, rfl⟩)
        | (go_at_call 23; (with_reducible refine (H2.out _).mono ?_); rintro e w' ⟨rfl, rfl⟩)
        | (go_at_call 23; (with_reducible refine (H3.out _).mono ?_); rintro e w' ⟨rfl, rfl⟩)
        | (go_at_call 23; (with_reducible refine (H4.out _).mono ?_); rintro e w' ⟨rfl, rfl⟩)
        | (go_at_call 23; (with_reducible refine (H5.out _).mono ?_); rintro e w' ⟨rfl, rfl⟩)
        | (go_at_call 23; (with_reducible refine (H6.out _).mono ?_); rintro e w' ⟨rfl, rfl⟩)
        | (go_at_call 23; (with_reducible refine (H7.out _).mono ?_); rintro e w' ⟨rfl, rfl⟩))
                go_ret
                exact ⟨by rw [HE.out]; rfl, HB.out⟩
              | true =>
                go_wp2_with (first
        | (go_at_call 23; (with_reducible refine (H1.out _).mono ?_); rintro e w' ⟨rfl, rfl⟩)
        | (go_at_call 23; (with_reducible refine (H2.out _).mono ?_); rintro e w' ⟨rfl, rfl⟩)
        | (go_at_call 23; (with_reducible refine (H3.out _).mono ?_); rintro e w' ⟨rfl, rfl⟩)
        | (go_at_call 23; (with_reducible refine (H4.out _).mono ?_); rintro e w' ⟨rfl, rfl⟩)
        | (go_at_call 23; (with_reducible refine (H5.out _).mono ?_); rintro e w' ⟨rfl, rfl⟩)
        | (go_at_call 23; (with_reducible refine (H6.out _).mono ?_); rintro e w' ⟨rfl, rfl⟩)
        | (go_at_call 23; (with_reducible refine (H7.out _).mono ?_); rintro e w' ⟨rfl, rfl⟩))
                go_ret
                exact ⟨by rw [HE.out]; rfl, HB.out⟩
  · have H1 := Lib.hid (rhas_1 k false p1)
    have H2 := Lib.hid (rhas_2 k false p2)
    have H3 := Lib.hid (rhas_3 k true p3)
    have H4 := Lib.hid (rhas_4 k false p4)
    have H5 := Lib.hid (rhas_5 k true p5)
    have H6 := Lib.hid (rhas_6 k false p6)
    have H7 := Lib.hid (rhas_7 k false p7)
    rw [p1, p2, p3, p4, p5, p6, p7] at HE
    clear p1 p2 p3 p4 p5 p6 p7
    cases t1 with
    | false =>
      go_wp2_with (first
        | (go_at_call 23; (with_reducible refine (H1.out _).mono ?_); rintro e w' ⟨rfl, rfl⟩)
        | (go_at_call 23; (with_reducible refine (H2.out _).mono ?_); rintro e w' ⟨rfl, rfl⟩)
        | (go_at_call 23; (with_reducible refine (H3.out _).mono ?_); rintro e w' ⟨rfl, rfl⟩)
        | (go_at_call 23; (with_reducible refine (H4.out _).mono ?_); rintro e w' ⟨rfl, rfl⟩)
        | (go_at_call 23; (with_reducible refine (H5.out _).mono ?_); rintro e w' ⟨rfl, rfl⟩)
        | (go_at_call 23; (with_reducible refine (H6.out _).mono ?_); rintro e w' ⟨rfl, rfl⟩)
        | (go_at_call 23; (with_reducible refine (H7.out _).mono ?_); rintro e w' ⟨rfl, rfl⟩))
      go_ret
      exact ⟨by rw [HE.out]; rfl, HB.out⟩
    | true =>
      cases t2 with
      | false =>
        go_wp2_with (first
        | (go_at_call 23; (with_reducible refine (H1.out _).mono ?_); rintro e w' ⟨rfl, rfl⟩)
        | (go_at_call 23; (with_reducible refine (H2.out _).mono ?_); rintro e w' ⟨rfl, rfl⟩)
        | (go_at_call 23; (with_reducible refine (H3.out _).mono ?_); rintro e w' ⟨rfl, rfl⟩)
        | (go_at_call 23; (with_reducible refine (H4.out _).mono ?_); rintro e w' ⟨rfl, rfl⟩)
        | (go_at_call 23; (with_reducible refine (H5.out _).mono ?_); rintro e w' ⟨rfl, rfl⟩)
        | (go_at_call 23; (with_reducible refine (H6.out _).mono ?_); rintro e w' ⟨rfl, rfl⟩)
        | (go_at_call 23; (with_reducible refine (H7.out _).mono ?_); rintro e w' ⟨rfl, rfl⟩))
        go_ret
        exact ⟨by rw [HE.out]; rfl, HB.out⟩
      | true =>
        cases t4 with
        | false =>
          go_wp2_with (first
        | (go_at_call 23; (with_reducible refine (H1.out _).mono ?_); rintro e w' ⟨rfl, rfl⟩)
        | (go_at_call 23; (with_reducible refine (H2.out _).mono ?_); rintro e w' ⟨rfl, rfl⟩)
        | (go_at_call 23; (with_reducible refine (H3.out _).mono ?_); rintro e w' ⟨rfl, rfl⟩)
        | (go_at_call 23; (with_reducible refine (H4.out _).mono ?_); rintro e w' ⟨rfl, rfl⟩)
        | (go_at_call 23; (with_reducible refine (H5.out _).mono ?_); rintro e w' ⟨rfl, rfl⟩)
        | (go_at_call 23; (with_reducible refine (H6.out _).mono ?_); rintro e w' ⟨rfl, rfl⟩)
        | (go_at_call 23; (with_reducible refine (H7.out _).mono ?_); rintro e w' ⟨rfl, rfl⟩))
          go_ret
          exact ⟨by rw [HE.out]; rfl, HB.out⟩
        | true =>
          cases y with
          | true =>
            go_wp2_with (first
        | (go_at_call 23; (with_reducible refine (H1.out _).mono ?_); rintro e w' ⟨rfl, rfl⟩)
        | (go_at_call 23; (with_reducible refine (H2.out _).mono ?_); rintro e w' ⟨rfl, rfl⟩)
        | (go_at_call 23; (with_reducible refine (H3.out _).mono ?_); rintro e w' ⟨rfl, rfl⟩)
        | (go_at_call 23; (with_reducible refine (H4.out _).mono ?_); rintro e w' ⟨rfl, rfl⟩)
        | (go_at_call 23; (with_reducible refine (H5.out _).mono ?_); rintro e w' ⟨rfl, rfl⟩)
        | (go_at_call 23; (with_reducible refine (H6.out _).mono ?_); rintro e w' ⟨rfl, rfl⟩)
        | (go_at_call 23; (with_reducible refine (H7.out _).mono ?_); rintro e w' ⟨rfl, rfl⟩))
            go_ret
            exact ⟨by rw [HE.out]; rfl, HB.out⟩
          | false =>
            cases t7 with
            | false =>
              go_wp2_with (first
        | (go_at_call 23; (with_reducible refine (H1.out _).mono ?_); rintro e w' ⟨rfl, rfl⟩)
        | (go_at_call 23; (with_reducible refine (H2.out _).mono ?_); rintro e w' ⟨rfl, rfl⟩)
        | (go_at_call 23; (with_reducible refine (H3.out _).mono ?_); rintro e w' ⟨rfl, rfl⟩)
        | (go_at_call 23; (with_reducible refine (H4.out _).mono ?_); rintro e w' ⟨rfl, rfl⟩)
        | (go_at_call 23; (with_reducible refine (H5.out _).mono ?_); rintro e w' ⟨rfl, rfl⟩)
        | (go_at_call 23; (with_reducible refine (H6.out _).mono ?_); rintro e w' ⟨rfl, rfl⟩)
        | (go_at_call 23; (with_reducible refine (H7.out _).mono ?_); rintro e w' ⟨rfl, rfl⟩))
              go_ret
              exact ⟨by rw [HE.out]; rfl, HB.out⟩
            | true =>
              go_wp2_with (first
        | (go_at_call 23; (with_reducible refine (H1.out _).mono ?_); rintro e w' ⟨rfl, rfl⟩)
        | (go_at_call 23; (with_reducible refine (H2.out _).mono ?_); rintro e w' ⟨rfl, rfl⟩)
        | (go_at_call 23; (with_reducible refine (H3.out _).mono ?_); rintro e w' ⟨rfl, rfl⟩)
        | (go_at_call 23; (with_reducible refine (H4.out _).mono ?_); rintro e w' ⟨rfl, rfl⟩)
        | (go_at_call 23; (with_reducible refine (H5.out _).mono ?_); rintro e w' ⟨rfl, rfl⟩)
        | (go_at_call 23; (with_reducible refine (H6.out _).mono ?_); rintro e w' ⟨rfl, rfl⟩)
        | (go_at_call 23; (with_reducible refine (H7.out _).mono ?_); rintro e w' ⟨rfl, rfl⟩))
              go_ret
              exact ⟨by rw [HE.out]; rfl, HB.out⟩
  · have H1 := Lib.hid (rhas_1 k false p1)
    have H2 := Lib.hid (rhas_2 k false p2)
    have H3 := Lib.hid (rhas_3 k true p3)
    have H4 := Lib.hid (rhas_4 k false p4)
    have H5 := Lib.hid (rhas_5 k false p5)
    have H6 := Lib.hid (rhas_6 k true p6)
    have H7 := Lib.hid (rhas_7 k false p7)
    rw [p1, p2, p3, p4, p5, p6, p7] at HE
    clear p1 p2 p3 p4 p5 p6 p7
    cases t1 with
    | false =>
      go_wp2_with (first
        | (go_at_call 23; (with_reducible refine (H1.out _).mono ?_); rintro e w' ⟨rfl, rfl⟩)
        | (go_at_call 23; (with_reducible refine (H2.out _).mono ?_); rintro e w' ⟨rfl, rfl⟩)
        | (go_at_call 23; (with_reducible refine (H3.out _).mono ?_); rintro e w' ⟨rfl, rfl⟩)
        | (go_at_call 23; (with_reducible refine (H4.out _).mono ?_); rintro e w' ⟨rfl, rfl⟩)
        | (go_at_call 23; (with_reducible refine (H5.out _).mono ?_); rintro e w' ⟨rfl, rfl⟩)
        | (go_at_call 23; (with_reducible refine (H6.out _).mono ?_); rintro e w' ⟨rfl, rfl⟩)
        | (go_at_call 23; (with_reducible refine (H7.out _).mono ?_); rintro e w' ⟨rfl, rfl⟩))
      go_ret
      exact ⟨by rw [HE.out]; rfl, HB.out⟩
    | true =>
      cases t2 with
      | false =>
        go_wp2_with (first
        | (go_at_call 23; (with_reducible refine (H1.out _).mono ?_); rintro e w' ⟨rfl, rfl⟩)
        | (go_at_call 23; (with_reducible refine (H2.out _).mono ?_); rintro e w' ⟨rfl, rfl⟩)
        | (go_at_call 23; (with_reducible refine (H3.out _).mono ?_); rintro e w' ⟨rfl, rfl⟩)
        | (go_at_call 23; (with_reducible refine (H4.out _).mono ?_); rintro e w' ⟨rfl, rfl⟩)
        | (go_at_call 23; (with_reducible refine (H5.out _).mono ?_); rintro e w' ⟨rfl, rfl⟩)
        | (go_at_call 23; (with_reducible refine (H6.out _).mono ?_); rintro e w' ⟨rfl, rfl⟩)
        | (go_at_call 23; (with_reducible refine (H7.out _).mono ?_); rintro e w' ⟨rfl, rfl⟩))
        go_ret
        exact ⟨by rw [HE.out]; rfl, HB.out⟩
      | true =>
        cases t4 with
        | false =>
          go_wp2_with (first
        | (go_at_call 23; (with_reducible refine (H1.out _).mono ?_); rintro e w' ⟨rfl, rfl⟩)
        | (go_at_call 23; (with_reducible refine (H2.out _).mono ?_); rintro e w' ⟨rfl, rfl⟩)
        | (go_at_call 23; (with_reducible refine (H3.out _).mono ?_); rintro e w' ⟨rfl, rfl⟩)
        | (go_at_call 23; (with_reducible refine (H4.out _).mono ?_); rintro e w' ⟨rfl, rfl⟩)
        | (go_at_call 23; (with_reducible refine (H5.out _).mono ?_); rintro e w' ⟨rfl, rfl⟩)
        | (go_at_call 23; (with_reducible refine (H6.out _).mono ?_); rintro e w' ⟨rfl, rfl⟩)
        | (go_at_call 23; (with_reducible refine (H7.out _).mono ?_); rintro e w' ⟨rfl, rfl⟩))
          go_ret
          exact ⟨by rw [HE.out]; rfl, HB.out⟩
        | true =>
          cases t5 with
          | false =>
            go_wp2_with (first
        | (go_at_call 23; (with_reducible refine (H1.out _).mono ?_); rintro e w' ⟨rfl, rfl⟩)
        | (go_at_call 23; (with_reducible refine (H2.out _).mono ?_); rintro e w' ⟨rfl, rfl⟩)
        | (go_at_call 23; (with_reducible refine (H3.out _).mono ?_); rintro e w' ⟨rfl, rfl⟩)
        | (go_at_call 23; (with_reducible refine (H4.out _).mono ?_); rintro e w' ⟨rfl, rfl⟩)
        | (go_at_call 23; (with_reducible refine (H5.out _).mono ?_); rintro e w' ⟨rfl, rfl⟩)
        | (go_at_call 23; (with_reducible refine (H6.out _).mono ?_); rintro e w' ⟨rfl, rfl⟩)
        | (go_at_call 23; (with_reducible refine (H7.out _).mono ?_); rintro e w' ⟨rfl, rfl⟩))
            go_ret
            exact ⟨by rw [HE.out]; rfl, HB.out⟩
          | true =>
            cases t7 with
            | false =>
              go_wp2_with (first
        | (go_at_call 23; (with_reducible refine (H1.out _).mono ?_); rintro e w' ⟨rfl, rfl⟩)
        | (go_at_call 23; (with_reducible refine (H2.out _).mono ?_); rintro e w' ⟨rfl, rfl⟩)
        | (go_at_call 23; (with_reducible refine (H3.out _).mono ?_); rintro e w' ⟨rfl, rfl⟩)
        | (go_at_call 23; (with_reducible refine (H4.out _).mono ?_); rintro e w' ⟨rfl, rfl⟩)
        | (go_at_call 23; (with_reducible refine (H5.out _).mono ?_); rintro e w' ⟨rfl, rfl⟩)
        | (go_at_call 23; (with_reducible refine (H6.out _).mono ?_); rintro e w' ⟨rfl, rfl⟩)
        | (go_at_call 23; (with_reducible refine (H7.out _).mono ?_); rintro e w' ⟨rfl, rfl⟩))
              go_ret
              exact ⟨by rw [HE.out]; rfl, HB.out⟩
            | true =>
              go_wp2_with (first
        | (go_at_call 23; (with_reducible refine (H1.out _).mono ?_); rintro e w' ⟨rfl, rfl⟩)
        | (go_at_call 23; (with_reducible refine (H2.out _).mono ?_); rintro e w' ⟨rfl, rfl⟩)
        | (go_at_call 23; (with_reducible refine (H3.out _).mono ?_); rintro e w' ⟨rfl, rfl⟩)
        | (go_at_call 23; (with_reducible refine (H4.out _).mono ?_); rintro e w' ⟨rfl, rfl⟩)
        | (go_at_call 23; (with_reducible refine (H5.out _).mono ?_); rintro e w' ⟨rfl, rfl⟩)
        | (go_at_call 23; (with_reducible refine (H6.out _).mono ?_); rintro e w' ⟨rfl, rfl⟩)
        | (go_at_call 23; (with_reducible refine (H7.out _).mono ?_); rintro e w' ⟨rfl, rfl⟩))
              go_ret
              exact ⟨by rw [HE.out]; rfl, HB.out⟩
  · have H1 := Lib.hid (rhas_1 k false p1)
    have H2 := Lib.hid (rhas_2 k false p2)
    have H3 := Lib.hid (rhas_3 k true p3)
    have H4 := Lib.hid (rhas_4 k true p4)
    have H5 := Lib.hid (rhas_5 k false p5)
    have H6 := Lib.hid (rhas_6 k false p6)
    have H7 := Lib.hid (rhas_7 k false p7)
    rw [p1, p2, p3, p4, p5, p6, p7] at HE
    clear p1 p2 p3 p4 p5 p6 p7
    cases t1 with
    | false =>
      go_wp2_with (first
        | (go_at_call 23; (with_reducible refine (H1.out _).mono ?_); rintro e w' ⟨rfl, rfl⟩)
        | (go_at_call 23; (with_reducible refine (H2.out _).mono ?_); rintro e w' ⟨rfl, rfl⟩)
        | (go_at_call 23; (with_reducible refine (H3.out _).mono ?_); rintro e w' ⟨rfl, rfl⟩)
        | (go_at_call 23; (with_reducible refine (H4.out _).mono ?_); rintro e w' ⟨rfl, rfl⟩)
        | (go_at_call 23; (with_reducible refine (H5.out _).mono ?_); rintro e w' ⟨rfl, rfl⟩)
        | (go_at_call 23; (with_reducible refine (H6.out _).mono ?_); rintro e w' ⟨rfl, rfl⟩)
        | (go_at_call 23; (with_reducible refine (H7.out _).mono ?_); rintro e w' ⟨rfl, rfl⟩))
      go_ret
      exact ⟨by rw [HE.out]; rfl, HB.out⟩
    | true =>
      cases t2 with
      | false =>
        go_wp2_with (first
        | (go_at_call 23; (with_reducible refine (H1.out _).mono ?_); rintro e w' ⟨rfl, rfl⟩)
        | (go_at_call 23; (with_reducible refine (H2.out _).mono ?_); rintro e w' ⟨rfl, rfl⟩)
        | (go_at_call 23; (with_reducible refine (H3.out _).mono ?_); rintro e w' ⟨rfl, rfl⟩)
        | (go_at_call 23; (with_reducible refine (H4.out _).mono ?_); rintro e w' ⟨rfl, rfl⟩)
        | (go_at_call 23; (with_reducible refine (H5.out _).mono ?_); rintro e w' ⟨rfl, rfl⟩)
        | (go_at_call 23; (with_reducible refine (H6.out _).mono ?_); rintro e w' ⟨rfl, rfl⟩)
        | (go_at_call 23; (with_reducible refine (H7.out _).mono ?_); rintro e w' ⟨rfl, rfl⟩))
        go_ret
        exact ⟨by rw [HE.out]; rfl, HB.out⟩
      | true =>
        cases t5 with
        | false =>
          go_wp2_with (first
        | (go_at_call 23; (with_reducible refine (H1.out _).mono ?_); rintro e w' ⟨rfl, rfl⟩)
        | (go_at_call 23; (with_reducible refine (H2.out _).mono ?_); rintro e w' ⟨rfl, rfl⟩)
        | (go_at_call 23; (with_reducible refine (H3.out _).mono ?_); rintro e w' ⟨rfl, rfl⟩)
        | (go_at_call 23; (with_reducible refine (H4.out _).mono ?_); rintro e w' ⟨rfl, rfl⟩)
        | (go_at_call 23; (with_reducible refine (H5.out _).mono ?_); rintro e w' ⟨rfl, rfl⟩)
        | (go_at_call 23; (with_reducible refine (H6.out _).mono ?_); rintro e w' ⟨rfl, rfl⟩)
        | (go_at_call 23; (with_reducible refine (H7.out _).mono ?_); rintro e w' ⟨rfl, rfl⟩))
          go_ret
          exact ⟨by rw [HE.out]; rfl, HB.out⟩
        | true =>
          cases y with
          | true =>
            go_wp2_with (first
        | (go_at_call 23; (with_reducible refine (H1.out _).mono ?_); rintro e w' ⟨rfl, rfl⟩)
        | (go_at_call 23; (with_reducible refine (H2.out _).mono ?_); rintro e w' ⟨rfl, rfl⟩)
        | (go_at_call 23; (with_reducible refine (H3.out _).mono ?_); rintro e w' ⟨rfl, rfl⟩)
        | (go_at_call 23; (with_reducible refine (H4.out _).mono ?_); rintro e w' ⟨rfl, rfl⟩)
        | (go_at_call 23; (with_reducible refine (H5.out _).mono ?_); rintro e w' ⟨rfl, rfl⟩)
        | (go_at_call 23; (with_reducible refine (H6.out _).mono ?_); rintro e w' ⟨rfl, rfl⟩)
        | (go_at_call 23; (with_reducible refine (H7.out _).mono ?_); rintro e w' ⟨rfl, rfl⟩))
            go_ret
            exact ⟨by rw [HE.out]; rfl, HB.out⟩
          | false =>
            cases t7 with
            | false =>
              go_wp2_with (first
        | (go_at_call 23; (with_reducible refine (H1.out _).mono ?_); rintro e w' ⟨rfl, rfl⟩)
        | (go_at_call 23; (with_reducible refine (H2.out _).mono ?_); rintro e w' ⟨rfl, rfl⟩)
        | (go_at_call 23; (with_reducible refine (H3.out _).mono ?_); rintro e w' ⟨rfl, rfl⟩)
        | (go_at_call 23; (with_reducible refine (H4.out _).mono ?_); rintro e w' ⟨rfl, rfl⟩)
        | (go_at_call 23; (with_reducible refine (H5.out _).mono ?_); rintro e w' ⟨rfl, rfl⟩)
        | (go_at_call 23; (with_reducible refine (H6.out _).mono ?_); rintro e w' ⟨rfl, rfl⟩)
        | (go_at_call 23; (with_reducible refine (H7.out _).mono ?_); rintro e w' ⟨rfl, rfl⟩))
              go_ret
              exact ⟨by rw [HE.out]; rfl, HB.out⟩
            | true =>
              go_wp2_with (first
        | (go_at_call 23; (with_reducible refine (H1.out _).mono ?_); rintro e w' ⟨rfl, rfl⟩)
        | (go_at_call 23; (with_reducible refine (H2.out _).mono ?_); rintro e w' ⟨rfl, rfl⟩)
        | (go_at_call 23; (with_reducible refine (H3.out _).mono ?_); rintro e w' ⟨rfl, rfl⟩)
        | (go_at_call 23; (with_reducible refine (H4.out _).mono ?_); rintro e w' ⟨rfl, rfl⟩)
        | (go_at_call 23; (with_reducible refine (H5.out _).mono ?_); rintro e w' ⟨rfl, rfl⟩)
        | (go_at_call 23; (with_reducible refine (H6.out _).mono ?_); rintro e w' ⟨rfl, rfl⟩)
        | (go_at_call 23; (with_reducible refine (H7.out _).mono ?_); rintro e w' ⟨rfl, rfl⟩))
              go_ret
              exact ⟨by rw [HE.out]; rfl, HB.out⟩
  · have H1 := Lib.hid (rhas_1 k false p1)
    have H2 := Lib.hid (rhas_2 k false p2)
    have H3 := Lib.hid (rhas_3 k false p3)
    have H4 := Lib.hid (rhas_4 k false p4)
    have H5 := Lib.hid (rhas_5 k false p5)
    have H6 := Lib.hid (rhas_6 k false p6)
    have H7 := Lib.hid (rhas_7 k true p7)
    rw [p1, p2, p3, p4, p5, p6, p7] at HE
    clear p1 p2 p3 p4 p5 p6 p7
    cases t1 with
    | false =>
      go_wp2_with (first
        | (go_at_call 23; (with_reducible refine (H1.out _).mono ?_); rintro e w' ⟨rfl, rfl⟩)
        | (go_at_call 23; (with_reducible refine (H2.out _).mono ?_); rintro e w' ⟨rfl, rfl⟩)
        | (go_at_call 23; (with_reducible refine (H3.out _).mono ?_); rintro e w' ⟨rfl, rfl⟩)
        | (go_at_call 23; (with_reducible refine (H4.out _).mono ?_); rintro e w' ⟨rfl, rfl⟩)
        | (go_at_call 23; (with_reducible refine (H5.out _).mono ?_); rintro e w' ⟨rfl, rfl⟩)
        | (go_at_call 23; (with_reducible refine (H6.out _).mono ?_); rintro e w' ⟨rfl, rfl⟩)
        | (go_at_call 23; (with_reducible refine (H7.out _).mono ?_); rintro e w' ⟨rfl, rfl⟩))
      go_ret
      exact ⟨by rw [HE.out]; rfl, HB.out⟩
    | true =>
      cases t2 with
      | false =>
        go_wp2_with (first
        | (go_at_call 23; (with_reducible refine (H1.out _).mono ?_); rintro e w' ⟨rfl, rfl⟩)
        | (go_at_call 23; (with_reducible refine (H2.out _).mono ?_); rintro e w' ⟨rfl, rfl⟩)
        | (go_at_call 23; (with_reducible refine (H3.out _).mono ?_); rintro e w' ⟨rfl, rfl⟩)
        | (go_at_call 23; (with_reducible refine (H4.out _).mono ?_); rintro e w' ⟨rfl, rfl⟩)
        | (go_at_call 23; (with_reducible refine (H5.out _).mono ?_); rintro e w' ⟨rfl, rfl⟩)
        | (go_at_call 23; (with_reducible refine (H6.out _).mono ?_); rintro e w' ⟨rfl, rfl⟩)
        | (go_at_call 23; (with_reducible refine (H7.out _).mono ?_); rintro e w' ⟨rfl, rfl⟩))
        go_ret
        exact ⟨by rw [HE.out]; rfl, HB.out⟩
      | true =>
        cases t3 with
        | false =>
          go_wp2_with (first
        | (go_at_call 23; (with_reducible refine (H1.out _).mono ?_); rintro e w' ⟨rfl, rfl⟩)
        | (go_at_call 23; (with_reducible refine (H2.out _).mono ?_); rintro e w' ⟨rfl, rfl⟩)
        | (go_at_call 23; (with_reducible refine (H3.out _).mono ?_); rintro e w' ⟨rfl, rfl⟩)
        | (go_at_call 23; (with_reducible refine (H4.out _).mono ?_); rintro e w' ⟨rfl, rfl⟩)
        | (go_at_call 23; (with_reducible refine (H5.out _).mono ?_); rintro e w' ⟨rfl, rfl⟩)
        | (go_at_call 23; (with_reducible refine (H6.out _).mono ?_); rintro e w' ⟨rfl, rfl⟩)
        | (go_at_call 23; (with_reducible refine (H7.out _).mono ?_); rintro e w' ⟨rfl, rfl⟩))
          go_ret
          exact ⟨by rw [HE.out]; rfl, HB.out⟩
        | true =>
          cases t4 with
          | false =>
            go_wp2_with (first
        | (go_at_call 23; (with_reducible refine (H1.out _).mono ?_); rintro e w' ⟨rfl, rfl⟩)
        | (go_at_call 23; (with_reducible refine (H2.out _).mono ?_); rintro e w' ⟨rfl, rfl⟩)
        | (go_at_call 23; (with_reducible refine (H3.out _).mono ?_); rintro e w' ⟨rfl, rfl⟩)
        | (go_at_call 23; (with_reducible refine (H4.out _).mono ?_); rintro e w' ⟨rfl, rfl⟩)
        | (go_at_call 23; (with_reducible refine (H5.out _).mono ?_); rintro e w' ⟨rfl, rfl⟩)
        | (go_at_call 23; (with_reducible refine (H6.out _).mono ?_); rintro e w' ⟨rfl, rfl⟩)
        | (go_at_call 23; (with_reducible refine (H7.out _).mono ?_); rintro e w' ⟨rfl, rfl⟩))
            go_ret
            exact ⟨by rw [HE.out]; rfl, HB.out⟩
          | true =>
            cases t5 with
            | false =>
              go_wp2_with (first
        | (go_at_call 23; (with_reducible refine (H1.out _).mono ?_); rintro e w' ⟨rfl, rfl⟩)
        | (go_at_call 23; (with_reducible refine (H2.out _).mono ?_); rintro e w' ⟨rfl, rfl⟩)
        | (go_at_call 23; (with_reducible refine (H3.out _).mono ?_); rintro e w' ⟨rfl, rfl⟩)
        | (go_at_call 23; (with_reducible refine (H4.out _).mono ?_); rintro e w' ⟨rfl, rfl⟩)
        | (go_at_call 23; (with_reducible refine (H5.out _).mono ?_); rintro e w' ⟨rfl, rfl⟩)
        | (go_at_call 23; (with_reducible refine (H6.out _).mono ?_); rintro e w' ⟨rfl, rfl⟩)
        | (go_at_call 23; (with_reducible refine (H7.out _).mono ?_); rintro e w' ⟨rfl, rfl⟩))
              go_ret
              exact ⟨by rw [HE.out]; rfl, HB.out⟩
            | true =>
              cases y with
              | true =>
                go_wp2_with (first
        | (go_at_call 23; (with_reducible refine (H1.out _).mono ?_); rintro e w' ⟨rfl, rfl⟩)
        | (go_at_call 23; (with_reducible refine (H2.out _).mono ?_); rintro e w' ⟨rfl, rfl⟩)
        | (go_at_call 23; (with_reducible refine (H3.out _).mono ?_); rintro e w' ⟨rfl, rfl⟩)
        | (go_at_call 23; (with_reducible refine (H4.out _).mono ?_); rintro e w' ⟨rfl, rfl⟩)
        | (go_at_call 23; (with_reducible refine (H5.out _).mono ?_); rintro e w' ⟨rfl, rfl⟩)
        | (go_at_call 23; (with_reducible refine (H6.out _).mono ?_); rintro e w' ⟨rfl, rfl⟩)
        | (go_at_call 23; (with_reducible refine (H7.out _).mono ?_); rintro e w' ⟨rfl, rfl⟩))
                go_ret
                exact ⟨by rw [HE.out]; rfl, HB.out⟩
              | false =>
                go_wp2_with (first
        | (go_at_call 23; (with_reducible refine (H1.out _).mono ?_); rintro e w' ⟨rfl, rfl⟩)
        | (go_at_call 23; (with_reducible refine (H2.out _).mono ?_); rintro e w' ⟨rfl, rfl⟩)
        | (go_at_call 23; (with_reducible refine (H3.out _).mono ?_); rintro e w' ⟨rfl, rfl⟩)
        | (go_at_call 23; (with_reducible refine (H4.out _).mono ?_); rintro e w' ⟨rfl, rfl⟩)
        | (go_at_call 23; (with_reducible refine (H5.out _).mono ?_); rintro e w' ⟨rfl, rfl⟩)
        | (go_at_call 23; (with_reducible refine (H6.out _).mono ?_); rintro e w' ⟨rfl, rfl⟩)
        | (go_at_call 23; (with_reducible refine (H7.out _).mono ?_); rintro e w' ⟨rfl, rfl⟩))
                go_ret
                exact ⟨by rw [HE.out]; rfl, HB.out⟩
end Go.Proofs.YthnkiabhfcddaaaDoor
