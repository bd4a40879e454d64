/-
  Texts of the proofs, put together: MsgMay, Msgs.
-/
import Derived.Test.YtiflpjdiokloaaaDoorPackF
import Derived.Test.YtiflpjdiokloaaaDoorLabelRight
import Derived.Test.YtiflpjdiokloaaaDoorPackG
/-
  Package message's contract of May.
-/
namespace Go.Proofs.YtiflpjdiokloaaaDoor
open Go.RowKit
set_option linter.unusedVariables false

/-- Right, of a message's propositions, behind its box. -/
abbrev RightQ (A : Option Addr) (n c : Nat) (B : Nat) (W : World) (x : Bool) : Prop := ∀ w, Below B W w → B ≤ w.heap.size → Calls Tryd.prog 28 #[.slice A n c] w fun e w' => e = .returned (.bool x) ∧ Below w.heap.size w w'
set_option maxRecDepth 100000 in
set_option maxHeartbeats 1000000 in
theorem mmay_no (k q : Nat) (a : Int) (A : Option Addr) (n c : Nat) (w : World) (hn0 : nmI k = false)  :
    Calls Tryd.prog 13 #[.agg #[.int .u8 (k : Int), .int .u64 (q : Int), .int .i64 a, .slice A n c]] w fun e w' => e = .returned (.bool false) ∧ Below w.heap.size w w' := by
  obtain ⟨m0, m1, m2, m3, _, _, _, _⟩ := blk4 (heap_alloc_new w (.cells #[.int .u8 (k : Int), .int .u64 (q : Int), .int .i64 a, .slice A n c] 25))
  have HC := fun w0 => Lib.hid (mnamed_at k w0 rfl rfl rfl hn0)
  clear hn0
  generalize nmS k = s0, nmA k = s1, nmP k = s2 at HC
  go_enter Tryd.func13, Tryd.ntmps13
  go_wp2_with (go_at_call 25; (with_reducible refine (HC _).out.mono ?_); rintro e w1 ⟨rfl, hb⟩; obtain ⟨h0, hB, hz⟩ := one_block hb; have h1 := (Below.heap_alloc w1 (.cells #[.bool s0, .bool s1, .bool s2] 61) w.heap.size (heap_lt h0)).trans h0; have HB := Lib.hid (hB.alloc (Nat.le_of_succ_le hz) (.cells #[.bool s0, .bool s1, .bool s2] 61)); have HZ : Hid (w.heap.size ≤ (w1.alloc (.cells #[.bool s0, .bool s1, .bool s2] 61)).heap.size) := Lib.hid (by simp; omega); clear m0 m1 m2 m3; obtain ⟨m0, m1, m2, m3, _, _, _, _⟩ := blk4 h1; clear hb h0 h1 hB hz)
  go_ret
  exact ⟨rfl, HB.out⟩
set_option maxRecDepth 100000 in
set_option maxHeartbeats 1000000 in
theorem mmay_1a (k q : Nat) (a : Int) (A : Option Addr) (n c : Nat) (w : World) (hs : nmS k = true) (ha : nmA k = false) (hp : nmP k = false) (hi : nmI k = true) (az : (a == 0) = false) :
    Calls Tryd.prog 13 #[.agg #[.int .u8 (k : Int), .int .u64 (q : Int), .int .i64 a, .slice A n c]] w fun e w' => e = .returned (.bool false) ∧ Below w.heap.size w w' := by
  obtain ⟨m0, m1, m2, m3, _, _, _, _⟩ := blk4 (heap_alloc_new w (.cells #[.int .u8 (k : Int), .int .u64 (q : Int), .int .i64 a, .slice A n c] 25))
  have HC := fun w0 => Lib.hid (mnamed_at k w0 hs ha hp hi)
  clear hs ha hp hi
  go_enter Tryd.func13, Tryd.ntmps13
  go_wp2_with (go_at_call 25; (with_reducible refine (HC _).out.mono ?_); rintro e w1 ⟨rfl, hb⟩; obtain ⟨h0, hB, hz⟩ := one_block hb; have h1 := (Below.heap_alloc w1 (.cells #[.bool true, .bool false, .bool false] 61) w.heap.size (heap_lt h0)).trans h0; have HB := Lib.hid (hB.alloc (Nat.le_of_succ_le hz) (.cells #[.bool true, .bool false, .bool false] 61)); have HZ : Hid (w.heap.size ≤ (w1.alloc (.cells #[.bool true, .bool false, .bool false] 61)).heap.size) := Lib.hid (by simp; omega); clear m0 m1 m2 m3; obtain ⟨m0, m1, m2, m3, _, _, _, _⟩ := blk4 h1; clear hb h0 h1 hB hz)
  go_ret
  exact ⟨rfl, HB.out⟩
set_option maxRecDepth 100000 in
set_option maxHeartbeats 1000000 in
theorem mmay_1n (k q : Nat) (a : Int) (A : Option Addr) (n c : Nat) (w : World) (hs : nmS k = true) (ha : nmA k = false) (hp : nmP k = false) (hi : nmI k = true) (az : (a == 0) = true) (a0 : decide (0 ≤ a) = true) (nz : ((n : Int) == 0) = false) :
    Calls Tryd.prog 13 #[.agg #[.int .u8 (k : Int), .int .u64 (q : Int), .int .i64 a, .slice A n c]] w fun e w' => e = .returned (.bool false) ∧ Below w.heap.size w w' := by
  obtain ⟨m0, m1, m2, m3, _, _, _, _⟩ := blk4 (heap_alloc_new w (.cells #[.int .u8 (k : Int), .int .u64 (q : Int), .int .i64 a, .slice A n c] 25))
  have HC := fun w0 => Lib.hid (mnamed_at k w0 hs ha hp hi)
  clear hs ha hp hi
  go_enter Tryd.func13, Tryd.ntmps13
  go_wp2_with (go_at_call 25; (with_reducible refine (HC _).out.mono ?_); rintro e w1 ⟨rfl, hb⟩; obtain ⟨h0, hB, hz⟩ := one_block hb; have h1 := (Below.heap_alloc w1 (.cells #[.bool true, .bool false, .bool false] 61) w.heap.size (heap_lt h0)).trans h0; have HB := Lib.hid (hB.alloc (Nat.le_of_succ_le hz) (.cells #[.bool true, .bool false, .bool false] 61)); have HZ : Hid (w.heap.size ≤ (w1.alloc (.cells #[.bool true, .bool false, .bool false] 61)).heap.size) := Lib.hid (by simp; omega); clear m0 m1 m2 m3; obtain ⟨m0, m1, m2, m3, _, _, _, _⟩ := blk4 h1; clear hb h0 h1 hB hz)
  go_ret
  exact ⟨rfl, HB.out⟩
set_option maxRecDepth 100000 in
set_option maxHeartbeats 1000000 in
theorem mmay_1r (k q : Nat) (a : Int) (A : Option Addr) (n c : Nat) (w : World) (hs : nmS k = true) (ha : nmA k = false) (hp : nmP k = false) (hi : nmI k = true) (az : (a == 0) = true) (a0 : decide (0 ≤ a) = true) (nz : ((n : Int) == 0) = true) (n8 : decide ((n : Int) ≤ 8) = true) {r : Bool} (HR : Hid (RightQ A n c w.heap.size w r)) :
    Calls Tryd.prog 13 #[.agg #[.int .u8 (k : Int), .int .u64 (q : Int), .int .i64 a, .slice A n c]] w fun e w' => e = .returned (.bool r) ∧ Below w.heap.size w w' := by
  obtain ⟨m0, m1, m2, m3, _, _, _, _⟩ := blk4 (heap_alloc_new w (.cells #[.int .u8 (k : Int), .int .u64 (q : Int), .int .i64 a, .slice A n c] 25))
  have HC := fun w0 => Lib.hid (mnamed_at k w0 hs ha hp hi)
  clear hs ha hp hi
  go_enter Tryd.func13, Tryd.ntmps13
  go_wp2_with (first
    | (go_at_call 25; (with_reducible refine (HC _).out.mono ?_); rintro e w1 ⟨rfl, hb⟩; obtain ⟨h0, hB, hz⟩ := one_block hb; have h1 := (Below.heap_alloc w1 (.cells #[.bool true, .bool false, .bool false] 61) w.heap.size (heap_lt h0)).trans h0; have HB := Lib.hid (hB.alloc (Nat.le_of_succ_le hz) (.cells #[.bool true, .bool false, .bool false] 61)); have HZ : Hid (w.heap.size ≤ (w1.alloc (.cells #[.bool true, .bool false, .bool false] 61)).heap.size) := Lib.hid (by simp; omega); clear m0 m1 m2 m3; obtain ⟨m0, m1, m2, m3, _, _, _, _⟩ := blk4 h1; clear hb h0 h1 hB hz)
    | (go_at_call 28; (with_reducible refine (HR.out _ HB.out HZ.out).mono ?_); rintro e w2 ⟨rfl, hb2⟩; have HB := Lib.hid (HB.out.trans (hb2.mono HZ.out)); clear hb2))
  go_ret
  exact ⟨rfl, HB.out⟩
set_option maxRecDepth 100000 in
set_option maxHeartbeats 1000000 in
theorem mmay_2a (k q : Nat) (a : Int) (A : Option Addr) (n c : Nat) (w : World) (hs : nmS k = true) (ha : nmA k = true) (hp : nmP k = true) (hi : nmI k = true) (a0 : decide (0 ≤ a) = false) :
    Calls Tryd.prog 13 #[.agg #[.int .u8 (k : Int), .int .u64 (q : Int), .int .i64 a, .slice A n c]] w fun e w' => e = .returned (.bool false) ∧ Below w.heap.size w w' := by
  obtain ⟨m0, m1, m2, m3, _, _, _, _⟩ := blk4 (heap_alloc_new w (.cells #[.int .u8 (k : Int), .int .u64 (q : Int), .int .i64 a, .slice A n c] 25))
  have HC := fun w0 => Lib.hid (mnamed_at k w0 hs ha hp hi)
  clear hs ha hp hi
  go_enter Tryd.func13, Tryd.ntmps13
  go_wp2_with (go_at_call 25; (with_reducible refine (HC _).out.mono ?_); rintro e w1 ⟨rfl, hb⟩; obtain ⟨h0, hB, hz⟩ := one_block hb; have h1 := (Below.heap_alloc w1 (.cells #[.bool true, .bool true, .bool true] 61) w.heap.size (heap_lt h0)).trans h0; have HB := Lib.hid (hB.alloc (Nat.le_of_succ_le hz) (.cells #[.bool true, .bool true, .bool true] 61)); have HZ : Hid (w.heap.size ≤ (w1.alloc (.cells #[.bool true, .bool true, .bool true] 61)).heap.size) := Lib.hid (by simp; omega); clear m0 m1 m2 m3; obtain ⟨m0, m1, m2, m3, _, _, _, _⟩ := blk4 h1; clear hb h0 h1 hB hz)
  go_ret
  exact ⟨rfl, HB.out⟩
set_option maxRecDepth 100000 in
set_option maxHeartbeats 1000000 in
theorem mmay_2n (k q : Nat) (a : Int) (A : Option Addr) (n c : Nat) (w : World) (hs : nmS k = true) (ha : nmA k = true) (hp : nmP k = true) (hi : nmI k = true) (a0 : decide (0 ≤ a) = true) (n8 : decide ((n : Int) ≤ 8) = false) :
    Calls Tryd.prog 13 #[.agg #[.int .u8 (k : Int), .int .u64 (q : Int), .int .i64 a, .slice A n c]] w fun e w' => e = .returned (.bool false) ∧ Below w.heap.size w w' := by
  obtain ⟨m0, m1, m2, m3, _, _, _, _⟩ := blk4 (heap_alloc_new w (.cells #[.int .u8 (k : Int), .int .u64 (q : Int), .int .i64 a, .slice A n c] 25))
  have HC := fun w0 => Lib.hid (mnamed_at k w0 hs ha hp hi)
  clear hs ha hp hi
  go_enter Tryd.func13, Tryd.ntmps13
  go_wp2_with (go_at_call 25; (with_reducible refine (HC _).out.mono ?_); rintro e w1 ⟨rfl, hb⟩; obtain ⟨h0, hB, hz⟩ := one_block hb; have h1 := (Below.heap_alloc w1 (.cells #[.bool true, .bool true, .bool true] 61) w.heap.size (heap_lt h0)).trans h0; have HB := Lib.hid (hB.alloc (Nat.le_of_succ_le hz) (.cells #[.bool true, .bool true, .bool true] 61)); have HZ : Hid (w.heap.size ≤ (w1.alloc (.cells #[.bool true, .bool true, .bool true] 61)).heap.size) := Lib.hid (by simp; omega); clear m0 m1 m2 m3; obtain ⟨m0, m1, m2, m3, _, _, _, _⟩ := blk4 h1; clear hb h0 h1 hB hz)
  go_ret
  exact ⟨rfl, HB.out⟩
set_option maxRecDepth 100000 in
set_option maxHeartbeats 1000000 in
theorem mmay_2r (k q : Nat) (a : Int) (A : Option Addr) (n c : Nat) (w : World) (hs : nmS k = true) (ha : nmA k = true) (hp : nmP k = true) (hi : nmI k = true) (a0 : decide (0 ≤ a) = true) (n8 : decide ((n : Int) ≤ 8) = true) {r : Bool} (HR : Hid (RightQ A n c w.heap.size w r)) :
    Calls Tryd.prog 13 #[.agg #[.int .u8 (k : Int), .int .u64 (q : Int), .int .i64 a, .slice A n c]] w fun e w' => e = .returned (.bool r) ∧ Below w.heap.size w w' := by
  obtain ⟨m0, m1, m2, m3, _, _, _, _⟩ := blk4 (heap_alloc_new w (.cells #[.int .u8 (k : Int), .int .u64 (q : Int), .int .i64 a, .slice A n c] 25))
  have HC := fun w0 => Lib.hid (mnamed_at k w0 hs ha hp hi)
  clear hs ha hp hi
  go_enter Tryd.func13, Tryd.ntmps13
  go_wp2_with (first
    | (go_at_call 25; (with_reducible refine (HC _).out.mono ?_); rintro e w1 ⟨rfl, hb⟩; obtain ⟨h0, hB, hz⟩ := one_block hb; have h1 := (Below.heap_alloc w1 (.cells #[.bool true, .bool true, .bool true] 61) w.heap.size (heap_lt h0)).trans h0; have HB := Lib.hid (hB.alloc (Nat.le_of_succ_le hz) (.cells #[.bool true, .bool true, .bool true] 61)); have HZ : Hid (w.heap.size ≤ (w1.alloc (.cells #[.bool true, .bool true, .bool true] 61)).heap.size) := Lib.hid (by simp; omega); clear m0 m1 m2 m3; obtain ⟨m0, m1, m2, m3, _, _, _, _⟩ := blk4 h1; clear hb h0 h1 hB hz)
    | (go_at_call 28; (with_reducible refine (HR.out _ HB.out HZ.out).mono ?_); rintro e w2 ⟨rfl, hb2⟩; have HB := Lib.hid (HB.out.trans (hb2.mono HZ.out)); clear hb2))
  go_ret
  exact ⟨rfl, HB.out⟩
set_option maxRecDepth 100000 in
set_option maxHeartbeats 1000000 in
theorem mmay_3q (k q : Nat) (a : Int) (A : Option Addr) (n c : Nat) (w : World) (hs : nmS k = false) (ha : nmA k = true) (hp : nmP k = false) (hi : nmI k = true) (qz : ((q : Int) == 0) = false) :
    Calls Tryd.prog 13 #[.agg #[.int .u8 (k : Int), .int .u64 (q : Int), .int .i64 a, .slice A n c]] w fun e w' => e = .returned (.bool false) ∧ Below w.heap.size w w' := by
  obtain ⟨m0, m1, m2, m3, _, _, _, _⟩ := blk4 (heap_alloc_new w (.cells #[.int .u8 (k : Int), .int .u64 (q : Int), .int .i64 a, .slice A n c] 25))
  have HC := fun w0 => Lib.hid (mnamed_at k w0 hs ha hp hi)
  clear hs ha hp hi
  go_enter Tryd.func13, Tryd.ntmps13
  go_wp2_with (go_at_call 25; (with_reducible refine (HC _).out.mono ?_); rintro e w1 ⟨rfl, hb⟩; obtain ⟨h0, hB, hz⟩ := one_block hb; have h1 := (Below.heap_alloc w1 (.cells #[.bool false, .bool true, .bool false] 61) w.heap.size (heap_lt h0)).trans h0; have HB := Lib.hid (hB.alloc (Nat.le_of_succ_le hz) (.cells #[.bool false, .bool true, .bool false] 61)); have HZ : Hid (w.heap.size ≤ (w1.alloc (.cells #[.bool false, .bool true, .bool false] 61)).heap.size) := Lib.hid (by simp; omega); clear m0 m1 m2 m3; obtain ⟨m0, m1, m2, m3, _, _, _, _⟩ := blk4 h1; clear hb h0 h1 hB hz)
  go_ret
  exact ⟨rfl, HB.out⟩
set_option maxRecDepth 100000 in
set_option maxHeartbeats 1000000 in
theorem mmay_3a (k q : Nat) (a : Int) (A : Option Addr) (n c : Nat) (w : World) (hs : nmS k = false) (ha : nmA k = true) (hp : nmP k = false) (hi : nmI k = true) (qz : ((q : Int) == 0) = true) (a0 : decide (0 ≤ a) = false) :
    Calls Tryd.prog 13 #[.agg #[.int .u8 (k : Int), .int .u64 (q : Int), .int .i64 a, .slice A n c]] w fun e w' => e = .returned (.bool false) ∧ Below w.heap.size w w' := by
  obtain ⟨m0, m1, m2, m3, _, _, _, _⟩ := blk4 (heap_alloc_new w (.cells #[.int .u8 (k : Int), .int .u64 (q : Int), .int .i64 a, .slice A n c] 25))
  have HC := fun w0 => Lib.hid (mnamed_at k w0 hs ha hp hi)
  clear hs ha hp hi
  go_enter Tryd.func13, Tryd.ntmps13
  go_wp2_with (go_at_call 25; (with_reducible refine (HC _).out.mono ?_); rintro e w1 ⟨rfl, hb⟩; obtain ⟨h0, hB, hz⟩ := one_block hb; have h1 := (Below.heap_alloc w1 (.cells #[.bool false, .bool true, .bool false] 61) w.heap.size (heap_lt h0)).trans h0; have HB := Lib.hid (hB.alloc (Nat.le_of_succ_le hz) (.cells #[.bool false, .bool true, .bool false] 61)); have HZ : Hid (w.heap.size ≤ (w1.alloc (.cells #[.bool false, .bool true, .bool false] 61)).heap.size) := Lib.hid (by simp; omega); clear m0 m1 m2 m3; obtain ⟨m0, m1, m2, m3, _, _, _, _⟩ := blk4 h1; clear hb h0 h1 hB hz)
  go_ret
  exact ⟨rfl, HB.out⟩
set_option maxRecDepth 100000 in
set_option maxHeartbeats 1000000 in
theorem mmay_3n (k q : Nat) (a : Int) (A : Option Addr) (n c : Nat) (w : World) (hs : nmS k = false) (ha : nmA k = true) (hp : nmP k = false) (hi : nmI k = true) (qz : ((q : Int) == 0) = true) (a0 : decide (0 ≤ a) = true) (nz : ((n : Int) == 0) = false) :
    Calls Tryd.prog 13 #[.agg #[.int .u8 (k : Int), .int .u64 (q : Int), .int .i64 a, .slice A n c]] w fun e w' => e = .returned (.bool false) ∧ Below w.heap.size w w' := by
  obtain ⟨m0, m1, m2, m3, _, _, _, _⟩ := blk4 (heap_alloc_new w (.cells #[.int .u8 (k : Int), .int .u64 (q : Int), .int .i64 a, .slice A n c] 25))
  have HC := fun w0 => Lib.hid (mnamed_at k w0 hs ha hp hi)
  clear hs ha hp hi
  go_enter Tryd.func13, Tryd.ntmps13
  go_wp2_with (go_at_call 25; (with_reducible refine (HC _).out.mono ?_); rintro e w1 ⟨rfl, hb⟩; obtain ⟨h0, hB, hz⟩ := one_block hb; have h1 := (Below.heap_alloc w1 (.cells #[.bool false, .bool true, .bool false] 61) w.heap.size (heap_lt h0)).trans h0; have HB := Lib.hid (hB.alloc (Nat.le_of_succ_le hz) (.cells #[.bool false, .bool true, .bool false] 61)); have HZ : Hid (w.heap.size ≤ (w1.alloc (.cells #[.bool false, .bool true, .bool false] 61)).heap.size) := Lib.hid (by simp; omega); clear m0 m1 m2 m3; obtain ⟨m0, m1, m2, m3, _, _, _, _⟩ := blk4 h1; clear hb h0 h1 hB hz)
  go_ret
  exact ⟨rfl, HB.out⟩
set_option maxRecDepth 100000 in
set_option maxHeartbeats 1000000 in
theorem mmay_3r (k q : Nat) (a : Int) (A : Option Addr) (n c : Nat) (w : World) (hs : nmS k = false) (ha : nmA k = true) (hp : nmP k = false) (hi : nmI k = true) (qz : ((q : Int) == 0) = true) (a0 : decide (0 ≤ a) = true) (nz : ((n : Int) == 0) = true) (n8 : decide ((n : Int) ≤ 8) = true) {r : Bool} (HR : Hid (RightQ A n c w.heap.size w r)) :
    Calls Tryd.prog 13 #[.agg #[.int .u8 (k : Int), .int .u64 (q : Int), .int .i64 a, .slice A n c]] w fun e w' => e = .returned (.bool r) ∧ Below w.heap.size w w' := by
  obtain ⟨m0, m1, m2, m3, _, _, _, _⟩ := blk4 (heap_alloc_new w (.cells #[.int .u8 (k : Int), .int .u64 (q : Int), .int .i64 a, .slice A n c] 25))
  have HC := fun w0 => Lib.hid (mnamed_at k w0 hs ha hp hi)
  clear hs ha hp hi
  go_enter Tryd.func13, Tryd.ntmps13
  go_wp2_with (first
    | (go_at_call 25; (with_reducible refine (HC _).out.mono ?_); rintro e w1 ⟨rfl, hb⟩; obtain ⟨h0, hB, hz⟩ := one_block hb; have h1 := (Below.heap_alloc w1 (.cells #[.bool false, .bool true, .bool false] 61) w.heap.size (heap_lt h0)).trans h0; have HB := Lib.hid (hB.alloc (Nat.le_of_succ_le hz) (.cells #[.bool false, .bool true, .bool false] 61)); have HZ : Hid (w.heap.size ≤ (w1.alloc (.cells #[.bool false, .bool true, .bool false] 61)).heap.size) := Lib.hid (by simp; omega); clear m0 m1 m2 m3; obtain ⟨m0, m1, m2, m3, _, _, _, _⟩ := blk4 h1; clear hb h0 h1 hB hz)
    | (go_at_call 28; (with_reducible refine (HR.out _ HB.out HZ.out).mono ?_); rintro e w2 ⟨rfl, hb2⟩; have HB := Lib.hid (HB.out.trans (hb2.mono HZ.out)); clear hb2))
  go_ret
  exact ⟨rfl, HB.out⟩
set_option maxRecDepth 100000 in
set_option maxHeartbeats 1000000 in
theorem mmay_4q (k q : Nat) (a : Int) (A : Option Addr) (n c : Nat) (w : World) (hs : nmS k = false) (ha : nmA k = false) (hp : nmP k = false) (hi : nmI k = true) (qz : ((q : Int) == 0) = false) :
    Calls Tryd.prog 13 #[.agg #[.int .u8 (k : Int), .int .u64 (q : Int), .int .i64 a, .slice A n c]] w fun e w' => e = .returned (.bool false) ∧ Below w.heap.size w w' := by
  obtain ⟨m0, m1, m2, m3, _, _, _, _⟩ := blk4 (heap_alloc_new w (.cells #[.int .u8 (k : Int), .int .u64 (q : Int), .int .i64 a, .slice A n c] 25))
  have HC := fun w0 => Lib.hid (mnamed_at k w0 hs ha hp hi)
  clear hs ha hp hi
  go_enter Tryd.func13, Tryd.ntmps13
  go_wp2_with (go_at_call 25; (with_reducible refine (HC _).out.mono ?_); rintro e w1 ⟨rfl, hb⟩; obtain ⟨h0, hB, hz⟩ := one_block hb; have h1 := (Below.heap_alloc w1 (.cells #[.bool false, .bool false, .bool false] 61) w.heap.size (heap_lt h0)).trans h0; have HB := Lib.hid (hB.alloc (Nat.le_of_succ_le hz) (.cells #[.bool false, .bool false, .bool false] 61)); have HZ : Hid (w.heap.size ≤ (w1.alloc (.cells #[.bool false, .bool false, .bool false] 61)).heap.size) := Lib.hid (by simp; omega); clear m0 m1 m2 m3; obtain ⟨m0, m1, m2, m3, _, _, _, _⟩ := blk4 h1; clear hb h0 h1 hB hz)
  go_ret
  exact ⟨rfl, HB.out⟩
set_option maxRecDepth 100000 in
set_option maxHeartbeats 1000000 in
theorem mmay_4a (k q : Nat) (a : Int) (A : Option Addr) (n c : Nat) (w : World) (hs : nmS k = false) (ha : nmA k = false) (hp : nmP k = false) (hi : nmI k = true) (qz : ((q : Int) == 0) = true) (az : (a == 0) = false) :
    Calls Tryd.prog 13 #[.agg #[.int .u8 (k : Int), .int .u64 (q : Int), .int .i64 a, .slice A n c]] w fun e w' => e = .returned (.bool false) ∧ Below w.heap.size w w' := by
  obtain ⟨m0, m1, m2, m3, _, _, _, _⟩ := blk4 (heap_alloc_new w (.cells #[.int .u8 (k : Int), .int .u64 (q : Int), .int .i64 a, .slice A n c] 25))
  have HC := fun w0 => Lib.hid (mnamed_at k w0 hs ha hp hi)
  clear hs ha hp hi
  go_enter Tryd.func13, Tryd.ntmps13
  go_wp2_with (go_at_call 25; (with_reducible refine (HC _).out.mono ?_); rintro e w1 ⟨rfl, hb⟩; obtain ⟨h0, hB, hz⟩ := one_block hb; have h1 := (Below.heap_alloc w1 (.cells #[.bool false, .bool false, .bool false] 61) w.heap.size (heap_lt h0)).trans h0; have HB := Lib.hid (hB.alloc (Nat.le_of_succ_le hz) (.cells #[.bool false, .bool false, .bool false] 61)); have HZ : Hid (w.heap.size ≤ (w1.alloc (.cells #[.bool false, .bool false, .bool false] 61)).heap.size) := Lib.hid (by simp; omega); clear m0 m1 m2 m3; obtain ⟨m0, m1, m2, m3, _, _, _, _⟩ := blk4 h1; clear hb h0 h1 hB hz)
  go_ret
  exact ⟨rfl, HB.out⟩
set_option maxRecDepth 100000 in
set_option maxHeartbeats 1000000 in
theorem mmay_4n (k q : Nat) (a : Int) (A : Option Addr) (n c : Nat) (w : World) (hs : nmS k = false) (ha : nmA k = false) (hp : nmP k = false) (hi : nmI k = true) (qz : ((q : Int) == 0) = true) (az : (a == 0) = true) (a0 : decide (0 ≤ a) = true) (nz : ((n : Int) == 0) = false) :
    Calls Tryd.prog 13 #[.agg #[.int .u8 (k : Int), .int .u64 (q : Int), .int .i64 a, .slice A n c]] w fun e w' => e = .returned (.bool false) ∧ Below w.heap.size w w' := by
  obtain ⟨m0, m1, m2, m3, _, _, _, _⟩ := blk4 (heap_alloc_new w (.cells #[.int .u8 (k : Int), .int .u64 (q : Int), .int .i64 a, .slice A n c] 25))
  have HC := fun w0 => Lib.hid (mnamed_at k w0 hs ha hp hi)
  clear hs ha hp hi
  go_enter Tryd.func13, Tryd.ntmps13
  go_wp2_with (go_at_call 25; (with_reducible refine (HC _).out.mono ?_); rintro e w1 ⟨rfl, hb⟩; obtain ⟨h0, hB, hz⟩ := one_block hb; have h1 := (Below.heap_alloc w1 (.cells #[.bool false, .bool false, .bool false] 61) w.heap.size (heap_lt h0)).trans h0; have HB := Lib.hid (hB.alloc (Nat.le_of_succ_le hz) (.cells #[.bool false, .bool false, .bool false] 61)); have HZ : Hid (w.heap.size ≤ (w1.alloc (.cells #[.bool false, .bool false, .bool false] 61)).heap.size) := Lib.hid (by simp; omega); clear m0 m1 m2 m3; obtain ⟨m0, m1, m2, m3, _, _, _, _⟩ := blk4 h1; clear hb h0 h1 hB hz)
  go_ret
  exact ⟨rfl, HB.out⟩
set_option maxRecDepth 100000 in
set_option maxHeartbeats 1000000 in
theorem mmay_4r (k q : Nat) (a : Int) (A : Option Addr) (n c : Nat) (w : World) (hs : nmS k = false) (ha : nmA k = false) (hp : nmP k = false) (hi : nmI k = true) (qz : ((q : Int) == 0) = true) (az : (a == 0) = true) (a0 : decide (0 ≤ a) = true) (nz : ((n : Int) == 0) = true) (n8 : decide ((n : Int) ≤ 8) = true) {r : Bool} (HR : Hid (RightQ A n c w.heap.size w r)) :
    Calls Tryd.prog 13 #[.agg #[.int .u8 (k : Int), .int .u64 (q : Int), .int .i64 a, .slice A n c]] w fun e w' => e = .returned (.bool r) ∧ Below w.heap.size w w' := by
  obtain ⟨m0, m1, m2, m3, _, _, _, _⟩ := blk4 (heap_alloc_new w (.cells #[.int .u8 (k : Int), .int .u64 (q : Int), .int .i64 a, .slice A n c] 25))
  have HC := fun w0 => Lib.hid (mnamed_at k w0 hs ha hp hi)
  clear hs ha hp hi
  go_enter Tryd.func13, Tryd.ntmps13
  go_wp2_with (first
    | (go_at_call 25; (with_reducible refine (HC _).out.mono ?_); rintro e w1 ⟨rfl, hb⟩; obtain ⟨h0, hB, hz⟩ := one_block hb; have h1 := (Below.heap_alloc w1 (.cells #[.bool false, .bool false, .bool false] 61) w.heap.size (heap_lt h0)).trans h0; have HB := Lib.hid (hB.alloc (Nat.le_of_succ_le hz) (.cells #[.bool false, .bool false, .bool false] 61)); have HZ : Hid (w.heap.size ≤ (w1.alloc (.cells #[.bool false, .bool false, .bool false] 61)).heap.size) := Lib.hid (by simp; omega); clear m0 m1 m2 m3; obtain ⟨m0, m1, m2, m3, _, _, _, _⟩ := blk4 h1; clear hb h0 h1 hB hz)
    | (go_at_call 28; (with_reducible refine (HR.out _ HB.out HZ.out).mono ?_); rintro e w2 ⟨rfl, hb2⟩; have HB := Lib.hid (HB.out.trans (hb2.mono HZ.out)); clear hb2))
  go_ret
  exact ⟨rfl, HB.out⟩

theorem mmay_any (k q : Nat) (a : Int) (A : Option Addr) (n c : Nat) (l : List Pr) (w : World) (hl : Props w w.heap.size (.slice A n c) l) (hm : l.length ≤ 1000) {r : Bool} (hr : mayL ⟨k, q, a, l⟩ = r) :
    Calls Tryd.prog 13 #[.agg #[.int .u8 (k : Int), .int .u64 (q : Int), .int .i64 a, .slice A n c]] w fun e w' => e = .returned (.bool r) ∧ Below w.heap.size w w' := by
  obtain ⟨hn, _⟩ := hl.len
  have bf : ∀ (x y : Int), ¬ x = y → (x == y) = false := fun x y h => by simp [h]
  have bt : ∀ (x y : Int), x = y → (x == y) = true := fun x y h => by simp [h]
  have HR : Hid (RightQ A n c w.heap.size w (rightL l)) := Lib.hid fun w1 hb hz => lright_any A n c l w1 ((hl.keep fun j hj => hb.block j hj).more hz) hm rfl
  have e : r = (rightL l && (decide (0 ≤ a) && decide (l.length ≤ 8)) && (decide (k = 2) || (decide (k = 1) && decide (a = 0) && decide (l.length = 0)) || (decide (k = 3) && decide (q = 0) && decide (l.length = 0)) || (decide (k = 4) && decide (q = 0) && decide (a = 0) && decide (l.length = 0)))) := by
    rw [← hr, Bool.eq_iff_iff, may_iff]
    simp only [Bool.and_eq_true, Bool.or_eq_true, decide_eq_true_eq, List.length_eq_zero_iff, and_assoc, or_assoc]
    constructor
    · rintro ⟨h0, h8, h1, h2⟩
      exact ⟨h1, h0, h8, by rcases h2 with h | h | h | h <;> simp [h]⟩
    · rintro ⟨h1, h0, h8, h2⟩
      exact ⟨h0, h8, h1, by rcases h2 with h | h | h | h <;> simp [h]⟩
  have z0 : ((n : Int) == 0) = decide (l.length = 0) := by rw [hn]; by_cases h : l.length = 0 <;> simp [h]
  clear hr
  by_cases k0 : k < 1 ∨ 4 < k
  · have : r = false := by
      rw [e, decide_eq_false (show ¬ k = 2 by omega), decide_eq_false (show ¬ k = 1 by omega), decide_eq_false (show ¬ k = 3 by omega), decide_eq_false (show ¬ k = 4 by omega)]
      simp
    rw [this]
    exact mmay_no k q a A n c w (by unfold nmI; simp; omega)
  · by_cases n8 : l.length ≤ 8
    · have hn8 : decide ((n : Int) ≤ 8) = true := decide_eq_true (by omega)
      by_cases nz : l.length = 0
      · have hnz : ((n : Int) == 0) = true := by rw [z0, decide_eq_true nz]
        obtain rfl | rfl | rfl | rfl : k = 1 ∨ k = 2 ∨ k = 3 ∨ k = 4 := by omega
        · by_cases az : a = 0
          · subst az
            have : r = rightL l := by rw [e]; simp [nz]
            rw [this]
            exact mmay_1r 1 q 0 A n c w rfl rfl rfl rfl rfl rfl hnz hn8 HR
          · have : r = false := by rw [e]; simp [az]
            rw [this]
            exact mmay_1a 1 q a A n c w rfl rfl rfl rfl (bf _ _ az)
        · by_cases a0 : 0 ≤ a
          · have : r = rightL l := by rw [e]; simp [nz, a0]
            rw [this]
            exact mmay_2r 2 q a A n c w rfl rfl rfl rfl (decide_eq_true a0) hn8 HR
          · have : r = false := by rw [e, decide_eq_false a0]; simp
            rw [this]
            exact mmay_2a 2 q a A n c w rfl rfl rfl rfl (decide_eq_false a0)
        · by_cases qz : q = 0
          · subst qz
            by_cases a0 : 0 ≤ a
            · have : r = rightL l := by rw [e]; simp [nz, a0]
              rw [this]
              exact mmay_3r 3 0 a A n c w rfl rfl rfl rfl rfl (decide_eq_true a0) hnz hn8 HR
            · have : r = false := by rw [e, decide_eq_false a0]; simp
              rw [this]
              exact mmay_3a 3 0 a A n c w rfl rfl rfl rfl rfl (decide_eq_false a0)
          · have : r = false := by rw [e]; simp [qz]
            rw [this]
            exact mmay_3q 3 q a A n c w rfl rfl rfl rfl (bf _ _ (by omega))
        · by_cases qz : q = 0
          · subst qz
            by_cases az : a = 0
            · subst az
              have : r = rightL l := by rw [e]; simp [nz]
              rw [this]
              exact mmay_4r 4 0 0 A n c w rfl rfl rfl rfl rfl rfl rfl hnz hn8 HR
            · have : r = false := by rw [e]; simp [az]
              rw [this]
              exact mmay_4a 4 0 a A n c w rfl rfl rfl rfl rfl (bf _ _ az)
          · have : r = false := by rw [e]; simp [qz]
            rw [this]
            exact mmay_4q 4 q a A n c w rfl rfl rfl rfl (bf _ _ (by omega))
      · have hnz : ((n : Int) == 0) = false := by rw [z0, decide_eq_false nz]
        obtain rfl | rfl | rfl | rfl : k = 1 ∨ k = 2 ∨ k = 3 ∨ k = 4 := by omega
        · have : r = false := by rw [e, decide_eq_false nz]; simp
          rw [this]
          by_cases az : a = 0
          · subst az
            exact mmay_1n 1 q 0 A n c w rfl rfl rfl rfl rfl rfl hnz
          · exact mmay_1a 1 q a A n c w rfl rfl rfl rfl (bf _ _ az)
        · by_cases a0 : 0 ≤ a
          · have : r = rightL l := by rw [e]; simp [a0, n8]
            rw [this]
            exact mmay_2r 2 q a A n c w rfl rfl rfl rfl (decide_eq_true a0) hn8 HR
          · have : r = false := by rw [e, decide_eq_false a0]; simp
            rw [this]
            exact mmay_2a 2 q a A n c w rfl rfl rfl rfl (decide_eq_false a0)
        · have : r = false := by rw [e, decide_eq_false nz]; simp
          rw [this]
          by_cases qz : q = 0
          · subst qz
            by_cases a0 : 0 ≤ a
            · exact mmay_3n 3 0 a A n c w rfl rfl rfl rfl rfl (decide_eq_true a0) hnz
            · exact mmay_3a 3 0 a A n c w rfl rfl rfl rfl rfl (decide_eq_false a0)
          · exact mmay_3q 3 q a A n c w rfl rfl rfl rfl (bf _ _ (by omega))
        · have : r = false := by rw [e, decide_eq_false nz]; simp
          rw [this]
          by_cases qz : q = 0
          · subst qz
            by_cases az : a = 0
            · subst az
              exact mmay_4n 4 0 0 A n c w rfl rfl rfl rfl rfl rfl rfl hnz
            · exact mmay_4a 4 0 a A n c w rfl rfl rfl rfl rfl (bf _ _ az)
          · exact mmay_4q 4 q a A n c w rfl rfl rfl rfl (bf _ _ (by omega))
    · have hn8 : decide ((n : Int) ≤ 8) = false := decide_eq_false (by omega)
      have nz : ¬ l.length = 0 := by omega
      have hnz : ((n : Int) == 0) = false := by rw [z0, decide_eq_false nz]
      have : r = false := by rw [e, decide_eq_false n8]; simp
      rw [this]
      obtain rfl | rfl | rfl | rfl : k = 1 ∨ k = 2 ∨ k = 3 ∨ k = 4 := by omega
      · by_cases az : a = 0
        · subst az
          exact mmay_1n 1 q 0 A n c w rfl rfl rfl rfl rfl rfl hnz
        · exact mmay_1a 1 q a A n c w rfl rfl rfl rfl (bf _ _ az)
      · by_cases a0 : 0 ≤ a
        · exact mmay_2n 2 q a A n c w rfl rfl rfl rfl (decide_eq_true a0) hn8
        · exact mmay_2a 2 q a A n c w rfl rfl rfl rfl (decide_eq_false a0)
      · by_cases qz : q = 0
        · subst qz
          by_cases a0 : 0 ≤ a
          · exact mmay_3n 3 0 a A n c w rfl rfl rfl rfl rfl (decide_eq_true a0) hnz
          · exact mmay_3a 3 0 a A n c w rfl rfl rfl rfl rfl (decide_eq_false a0)
        · exact mmay_3q 3 q a A n c w rfl rfl rfl rfl (bf _ _ (by omega))
      · by_cases qz : q = 0
        · subst qz
          by_cases az : a = 0
          · subst az
            exact mmay_4n 4 0 0 A n c w rfl rfl rfl rfl rfl rfl rfl hnz
          · exact mmay_4a 4 0 a A n c w rfl rfl rfl rfl rfl (bf _ _ az)
        · exact mmay_4q 4 q a A n c w rfl rfl rfl rfl (bf _ _ (by omega))
end Go.Proofs.YtiflpjdiokloaaaDoor
/-
  Layer 6: slices of messages in memory.
-/
namespace Go.Proofs.YtiflpjdiokloaaaDoor
open Go.RowKit
set_option linter.unusedVariables false

/-- Its numbers are of their kinds. -/
def Msg.In (m : Msg) : Prop := m.kind < 256 ∧ m.seq ≤ 18446744073709551615 ∧ (-9223372036854775808 ≤ m.at_ ∧ m.at_ ≤ 9223372036854775807) ∧ ∀ p ∈ m.props, -9223372036854775808 ≤ p.val ∧ p.val ≤ 9223372036854775807
theorem Msg.In.wf {m : Msg} (h : m.In) : m.Wf := ⟨h.2.1, h.2.2.1.2, h.2.2.2⟩
/-- What lies at the i-th place. -/
structure MsgLies4 (w : World) (B : Nat) (b o : Nat) (k q : Nat) (a : Int) (l : List Pr) (v : Value) : Prop where
  hb : b < B
  c0 : w.cell? ⟨b, o, none⟩ = some (.int .u8 (k : Int))
  c1 : w.cell? ⟨b, o + 1, none⟩ = some (.int .u64 (q : Int))
  c2 : w.cell? ⟨b, o + 2, none⟩ = some (.int .i64 a)
  c3 : w.cell? ⟨b, o + 3, none⟩ = some v
  pr : Props w B v l
def MsgLies (w : World) (B : Nat) (b o : Nat) (m : Msg) (v : Value) : Prop := MsgLies4 w B b o m.kind m.seq m.at_ m.props v
/-- The value v is a slice of messages. -/
def MsgsIn (w : World) (B : Nat) (v : Value) (ms : List Msg) : Prop :=
  ∃ A c, v = .slice A ms.length c ∧ ∀ i (h : i < ms.length), ∃ b off u, A = some ⟨b, off, none⟩ ∧ MsgLies w B b (off + i * 4) ms[i] u
theorem MsgLies.over {w w' : World} {b o : Nat} {m : Msg} {v : Value} (h : MsgLies w w.heap.size b o m v) (hb : Below w.heap.size w w') : MsgLies w' w'.heap.size b o m v := by
  obtain ⟨h1, h2, h3, h4, h5, h6⟩ := h
  exact ⟨Nat.lt_of_lt_of_le h1 hb.size, (hb.cell (p := ⟨b, o, none⟩) h1).trans h2, (hb.cell (p := ⟨b, o + 1, none⟩) h1).trans h3, (hb.cell (p := ⟨b, o + 2, none⟩) h1).trans h4, (hb.cell (p := ⟨b, o + 3, none⟩) h1).trans h5, h6.over (Nat.le_refl _) hb⟩
theorem MsgsIn.over {w w' : World} {v : Value} {ms : List Msg} (h : MsgsIn w w.heap.size v ms) (hb : Below w.heap.size w w') : MsgsIn w' w'.heap.size v ms := by
  obtain ⟨A, c, e, hx⟩ := h
  refine ⟨A, c, e, fun i hi => ?_⟩
  obtain ⟨b, off, u, e1, h1⟩ := hx i hi
  exact ⟨b, off, u, e1, h1.over hb⟩
end Go.Proofs.YtiflpjdiokloaaaDoor
