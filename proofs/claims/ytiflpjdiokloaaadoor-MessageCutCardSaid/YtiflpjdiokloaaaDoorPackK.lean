/-
  Texts of the proofs, put together: RefMay, RefPutM, FewSix.
-/
import Derived.Test.YtiflpjdiokloaaaDoorPackF
import Derived.Test.YtiflpjdiokloaaaDoorPackH
import Derived.Test.YtiflpjdiokloaaaDoorPackE
import Derived.Test.YtiflpjdiokloaaaDoorInts
import Derived.Deep.RegionHeld3
import Derived.IntWalk
/-
  Contract of layer 6's reference: May.
-/
namespace Go.Proofs.YtiflpjdiokloaaaDoor
open Go.RowKit
set_option linter.unusedVariables false

/-- A message as a value. -/
def msgV (k q : Nat) (a : Int) (v : Value) : Value := .agg #[.int .u8 (k : Int), .int .u64 (q : Int), .int .i64 a, v]

set_option maxRecDepth 100000 in
theorem rmay_neg (k q : Nat) (a : Int) (A : Option Addr) (n c : Nat) (l : List Pr) (w : World) (a0 : decide (a < 0) = true) :
    Calls Tryd.prog 11 #[.agg #[.int .u8 (k : Int), .int .u64 (q : Int), .int .i64 a, .slice A n c]] w fun e w' => e = .returned (.bool false) ∧ Below w.heap.size w w' := by
  obtain ⟨m0, m1, m2, m3, _, _, _, _⟩ := blk4 (heap_alloc_new w (.cells #[.int .u8 (k : Int), .int .u64 (q : Int), .int .i64 a, .slice A n c] 28))
  go_enter Tryd.func11, Tryd.ntmps11
  go_wp2
  go_ret
  exact ⟨rfl, bmore (bself w) _⟩
set_option maxRecDepth 100000 in
theorem rmay_many (k q : Nat) (a : Int) (A : Option Addr) (n c : Nat) (l : List Pr) (w : World) (a0 : decide (a < 0) = false) (n8 : decide (8 < (n : Int)) = true) :
    Calls Tryd.prog 11 #[.agg #[.int .u8 (k : Int), .int .u64 (q : Int), .int .i64 a, .slice A n c]] w fun e w' => e = .returned (.bool false) ∧ Below w.heap.size w w' := by
  obtain ⟨m0, m1, m2, m3, _, _, _, _⟩ := blk4 (heap_alloc_new w (.cells #[.int .u8 (k : Int), .int .u64 (q : Int), .int .i64 a, .slice A n c] 28))
  go_enter Tryd.func11, Tryd.ntmps11
  go_wp2
  go_ret
  exact ⟨rfl, bmore (bself w) _⟩
set_option maxRecDepth 100000 in
theorem rmay_wrong (k q : Nat) (a : Int) (A : Option Addr) (n c : Nat) (l : List Pr) (w : World) (a0 : decide (a < 0) = false) (n8 : decide (8 < (n : Int)) = false) (HR : Hid (Calls Tryd.prog 24 #[.slice A n c] (w.alloc (.cells #[.int .u8 (k : Int), .int .u64 (q : Int), .int .i64 a, .slice A n c] 28)) fun e w' => e = .returned (.bool false) ∧ Below (w.alloc (.cells #[.int .u8 (k : Int), .int .u64 (q : Int), .int .i64 a, .slice A n c] 28)).heap.size (w.alloc (.cells #[.int .u8 (k : Int), .int .u64 (q : Int), .int .i64 a, .slice A n c] 28)) w')) :
    Calls Tryd.prog 11 #[.agg #[.int .u8 (k : Int), .int .u64 (q : Int), .int .i64 a, .slice A n c]] w fun e w' => e = .returned (.bool false) ∧ Below w.heap.size w w' := by
  obtain ⟨m0, m1, m2, m3, _, _, _, _⟩ := blk4 (heap_alloc_new w (.cells #[.int .u8 (k : Int), .int .u64 (q : Int), .int .i64 a, .slice A n c] 28))
  go_enter Tryd.func11, Tryd.ntmps11
  go_wp2_with (go_at_call 24; (with_reducible refine HR.out.mono ?_); rintro e w1 ⟨rfl, hb⟩; obtain ⟨h0, hB, hz⟩ := one_block hb; have HB := Lib.hid hB; clear m0 m1 m2 m3; obtain ⟨m0, m1, m2, m3, _, _, _, _⟩ := blk4 h0; clear hb h0 hB hz)
  go_ret
  exact ⟨rfl, HB.out⟩
set_option maxRecDepth 100000 in
theorem rmay_k1a (k q : Nat) (a : Int) (A : Option Addr) (n c : Nat) (l : List Pr) (w : World) (a0 : decide (a < 0) = false) (n8 : decide (8 < (n : Int)) = false) (k1 : ((k : Int) == 1) = true) (az : (a == 0) = false) (HR : Hid (Calls Tryd.prog 24 #[.slice A n c] (w.alloc (.cells #[.int .u8 (k : Int), .int .u64 (q : Int), .int .i64 a, .slice A n c] 28)) fun e w' => e = .returned (.bool true) ∧ Below (w.alloc (.cells #[.int .u8 (k : Int), .int .u64 (q : Int), .int .i64 a, .slice A n c] 28)).heap.size (w.alloc (.cells #[.int .u8 (k : Int), .int .u64 (q : Int), .int .i64 a, .slice A n c] 28)) w')) :
    Calls Tryd.prog 11 #[.agg #[.int .u8 (k : Int), .int .u64 (q : Int), .int .i64 a, .slice A n c]] w fun e w' => e = .returned (.bool false) ∧ Below w.heap.size w w' := by
  obtain ⟨m0, m1, m2, m3, _, _, _, _⟩ := blk4 (heap_alloc_new w (.cells #[.int .u8 (k : Int), .int .u64 (q : Int), .int .i64 a, .slice A n c] 28))
  go_enter Tryd.func11, Tryd.ntmps11
  go_wp2_with (go_at_call 24; (with_reducible refine HR.out.mono ?_); rintro e w1 ⟨rfl, hb⟩; obtain ⟨h0, hB, hz⟩ := one_block hb; have HB := Lib.hid hB; clear m0 m1 m2 m3; obtain ⟨m0, m1, m2, m3, _, _, _, _⟩ := blk4 h0; clear hb h0 hB hz)
  go_ret
  exact ⟨rfl, HB.out⟩
set_option maxRecDepth 100000 in
theorem rmay_k1b (k q : Nat) (a : Int) (A : Option Addr) (n c : Nat) (l : List Pr) (w : World) (z : Bool) (a0 : decide (a < 0) = false) (n8 : decide (8 < (n : Int)) = false) (k1 : ((k : Int) == 1) = true) (az : (a == 0) = true) (nz : ((n : Int) == 0) = z) (HR : Hid (Calls Tryd.prog 24 #[.slice A n c] (w.alloc (.cells #[.int .u8 (k : Int), .int .u64 (q : Int), .int .i64 a, .slice A n c] 28)) fun e w' => e = .returned (.bool true) ∧ Below (w.alloc (.cells #[.int .u8 (k : Int), .int .u64 (q : Int), .int .i64 a, .slice A n c] 28)).heap.size (w.alloc (.cells #[.int .u8 (k : Int), .int .u64 (q : Int), .int .i64 a, .slice A n c] 28)) w')) :
    Calls Tryd.prog 11 #[.agg #[.int .u8 (k : Int), .int .u64 (q : Int), .int .i64 a, .slice A n c]] w fun e w' => e = .returned (.bool z) ∧ Below w.heap.size w w' := by
  obtain ⟨m0, m1, m2, m3, _, _, _, _⟩ := blk4 (heap_alloc_new w (.cells #[.int .u8 (k : Int), .int .u64 (q : Int), .int .i64 a, .slice A n c] 28))
  go_enter Tryd.func11, Tryd.ntmps11
  go_wp2_with (go_at_call 24; (with_reducible refine HR.out.mono ?_); rintro e w1 ⟨rfl, hb⟩; obtain ⟨h0, hB, hz⟩ := one_block hb; have HB := Lib.hid hB; clear m0 m1 m2 m3; obtain ⟨m0, m1, m2, m3, _, _, _, _⟩ := blk4 h0; clear hb h0 hB hz)
  go_ret
  exact ⟨rfl, HB.out⟩
set_option maxRecDepth 100000 in
theorem rmay_k2 (k q : Nat) (a : Int) (A : Option Addr) (n c : Nat) (l : List Pr) (w : World) (a0 : decide (a < 0) = false) (n8 : decide (8 < (n : Int)) = false) (k1 : ((k : Int) == 1) = false) (k2 : ((k : Int) == 2) = true) (HR : Hid (Calls Tryd.prog 24 #[.slice A n c] (w.alloc (.cells #[.int .u8 (k : Int), .int .u64 (q : Int), .int .i64 a, .slice A n c] 28)) fun e w' => e = .returned (.bool true) ∧ Below (w.alloc (.cells #[.int .u8 (k : Int), .int .u64 (q : Int), .int .i64 a, .slice A n c] 28)).heap.size (w.alloc (.cells #[.int .u8 (k : Int), .int .u64 (q : Int), .int .i64 a, .slice A n c] 28)) w')) :
    Calls Tryd.prog 11 #[.agg #[.int .u8 (k : Int), .int .u64 (q : Int), .int .i64 a, .slice A n c]] w fun e w' => e = .returned (.bool true) ∧ Below w.heap.size w w' := by
  obtain ⟨m0, m1, m2, m3, _, _, _, _⟩ := blk4 (heap_alloc_new w (.cells #[.int .u8 (k : Int), .int .u64 (q : Int), .int .i64 a, .slice A n c] 28))
  go_enter Tryd.func11, Tryd.ntmps11
  go_wp2_with (go_at_call 24; (with_reducible refine HR.out.mono ?_); rintro e w1 ⟨rfl, hb⟩; obtain ⟨h0, hB, hz⟩ := one_block hb; have HB := Lib.hid hB; clear m0 m1 m2 m3; obtain ⟨m0, m1, m2, m3, _, _, _, _⟩ := blk4 h0; clear hb h0 hB hz)
  go_ret
  exact ⟨rfl, HB.out⟩
set_option maxRecDepth 100000 in
theorem rmay_k3a (k q : Nat) (a : Int) (A : Option Addr) (n c : Nat) (l : List Pr) (w : World) (a0 : decide (a < 0) = false) (n8 : decide (8 < (n : Int)) = false) (k1 : ((k : Int) == 1) = false) (k2 : ((k : Int) == 2) = false) (k3 : ((k : Int) == 3) = true) (qz : ((q : Int) == 0) = false) (HR : Hid (Calls Tryd.prog 24 #[.slice A n c] (w.alloc (.cells #[.int .u8 (k : Int), .int .u64 (q : Int), .int .i64 a, .slice A n c] 28)) fun e w' => e = .returned (.bool true) ∧ Below (w.alloc (.cells #[.int .u8 (k : Int), .int .u64 (q : Int), .int .i64 a, .slice A n c] 28)).heap.size (w.alloc (.cells #[.int .u8 (k : Int), .int .u64 (q : Int), .int .i64 a, .slice A n c] 28)) w')) :
    Calls Tryd.prog 11 #[.agg #[.int .u8 (k : Int), .int .u64 (q : Int), .int .i64 a, .slice A n c]] w fun e w' => e = .returned (.bool false) ∧ Below w.heap.size w w' := by
  obtain ⟨m0, m1, m2, m3, _, _, _, _⟩ := blk4 (heap_alloc_new w (.cells #[.int .u8 (k : Int), .int .u64 (q : Int), .int .i64 a, .slice A n c] 28))
  go_enter Tryd.func11, Tryd.ntmps11
  go_wp2_with (go_at_call 24; (with_reducible refine HR.out.mono ?_); rintro e w1 ⟨rfl, hb⟩; obtain ⟨h0, hB, hz⟩ := one_block hb; have HB := Lib.hid hB; clear m0 m1 m2 m3; obtain ⟨m0, m1, m2, m3, _, _, _, _⟩ := blk4 h0; clear hb h0 hB hz)
  go_ret
  exact ⟨rfl, HB.out⟩
set_option maxRecDepth 100000 in
theorem rmay_k3b (k q : Nat) (a : Int) (A : Option Addr) (n c : Nat) (l : List Pr) (w : World) (z : Bool) (a0 : decide (a < 0) = false) (n8 : decide (8 < (n : Int)) = false) (k1 : ((k : Int) == 1) = false) (k2 : ((k : Int) == 2) = false) (k3 : ((k : Int) == 3) = true) (qz : ((q : Int) == 0) = true) (nz : ((n : Int) == 0) = z) (HR : Hid (Calls Tryd.prog 24 #[.slice A n c] (w.alloc (.cells #[.int .u8 (k : Int), .int .u64 (q : Int), .int .i64 a, .slice A n c] 28)) fun e w' => e = .returned (.bool true) ∧ Below (w.alloc (.cells #[.int .u8 (k : Int), .int .u64 (q : Int), .int .i64 a, .slice A n c] 28)).heap.size (w.alloc (.cells #[.int .u8 (k : Int), .int .u64 (q : Int), .int .i64 a, .slice A n c] 28)) w')) :
    Calls Tryd.prog 11 #[.agg #[.int .u8 (k : Int), .int .u64 (q : Int), .int .i64 a, .slice A n c]] w fun e w' => e = .returned (.bool z) ∧ Below w.heap.size w w' := by
  obtain ⟨m0, m1, m2, m3, _, _, _, _⟩ := blk4 (heap_alloc_new w (.cells #[.int .u8 (k : Int), .int .u64 (q : Int), .int .i64 a, .slice A n c] 28))
  go_enter Tryd.func11, Tryd.ntmps11
  go_wp2_with (go_at_call 24; (with_reducible refine HR.out.mono ?_); rintro e w1 ⟨rfl, hb⟩; obtain ⟨h0, hB, hz⟩ := one_block hb; have HB := Lib.hid hB; clear m0 m1 m2 m3; obtain ⟨m0, m1, m2, m3, _, _, _, _⟩ := blk4 h0; clear hb h0 hB hz)
  go_ret
  exact ⟨rfl, HB.out⟩
set_option maxRecDepth 100000 in
theorem rmay_k4n (k q : Nat) (a : Int) (A : Option Addr) (n c : Nat) (l : List Pr) (w : World) (a0 : decide (a < 0) = false) (n8 : decide (8 < (n : Int)) = false) (k1 : ((k : Int) == 1) = false) (k2 : ((k : Int) == 2) = false) (k3 : ((k : Int) == 3) = false) (k4 : ((k : Int) == 4) = false) (HR : Hid (Calls Tryd.prog 24 #[.slice A n c] (w.alloc (.cells #[.int .u8 (k : Int), .int .u64 (q : Int), .int .i64 a, .slice A n c] 28)) fun e w' => e = .returned (.bool true) ∧ Below (w.alloc (.cells #[.int .u8 (k : Int), .int .u64 (q : Int), .int .i64 a, .slice A n c] 28)).heap.size (w.alloc (.cells #[.int .u8 (k : Int), .int .u64 (q : Int), .int .i64 a, .slice A n c] 28)) w')) :
    Calls Tryd.prog 11 #[.agg #[.int .u8 (k : Int), .int .u64 (q : Int), .int .i64 a, .slice A n c]] w fun e w' => e = .returned (.bool false) ∧ Below w.heap.size w w' := by
  obtain ⟨m0, m1, m2, m3, _, _, _, _⟩ := blk4 (heap_alloc_new w (.cells #[.int .u8 (k : Int), .int .u64 (q : Int), .int .i64 a, .slice A n c] 28))
  go_enter Tryd.func11, Tryd.ntmps11
  go_wp2_with (go_at_call 24; (with_reducible refine HR.out.mono ?_); rintro e w1 ⟨rfl, hb⟩; obtain ⟨h0, hB, hz⟩ := one_block hb; have HB := Lib.hid hB; clear m0 m1 m2 m3; obtain ⟨m0, m1, m2, m3, _, _, _, _⟩ := blk4 h0; clear hb h0 hB hz)
  go_ret
  exact ⟨rfl, HB.out⟩
set_option maxRecDepth 100000 in
theorem rmay_k4q (k q : Nat) (a : Int) (A : Option Addr) (n c : Nat) (l : List Pr) (w : World) (a0 : decide (a < 0) = false) (n8 : decide (8 < (n : Int)) = false) (k1 : ((k : Int) == 1) = false) (k2 : ((k : Int) == 2) = false) (k3 : ((k : Int) == 3) = false) (k4 : ((k : Int) == 4) = true) (qz : ((q : Int) == 0) = false) (HR : Hid (Calls Tryd.prog 24 #[.slice A n c] (w.alloc (.cells #[.int .u8 (k : Int), .int .u64 (q : Int), .int .i64 a, .slice A n c] 28)) fun e w' => e = .returned (.bool true) ∧ Below (w.alloc (.cells #[.int .u8 (k : Int), .int .u64 (q : Int), .int .i64 a, .slice A n c] 28)).heap.size (w.alloc (.cells #[.int .u8 (k : Int), .int .u64 (q : Int), .int .i64 a, .slice A n c] 28)) w')) :
    Calls Tryd.prog 11 #[.agg #[.int .u8 (k : Int), .int .u64 (q : Int), .int .i64 a, .slice A n c]] w fun e w' => e = .returned (.bool false) ∧ Below w.heap.size w w' := by
  obtain ⟨m0, m1, m2, m3, _, _, _, _⟩ := blk4 (heap_alloc_new w (.cells #[.int .u8 (k : Int), .int .u64 (q : Int), .int .i64 a, .slice A n c] 28))
  go_enter Tryd.func11, Tryd.ntmps11
  go_wp2_with (go_at_call 24; (with_reducible refine HR.out.mono ?_); rintro e w1 ⟨rfl, hb⟩; obtain ⟨h0, hB, hz⟩ := one_block hb; have HB := Lib.hid hB; clear m0 m1 m2 m3; obtain ⟨m0, m1, m2, m3, _, _, _, _⟩ := blk4 h0; clear hb h0 hB hz)
  go_ret
  exact ⟨rfl, HB.out⟩
set_option maxRecDepth 100000 in
theorem rmay_k4a (k q : Nat) (a : Int) (A : Option Addr) (n c : Nat) (l : List Pr) (w : World) (a0 : decide (a < 0) = false) (n8 : decide (8 < (n : Int)) = false) (k1 : ((k : Int) == 1) = false) (k2 : ((k : Int) == 2) = false) (k3 : ((k : Int) == 3) = false) (k4 : ((k : Int) == 4) = true) (qz : ((q : Int) == 0) = true) (az : (a == 0) = false) (HR : Hid (Calls Tryd.prog 24 #[.slice A n c] (w.alloc (.cells #[.int .u8 (k : Int), .int .u64 (q : Int), .int .i64 a, .slice A n c] 28)) fun e w' => e = .returned (.bool true) ∧ Below (w.alloc (.cells #[.int .u8 (k : Int), .int .u64 (q : Int), .int .i64 a, .slice A n c] 28)).heap.size (w.alloc (.cells #[.int .u8 (k : Int), .int .u64 (q : Int), .int .i64 a, .slice A n c] 28)) w')) :
    Calls Tryd.prog 11 #[.agg #[.int .u8 (k : Int), .int .u64 (q : Int), .int .i64 a, .slice A n c]] w fun e w' => e = .returned (.bool false) ∧ Below w.heap.size w w' := by
  obtain ⟨m0, m1, m2, m3, _, _, _, _⟩ := blk4 (heap_alloc_new w (.cells #[.int .u8 (k : Int), .int .u64 (q : Int), .int .i64 a, .slice A n c] 28))
  go_enter Tryd.func11, Tryd.ntmps11
  go_wp2_with (go_at_call 24; (with_reducible refine HR.out.mono ?_); rintro e w1 ⟨rfl, hb⟩; obtain ⟨h0, hB, hz⟩ := one_block hb; have HB := Lib.hid hB; clear m0 m1 m2 m3; obtain ⟨m0, m1, m2, m3, _, _, _, _⟩ := blk4 h0; clear hb h0 hB hz)
  go_ret
  exact ⟨rfl, HB.out⟩
set_option maxRecDepth 100000 in
theorem rmay_k4b (k q : Nat) (a : Int) (A : Option Addr) (n c : Nat) (l : List Pr) (w : World) (z : Bool) (a0 : decide (a < 0) = false) (n8 : decide (8 < (n : Int)) = false) (k1 : ((k : Int) == 1) = false) (k2 : ((k : Int) == 2) = false) (k3 : ((k : Int) == 3) = false) (k4 : ((k : Int) == 4) = true) (qz : ((q : Int) == 0) = true) (az : (a == 0) = true) (nz : ((n : Int) == 0) = z) (HR : Hid (Calls Tryd.prog 24 #[.slice A n c] (w.alloc (.cells #[.int .u8 (k : Int), .int .u64 (q : Int), .int .i64 a, .slice A n c] 28)) fun e w' => e = .returned (.bool true) ∧ Below (w.alloc (.cells #[.int .u8 (k : Int), .int .u64 (q : Int), .int .i64 a, .slice A n c] 28)).heap.size (w.alloc (.cells #[.int .u8 (k : Int), .int .u64 (q : Int), .int .i64 a, .slice A n c] 28)) w')) :
    Calls Tryd.prog 11 #[.agg #[.int .u8 (k : Int), .int .u64 (q : Int), .int .i64 a, .slice A n c]] w fun e w' => e = .returned (.bool z) ∧ Below w.heap.size w w' := by
  obtain ⟨m0, m1, m2, m3, _, _, _, _⟩ := blk4 (heap_alloc_new w (.cells #[.int .u8 (k : Int), .int .u64 (q : Int), .int .i64 a, .slice A n c] 28))
  go_enter Tryd.func11, Tryd.ntmps11
  go_wp2_with (go_at_call 24; (with_reducible refine HR.out.mono ?_); rintro e w1 ⟨rfl, hb⟩; obtain ⟨h0, hB, hz⟩ := one_block hb; have HB := Lib.hid hB; clear m0 m1 m2 m3; obtain ⟨m0, m1, m2, m3, _, _, _, _⟩ := blk4 h0; clear hb h0 hB hz)
  go_ret
  exact ⟨rfl, HB.out⟩

theorem rmay_any (k q : Nat) (a : Int) (A : Option Addr) (n c : Nat) (l : List Pr) (w : World) (hl : Props w w.heap.size (.slice A n c) l) (hm : l.length ≤ 100000) {r : Bool} (hr : mayL ⟨k, q, a, l⟩ = r) :
    Calls Tryd.prog 11 #[.agg #[.int .u8 (k : Int), .int .u64 (q : Int), .int .i64 a, .slice A n c]] w fun e w' => e = .returned (.bool r) ∧ Below w.heap.size w w' := by
  obtain ⟨hn, _⟩ := hl.len
  have HRb : ∀ b, rightL l = b → Hid (Calls Tryd.prog 24 #[.slice A n c] (w.alloc (.cells #[.int .u8 (k : Int), .int .u64 (q : Int), .int .i64 a, .slice A n c] 28)) fun e w' => e = .returned (.bool b) ∧ Below (w.alloc (.cells #[.int .u8 (k : Int), .int .u64 (q : Int), .int .i64 a, .slice A n c] 28)).heap.size (w.alloc (.cells #[.int .u8 (k : Int), .int .u64 (q : Int), .int .i64 a, .slice A n c] 28)) w') :=
    fun b hb => Lib.hid (rright_any A n c l _ (hl.over (Nat.le_refl _) (bmore (bself w) _)) hm hb)
  have bf : ∀ (x y : Int), ¬ x = y → (x == y) = false := fun x y h => by simp [h]
  have bt : ∀ (x y : Int), x = y → (x == y) = true := fun x y h => by simp [h]
  have nz : ((n : Int) == 0) = decide (l.length = 0) := by rw [hn]; by_cases h : l.length = 0 <;> simp [h]
  unfold mayL at hr
  dsimp only at hr
  by_cases h1 : a < 0
  · rw [if_pos (.inl h1)] at hr
    subst hr
    exact rmay_neg k q a A n c l w (decide_eq_true h1)
  · by_cases h2 : 8 < l.length
    · rw [if_pos (.inr (.inl h2))] at hr
      subst hr
      exact rmay_many k q a A n c l w (decide_eq_false h1) (decide_eq_true (by omega))
    · have a0 : decide (a < 0) = false := decide_eq_false h1
      have n8 : decide (8 < (n : Int)) = false := decide_eq_false (by omega)
      cases h3 : rightL l with
      | false =>
        rw [if_pos (.inr (.inr h3))] at hr
        subst hr
        exact rmay_wrong k q a A n c l w a0 n8 (HRb _ h3)
      | true =>
        have HR := HRb _ h3
        rw [if_neg (by rw [h3]; rintro (h | h | h) <;> first | exact h1 h | exact h2 h | cases h)] at hr
        by_cases k1 : k = 1
        · have k1b := bt k 1 (by omega)
          rw [if_pos k1] at hr
          by_cases az : a = 0
          · have e : r = decide (l.length = 0) := by rw [← hr, decide_eq_true az]; rfl
            rw [e]
            exact rmay_k1b k q a A n c l w _ a0 n8 k1b (bt _ _ az) nz HR
          · have e : r = false := by rw [← hr, decide_eq_false az]; rfl
            rw [e]
            exact rmay_k1a k q a A n c l w a0 n8 k1b (bf _ _ az) HR
        · have k1b := bf k 1 (by omega)
          rw [if_neg k1] at hr
          by_cases k2 : k = 2
          · rw [if_pos k2] at hr
            subst hr
            exact rmay_k2 k q a A n c l w a0 n8 k1b (bt k 2 (by omega)) HR
          · have k2b := bf k 2 (by omega)
            rw [if_neg k2] at hr
            by_cases k3 : k = 3
            · have k3b := bt k 3 (by omega)
              rw [if_pos k3] at hr
              by_cases qz : q = 0
              · have e : r = decide (l.length = 0) := by rw [← hr, decide_eq_true qz]; rfl
                rw [e]
                exact rmay_k3b k q a A n c l w _ a0 n8 k1b k2b k3b (bt q 0 (by omega)) nz HR
              · have e : r = false := by rw [← hr, decide_eq_false qz]; rfl
                rw [e]
                exact rmay_k3a k q a A n c l w a0 n8 k1b k2b k3b (bf q 0 (by omega)) HR
            · have k3b := bf k 3 (by omega)
              rw [if_neg k3] at hr
              by_cases k4 : k = 4
              · have k4b := bt k 4 (by omega)
                by_cases qz : q = 0
                · by_cases az : a = 0
                  · have e : r = decide (l.length = 0) := by rw [← hr, decide_eq_true qz, decide_eq_true az, decide_eq_true k4]; rfl
                    rw [e]
                    exact rmay_k4b k q a A n c l w _ a0 n8 k1b k2b k3b k4b (bt q 0 (by omega)) (bt _ _ az) nz HR
                  · have e : r = false := by rw [← hr, decide_eq_false az]; simp
                    rw [e]
                    exact rmay_k4a k q a A n c l w a0 n8 k1b k2b k3b k4b (bt q 0 (by omega)) (bf _ _ az) HR
                · have e : r = false := by rw [← hr, decide_eq_false qz]; simp
                  rw [e]
                  exact rmay_k4q k q a A n c l w a0 n8 k1b k2b k3b k4b (bf q 0 (by omega)) HR
              · have e : r = false := by rw [← hr, decide_eq_false k4]; simp
                rw [e]
                exact rmay_k4n k q a A n c l w a0 n8 k1b k2b k3b (bf k 4 (by omega)) HR
end Go.Proofs.YtiflpjdiokloaaaDoor
/-
  Contract of layer 6's reference: Put.
-/
namespace Go.Proofs.YtiflpjdiokloaaaDoor
open Go.RowKit
set_option linter.unusedVariables false

/-- What reads a message in its box. -/
def MsgS (w : World) (g k q : Nat) (a : Int) (v : Value) (w' : World) : Prop :=
  w'.cell? ⟨g, 0, none⟩ = some (.int .u8 (k : Int)) ∧ w'.cell? ⟨g, 1, none⟩ = some (.int .u64 (q : Int)) ∧ w'.cell? ⟨g, 2, none⟩ = some (.int .i64 a) ∧ w'.cell? ⟨g, 3, none⟩ = some v ∧ Hid (g < w'.heap.size ∧ Below w.heap.size w w')
theorem msgS_over {w w1 w2 : World} {g k q : Nat} {a : Int} {v : Value} (h : MsgS w g k q a v w1) (hb : Below w1.heap.size w1 w2) : MsgS w g k q a v w2 := by
  obtain ⟨h1, h2, h3, h4, h5⟩ := h
  have hg := h5.out.1
  exact ⟨(hb.cell (p := ⟨g, 0, none⟩) hg).trans h1, (hb.cell (p := ⟨g, 1, none⟩) hg).trans h2, (hb.cell (p := ⟨g, 2, none⟩) hg).trans h3, (hb.cell (p := ⟨g, 3, none⟩) hg).trans h4, Lib.hid ⟨Nat.lt_of_lt_of_le hg hb.size, bstep h5.out.2 hb⟩⟩
theorem msgS_drew {w w1 : World} {g k q : Nat} {a : Int} {v : Value} (h : MsgS w g k q a v w1) : MsgS w g k q a v w1.drew := msgS_over h (bself w1).drew
theorem msgS_new (w : World) (k q : Nat) (a : Int) (v : Value) (t : TypeId) : MsgS w w.heap.size k q a v (w.alloc (.cells #[.int .u8 (k : Int), .int .u64 (q : Int), .int .i64 a, v] t)) := by
  obtain ⟨m0, m1, m2, m3, _, _, _, _⟩ := blk4 (heap_alloc_new w (.cells #[.int .u8 (k : Int), .int .u64 (q : Int), .int .i64 a, v] t))
  exact ⟨m0, m1, m2, m3, Lib.hid ⟨by simp, bmore (bself w) _⟩⟩
theorem encPs_take (l : List Pr) (k : Nat) (h : k < l.length) : encPs (l.take (k + 1)) = encPs (l.take k) ++ encP l[k] := by
  unfold encPs
  rw [List.take_succ_eq_append_getElem h, List.flatMap_append]
  simp
theorem encPs_len2 : ∀ (l : List Pr), (∀ p ∈ l, p.name.length ≤ 1000 ∧ -9223372036854775808 ≤ p.val ∧ p.val ≤ 9223372036854775807) → (encPs l).length ≤ 1018 * l.length
  | [], _ => by simp [encPs]
  | p :: l, h => by
    obtain ⟨h1, h2, h3⟩ := h p (by simp)
    have hs := sgn_range p.val h2 h3
    have k1 := enc_len p.name.length (by omega)
    have k2 := enc_len (sgn p.val).toNat (by omega)
    have ih := encPs_len2 l fun q hq => h q (by simp [hq])
    have el : (encPs (p :: l)).length = (encP p).length + (encPs l).length := by unfold encPs; simp
    have ep : (encP p).length = (enc p.name.length).length + p.name.length + (enc (sgn p.val).toNat).length := by unfold encP; simp only [List.length_append]
    rw [el, ep]
    simp only [List.length_cons]
    omega
/-- So far. -/
def putTo (q a : Nat) (l : List Pr) (k : Nat) : List UInt8 := enc q ++ enc a ++ enc l.length ++ encPs (l.take k)

/-- What reads the next one. -/
def PutMS (w : World) (g k q a bb off n c j : Nat) (x : Pr) (w' : World) : Prop :=
  w'.cell? ⟨g, 3, none⟩ = some (.slice (some ⟨bb, off, none⟩) n c) ∧ w'.cell? ⟨bb, off + j * 2, none⟩ = some (.string (mkB x.name)) ∧ w'.cell? ⟨bb, off + j * 2 + 1, none⟩ = some (.int .i64 x.val) ∧ Hid (bb < w.heap.size ∧ MsgS w g k q a (.slice (some ⟨bb, off, none⟩) n c) w')
theorem putS_overM {w w1 w2 : World} {g k q a bb off n c j : Nat} {x : Pr} (h : PutMS w g k q a bb off n c j x w1) (hb : Below w1.heap.size w1 w2) : PutMS w g k q a bb off n c j x w2 := by
  obtain ⟨h1, h2, h3, h4⟩ := h
  have hm := msgS_over h4.out.2 hb
  have hbb : bb < w1.heap.size := Nat.lt_of_lt_of_le h4.out.1 h4.out.2.2.2.2.2.out.2.size
  exact ⟨hm.2.2.2.1, (hb.cell (p := ⟨bb, off + j * 2, none⟩) hbb).trans h2, (hb.cell (p := ⟨bb, off + j * 2 + 1, none⟩) hbb).trans h3, Lib.hid ⟨h4.out.1, hm⟩⟩
theorem putS_drewM {w w1 : World} {g k q a bb off n c j : Nat} {x : Pr} (h : PutMS w g k q a bb off n c j x w1) : PutMS w g k q a bb off n c j x w1.drew := putS_overM h (bself w1).drew

set_option maxRecDepth 100000 in
set_option maxHeartbeats 1000000 in
theorem rputm_any (k q a : Nat) (A : Option Addr) (n c : Nat) (l : List Pr) (w : World) (hq : q ≤ 18446744073709551615) (ha : a ≤ 9223372036854775807) (hl : Props w w.heap.size (.slice A n c) l) (hm : l.length ≤ 1000) (hf : ∀ p ∈ l, p.name.length ≤ 1000 ∧ -9223372036854775808 ≤ p.val ∧ p.val ≤ 9223372036854775807) :
    Calls Tryd.prog 16 #[.agg #[.int .u8 (k : Int), .int .u64 (q : Int), .int .i64 (a : Int), .slice A n c]] w fun e w' => e = .returned (.string (mkB (putM ⟨k, q, a, l⟩))) ∧ Below w.heap.size w w' := by
  obtain ⟨hn, _⟩ := hl.len
  have HQ := Lib.hid (fun w => rnum_any q w hq)
  have HA := Lib.hid (fun w => rnum_any a w (by omega))
  have HN := Lib.hid (fun w => rnum_any n w (by omega))
  have hwa : IntKind.u64.wrap (a : Int) = (a : Int) := IntWalk.u64_in _ (by omega)
  have hwn : IntKind.u64.wrap (n : Int) = (n : Int) := IntWalk.u64_in _ (by omega)
  have HS := msgS_new w k q a (.slice A n c) 28
  have HL := Lib.hid (And.intro hl (And.intro hn (And.intro hm hf)))
  have HPL : Hid (∀ j, (putTo q a l j).length ≤ 1100000) := Lib.hid fun j => by
    have e1 := enc_len q hq
    have e2 := enc_len a (by omega)
    have e3 := enc_len l.length (by omega)
    have e4 := encPs_len2 (l.take j) fun p hp => hf p (List.mem_of_mem_take hp)
    have e5 : (l.take j).length ≤ 1000 := by rw [List.length_take]; omega
    unfold putTo
    simp only [List.length_append]
    omega
  have HR : Hid (putM ⟨k, q, (a : Int), l⟩ = if k = 1 then enc q else if k = 3 then enc a else if k = 4 then [] else putTo q a l l.length) := Lib.hid (by unfold putM putTo; rw [List.take_length]; rfl)
  have h1 := enc_len q hq
  have h2 := enc_len a (by omega)
  have h3 := enc_len n (by omega)
  have a1 : ∀ w : World, (Op.stringOp .add (mkB (enc q)) (mkB (enc a))).run Tryd.prog w = .ok (.string (mkB (enc q ++ enc a))) w := fun w => run_add w _ _ (by omega)
  have a2 : ∀ w : World, (Op.stringOp .add (mkB (enc q ++ enc a)) (mkB (enc n))).run Tryd.prog w = .ok (.string (mkB (putTo q a l 0))) w := fun w => by
    rw [run_add w _ _ (by rw [List.length_append]; omega), hn]
    unfold putTo encPs
    rw [List.take_zero, List.flatMap_nil, List.append_nil]
  clear hl hm hf h1 h2 h3 hn
  by_cases k1 : k = 1
  · have e := HR.out
    rw [if_pos k1] at e
    rw [e]
    have kb : ((k : Int) == 1) = true := by simp [k1]
    clear k1
    obtain ⟨m0, m1, m2, m3, m4⟩ := HS
    clear a1 a2 e
    go_enter Tryd.func16, Tryd.ntmps16
    go_wp2_with (go_at_call 31; (with_reducible refine (HQ.out _).mono ?_); rintro e w1 ⟨rfl, hb⟩; have HB := Lib.hid (bstep m4.out.2 hb); clear hb)
    go_ret
    exact ⟨rfl, HB.out⟩
  · have kb1 : ((k : Int) == 1) = false := by simp; omega
    by_cases k3 : k = 3
    · have e := HR.out
      rw [if_neg k1, if_pos k3] at e
      rw [e]
      have kb3 : ((k : Int) == 3) = true := by simp [k3]
      clear k3
      obtain ⟨m0, m1, m2, m3, m4⟩ := HS
      clear a1 a2 e
      go_enter Tryd.func16, Tryd.ntmps16
      go_wp2_with (go_at_call 31; (with_reducible refine (HA.out _).mono ?_); rintro e w1 ⟨rfl, hb⟩; have HB := Lib.hid (bstep m4.out.2 hb); clear hb)
      go_ret
      exact ⟨rfl, HB.out⟩
    · have kb3 : ((k : Int) == 3) = false := by simp; omega
      by_cases k4 : k = 4
      · have e := HR.out
        rw [if_neg k1, if_neg k3, if_pos k4] at e
        rw [e]
        have kb4 : ((k : Int) == 4) = true := by simp [k4]
        clear k4
        obtain ⟨m0, m1, m2, m3, m4⟩ := HS
        clear a1 a2 e
        go_enter Tryd.func16, Tryd.ntmps16
        go_wp2
        go_ret
        exact ⟨rfl, m4.out.2⟩
      · have kb4 : ((k : Int) == 4) = false := by simp; omega
        have e := HR.out
        rw [if_neg k1, if_neg k3, if_neg k4] at e
        rw [e]
        clear e HR k1 k3 k4
        obtain ⟨m0, m1, m2, m3, m4⟩ := id HS
        go_enter Tryd.func16, Tryd.ntmps16
        go_wp2
        clear m0 m1 m2 m3 m4
        obtain ⟨g, hg⟩ : ∃ g, g = w.heap.size := ⟨_, rfl⟩
        obtain ⟨wz, hwz⟩ : ∃ wz, wz = w.alloc (.cells #[.int .u8 (k : Int), .int .u64 (q : Int), .int .i64 (a : Int), .slice A n c] 28) := ⟨_, rfl⟩
        have hS : MsgS w g k q a (.slice A n c) wz := by rw [hg, hwz]; exact HS
        unfold MsgS at hS
        rw [← hwz, ← hg]
        clear hwz hg HS
        refine wp_region_held_drew (S := fun w' => w'.cell? ⟨g, 0, none⟩ = some (.int .u8 (k : Int)) ∧ w'.cell? ⟨g, 1, none⟩ = some (.int .u64 (q : Int)) ∧ w'.cell? ⟨g, 2, none⟩ = some (.int .i64 (a : Int)) ∧ w'.cell? ⟨g, 3, none⟩ = some (.slice A n c) ∧ Hid (g < w'.heap.size ∧ Below w.heap.size w w')) (by kernel_rfl) ?_ (fun hHeld => ?_)
        · (try dsimp only)
          (first | assumption | exact msgS_drew (by assumption))
        refine wpAnyH_take (i := 0) (v := ?_) rfl (by kernel_rfl) (by kernel_rfl) (by kernel_rfl) (fun _ _ _ h => h) (Or.inl ⟨by rfl, ?_⟩) (by assumption) ?_
        rotate_left
        · intro w hSw
          (try dsimp only at hSw)
          go_simp
          try with_reducible rfl
        (try simp only [Act.put, List.getElem_toArray, List.getElem_cons_zero, List.setIfInBounds_toArray, List.set_cons_zero, List.set_cons_succ])
        refine wpAnyH_take (i := 1) (v := ?_) rfl (by kernel_rfl) (by kernel_rfl) (by kernel_rfl) (fun _ _ _ h => h) (Or.inl ⟨by rfl, ?_⟩) (by assumption) ?_
        rotate_left
        · intro w hSw
          (try dsimp only at hSw)
          go_simp
          try with_reducible rfl
        (try simp only [Act.put, List.getElem_toArray, List.getElem_cons_succ, List.getElem_cons_zero, List.setIfInBounds_toArray, List.set_cons_zero, List.set_cons_succ])
        refine wpAnyH_take (i := 3) (v := ?_) rfl (by kernel_rfl) (by kernel_rfl) (by kernel_rfl) (fun _ _ _ h => h) (Or.inl ⟨by rfl, ?_⟩) (by assumption) ?_
        rotate_left
        · intro w hSw
          (try dsimp only at hSw)
          go_simp
          try with_reducible rfl
        (try simp only [Act.put, List.getElem_toArray, List.getElem_cons_succ, List.getElem_cons_zero, List.setIfInBounds_toArray, List.set_cons_zero, List.set_cons_succ])
        refine wpAnyH_take (i := 4) (v := ?_) rfl (by kernel_rfl) (by kernel_rfl) (by kernel_rfl) (fun _ _ _ h => h) (Or.inl ⟨by rfl, ?_⟩) (by assumption) ?_
        rotate_left
        · intro w hSw
          (try dsimp only at hSw)
          go_simp
          try with_reducible rfl
        (try simp only [Act.put, List.getElem_toArray, List.getElem_cons_succ, List.getElem_cons_zero, List.setIfInBounds_toArray, List.set_cons_zero, List.set_cons_succ])
        refine wpAnyH_take (i := 5) (v := ?_) rfl (by kernel_rfl) (by kernel_rfl) (by kernel_rfl) (fun _ _ _ h => h) (Or.inl ⟨by rfl, ?_⟩) (by assumption) ?_
        rotate_left
        · intro w hSw
          (try dsimp only at hSw)
          go_simp
          try with_reducible rfl
        (try simp only [Act.put, List.getElem_toArray, List.getElem_cons_succ, List.getElem_cons_zero, List.setIfInBounds_toArray, List.set_cons_zero, List.set_cons_succ])
        refine wpAnyH_take (i := 8) (v := ?_) rfl (by kernel_rfl) (by kernel_rfl) (by kernel_rfl) (fun _ _ _ h => h) (Or.inl ⟨by rfl, ?_⟩) (by assumption) ?_
        rotate_left
        · intro w hSw
          (try dsimp only at hSw)
          go_simp
          try with_reducible rfl
        (try simp only [Act.put, List.getElem_toArray, List.getElem_cons_succ, List.getElem_cons_zero, List.setIfInBounds_toArray, List.set_cons_zero, List.set_cons_succ])
        refine wpAnyH_take (i := 9) (v := ?_) rfl (by kernel_rfl) (by kernel_rfl) (by kernel_rfl) (fun _ _ _ h => h) (Or.inl ⟨by rfl, ?_⟩) (by assumption) ?_
        rotate_left
        · intro w hSw
          (try dsimp only at hSw)
          go_simp
          try with_reducible rfl
        (try simp only [Act.put, List.getElem_toArray, List.getElem_cons_succ, List.getElem_cons_zero, List.setIfInBounds_toArray, List.set_cons_zero, List.set_cons_succ])
        refine wpAnyH_take (i := 10) (v := ?_) rfl (by kernel_rfl) (by kernel_rfl) (by kernel_rfl) (fun _ _ _ h => h) (Or.inl ⟨by rfl, ?_⟩) (by assumption) ?_
        rotate_left
        · intro w hSw
          (try dsimp only at hSw)
          go_simp
          try with_reducible rfl
        (try simp only [Act.put, List.getElem_toArray, List.getElem_cons_succ, List.getElem_cons_zero, List.setIfInBounds_toArray, List.set_cons_zero, List.set_cons_succ])
        refine wpAnyH_take (i := 11) (v := ?_) rfl (by kernel_rfl) (by kernel_rfl) (by kernel_rfl) (fun _ _ _ h => h) (Or.inl ⟨by rfl, ?_⟩) (by assumption) ?_
        rotate_left
        · intro w hSw
          (try dsimp only at hSw)
          go_simp
          try with_reducible rfl
        (try simp only [Act.put, List.getElem_toArray, List.getElem_cons_succ, List.getElem_cons_zero, List.setIfInBounds_toArray, List.set_cons_zero, List.set_cons_succ])
        refine wpAnyH_ready (rs := [2]) (by kernel_rfl) (by simp) ?_
        refine AllReadyH.cons rfl (fun K hK => ?_) AllReadyH.nil
        go_simp
        (go_at_call 31; ((with_reducible refine (HQ.out _).mono ?_); rintro e w2 ⟨rfl, hb⟩; have hsw2 := msgS_over hHeld hb; clear hb))
        go_wp2_with fail
        refine hK.out _ _ ?_ (fun hHeld => ?_)
        · (try dsimp only)
          (first | assumption | exact msgS_drew (by assumption))
        clear hK K
        (try simp only [Act.put, List.getElem_toArray, List.getElem_cons_succ, List.getElem_cons_zero, List.setIfInBounds_toArray, List.set_cons_zero, List.set_cons_succ])
        refine wpAnyH_ready (rs := [6]) (by kernel_rfl) (by simp) ?_
        refine AllReadyH.cons rfl (fun K hK => ?_) AllReadyH.nil
        go_simp
        (go_at_call 31; ((with_reducible refine (HA.out _).mono ?_); rintro e w3 ⟨rfl, hb⟩; have hsw3 := msgS_over hHeld hb; clear hb))
        go_wp2_with fail
        refine hK.out _ _ ?_ (fun hHeld => ?_)
        · (try dsimp only)
          (first | assumption | exact msgS_drew (by assumption))
        clear hK K
        (try simp only [Act.put, List.getElem_toArray, List.getElem_cons_succ, List.getElem_cons_zero, List.setIfInBounds_toArray, List.set_cons_zero, List.set_cons_succ])
        refine wpAnyH_take (i := 7) (v := ?_) rfl (by kernel_rfl) (by kernel_rfl) (by kernel_rfl) (fun _ _ _ h => h) (Or.inl ⟨by rfl, ?_⟩) (by assumption) ?_
        rotate_left
        · intro w hSw
          (try dsimp only at hSw)
          go_simp
          try with_reducible rfl
        (try simp only [Act.put, List.getElem_toArray, List.getElem_cons_succ, List.getElem_cons_zero, List.setIfInBounds_toArray, List.set_cons_zero, List.set_cons_succ])
        refine wpAnyH_ready (rs := [12]) (by kernel_rfl) (by simp) ?_
        refine AllReadyH.cons rfl (fun K hK => ?_) AllReadyH.nil
        go_simp
        (go_at_call 31; ((with_reducible refine (HN.out _).mono ?_); rintro e w4 ⟨rfl, hb⟩; have hsw4 := msgS_over hHeld hb; clear hb))
        go_wp2_with fail
        refine hK.out _ _ ?_ (fun hHeld => ?_)
        · (try dsimp only)
          (first | assumption | exact msgS_drew (by assumption))
        clear hK K
        (try simp only [Act.put, List.getElem_toArray, List.getElem_cons_succ, List.getElem_cons_zero, List.setIfInBounds_toArray, List.set_cons_zero, List.set_cons_succ])
        refine wpAnyH_take (i := 13) (v := ?_) rfl (by kernel_rfl) (by kernel_rfl) (by kernel_rfl) (fun _ _ _ h => h) (Or.inl ⟨by rfl, ?_⟩) (by assumption) ?_
        rotate_left
        · intro w hSw
          (try dsimp only at hSw)
          go_simp
          try with_reducible rfl
        (try simp only [Act.put, List.getElem_toArray, List.getElem_cons_succ, List.getElem_cons_zero, List.setIfInBounds_toArray, List.set_cons_zero, List.set_cons_succ])
        refine wpAnyH_take (i := 14) (v := ?_) rfl (by kernel_rfl) (by kernel_rfl) (by kernel_rfl) (fun _ _ _ h => h) (Or.inl ⟨by rfl, ?_⟩) (by assumption) ?_
        rotate_left
        · intro w hSw
          (try dsimp only at hSw)
          go_simp
          try with_reducible rfl
        (try simp only [Act.put, List.getElem_toArray, List.getElem_cons_succ, List.getElem_cons_zero, List.setIfInBounds_toArray, List.set_cons_zero, List.set_cons_succ])
        refine wpAnyH_done (by kernel_rfl) ?_ _
        have HP0 : Hid (MsgS w g k q a (.slice A n c) w4) := Lib.hid hHeld
        clear hHeld a1 a2 hwn hwa
        go_wp2
        go_loopw [3, 4] (fun v i wr => ∃ (j : Nat), j ≤ n ∧ v = .string (mkB (putTo q a l j)) ∧ i = .int .i64 j ∧ Hid (MsgS w g k q a (.slice A n c) wr)) (fun _ i _ => n - (intOf i).toNat)
        case atStart => exact ⟨0, Nat.zero_le _, rfl, rfl, HP0⟩
        case round =>
          obtain ⟨j, hj, rfl, rfl, HP⟩ := hrel
          by_cases hlt : j < n
          · have hjl : j < l.length := by have := HL.out.2.1; omega
            obtain ⟨bb, off, rfl⟩ := HL.out.1.some_ (by omega)
            obtain ⟨hbb, c0, c1⟩ := HL.out.1.cells j hjl
            obtain ⟨x, hx⟩ : ∃ x, l[j] = x := ⟨_, rfl⟩
            have hS : PutMS w g k q a bb off n c j x wr := by
              have hB := HP.out.2.2.2.2.out.2
              rw [← hx]
              exact ⟨HP.out.2.2.2.1, (hB.cell (p := ⟨bb, off + j * 2, none⟩) hbb).trans c0, (hB.cell (p := ⟨bb, off + j * 2 + 1, none⟩) hbb).trans c1, Lib.hid ⟨hbb, HP.out⟩⟩
            obtain ⟨f1, f2, f3⟩ := HL.out.2.2.2 x (by rw [← hx]; exact List.getElem_mem hjl)
            have hsr := sgn_range x.val f2 f3
            obtain ⟨u, hu⟩ : ∃ u, u = (sgn x.val).toNat := ⟨_, rfl⟩
            have hus : sgn x.val = (u : Int) := by omega
            obtain ⟨te, hte⟩ : ∃ te, te = enc x.name.length ++ x.name := ⟨_, rfl⟩
            have hen := enc_len x.name.length (by omega)
            have hel := enc_len u (by omega)
            have htl : te.length ≤ 1009 := by rw [hte, List.length_append]; omega
            have HTx : Hid (∀ w : World, Calls Tryd.prog 32 #[.string (mkB x.name)] w fun e w' => e = .returned (.string (mkB te)) ∧ Below w.heap.size w w') := Lib.hid fun w => by
              have h := rtext_any (mkB x.name) w (by rw [mkB_size]; omega)
              rw [mkB_size] at h
              rw [hte]
              exact h
            have HSg : Hid (∀ w : World, Calls Tryd.prog 33 #[.int .i64 x.val] w fun e w' => e = .returned (.int .u64 (u : Int)) ∧ Below w.heap.size w w') := Lib.hid fun w => by
              have h := rsign_any x.val w f2 f3
              rw [hus] at h
              exact h.mono fun e w' ⟨h1, h2⟩ => ⟨h1, h2 ▸ bself w⟩
            have HNu := Lib.hid (fun w => rnum_any u w (by omega))
            have ep : te ++ enc u = encP x := by rw [hte, hu]; rfl
            have epl : (encP x).length ≤ 1018 := by rw [← ep, List.length_append]; omega
            have b1 : ∀ w : World, (Op.stringOp .add (mkB te) (mkB (enc u))).run Tryd.prog w = .ok (.string (mkB (encP x))) w := fun w => by rw [run_add w _ _ (by omega), ep]
            have hpt : putTo q a l j ++ encP x = putTo q a l (j + 1) := by unfold putTo; rw [encPs_take l j hjl, hx]; simp only [List.append_assoc]
            have b2 : ∀ w : World, (Op.stringOp .add (mkB (putTo q a l j)) (mkB (encP x))).run Tryd.prog w = .ok (.string (mkB (putTo q a l (j + 1)))) w := fun w => by rw [run_add w _ _ (by have := HPL.out j; omega), hpt]
            have hlt2 : ((j : Nat) : Int) < (n : Int) := by omega
            have hjn : (j : Int) ≤ 1000 := by have := HL.out.2.2.1; omega
            clear c0 c1 hx f1 f2 f3 hsr hu hus hte hen hel htl ep epl hpt hbb hjl
            unfold PutMS at hS
            obtain ⟨m0, _, _, _⟩ := id hS
            go_wp2
            clear m0
            refine wp_region_held_drew (S := fun w' => w'.cell? ⟨g, 3, none⟩ = some (.slice (some ⟨bb, off, none⟩) n c) ∧ w'.cell? ⟨bb, off + j * 2, none⟩ = some (.string (mkB x.name)) ∧ w'.cell? ⟨bb, off + j * 2 + 1, none⟩ = some (.int .i64 x.val) ∧ Hid (bb < w.heap.size ∧ MsgS w g k q a (.slice (some ⟨bb, off, none⟩) n c) w')) (by kernel_rfl) ?_ (fun hHeld => ?_)
            · (try dsimp only)
              (first | assumption | exact putS_drewM (by assumption))
            refine wpAnyH_take (i := 0) (v := ?_) rfl (by kernel_rfl) (by kernel_rfl) (by kernel_rfl) (fun _ _ _ h => h) (Or.inl ⟨by rfl, ?_⟩) (by assumption) ?_
            rotate_left
            · intro w hSw
              (try dsimp only at hSw)
              go_simp
              try with_reducible rfl
            (try simp only [Act.put, List.getElem_toArray, List.getElem_cons_zero, List.setIfInBounds_toArray, List.set_cons_zero, List.set_cons_succ])
            refine wpAnyH_take (i := 1) (v := ?_) rfl (by kernel_rfl) (by kernel_rfl) (by kernel_rfl) (fun _ _ _ h => h) (Or.inl ⟨by rfl, ?_⟩) (by assumption) ?_
            rotate_left
            · intro w hSw
              (try dsimp only at hSw)
              go_simp
              try with_reducible rfl
            (try simp only [Act.put, List.getElem_toArray, List.getElem_cons_succ, List.getElem_cons_zero, List.setIfInBounds_toArray, List.set_cons_zero, List.set_cons_succ])
            refine wpAnyH_take (i := 2) (v := ?_) rfl (by kernel_rfl) (by kernel_rfl) (by kernel_rfl) (fun _ _ _ h => h) (Or.inl ⟨by rfl, ?_⟩) (by assumption) ?_
            rotate_left
            · intro w hSw
              (try dsimp only at hSw)
              go_simp
              try with_reducible rfl
            (try simp only [Act.put, List.getElem_toArray, List.getElem_cons_succ, List.getElem_cons_zero, List.setIfInBounds_toArray, List.set_cons_zero, List.set_cons_succ])
            refine wpAnyH_take (i := 3) (v := ?_) rfl (by kernel_rfl) (by kernel_rfl) (by kernel_rfl) (fun _ _ _ h => h) (Or.inl ⟨by rfl, ?_⟩) (by assumption) ?_
            rotate_left
            · intro w hSw
              (try dsimp only at hSw)
              go_simp
              try with_reducible rfl
            (try simp only [Act.put, List.getElem_toArray, List.getElem_cons_succ, List.getElem_cons_zero, List.setIfInBounds_toArray, List.set_cons_zero, List.set_cons_succ])
            refine wpAnyH_take (i := 4) (v := ?_) rfl (by kernel_rfl) (by kernel_rfl) (by kernel_rfl) (fun _ _ _ h => h) (Or.inl ⟨by rfl, ?_⟩) (by assumption) ?_
            rotate_left
            · intro w hSw
              (try dsimp only at hSw)
              go_simp
              try with_reducible rfl
            (try simp only [Act.put, List.getElem_toArray, List.getElem_cons_succ, List.getElem_cons_zero, List.setIfInBounds_toArray, List.set_cons_zero, List.set_cons_succ])
            refine wpAnyH_take (i := 5) (v := ?_) rfl (by kernel_rfl) (by kernel_rfl) (by kernel_rfl) (fun _ _ _ h => h) (Or.inl ⟨by rfl, ?_⟩) (by assumption) ?_
            rotate_left
            · intro w hSw
              (try dsimp only at hSw)
              go_simp
              try with_reducible rfl
            (try simp only [Act.put, List.getElem_toArray, List.getElem_cons_succ, List.getElem_cons_zero, List.setIfInBounds_toArray, List.set_cons_zero, List.set_cons_succ])
            refine wpAnyH_take (i := 6) (v := ?_) rfl (by kernel_rfl) (by kernel_rfl) (by kernel_rfl) (fun _ _ _ h => h) (Or.inl ⟨by rfl, ?_⟩) (by assumption) ?_
            rotate_left
            · intro w hSw
              (try dsimp only at hSw)
              go_simp
              try with_reducible rfl
            (try simp only [Act.put, List.getElem_toArray, List.getElem_cons_succ, List.getElem_cons_zero, List.setIfInBounds_toArray, List.set_cons_zero, List.set_cons_succ])
            refine wpAnyH_take (i := 8) (v := ?_) rfl (by kernel_rfl) (by kernel_rfl) (by kernel_rfl) (fun _ _ _ h => h) (Or.inl ⟨by rfl, ?_⟩) (by assumption) ?_
            rotate_left
            · intro w hSw
              (try dsimp only at hSw)
              go_simp
              try with_reducible rfl
            (try simp only [Act.put, List.getElem_toArray, List.getElem_cons_succ, List.getElem_cons_zero, List.setIfInBounds_toArray, List.set_cons_zero, List.set_cons_succ])
            refine wpAnyH_take (i := 9) (v := ?_) rfl (by kernel_rfl) (by kernel_rfl) (by kernel_rfl) (fun _ _ _ h => h) (Or.inl ⟨by rfl, ?_⟩) (by assumption) ?_
            rotate_left
            · intro w hSw
              (try dsimp only at hSw)
              go_simp
              try with_reducible rfl
            (try simp only [Act.put, List.getElem_toArray, List.getElem_cons_succ, List.getElem_cons_zero, List.setIfInBounds_toArray, List.set_cons_zero, List.set_cons_succ])
            refine wpAnyH_take (i := 10) (v := ?_) rfl (by kernel_rfl) (by kernel_rfl) (by kernel_rfl) (fun _ _ _ h => h) (Or.inl ⟨by rfl, ?_⟩) (by assumption) ?_
            rotate_left
            · intro w hSw
              (try dsimp only at hSw)
              go_simp
              try with_reducible rfl
            (try simp only [Act.put, List.getElem_toArray, List.getElem_cons_succ, List.getElem_cons_zero, List.setIfInBounds_toArray, List.set_cons_zero, List.set_cons_succ])
            refine wpAnyH_take (i := 11) (v := ?_) rfl (by kernel_rfl) (by kernel_rfl) (by kernel_rfl) (fun _ _ _ h => h) (Or.inl ⟨by rfl, ?_⟩) (by assumption) ?_
            rotate_left
            · intro w hSw
              (try dsimp only at hSw)
              go_simp
              try with_reducible rfl
            (try simp only [Act.put, List.getElem_toArray, List.getElem_cons_succ, List.getElem_cons_zero, List.setIfInBounds_toArray, List.set_cons_zero, List.set_cons_succ])
            refine wpAnyH_take (i := 12) (v := ?_) rfl (by kernel_rfl) (by kernel_rfl) (by kernel_rfl) (fun _ _ _ h => h) (Or.inl ⟨by rfl, ?_⟩) (by assumption) ?_
            rotate_left
            · intro w hSw
              (try dsimp only at hSw)
              go_simp
              try with_reducible rfl
            (try simp only [Act.put, List.getElem_toArray, List.getElem_cons_succ, List.getElem_cons_zero, List.setIfInBounds_toArray, List.set_cons_zero, List.set_cons_succ])
            refine wpAnyH_take (i := 13) (v := ?_) rfl (by kernel_rfl) (by kernel_rfl) (by kernel_rfl) (fun _ _ _ h => h) (Or.inl ⟨by rfl, ?_⟩) (by assumption) ?_
            rotate_left
            · intro w hSw
              (try dsimp only at hSw)
              go_simp
              try with_reducible rfl
            (try simp only [Act.put, List.getElem_toArray, List.getElem_cons_succ, List.getElem_cons_zero, List.setIfInBounds_toArray, List.set_cons_zero, List.set_cons_succ])
            refine wpAnyH_ready (rs := [7]) (by kernel_rfl) (by simp) ?_
            refine AllReadyH.cons rfl (fun K hK => ?_) AllReadyH.nil
            go_simp
            (go_at_call 32; ((with_reducible refine (HTx.out _).mono ?_); rintro e w2 ⟨rfl, hb⟩; have hsw2 := putS_overM hHeld hb; clear hb))
            go_wp2_with fail
            refine hK.out _ _ ?_ (fun hHeld => ?_)
            · (try dsimp only)
              (first | assumption | exact putS_drewM (by assumption))
            clear hK K
            (try simp only [Act.put, List.getElem_toArray, List.getElem_cons_succ, List.getElem_cons_zero, List.setIfInBounds_toArray, List.set_cons_zero, List.set_cons_succ])
            refine wpAnyH_ready (rs := [14]) (by kernel_rfl) (by simp) ?_
            refine AllReadyH.cons rfl (fun K hK => ?_) AllReadyH.nil
            go_simp
            (go_at_call 33; ((with_reducible refine (HSg.out _).mono ?_); rintro e w3 ⟨rfl, hb⟩; have hsw3 := putS_overM hHeld hb; clear hb))
            go_wp2_with fail
            refine hK.out _ _ ?_ (fun hHeld => ?_)
            · (try dsimp only)
              (first | assumption | exact putS_drewM (by assumption))
            clear hK K
            (try simp only [Act.put, List.getElem_toArray, List.getElem_cons_succ, List.getElem_cons_zero, List.setIfInBounds_toArray, List.set_cons_zero, List.set_cons_succ])
            refine wpAnyH_ready (rs := [15]) (by kernel_rfl) (by simp) ?_
            refine AllReadyH.cons rfl (fun K hK => ?_) AllReadyH.nil
            go_simp
            (go_at_call 31; ((with_reducible refine (HNu.out _).mono ?_); rintro e w4 ⟨rfl, hb⟩; have hsw4 := putS_overM hHeld hb; clear hb))
            go_wp2_with fail
            refine hK.out _ _ ?_ (fun hHeld => ?_)
            · (try dsimp only)
              (first | assumption | exact putS_drewM (by assumption))
            clear hK K
            (try simp only [Act.put, List.getElem_toArray, List.getElem_cons_succ, List.getElem_cons_zero, List.setIfInBounds_toArray, List.set_cons_zero, List.set_cons_succ])
            refine wpAnyH_take (i := 16) (v := ?_) rfl (by kernel_rfl) (by kernel_rfl) (by kernel_rfl) (fun _ _ _ h => h) (Or.inl ⟨by rfl, ?_⟩) (by assumption) ?_
            rotate_left
            · intro w hSw
              (try dsimp only at hSw)
              go_simp
              try with_reducible rfl
            (try simp only [Act.put, List.getElem_toArray, List.getElem_cons_succ, List.getElem_cons_zero, List.setIfInBounds_toArray, List.set_cons_zero, List.set_cons_succ])
            refine wpAnyH_take (i := 17) (v := ?_) rfl (by kernel_rfl) (by kernel_rfl) (by kernel_rfl) (fun _ _ _ h => h) (Or.inl ⟨by rfl, ?_⟩) (by assumption) ?_
            rotate_left
            · intro w hSw
              (try dsimp only at hSw)
              go_simp
              try with_reducible rfl
            (try simp only [Act.put, List.getElem_toArray, List.getElem_cons_succ, List.getElem_cons_zero, List.setIfInBounds_toArray, List.set_cons_zero, List.set_cons_succ])
            refine wpAnyH_take (i := 18) (v := ?_) rfl (by kernel_rfl) (by kernel_rfl) (by kernel_rfl) (fun _ _ _ h => h) (Or.inl ⟨by rfl, ?_⟩) (by assumption) ?_
            rotate_left
            · intro w hSw
              (try dsimp only at hSw)
              go_simp
              try with_reducible rfl
            (try simp only [Act.put, List.getElem_toArray, List.getElem_cons_succ, List.getElem_cons_zero, List.setIfInBounds_toArray, List.set_cons_zero, List.set_cons_succ])
            refine wpAnyH_done (by kernel_rfl) ?_ _
            have HP2 := Lib.hid hHeld.2.2.2.out.2
            go_wp2
            go_roundw
            case rel => exact ⟨j + 1, by omega, rfl, by go_num, HP2⟩
            case measure => simp [intOf]; omega
          · have hlt2 : ¬ ((j : Nat) : Int) < (n : Int) := by omega
            have HK := Lib.hid (show j = l.length by have := HL.out.2.1; omega)
            obtain ⟨_, _, _, m3, _⟩ := id HP.out
            clear hlt
            go_wp2
            go_ret
            exact ⟨by rw [HK.out]; rfl, HP.out.2.2.2.2.out.2⟩
end Go.Proofs.YtiflpjdiokloaaaDoor
/-
  Contracts of layer 6's law's 'few' and 'plain'.
-/
namespace Go.Proofs.YtiflpjdiokloaaaDoor
open Go.RowKit
set_option linter.unusedVariables false

def short6 (p : Pr) : Bool := decide (p.name.length ≤ 40)
def few6L (l : List Pr) : Bool := l.all short6 && decide (l.length ≤ 21)
theorem few6_len {l : List Pr} (h : few6L l = true) : l.length ≤ 21 ∧ ∀ p ∈ l, p.name.length ≤ 40 := by
  unfold few6L at h
  rw [Bool.and_eq_true, decide_eq_true_eq, List.all_eq_true] at h
  exact ⟨h.2, fun p hp => by have := h.1 p hp; simpa [short6] using this⟩
theorem few6_bad {l : List Pr} {k : Nat} (hk : k < l.length) (h : 40 < l[k].name.length) : few6L l = false := by
  unfold few6L
  have : l.all short6 = false := by
    rw [List.all_eq_false]
    exact ⟨l[k], List.getElem_mem hk, by unfold short6; rw [decide_eq_true_eq]; omega⟩
  rw [this]
  rfl
theorem few6_long {l : List Pr} (h : 21 < l.length) : few6L l = false := by
  unfold few6L
  rw [decide_eq_false (by omega), Bool.and_false]
theorem few6_next {l : List Pr} {k : Nat} (hk : k < l.length) (h : (l.take k).all short6 = true) (h2 : ¬ 40 < l[k].name.length) : (l.take (k + 1)).all short6 = true := by
  rw [List.take_succ_eq_append_getElem hk, List.all_append, h]
  simp [short6]
  omega
set_option maxRecDepth 100000 in
theorem few6_any (k q : Nat) (a : Int) (A : Option Addr) (n c : Nat) (l : List Pr) (w : World) (hl : Props w w.heap.size (.slice A n c) l) {f : Bool} (hf : few6L l = f) :
    Calls Tryd.prog 9 #[.agg #[.int .u8 (k : Int), .int .u64 (q : Int), .int .i64 a, .slice A n c]] w fun e w' => e = .returned (.bool f) ∧ Below w.heap.size w w' := by
  obtain ⟨hn, _⟩ := hl.len
  have HB0 := Lib.hid (bmore (bself w) (.cells #[.int .u8 (k : Int), .int .u64 (q : Int), .int .i64 a, .slice A n c] 25))
  have HL := Lib.hid (hl.over (Nat.le_refl _) HB0.out)
  have HN := Lib.hid hn
  have HQ := Lib.hid hf
  obtain ⟨_, _, _, m3, _, _, _, _⟩ := blk4 (heap_alloc_new w (.cells #[.int .u8 (k : Int), .int .u64 (q : Int), .int .i64 a, .slice A n c] 25))
  clear hl hn hf
  go_enter Tryd.func9, Tryd.ntmps9
  go_wp2
  generalize w.alloc (Obj.cells #[Value.int IntKind.u8 (k : Int), Value.int IntKind.u64 (q : Int), Value.int IntKind.i64 a, Value.slice A n c] 25) = wz at HL HB0 m3 ⊢
  obtain ⟨g, hg⟩ : ∃ g, g = w.heap.size := ⟨_, rfl⟩
  rw [← hg] at m3 ⊢
  clear hg
  go_loop [3] (fun i => ∃ (j : Nat), j ≤ n ∧ i = .int .i64 j ∧ Hid ((l.take j).all short6 = true ∧ j ≤ 21)) (fun i => n - (intOf i).toNat)
  case atStart => exact ⟨0, Nat.zero_le _, rfl, Lib.hid ⟨rfl, by omega⟩⟩
  case round =>
    obtain ⟨j, hj, rfl, HP⟩ := hrel
    have hj9 : (j : Int) ≤ 21 := by have := HP.out.2; omega
    by_cases hlt : j < n
    · have hkl : j < l.length := by have := HN.out; omega
      obtain ⟨bb, off, rfl⟩ := HL.out.some_ (by omega)
      obtain ⟨hbb, e0, e1⟩ := HL.out.cells j hkl
      have hlt2 : ((j : Nat) : Int) < (n : Int) := by omega
      have hsz : (mkB l[j].name).size = l[j].name.length := mkB_size _
      by_cases hs : 40 < l[j].name.length
      · have HB := Lib.hid (few6_bad hkl hs)
        generalize l[j] = x at e0 e1 hsz hs
        generalize x.name.length = z at hsz hs
        have hs2 : (40 : Int) < (z : Int) := by omega
        clear hs
        go_wp2
        go_ret
        exact ⟨by rw [← HQ.out, HB.out]; rfl, HB0.out⟩
      · have HB := Lib.hid (few6_next hkl HP.out.1 hs)
        have HKL := Lib.hid hkl
        generalize l[j] = x at e0 e1 hsz hs
        generalize x.name.length = z at hsz hs
        have hs2 : ¬ (40 : Int) < (z : Int) := by omega
        by_cases h20 : 20 < j
        · have HB2 := Lib.hid (few6_long (l := l) (by have := HKL.out; omega))
          have h21 : (20 : Int) < (j : Int) := by omega
          clear hs h20
          go_wp2
          go_ret
          exact ⟨by rw [← HQ.out, HB2.out]; rfl, HB0.out⟩
        · have h21 : ¬ (20 : Int) < (j : Int) := by omega
          have HP2 := Lib.hid (And.intro HB.out (show j + 1 ≤ 21 by omega))
          clear hs h20
          go_wp2
          go_round
          case rel => exact ⟨j + 1, by omega, by go_num, HP2⟩
          case measure => simp [intOf]; omega
    · have hlt2 : ¬ ((j : Nat) : Int) < (n : Int) := by omega
      have HK := Lib.hid (show j = l.length by have := HN.out; omega)
      clear hlt
      go_wp2
      go_ret
      refine ⟨?_, HB0.out⟩
      rw [← HQ.out]
      unfold few6L
      have h := HP.out
      rw [HK.out] at h
      rw [List.take_length] at h
      rw [h.1, decide_eq_true h.2]
      rfl

set_option maxRecDepth 100000 in
theorem plain6_any (k q : Nat) (a : Int) (A : Option Addr) (n c : Nat) (w : World) :
    Calls Tryd.prog 10 #[.agg #[.int .u8 (k : Int), .int .u64 (q : Int), .int .i64 a, .slice A n c]] w fun e w' => e = .returned (.agg #[.int .u8 (k : Int), .int .u64 (q : Int), .int .i64 a, .slice A n c]) ∧ Below w.heap.size w w' := by
  obtain ⟨m0, m1, m2, m3, _, _, _, _⟩ := blk4 (heap_alloc_new w (.cells #[.int .u8 (k : Int), .int .u64 (q : Int), .int .i64 a, .slice A n c] 25))
  have HB0 := Lib.hid (bmore (bself w) (.cells #[.int .u8 (k : Int), .int .u64 (q : Int), .int .i64 a, .slice A n c] 25))
  go_enter Tryd.func10, Tryd.ntmps10
  go_wp2
  have h1 := bmore (bself (w.alloc (.cells #[.int .u8 (k : Int), .int .u64 (q : Int), .int .i64 a, .slice A n c] 25))) (.cells #[.int .u8 (k : Int), .int .u64 (q : Int), .int .i64 a, .slice A n c] 28)
  obtain ⟨x0, x1, x2, x3, _, _, _, _⟩ := blk4 (heap_alloc_new (w.alloc (.cells #[.int .u8 (k : Int), .int .u64 (q : Int), .int .i64 a, .slice A n c] 25)) (.cells #[.int .u8 (k : Int), .int .u64 (q : Int), .int .i64 a, .slice A n c] 28))
  rw [World.size_alloc] at x0 x1 x2 x3
  refine bodyPost_ret (v := .agg #[.int .u8 (k : Int), .int .u64 (q : Int), .int .i64 a, .slice A n c]) (by simp [results, Tryd.results10, go_sem, x0, x1, x2, x3]) rfl ?_
  exact ⟨rfl, bstep HB0.out h1⟩
end Go.Proofs.YtiflpjdiokloaaaDoor
