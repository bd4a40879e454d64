/-
  Contracts of package crc whose answers are named.
-/
import Derived.Test.YtegipekekdpenaaDoorCrc
namespace Go.Proofs.YtegipekekdpenaaDoor
open Go.RowKit
set_option linter.unusedVariables false

theorem cmore_at (W : World) (hT : Tabs W) (s : Nat) (A : Option Addr) (c : Nat) (l : List UInt8) (w : World) (hW : Below W.heap.size W w) (hs : s < 4294967296) (hr : Row w w.heap.size A (bc l)) (hl : l.length ≤ 1000000) {r : Nat} (h : moreC s l = r) :
    Calls Tryd.prog 12 #[.int .u32 (s : Int), .slice A l.length c] w fun e w' => e = .returned (.int .u32 (r : Nat)) ∧ Below w.heap.size w w' := by
  subst h; exact cmore_any W hT s A c l w hW hs hr hl
theorem csum_at (W : World) (hT : Tabs W) (A : Option Addr) (c : Nat) (l : List UInt8) (w : World) (hW : Below W.heap.size W w) (hr : Row w w.heap.size A (bc l)) (hl : l.length ≤ 1000000) {r : Nat} (h : sumC l = r) :
    Calls Tryd.prog 11 #[.slice A l.length c] w fun e w' => e = .returned (.int .u32 (r : Nat)) ∧ Below w.heap.size w w' := by
  subst h; exact csum_any W hT A c l w hW hr hl
/-- Put's answer, as a row of cells. -/
def PutDid (l : List UInt8) (w : World) (e : Ending) (w' : World) : Prop := ∃ A c, e = .returned (.slice A l.length c) ∧ Row w' w'.heap.size A (bc l) ∧ l.length ≤ c ∧ (A = none → c = 0) ∧ Below w.heap.size w w'
theorem cput_at (s : Nat) (w : World) (hs : s < 4294967296) {l : List UInt8} (h : putC s = l) : Calls Tryd.prog 14 #[.int .u32 (s : Int)] w (PutDid l w) := by
  subst h
  refine (cput_any s w hs).mono fun e w' h => ?_
  obtain ⟨v, rfl, hl, hb⟩ := h
  obtain ⟨A, c, rfl, hr, hlc, hA⟩ := lies_row hl
  exact ⟨A, c, rfl, hr, hlc, hA, hb⟩
theorem cfits_at (W : World) (hT : Tabs W) (A : Option Addr) (c : Nat) (l : List UInt8) (w : World) (hW : Below W.heap.size W w) (hr : Row w w.heap.size A (bc l)) (hlc : l.length ≤ c) (hl : l.length ≤ 1000000) {q : Bool} (h : fitsC l = q) :
    Calls Tryd.prog 15 #[.slice A l.length c] w fun e w' => e = .returned (.bool q) ∧ Below w.heap.size w w' := by
  subst h; exact cfits_any W hT A c l w hW hr hlc hl
theorem cmore_n (W : World) (hT : Tabs W) (s : Nat) (A : Option Addr) (c n : Nat) (l : List UInt8) (w : World) (hn : l.length = n) (hW : Below W.heap.size W w) (hs : s < 4294967296) (hr : Row w w.heap.size A (bc l)) (hl : l.length ≤ 1000000) {r : Nat} (h : moreC s l = r) :
    Calls Tryd.prog 12 #[.int .u32 (s : Int), .slice A n c] w fun e w' => e = .returned (.int .u32 (r : Nat)) ∧ Below w.heap.size w w' := by
  subst hn; exact cmore_at W hT s A c l w hW hs hr hl h
theorem csum_n (W : World) (hT : Tabs W) (A : Option Addr) (c n : Nat) (l : List UInt8) (w : World) (hn : l.length = n) (hW : Below W.heap.size W w) (hr : Row w w.heap.size A (bc l)) (hl : l.length ≤ 1000000) {r : Nat} (h : sumC l = r) :
    Calls Tryd.prog 11 #[.slice A n c] w fun e w' => e = .returned (.int .u32 (r : Nat)) ∧ Below w.heap.size w w' := by
  subst hn; exact csum_at W hT A c l w hW hr hl h
theorem cfits_n (W : World) (hT : Tabs W) (A : Option Addr) (c n : Nat) (l : List UInt8) (w : World) (hn : l.length = n) (hW : Below W.heap.size W w) (hr : Row w w.heap.size A (bc l)) (hlc : l.length ≤ c) (hl : l.length ≤ 1000000) {q : Bool} (h : fitsC l = q) :
    Calls Tryd.prog 15 #[.slice A n c] w fun e w' => e = .returned (.bool q) ∧ Below w.heap.size w w' := by
  subst hn; exact cfits_at W hT A c l w hW hr hlc hl h
end Go.Proofs.YtegipekekdpenaaDoor
