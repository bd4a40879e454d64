/-
  Words for texts, of no layer: bytes as a text, texts set together, a piece of one.
-/
import Derived.Test.YtckhhphchphmlaaRow
import Derived.Laws.Concat
namespace Go.Proofs.Ytckhhphchphmlaa
open Go.RowKit

theorem u8_of (u : Nat) (h : u < 256) : ((u : Nat) : Int) = ((UInt8.ofNat u).toNat : Int) := by
  have : (UInt8.ofNat u).toNat = u := by simp; omega
  rw [this]

/-- Bytes as a text. -/
def mkB (l : List UInt8) : ByteArray := ⟨l.toArray⟩

theorem mkB_size (l : List UInt8) : (mkB l).size = l.length := by simp [mkB, ByteArray.size]
theorem mkB_append (a b : List UInt8) : mkB a ++ mkB b = mkB (a ++ b) := by
  simpa [mkB] using ByteArray.mk_append_mk a b
theorem run_add (w : World) (a b : List UInt8) (h : a.length + b.length ≤ 1000000000) : (Op.stringOp .add (mkB a) (mkB b)).run Try.prog w = .ok (.string (mkB (a ++ b))) w := by
  rw [run_string_add_sum w _ _ (by rw [mkB_size, mkB_size]; omega), mkB_append]
theorem mkB_toList (l : List UInt8) : (mkB l).toList = l := by rw [ByteArray.toList_eq]; rfl
theorem extract_toList (s : ByteArray) (a b : Nat) : (s.extract a b).toList = (s.data.toList.drop a).take (b - a) := by
  have h := ByteArray.extract_mk s.data.toList a b
  have e : ByteArray.mk s.data.toList.toArray = s := rfl
  rw [e] at h
  rw [h]
  exact mkB_toList _
end Go.Proofs.Ytckhhphchphmlaa
