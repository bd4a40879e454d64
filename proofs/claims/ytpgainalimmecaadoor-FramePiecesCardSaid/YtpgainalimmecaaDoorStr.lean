/-
  Words for texts, of no layer: bytes as a text, texts set together, a new byte as a text.
-/
import Derived.Test.YtpgainalimmecaaDoorRow
import Derived.Laws.BytesArg
import Derived.Laws.Concat
namespace Go.Proofs.YtpgainalimmecaaDoor
open Go.RowKit

theorem u8_of (u : Nat) (h : u < 256) : ((u : Nat) : Int) = ((UInt8.ofNat u).toNat : Int) := by
  have : (UInt8.ofNat u).toNat = u := by simp; omega
  rw [this]

/-- Bytes as a text. -/
def mkB (l : List UInt8) : ByteArray := ⟨l.toArray⟩

theorem run_str {w : World} {b off cap : Nat} {l : List UInt8} (n : Nat) (hn : n ≤ l.length) (hcs : ∀ i (h : i < l.length), w.cell? ⟨b, off + i, none⟩ = some (.int .u8 (l[i].toNat : Int))) :
    (convert 22 9 (.slice (some ⟨b, off, none⟩) n cap)).run Tryd.prog w = .ok (.string (mkB (l.take n))) w := by
  have h := run_convert_bytes_arg (P := Tryd.prog) w 22 5 Tryd.underlying22 Tryd.underlying5 b off n cap ((l.take n).map fun c => (c.toNat : Int)) (by simp; omega)
    (fun i hi => by
      rw [hcs i (by omega)]
      simp [List.getD, hi, show i < l.length by omega]) 9 Tryd.underlying9
  rw [h]
  have e : strOfNums ((l.take n).map fun c => (c.toNat : Int)) = mkB (l.take n) := by
    unfold strOfNums mkB
    congr 2
    rw [List.map_map]
    conv => rhs; rw [← List.map_id (l.take n)]
    apply List.map_congr_left
    intro a _
    simp
  rw [e]

theorem run_str_nil (w : World) (n c : Nat) : (convert 22 9 (.slice none n c)).run Tryd.prog w = .ok (.string (mkB [])) w :=
  run_convert_bytes_nil (P := Tryd.prog) w 22 5 Tryd.underlying22 Tryd.underlying5 n c 9 Tryd.underlying9

theorem mkB_size (l : List UInt8) : (mkB l).size = l.length := by simp [mkB, ByteArray.size]
theorem mkB_append (a b : List UInt8) : mkB a ++ mkB b = mkB (a ++ b) := by
  simpa [mkB] using ByteArray.mk_append_mk a b
/-- One new byte as a text. -/
theorem run_str1 (w : World) (n : Int) (c : UInt8) (hc : n = (c.toNat : Int)) :
    (convert 22 9 (.slice (some ⟨w.heap.size, 0, none⟩) 1 1)).run Tryd.prog (w.alloc (.cells #[.int .u8 n] 5)) = .ok (.string (mkB [c])) (w.alloc (.cells #[.int .u8 n] 5)) := by
  have h := run_str (w := w.alloc (.cells #[.int .u8 n] 5)) (b := w.heap.size) (off := 0) (cap := 1) (l := [c]) 1 (by simp) (fun i hi => by
    have h0 : i = 0 := by simpa using hi
    subst h0
    rw [heap_cell (heap_alloc_new w _)]
    simp [hc])
  simpa using h
theorem run_add (w : World) (a b : List UInt8) (h : a.length + b.length ≤ 1000000000) : (Op.stringOp .add (mkB a) (mkB b)).run Tryd.prog w = .ok (.string (mkB (a ++ b))) w := by
  rw [run_string_add_sum w _ _ (by rw [mkB_size, mkB_size]; omega), mkB_append]
theorem mkB_toList (l : List UInt8) : (mkB l).toList = l := by rw [ByteArray.toList_eq]; rfl
theorem extract_toList (s : ByteArray) (a b : Nat) : (s.extract a b).toList = (s.data.toList.drop a).take (b - a) := by
  have h := ByteArray.extract_mk s.data.toList a b
  have e : ByteArray.mk s.data.toList.toArray = s := rfl
  rw [e] at h
  rw [h]
  exact mkB_toList _
end Go.Proofs.YtpgainalimmecaaDoor
