/-
  Contracts of layer 4's reference: pass.
-/
import Derived.Test.YtpgainalimmecaaDoorRefTold
import Derived.Test.YtpgainalimmecaaDoorRefSize
namespace Go.Proofs.YtpgainalimmecaaDoor
open Go.RowKit
set_option linter.unusedVariables false

def strLen (w : World) (g : Nat) : Nat := match w.cell? ⟨g, 0, none⟩ with | some (.string t) => t.size | _ => 0
/-- Where pass stands: what waits, how many were skipped, the items so far; g: its variable's block, the result's is the next one. -/
structure PassAt (w wr : World) (ov : Bool) (v0 : Value) (s0 : List UInt8) (k0 : Nat) (l0 : List It) (t : ByteArray) (s : List UInt8) (k : Nat) (v : Value) (l : List It) : Prop where
  hs : t.data.toList = s
  hA : wr.heap[w.heap.size]? = some (.cells #[.string t, .int .i64 (k : Int), v, .bool ov] 36 (0, 0))
  hB : wr.heap[w.heap.size + 1]? = some (.cells #[.string ⟨#[]⟩, .int .i64 0, .slice none 0 0, .bool false] 36 (0, 0))
  hW : Below w.heap.size w wr
  hz : w.heap.size + 2 ≤ wr.heap.size
  hV : SeqI wr wr.heap.size v l
  hX : ∀ b, v.ownBlock = some b → b < w.heap.size ∧ v0.ownBlock = some b ∨ w.heap.size + 2 ≤ b
  hQ : (passF ov s0 k0).1 = (passF ov s k).1 ∧ (passF ov s0 k0).2.1 = (passF ov s k).2.1 ∧ l0 ++ (passF ov s0 k0).2.2 = l ++ (passF ov s k).2.2
  hn : k + s.length ≤ k0 + s0.length ∧ l.length + 2 * s.length ≤ l0.length + 2 * s0.length ∧ s.length ≤ s0.length
  hm : s0.length ≤ 100000 ∧ k0 ≤ 100000 ∧ l0.length ≤ 100000
section
variable {w wr : World} {ov : Bool} {s0 s : List UInt8} {k0 k : Nat} {l0 l : List It} {t : ByteArray} {v0 v : Value}
theorem PassAt.over (h : PassAt w wr ov v0 s0 k0 l0 t s k v l) {w' : World} (hb : Below wr.heap.size wr w') : PassAt w w' ov v0 s0 k0 l0 t s k v l :=
  ⟨h.hs, (hb.block _ (by have := h.hz; omega)).trans h.hA, (hb.block _ (by have := h.hz; omega)).trans h.hB, bstep h.hW hb, Nat.le_trans h.hz hb.size, h.hV.over (Nat.le_refl _) hb, h.hX, h.hQ, h.hn, h.hm⟩
theorem PassAt.size (h : PassAt w wr ov v0 s0 k0 l0 t s k v l) : strLen wr w.heap.size = s.length := by
  unfold strLen
  rw [heap_cell h.hA]
  show t.size = _
  rw [← size_toList, h.hs]
end

theorem mkB_of {t : ByteArray} {s : List UInt8} (h : t.data.toList = s) : t = mkB s := by subst h; rfl
theorem rsize_at (t : ByteArray) (c : UInt8) (r : List UInt8) (z : Int) (w : World) (ht : t.data.toList = c :: r) (hl : t.size ≤ 1000000) (h : szI (szF (c :: r)) = z) :
    Calls Tryd.prog 41 #[.string t] w fun e w' => e = .returned (.int .i64 z) ∧ Below w.heap.size w w' := by
  subst h; exact rsize_any t c r w ht hl
theorem empty_not {t : ByteArray} (h : t.data.toList = []) : (!t.toList.isEmpty) = false := by rw [ByteArray.toList_eq, h]; rfl
theorem empty_yes {t : ByteArray} {c : UInt8} {r : List UInt8} (h : t.data.toList = c :: r) : (!t.toList.isEmpty) = true := by rw [ByteArray.toList_eq, h]; rfl

/-- A slice lies where another one lay, or in a block from n on. -/
def From (v0 v : Value) (n : Nat) : Prop := ∀ b, v.ownBlock = some b → v0.ownBlock = some b ∨ n ≤ b
/-- What pass leaves. -/
def PassDid (ov : Bool) (v0 : Value) (s0 : List UInt8) (k0 : Nat) (l0 : List It) (w : World) (e : Ending) (w' : World) : Prop := ∃ v', e = .returned (.agg #[.string (mkB (passF ov s0 k0).1), .int .i64 ((passF ov s0 k0).2.1 : Int), v', .bool ov]) ∧ SeqI w' w'.heap.size v' (l0 ++ (passF ov s0 k0).2.2) ∧ From v0 v' w.heap.size ∧ Below w.heap.size w w'
theorem PassAt.ends {w wr : World} {ov : Bool} {s0 s : List UInt8} {k0 k : Nat} {l0 l : List It} {t : ByteArray} {v0 v : Value} (h : PassAt w wr ov v0 s0 k0 l0 t s k v l) (hst : passF ov s k = (s, k, [])) :
    PassDid ov v0 s0 k0 l0 w (.returned (.agg #[.string t, .int .i64 (k : Int), v, .bool ov])) (set4 wr (w.heap.size + 1) (.string t) (.int .i64 (k : Int)) v (.bool ov)) := by
  obtain ⟨q1, q2, q3⟩ := h.hQ
  rw [hst] at q1 q2 q3
  dsimp only at q1 q2 q3
  refine ⟨v, by rw [q1, q2, mkB_of h.hs], ?_, fun b hb => (h.hX b hb).elim (fun x => .inl x.2) (fun x => .inr (by omega)), set4_below h.hW (by omega) _ _ _ _⟩
  rw [q3, List.append_nil, set4_size]
  exact h.hV.keep_ fun b hb => set4_far _ _ _ _ _ _ _ (by have := h.hX b hb; omega)

theorem PassAt.skip {w wr : World} {ov : Bool} {s0 r : List UInt8} {ch : UInt8} {k0 k : Nat} {l0 l : List It} {t : ByteArray} {v0 v : Value} (h : PassAt w wr ov v0 s0 k0 l0 t (ch :: r) k v l) (hst : passF ov (ch :: r) k = passF ov r (k + 1)) (t' : ByteArray) (ht' : t'.data.toList = r) (z : Int) (hz : z = ((k + 1 : Nat) : Int)) :
    PassAt w ((wr.setCell ⟨w.heap.size, 1, none⟩ (.int .i64 z)).setCell ⟨w.heap.size, 0, none⟩ (.string t')) ov v0 s0 k0 l0 t' r (k + 1) v l := by
  subst hz
  have hq := h.hQ
  rw [hst] at hq
  have hn := h.hn
  simp only [List.length_cons] at hn
  refine ⟨ht', heap_set (heap_set h.hA 1 _) 0 _, ?_, (h.hW.setCell (Nat.le_refl _) _).setCell (Nat.le_refl _) _, ?_, ?_, h.hX, hq, by omega, h.hm⟩
  · rw [heap_far _ _ _ (by omega), heap_far _ _ _ (by omega)]
    exact h.hB
  · rw [setCell_size, setCell_size]
    exact h.hz
  · rw [setCell_size, setCell_size]
    exact h.hV.keep_ fun b hb => by rw [heap_far _ _ _ (by have := h.hX b hb; omega), heap_far _ _ _ (by have := h.hX b hb; omega)]
/-- Behind told: the variable's block, the result's. -/
structure MidAt (w wr : World) (base : Nat) (ov : Bool) (t : ByteArray) (v : Value) : Prop where
  hA : wr.heap[w.heap.size]? = some (.cells #[.string t, .int .i64 0, v, .bool ov] 36 (0, 0))
  hB : wr.heap[w.heap.size + 1]? = some (.cells #[.string ⟨#[]⟩, .int .i64 0, .slice none 0 0, .bool false] 36 (0, 0))
  hW : Below w.heap.size w wr
  hz : w.heap.size + 2 ≤ base ∧ base ≤ wr.heap.size
theorem MidAt.over {w wr w' : World} {base : Nat} {ov : Bool} {t : ByteArray} {v : Value} (h : MidAt w wr base ov t v) (hb : Below base wr w') : MidAt w w' base ov t v :=
  ⟨(hb.block _ (by have := h.hz; omega)).trans h.hA, (hb.block _ (by have := h.hz; omega)).trans h.hB, h.hW.trans (hb.mono (by have := h.hz; omega)), h.hz.1, Nat.le_trans h.hz.2 hb.size⟩
theorem PassAt.mid {w wr w2 : World} {ov : Bool} {s0 s : List UInt8} {k0 k : Nat} {l0 l l2 : List It} {t : ByteArray} {v0 v v2 : Value} (h : PassAt w wr ov v0 s0 k0 l0 t s k v l) (ho : OwnI w2 wr.heap.size v2 l2) (hb : Below wr.heap.size wr w2) :
    MidAt w (set4 w2 w.heap.size (.string t) (.int .i64 0) v2 (.bool ov)) wr.heap.size ov t v2 ∧ OwnI (set4 w2 w.heap.size (.string t) (.int .i64 0) v2 (.bool ov)) wr.heap.size v2 l2 := by
  have hp := h.over hb
  have hz := h.hz
  refine ⟨⟨set4_heap hp.hA, ?_, set4_below hp.hW (Nat.le_refl _) _ _ _ _, hz, ?_⟩, ownsRow_below ho fun b hb => set4_far _ _ _ _ _ _ _ (by have := (ownsRow_old ho b hb).1; omega)⟩
  · rw [set4_far _ _ _ _ _ _ _ (by omega)]
    exact hp.hB
  · rw [set4_size]
    exact hb.size
theorem skipI_length (k : Nat) : (skipI k).length ≤ 1 := by unfold skipI; split <;> simp
theorem frame_cells {t : ByteArray} {ch : UInt8} {r : List UInt8} {m : Nat} {x1 : Int} {x : It} (h : t.data.toList = ch :: r) (hm : m + 7 ≤ t.size) (hx1 : (t[1].toNat : Int) = x1) (hx : x = ⟨0, kindF (ch :: r), bodyF (ch :: r) m⟩) :
    [Value.int IntKind.i64 0, Value.int IntKind.u8 x1, Value.string (t.extract 4 (m + 4))] = itC [x] := by
  subst hx
  have e1 : t[1] = kindF (ch :: r) := by rw [toList_get t ch r h 1 (by omega)]; rfl
  have e2 : t.extract 4 (m + 4) = mkB (bodyF (ch :: r) m) := by
    apply mkB_of
    have e := extract_toList t 4 (m + 4)
    rw [ByteArray.toList_eq, h] at e
    rw [e]
    unfold bodyF
    rw [show m + 4 - 4 = m by omega]
  rw [← hx1, e1, e2]
  rfl
theorem tail_of {t : ByteArray} {c : UInt8} {r : List UInt8} (h : t.data.toList = c :: r) : (t.extract 1 t.size).data.toList = r := by
  have e := extract_toList t 1 t.size
  rw [ByteArray.toList_eq, h] at e
  rw [e, ← size_toList, h]
  simp

theorem drop_of {t : ByteArray} {c : UInt8} {r : List UInt8} (m : Nat) (h : t.data.toList = c :: r) : (t.extract (m + 7) t.size).data.toList = r.drop (m + 6) := by
  have e := extract_toList t (m + 7) t.size
  rw [ByteArray.toList_eq, h] at e
  rw [e, ← size_toList, h, show m + 7 = (m + 6) + 1 by omega, List.drop_succ_cons]
  rw [List.take_of_length_le]
  rw [List.length_drop, List.length_cons]
  omega
theorem PassAt.framed {w wr w4 : World} {base : Nat} {ov : Bool} {s0 r : List UInt8} {ch : UInt8} {k0 k m : Nat} {l0 l : List It} {t : ByteArray} {v0 v v2 v4 : Value} {x : It} (h : PassAt w wr ov v0 s0 k0 l0 t (ch :: r) k v l)
    (hst : passF ov (ch :: r) k = ((passF ov (r.drop (m + 6)) 0).1, (passF ov (r.drop (m + 6)) 0).2.1, skipI k ++ ⟨0, kindF (ch :: r), bodyF (ch :: r) m⟩ :: (passF ov (r.drop (m + 6)) 0).2.2))
    (hf : ch = 165 ∧ m = lenF r ∧ m ≤ 256 ∧ m + 6 ≤ r.length ∧ fitsC (r.take (m + 6)) = true) (hm2 : m + 7 ≤ t.size) (hx : x = ⟨0, kindF (ch :: r), bodyF (ch :: r) m⟩)
    (hm : MidAt w w4 base ov t v2) (ho : OwnI w4 base v4 (l ++ skipI k ++ [x])) (hb : w.heap.size + 2 ≤ base) :
    PassAt w ((w4.setCell ⟨w.heap.size, 2, none⟩ v4).setCell ⟨w.heap.size, 0, none⟩ (.string (t.extract (m + 7) t.size))) ov v0 s0 k0 l0 (t.extract (m + 7) t.size) (r.drop (m + 6)) 0 v4 (l ++ skipI k ++ [x]) := by
  subst hx
  have hq := h.hQ
  rw [hst] at hq
  dsimp only at hq
  have hn := h.hn
  have hr := hf.2.2.2.1
  have hsl := skipI_length k
  simp only [List.length_cons] at hn
  have hx : ∀ b, v4.ownBlock = some b → b < w.heap.size ∧ v0.ownBlock = some b ∨ w.heap.size + 2 ≤ b := fun b hb2 => .inr (by have := (ownsRow_old ho b hb2).1; omega)
  refine ⟨drop_of m h.hs, heap_set (heap_set hm.hA 2 _) 0 _, ?_, (hm.hW.setCell (Nat.le_refl _) _).setCell (Nat.le_refl _) _, ?_, ?_, hx, ⟨hq.1, hq.2.1, ?_⟩, ?_, h.hm⟩
  · rw [heap_far _ _ _ (by omega), heap_far _ _ _ (by omega)]
    exact hm.hB
  · rw [setCell_size, setCell_size]
    have := hm.hz
    omega
  · rw [setCell_size, setCell_size]
    exact (Seq.own ho).keep_ fun b hb2 => by rw [heap_far _ _ _ (by have := hx b hb2; omega), heap_far _ _ _ (by have := hx b hb2; omega)]
  · rw [hq.2.2]
    simp
  · simp only [List.length_append, List.length_drop, List.length_cons, List.length_nil]
    omega

set_option maxRecDepth 100000 in
set_option maxHeartbeats 1000000 in
theorem rpass_any (t0 : ByteArray) (s0 : List UInt8) (k0 : Nat) (v0 : Value) (l0 : List It) (ov : Bool) (w : World) (hs0 : t0.data.toList = s0) (hm : s0.length ≤ 100000 ∧ k0 ≤ 100000 ∧ l0.length ≤ 100000) (hv : SeqI w w.heap.size v0 l0) :
    Calls Tryd.prog 33 #[.agg #[.string t0, .int .i64 (k0 : Int), v0, .bool ov]] w (PassDid ov v0 s0 k0 l0 w) := by
  have HV := Lib.hid hv
  have HM := Lib.hid hm
  have HS0 := Lib.hid hs0
  clear hv hm hs0
  go_enter Tryd.func33, Tryd.ntmps33
  go_wp2
  go_loopw [3, 4] (fun _ _ wr => ∃ t s k v l, Hid (PassAt w wr ov v0 s0 k0 l0 t s k v l)) (fun _ _ wr => strLen wr w.heap.size)
  case atStart =>
    have hb := bmore (bmore (bself w) (.cells #[.string t0, .int .i64 (k0 : Int), v0, .bool ov] 36)) (.cells #[.string ⟨#[]⟩, .int .i64 0, .slice none 0 0, .bool false] 36)
    obtain ⟨hA, hB, _, hz⟩ := two_blocks (w := w) (o1 := .cells #[.string t0, .int .i64 (k0 : Int), v0, .bool ov] 36) (o2 := .cells #[.string ⟨#[]⟩, .int .i64 0, .slice none 0 0, .bool false] 36) (Below.refl _ _)
    exact ⟨t0, s0, k0, v0, l0, HS0.out, hA, hB, hb, hz, HV.out.over (Nat.le_refl _) hb, fun b hb => .inl ⟨HV.out.old b hb, hb⟩, ⟨rfl, rfl, rfl⟩, ⟨Nat.le_refl _, Nat.le_refl _, Nat.le_refl _⟩, HM.out⟩
  case round =>
    obtain ⟨t, s, k, v, l, HP⟩ := hrel
    obtain ⟨A, n, c, rfl⟩ := seq_slice HP.out.hV
    cases s with
    | nil =>
      have he := empty_not HP.out.hs
      obtain ⟨a0, a1, a2, a3, f0, f1, f2, f3⟩ := blk4 HP.out.hA
      obtain ⟨b0, b1, b2, b3, g0, g1, g2, g3⟩ := blk4 HP.out.hB
      go_wp2
      refine bodyPost_ret (v := .agg #[.string t, .int .i64 (k : Int), .slice A n c, .bool ov]) (by simp [results, Tryd.results33, go_sem, b0, b1, b2, b3]) rfl ?_
      exact HP.out.ends (pass_nil ov k)
    | cons ch r =>
      have he := empty_yes HP.out.hs
      have HZ := Lib.hid (show t.size ≤ 1000000 by rw [← size_toList, HP.out.hs]; have := HP.out.hn; have := HP.out.hm; omega)
      obtain ⟨a0, a1, a2, a3, f0, f1, f2, f3⟩ := blk4 HP.out.hA
      obtain ⟨b0, b1, b2, b3, g0, g1, g2, g3⟩ := blk4 HP.out.hB
      cases hz : szF (ch :: r) with
      | wait =>
        have HS := Lib.hid (show szI (szF (ch :: r)) = -1 by rw [hz]; rfl)
        cases ov with
        | false =>
          have HE := Lib.hid (pass_wait (k := k) hz)
          clear hz
          go_wp2_with (go_at_call 41; ((with_reducible refine (rsize_at t ch r _ _ HP.out.hs HZ.out HS.out).mono ?_); rintro e w1 ⟨rfl, hb⟩; have HP1 := Lib.hid (HP.out.over hb); clear hb a0 a1 a2 a3 f0 f1 f2 f3 b0 b1 b2 b3 g0 g1 g2 g3; obtain ⟨a0, a1, a2, a3, f0, f1, f2, f3⟩ := blk4 HP1.out.hA; obtain ⟨b0, b1, b2, b3, g0, g1, g2, g3⟩ := blk4 HP1.out.hB))
          refine bodyPost_ret (v := .agg #[.string t, .int .i64 (k : Int), .slice A n c, .bool false]) (by simp [results, Tryd.results33, go_sem, b0, b1, b2, b3]) rfl ?_
          exact HP1.out.ends HE.out
        | true =>
          have HE := Lib.hid (pass_over (k := k) hz)
          have hk : (k : Int) ≤ 1000000 := by have := HP.out.hn; have := HP.out.hm; omega
          have hz1 : 1 ≤ t.size := by rw [← size_toList, HP.out.hs]; simp
          clear hz
          go_wp2_with (go_at_call 41; ((with_reducible refine (rsize_at t ch r _ _ HP.out.hs HZ.out HS.out).mono ?_); rintro e w1 ⟨rfl, hb⟩; have HP1 := Lib.hid (HP.out.over hb); clear hb a0 a1 a2 a3 f0 f1 f2 f3 b0 b1 b2 b3 g0 g1 g2 g3; obtain ⟨a0, a1, a2, a3, f0, f1, f2, f3⟩ := blk4 HP1.out.hA; obtain ⟨b0, b1, b2, b3, g0, g1, g2, g3⟩ := blk4 HP1.out.hB))
          go_roundw
          case rel => exact ⟨_, _, _, _, _, HP1.out.skip HE.out _ (tail_of HP.out.hs) _ (by omega)⟩
          case measure => rw [(HP1.out.skip HE.out _ (tail_of HP.out.hs) _ (by omega)).size, HP.out.size]; simp
      | no =>
        have HS := Lib.hid (show szI (szF (ch :: r)) = 0 by rw [hz]; rfl)
        have HE := Lib.hid (pass_no (ov := ov) (k := k) hz)
        have hk : (k : Int) ≤ 1000000 := by have := HP.out.hn; have := HP.out.hm; omega
        have hz1 : 1 ≤ t.size := by rw [← size_toList, HP.out.hs]; simp
        clear hz
        go_wp2_with (go_at_call 41; ((with_reducible refine (rsize_at t ch r _ _ HP.out.hs HZ.out HS.out).mono ?_); rintro e w1 ⟨rfl, hb⟩; have HP1 := Lib.hid (HP.out.over hb); clear hb a0 a1 a2 a3 f0 f1 f2 f3 b0 b1 b2 b3 g0 g1 g2 g3; obtain ⟨a0, a1, a2, a3, f0, f1, f2, f3⟩ := blk4 HP1.out.hA; obtain ⟨b0, b1, b2, b3, g0, g1, g2, g3⟩ := blk4 HP1.out.hB))
        go_roundw
        case rel => exact ⟨_, _, _, _, _, HP1.out.skip HE.out _ (tail_of HP.out.hs) _ (by omega)⟩
        case measure => rw [(HP1.out.skip HE.out _ (tail_of HP.out.hs) _ (by omega)).size, HP.out.size]; simp
      | frame m =>
        have HS := Lib.hid (show szI (szF (ch :: r)) = (m : Int) + 7 by rw [hz]; rfl)
        have HE := Lib.hid (pass_frame (ov := ov) (k := k) hz)
        have HF := Lib.hid (sz_frame hz)
        have hm1 : (m : Int) ≤ 256 := by have := HF.out.2.2.1; omega
        have hm2 : m + 7 ≤ t.size := by rw [← size_toList, HP.out.hs]; have := HF.out.2.2.2.1; simp; omega
        have hk : k ≤ 1000000 ∧ l.length ≤ 1000000 := by have := HP.out.hn; have := HP.out.hm; omega
        have HK := Lib.hid hk
        clear hz hk
        go_wp2_with (first
          | (go_at_call 41; ((with_reducible refine (rsize_at t ch r _ _ HP.out.hs HZ.out HS.out).mono ?_); rintro e w1 ⟨rfl, hb⟩; have HP1 := Lib.hid (HP.out.over hb); clear hb a0 a1 a2 a3 f0 f1 f2 f3 b0 b1 b2 b3 g0 g1 g2 g3; obtain ⟨a0, a1, a2, a3, f0, f1, f2, f3⟩ := blk4 HP1.out.hA; obtain ⟨b0, b1, b2, b3, g0, g1, g2, g3⟩ := blk4 HP1.out.hB))
          | (go_at_call 35; ((with_reducible refine (told_any t k _ l ov _ HK.out.1 HK.out.2 HP1.out.hV rfl).mono ?_); rintro e w2 ⟨A2, n2, c2, rfl, ho, hb⟩; have HM := Lib.hid (HP1.out.mid ho hb); have HP2 := Lib.hid (HP1.out.over hb); clear hb ho a0 a1 a2 a3 f0 f1 f2 f3 b0 b1 b2 b3 g0 g1 g2 g3; obtain ⟨a0, a1, a2, a3, f0, f1, f2, f3⟩ := blk4 HP2.out.hA)))
        have HM3 := Lib.hid HM.out.1
        have HO3 := Lib.hid HM.out.2
        unfold set4 at HM3 HO3
        generalize (((w2.setCell { block := w.heap.size, off := 0 } (Value.string t)).setCell { block := w.heap.size, off := 1 } (Value.int IntKind.i64 0)).setCell { block := w.heap.size, off := 2 } (Value.slice A2 n2 c2)).setCell { block := w.heap.size, off := 3 } (Value.bool ov) = w3 at HM3 HO3 ⊢
        clear HM HP2 a0 a1 a2 a3 f0 f1 f2 f3
        obtain ⟨x1, hx1⟩ : ∃ x1 : Int, (t[1].toNat : Int) = x1 := ⟨_, rfl⟩
        obtain ⟨x, hx⟩ : ∃ x : It, x = ⟨0, kindF (ch :: r), bodyF (ch :: r) m⟩ := ⟨_, rfl⟩
        have HX := Lib.hid hx
        have HXC : Hid ([Value.int IntKind.i64 0, Value.int IntKind.u8 x1, Value.string (t.extract 4 (m + 4))] = itC [x]) := Lib.hid (frame_cells HP.out.hs hm2 hx1 hx)
        have HK2 : Hid ((l ++ skipI k).length ≤ 1000001) := Lib.hid (by have := HK.out; have := skipI_length k; rw [List.length_append]; omega)
        have k1 : IntKind.i64.wrap ((m : Int) + 7 - 3) = (m : Int) + 4 := by rw [show (m : Int) + 7 - 3 = (m : Int) + 4 by omega]; exact IntWalk.i64_in _ (by omega)
        have k2 : ((m : Int) + 4).toNat = m + 4 := by omega
        have k3 : (m : Int) + 4 ≤ (t.size : Int) := by omega
        have k4 : (4 : Int) ≤ (m : Int) + 4 := by omega
        have k6 : (1 : Int) < (t.size : Int) := by omega
        have k5 : (0 : Int) ≤ (m : Int) + 4 := by omega
        clear hx
        refine wp_region_held_drew (S := fun w' => Hid True) (by kernel_rfl) ?_ (fun hHeld => ?_)
        · (try dsimp only)
          exact Lib.hid trivial
        refine wpAnyH_take (i := 0) (v := ?_) rfl (by kernel_rfl) (by kernel_rfl) (by kernel_rfl) (fun _ _ _ h => h) (Or.inl ⟨by rfl, ?_⟩) (by assumption) ?_
        rotate_left
        · intro w hSw
          (try dsimp only at hSw)
          go_simp
          try with_reducible rfl
        (try simp only [Act.put, List.getElem_toArray, List.getElem_cons_zero, List.setIfInBounds_toArray, List.set_cons_zero, List.set_cons_succ])
        refine wpAnyH_take (i := 2) (v := ?_) rfl (by kernel_rfl) (by kernel_rfl) (by kernel_rfl) (fun _ _ _ h => h) (Or.inl ⟨by rfl, ?_⟩) (by assumption) ?_
        rotate_left
        · intro w hSw
          (try dsimp only at hSw)
          go_simp
          try with_reducible rfl
        (try simp only [Act.put, List.getElem_toArray, List.getElem_cons_succ, List.getElem_cons_zero, List.setIfInBounds_toArray, List.set_cons_zero, List.set_cons_succ])
        refine wpAnyH_take (i := 3) (v := ?_) rfl (by kernel_rfl) (by kernel_rfl) (by kernel_rfl) (fun _ _ _ h => h) (Or.inl ⟨by rfl, ?_⟩) (by assumption) ?_
        rotate_left
        · intro w hSw
          (try dsimp only at hSw)
          go_simp
          try with_reducible rfl
        (try simp only [Act.put, List.getElem_toArray, List.getElem_cons_succ, List.getElem_cons_zero, List.setIfInBounds_toArray, List.set_cons_zero, List.set_cons_succ])
        refine wpAnyH_take (i := 4) (v := ?_) rfl (by kernel_rfl) (by kernel_rfl) (by kernel_rfl) (fun _ _ _ h => h) (Or.inl ⟨by rfl, ?_⟩) (by assumption) ?_
        rotate_left
        · intro w hSw
          (try dsimp only at hSw)
          go_simp
          try with_reducible rfl
        (try simp only [Act.put, List.getElem_toArray, List.getElem_cons_succ, List.getElem_cons_zero, List.setIfInBounds_toArray, List.set_cons_zero, List.set_cons_succ])
        refine wpAnyH_take (i := 5) (v := ?_) rfl (by kernel_rfl) (by kernel_rfl) (by kernel_rfl) (fun _ _ _ h => h) (Or.inl ⟨by rfl, ?_⟩) (by assumption) ?_
        rotate_left
        · intro w hSw
          (try dsimp only at hSw)
          go_simp
          try with_reducible rfl
        (try simp only [Act.put, List.getElem_toArray, List.getElem_cons_succ, List.getElem_cons_zero, List.setIfInBounds_toArray, List.set_cons_zero, List.set_cons_succ])
        refine wpAnyH_take (i := 6) (v := ?_) rfl (by kernel_rfl) (by kernel_rfl) (by kernel_rfl) (fun _ _ _ h => h) (Or.inl ⟨by rfl, ?_⟩) (by assumption) ?_
        rotate_left
        · intro w hSw
          (try dsimp only at hSw)
          go_simp
          try with_reducible rfl
        (try simp only [Act.put, List.getElem_toArray, List.getElem_cons_succ, List.getElem_cons_zero, List.setIfInBounds_toArray, List.set_cons_zero, List.set_cons_succ])
        refine wpAnyH_take (i := 7) (v := ?_) rfl (by kernel_rfl) (by kernel_rfl) (by kernel_rfl) (fun _ _ _ h => h) (Or.inl ⟨by rfl, ?_⟩) (by assumption) ?_
        rotate_left
        · intro w hSw
          (try dsimp only at hSw)
          go_simp
          try with_reducible rfl
        (try simp only [Act.put, List.getElem_toArray, List.getElem_cons_succ, List.getElem_cons_zero, List.setIfInBounds_toArray, List.set_cons_zero, List.set_cons_succ])
        refine wpAnyH_take (i := 8) (v := ?_) rfl (by kernel_rfl) (by kernel_rfl) (by kernel_rfl) (fun _ _ _ h => h) (Or.inl ⟨by rfl, ?_⟩) (by assumption) ?_
        rotate_left
        · intro w hSw
          (try dsimp only at hSw)
          go_simp
          try with_reducible rfl
        (try simp only [Act.put, List.getElem_toArray, List.getElem_cons_succ, List.getElem_cons_zero, List.setIfInBounds_toArray, List.set_cons_zero, List.set_cons_succ])
        refine wpAnyH_ready (rs := [1, 9]) (by kernel_rfl) (by simp) ?_
        refine AllReadyH.cons rfl (fun K hK => ?_) (AllReadyH.cons rfl (fun K hK => ?_) AllReadyH.nil)
        · obtain ⟨a0, a1, a2, a3, _, _, _, _⟩ := blk4 (HM3.out.over (w' := w3.drew) (Below.refl _ _).drew).hA
          go_simp
          clear a0 a1 a2 a3
          refine hK.out _ _ ?_ (fun hHeld => ?_)
          · (try dsimp only)
            exact Lib.hid trivial
          clear hK K
          (try simp only [Act.put, List.getElem_toArray, List.getElem_cons_succ, List.getElem_cons_zero, List.setIfInBounds_toArray, List.set_cons_zero, List.set_cons_succ])
          refine wpAnyH_ready (rs := [9]) (by kernel_rfl) (by simp) ?_
          refine AllReadyH.cons rfl (fun K hK => ?_) AllReadyH.nil
          go_simp
          refine hK.out _ _ ?_ (fun hHeld => ?_)
          · (try dsimp only)
            exact Lib.hid trivial
          clear hK K
          (try simp only [Act.put, List.getElem_toArray, List.getElem_cons_succ, List.getElem_cons_zero, List.setIfInBounds_toArray, List.set_cons_zero, List.set_cons_succ])
          refine wpAnyH_ready (rs := [10]) (by kernel_rfl) (by simp) ?_
          refine AllReadyH.cons rfl (fun K hK => ?_) AllReadyH.nil
          rw [if_pos (by rfl)]
          refine wp_app_seq_op (.tmp 34) (.tmp 42) 34 46 _ 3 32 Tryd.underlying34 info_I rfl (by omega) rfl w1.heap.size (.slice A2 n2 c2) _ (l ++ skipI k).length 1 (itC (l ++ skipI k)) _ (by simp [go_sem]) (by simp [go_sem]) (ownsRow_over HO3.out ((bself w3).drew.alloc (Nat.le_refl _) _)) (Seq.lit_ w3.drew [Value.int IntKind.i64 0, Value.int IntKind.u8 x1, Value.string (t.extract 4 (m + 4))] _) (by rw [HXC.out]; exact itC_one _) (by have := HK2.out; omega) (Nat.le_trans HM3.out.hz.2 (by simp)) ?_
          intro v4 w4 hg4
          have HM4 := Lib.hid ((HM3.out.over ((Below.refl _ _).drew.alloc HM3.out.hz.2 _)).over hg4.2.2.2)
          have HO4 := Lib.hid (OwnI.join (l := l ++ skipI k) (j := [x]) (by have h := hg4.1; rw [HXC.out] at h; exact h) rfl rfl)
          obtain ⟨A4, n4, c4, rfl⟩ := own_slice HO4.out
          clear hg4
          refine hK.out _ _ ?_ (fun hHeld => ?_)
          · (try dsimp only)
            exact Lib.hid trivial
          clear hK K
          (try simp only [Act.put, List.getElem_toArray, List.getElem_cons_succ, List.getElem_cons_zero, List.setIfInBounds_toArray, List.set_cons_zero, List.set_cons_succ])
          refine wpAnyH_take (i := 11) (v := ?_) rfl (by kernel_rfl) (by kernel_rfl) (by kernel_rfl) (fun _ _ _ h => h) (Or.inl ⟨by rfl, ?_⟩) (by assumption) ?_
          rotate_left
          · intro w hSw
            (try dsimp only at hSw)
            go_simp
            try with_reducible rfl
          (try simp only [Act.put, List.getElem_toArray, List.getElem_cons_succ, List.getElem_cons_zero, List.setIfInBounds_toArray, List.set_cons_zero, List.set_cons_succ])
          refine wpAnyH_ready (rs := [12]) (by kernel_rfl) (by simp) ?_
          refine AllReadyH.cons rfl (fun K hK => ?_) AllReadyH.nil
          obtain ⟨a0, a1, a2, a3, f0, f1, f2, f3⟩ := blk4 HM4.out.hA
          go_simp
          refine hK.out _ _ ?_ (fun hHeld => ?_)
          · (try dsimp only)
            exact Lib.hid trivial
          clear hK K
          (try simp only [Act.put, List.getElem_toArray, List.getElem_cons_succ, List.getElem_cons_zero, List.setIfInBounds_toArray, List.set_cons_zero, List.set_cons_succ])
          refine wpAnyH_done (by kernel_rfl) ?_ _
          go_wp2
          go_roundw
          case rel => exact ⟨_, _, _, _, _, HP.out.framed HE.out HF.out hm2 HX.out HM4.out HO4.out HM4.out.hz.1⟩
          case measure => rw [(HP.out.framed HE.out HF.out hm2 HX.out HM4.out HO4.out HM4.out.hz.1).size, HP.out.size]; simp; omega
        · go_simp
          refine hK.out _ _ ?_ (fun hHeld => ?_)
          · (try dsimp only)
            exact Lib.hid trivial
          clear hK K
          (try simp only [Act.put, List.getElem_toArray, List.getElem_cons_succ, List.getElem_cons_zero, List.setIfInBounds_toArray, List.set_cons_zero, List.set_cons_succ])
          refine wpAnyH_ready (rs := [1]) (by kernel_rfl) (by simp) ?_
          refine AllReadyH.cons rfl (fun K hK => ?_) AllReadyH.nil
          obtain ⟨a0, a1, a2, a3, _, _, _, _⟩ := blk4 (HM3.out.over (w' := (w3.alloc (Obj.cells #[Value.int IntKind.i64 0, Value.int IntKind.u8 x1, Value.string (t.extract 4 (m + 4))] 46))) ((Below.refl _ _).alloc HM3.out.hz.2 _)).hA
          go_simp
          clear a0 a1 a2 a3
          refine hK.out _ _ ?_ (fun hHeld => ?_)
          · (try dsimp only)
            exact Lib.hid trivial
          clear hK K
          (try simp only [Act.put, List.getElem_toArray, List.getElem_cons_succ, List.getElem_cons_zero, List.setIfInBounds_toArray, List.set_cons_zero, List.set_cons_succ])
          refine wpAnyH_ready (rs := [10]) (by kernel_rfl) (by simp) ?_
          refine AllReadyH.cons rfl (fun K hK => ?_) AllReadyH.nil
          rw [if_pos (by rfl)]
          refine wp_app_seq_op (.tmp 34) (.tmp 42) 34 46 _ 3 32 Tryd.underlying34 info_I rfl (by omega) rfl w1.heap.size (.slice A2 n2 c2) _ (l ++ skipI k).length 1 (itC (l ++ skipI k)) _ (by simp [go_sem]) (by simp [go_sem]) (ownsRow_over HO3.out ((bself w3).drew.alloc (Nat.le_refl _) _)) (Seq.lit_ w3.drew [Value.int IntKind.i64 0, Value.int IntKind.u8 x1, Value.string (t.extract 4 (m + 4))] _) (by rw [HXC.out]; exact itC_one _) (by have := HK2.out; omega) (Nat.le_trans HM3.out.hz.2 (by simp)) ?_
          intro v4 w4 hg4
          have HM4 := Lib.hid ((HM3.out.over ((Below.refl _ _).drew.alloc HM3.out.hz.2 _)).over hg4.2.2.2)
          have HO4 := Lib.hid (OwnI.join (l := l ++ skipI k) (j := [x]) (by have h := hg4.1; rw [HXC.out] at h; exact h) rfl rfl)
          obtain ⟨A4, n4, c4, rfl⟩ := own_slice HO4.out
          clear hg4
          refine hK.out _ _ ?_ (fun hHeld => ?_)
          · (try dsimp only)
            exact Lib.hid trivial
          clear hK K
          (try simp only [Act.put, List.getElem_toArray, List.getElem_cons_succ, List.getElem_cons_zero, List.setIfInBounds_toArray, List.set_cons_zero, List.set_cons_succ])
          refine wpAnyH_take (i := 11) (v := ?_) rfl (by kernel_rfl) (by kernel_rfl) (by kernel_rfl) (fun _ _ _ h => h) (Or.inl ⟨by rfl, ?_⟩) (by assumption) ?_
          rotate_left
          · intro w hSw
            (try dsimp only at hSw)
            go_simp
            try with_reducible rfl
          (try simp only [Act.put, List.getElem_toArray, List.getElem_cons_succ, List.getElem_cons_zero, List.setIfInBounds_toArray, List.set_cons_zero, List.set_cons_succ])
          refine wpAnyH_ready (rs := [12]) (by kernel_rfl) (by simp) ?_
          refine AllReadyH.cons rfl (fun K hK => ?_) AllReadyH.nil
          obtain ⟨a0, a1, a2, a3, f0, f1, f2, f3⟩ := blk4 HM4.out.hA
          go_simp
          refine hK.out _ _ ?_ (fun hHeld => ?_)
          · (try dsimp only)
            exact Lib.hid trivial
          clear hK K
          (try simp only [Act.put, List.getElem_toArray, List.getElem_cons_succ, List.getElem_cons_zero, List.setIfInBounds_toArray, List.set_cons_zero, List.set_cons_succ])
          refine wpAnyH_done (by kernel_rfl) ?_ _
          go_wp2
          go_roundw
          case rel => exact ⟨_, _, _, _, _, HP.out.framed HE.out HF.out hm2 HX.out HM4.out HO4.out HM4.out.hz.1⟩
          case measure => rw [(HP.out.framed HE.out HF.out hm2 HX.out HM4.out HO4.out HM4.out.hz.1).size, HP.out.size]; simp; omega
end Go.Proofs.YtpgainalimmecaaDoor
