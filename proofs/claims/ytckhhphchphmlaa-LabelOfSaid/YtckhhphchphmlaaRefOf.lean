/-
  Contracts of layer 5's reference: Of, Union.
-/
import Derived.Test.YtckhhphchphmlaaRefPut
namespace Go.Proofs.Ytckhhphchphmlaa
open Go.RowKit
set_option linter.unusedVariables false

theorem rput_to (A : Option Addr) (n c : Nat) (l : List Pr) (p : Pr) (w : World) (hl : Props w w.heap.size (.slice A n c) l) (hm : l.length ≤ 100000) {q : List Pr} (hq : putL l p = q) :
    Calls Try.prog 25 #[.slice A n c, .agg #[.string (mkB p.name), .int .i64 p.val]] w fun e w' => ∃ A' n' c', e = .returned (.slice A' n' c') ∧ OwnsP w' w.heap.size (.slice A' n' c') q ∧ Below w.heap.size w w' := by
  subst hq
  refine (rput_any A n c l p w hl hm).mono fun e w' h => ?_
  obtain ⟨v', rfl, h1, h2⟩ := h
  obtain ⟨A', n', c', rfl⟩ := own_slice h1
  exact ⟨A', n', c', rfl, h1, h2⟩
theorem of_take (l : List Pr) (k : Nat) (hk : k < l.length) : putL (ofL (l.take k)) l[k] = ofL (l.take (k + 1)) := by rw [List.take_succ_eq_append_getElem hk, of_snoc]
theorem union_take (a l : List Pr) (k : Nat) (hk : k < l.length) : putL (unionL a (l.take k)) l[k] = unionL a (l.take (k + 1)) := by
  unfold unionL
  rw [List.take_succ_eq_append_getElem hk, List.foldl_append]
  rfl
/-- What a call of Of, of Union, leaves. -/
def GaveP (w : World) (q : List Pr) (e : Ending) (w' : World) : Prop := ∃ A n c, e = .returned (.slice A n c) ∧ OwnsP w' w.heap.size (.slice A n c) q ∧ Below w.heap.size w w'
set_option maxRecDepth 100000 in
theorem rof_any (A : Option Addr) (n c : Nat) (l : List Pr) (w : World) (hl : Props w w.heap.size (.slice A n c) l) (hm : l.length ≤ 100000) :
    Calls Try.prog 15 #[.slice A n c] w (GaveP w (ofL l)) := by
  obtain ⟨hn, hnc⟩ := hl.len
  have HL := Lib.hid hl
  have HN := Lib.hid hn
  have hk9 : (n : Int) ≤ 100000 := by omega
  clear hl hm hn
  go_enter Try.func15, Try.ntmps15
  go_wp2
  go_loopw [3, 4] (fun v i wr => ∃ (k : Nat), k ≤ n ∧ i = .int .i64 k ∧ Hid (OwnsP wr w.heap.size v (ofL (l.take k)) ∧ Below w.heap.size w wr)) (fun _ i _ => n - (intOf i).toNat)
  case atStart => exact ⟨0, Nat.zero_le _, rfl, Lib.hid ⟨OwnsP.nil_ _ _, bself w⟩⟩
  case round =>
    obtain ⟨k, hk, rfl, HP⟩ := hrel
    obtain ⟨A1, n1, c1, rfl⟩ := own_slice HP.out.1
    by_cases hlt : k < n
    · have hkl : k < l.length := by have := HN.out; omega
      obtain ⟨bb, off, rfl⟩ := HL.out.some_ (by omega)
      obtain ⟨hbb, c0, c1'⟩ := HL.out.cells k hkl
      have e0 := (HP.out.2.cell (p := ⟨bb, off + k * 2, none⟩) hbb).trans c0
      have e1 := (HP.out.2.cell (p := ⟨bb, off + k * 2 + 1, none⟩) hbb).trans c1'
      have HQ := Lib.hid (of_take l k hkl)
      have HT := Lib.hid (show (ofL (l.take k)).length ≤ 100000 by have := of_len (l.take k); rw [List.length_take] at this; omega)
      have hlt2 : ((k : Nat) : Int) < (n : Int) := by omega
      generalize l[k] = x at e0 e1 HQ
      clear c0 c1' hbb
      go_wp2_with (go_at_call 25; (with_reducible refine Calls.mono (rput_to _ _ _ _ x _ HP.out.1.props HT.out HQ.out) ?_); rintro e w1 ⟨A2, n2, c2, rfl, ho, hb⟩; have HP2 := Lib.hid (And.intro (ownsRow_mono ho HP.out.2.size) (bstep HP.out.2 hb)); clear ho hb)
      go_roundw
      case rel => exact ⟨k + 1, by omega, by go_num, HP2⟩
      case measure => simp [intOf]; omega
    · have hlt2 : ¬ ((k : Nat) : Int) < (n : Int) := by omega
      have HK := Lib.hid (show k = l.length by have := HN.out; omega)
      go_wp2
      go_ret
      obtain ⟨h1, h2⟩ := HP.out
      rw [HK.out, List.take_length] at h1
      exact ⟨A1, n1, c1, rfl, h1, h2⟩
theorem rof_to (A : Option Addr) (n c : Nat) (l : List Pr) (w : World) (hl : Props w w.heap.size (.slice A n c) l) (hm : l.length ≤ 100000) {q : List Pr} (hq : ofL l = q) : Calls Try.prog 15 #[.slice A n c] w (GaveP w q) := by
  subst hq; exact rof_any A n c l w hl hm
set_option maxRecDepth 100000 in
theorem runion_any (A0 : Option Addr) (n0 c0 : Nat) (a : List Pr) (A : Option Addr) (n c : Nat) (l : List Pr) (w : World) (ha : Props w w.heap.size (.slice A0 n0 c0) a) (hl : Props w w.heap.size (.slice A n c) l) (hm : a.length ≤ 50000 ∧ l.length ≤ 50000) :
    Calls Try.prog 17 #[.slice A0 n0 c0, .slice A n c] w (GaveP w (unionL a l)) := by
  obtain ⟨hn, hnc⟩ := hl.len
  have HL := Lib.hid hl
  have HA := Lib.hid ha
  have HN := Lib.hid hn
  have HM := Lib.hid hm
  have hk9 : (n : Int) ≤ 100000 := by omega
  clear ha hl hm hn
  go_enter Try.func17, Try.ntmps17
  go_wp2_with (go_at_call 15; (with_reducible refine Calls.mono (rof_any _ _ _ a _ HA.out (by have := HM.out; omega)) ?_); rintro e w1 ⟨A1, n1, c1, rfl, ho, hb⟩; have HO := Lib.hid (And.intro ho hb); clear ho hb)
  go_loopw [5, 6] (fun v i wr => ∃ (k : Nat), k ≤ n ∧ i = .int .i64 k ∧ Hid (OwnsP wr w.heap.size v (unionL a (l.take k)) ∧ Below w.heap.size w wr)) (fun _ i _ => n - (intOf i).toNat)
  case atStart => exact ⟨0, Nat.zero_le _, rfl, Lib.hid HO.out⟩
  case round =>
    obtain ⟨k, hk, rfl, HP⟩ := hrel
    obtain ⟨A1, n1, c1, rfl⟩ := own_slice HP.out.1
    by_cases hlt : k < n
    · have hkl : k < l.length := by have := HN.out; omega
      obtain ⟨bb, off, rfl⟩ := HL.out.some_ (by omega)
      obtain ⟨hbb, c0, c1'⟩ := HL.out.cells k hkl
      have e0 := (HP.out.2.cell (p := ⟨bb, off + k * 2, none⟩) hbb).trans c0
      have e1 := (HP.out.2.cell (p := ⟨bb, off + k * 2 + 1, none⟩) hbb).trans c1'
      have HQ := Lib.hid (union_take a l k hkl)
      have HT := Lib.hid (show (unionL a (l.take k)).length ≤ 100000 by have := union_len a (l.take k); have := HM.out; rw [List.length_take] at *; omega)
      have hlt2 : ((k : Nat) : Int) < (n : Int) := by omega
      generalize l[k] = x at e0 e1 HQ
      clear c0 c1' hbb
      go_wp2_with (go_at_call 25; (with_reducible refine Calls.mono (rput_to _ _ _ _ x _ HP.out.1.props HT.out HQ.out) ?_); rintro e w1 ⟨A2, n2, c2, rfl, ho, hb⟩; have HP2 := Lib.hid (And.intro (ownsRow_mono ho HP.out.2.size) (bstep HP.out.2 hb)); clear ho hb)
      go_roundw
      case rel => exact ⟨k + 1, by omega, by go_num, HP2⟩
      case measure => simp [intOf]; omega
    · have hlt2 : ¬ ((k : Nat) : Int) < (n : Int) := by omega
      have HK := Lib.hid (show k = l.length by have := HN.out; omega)
      go_wp2
      go_ret
      obtain ⟨h1, h2⟩ := HP.out
      rw [HK.out, List.take_length] at h1
      exact ⟨A1, n1, c1, rfl, h1, h2⟩
end Go.Proofs.Ytckhhphchphmlaa
