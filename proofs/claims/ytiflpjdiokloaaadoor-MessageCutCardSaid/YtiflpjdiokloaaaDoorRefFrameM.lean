/-
  Contracts of layer 6's reference: Frame, Same.
-/
import Derived.Test.YtiflpjdiokloaaaDoorPackK
import Derived.Test.YtiflpjdiokloaaaDoorRefPutF
import Derived.Test.YtiflpjdiokloaaaDoorPackH
namespace Go.Proofs.YtiflpjdiokloaaaDoor
open Go.RowKit
set_option linter.unusedVariables false

theorem MsgS.below {w w1 : World} {g k q : Nat} {a : Int} {v : Value} (h : MsgS w g k q a v w1) : Below w.heap.size w w1 := h.2.2.2.2.out.2
/-- A message's frame. -/
def frameM (m : Msg) : List UInt8 := if mayL m then putF (UInt8.ofNat m.kind) (putM m) else []
/-- What is asked of propositions that are put, be they right or not. -/
def FitsL (l : List Pr) : Prop := ∀ p ∈ l, p.name.length ≤ 1000 ∧ -9223372036854775808 ≤ p.val ∧ p.val ≤ 9223372036854775807

set_option maxRecDepth 100000 in
set_option maxHeartbeats 1000000 in
theorem rframem_any (k q : Nat) (a : Int) (A : Option Addr) (n c : Nat) (l : List Pr) (w : World) (hq : q ≤ 18446744073709551615) (ha : a ≤ 9223372036854775807) (hl : Props w w.heap.size (.slice A n c) l) (hm : l.length ≤ 1000) (hf : FitsL l) :
    Calls Tryd.prog 15 #[.agg #[.int .u8 (k : Int), .int .u64 (q : Int), .int .i64 a, .slice A n c]] w fun e w' => e = .returned (.string (mkB (frameM ⟨k, q, a, l⟩))) ∧ Below w.heap.size w w' := by
  obtain ⟨m0, m1, m2, m3, _, _, _, _⟩ := blk4 (heap_alloc_new w (.cells #[.int .u8 (k : Int), .int .u64 (q : Int), .int .i64 a, .slice A n c] 28))
  have HB0 := Lib.hid (bmore (bself w) (.cells #[.int .u8 (k : Int), .int .u64 (q : Int), .int .i64 a, .slice A n c] 28))
  have HL := Lib.hid hl
  cases hr : mayL ⟨k, q, a, l⟩ with
  | false =>
    have HM := Lib.hid (rmay_any k q a A n c l (w.alloc (.cells #[.int .u8 (k : Int), .int .u64 (q : Int), .int .i64 a, .slice A n c] 28)) (hl.over (Nat.le_refl _) HB0.out) (by omega) hr)
    have HE : Hid (frameM ⟨k, q, a, l⟩ = []) := Lib.hid (by unfold frameM; rw [hr]; rfl)
    rw [HE.out]
    clear hl hr hm hf hq ha HE
    go_enter Tryd.func15, Tryd.ntmps15
    go_wp2_with (go_at_call 11; (with_reducible refine HM.out.mono ?_); rintro e w1 ⟨rfl, hb⟩; have HB := Lib.hid (bstep HB0.out hb); clear hb)
    go_ret
    exact ⟨rfl, HB.out⟩
  | true =>
    have HM := Lib.hid (rmay_any k q a A n c l (w.alloc (.cells #[.int .u8 (k : Int), .int .u64 (q : Int), .int .i64 a, .slice A n c] 28)) (hl.over (Nat.le_refl _) HB0.out) (by omega) hr)
    obtain ⟨i0, i8, ir, ik⟩ := (may_iff _).1 hr
    dsimp only at i0 i8 ir ik
    have hk : k ≤ 4 := by omega
    obtain ⟨an, rfl⟩ : ∃ an : Nat, a = (an : Int) := ⟨a.toNat, by omega⟩
    obtain ⟨body, hbd⟩ : ∃ body, putM ⟨k, q, an, l⟩ = body := ⟨_, rfl⟩
    have hlen : body.length ≤ 203 := by rw [← hbd]; exact put_len6 (m := ⟨k, q, an, l⟩) ⟨hq, ha, fun p hp => (hf p hp).2⟩ hr
    have HE : Hid (frameM ⟨k, q, an, l⟩ = putF (UInt8.ofNat k) body) := Lib.hid (by unfold frameM; rw [hr, hbd]; rfl)
    have HP : Hid (∀ w : World, Props w w.heap.size (.slice A n c) l → Calls Tryd.prog 16 #[.agg #[.int .u8 (k : Int), .int .u64 (q : Int), .int .i64 (an : Int), .slice A n c]] w fun e w' => e = .returned (.string (mkB body)) ∧ Below w.heap.size w w') := Lib.hid fun w h => by
      rw [← hbd]; exact rputm_any k q an A n c l w hq (by omega) h hm hf
    have HF : Hid (∀ w : World, Calls Tryd.prog 30 #[.int .u8 (k : Int), .string (mkB body)] w fun e w' => e = .returned (.string (mkB (putF (UInt8.ofNat k) body))) ∧ Below w.heap.size w w') := Lib.hid fun w => by
      have h := rput4_any (UInt8.ofNat k) body w (by omega)
      have e : (UInt8.ofNat k).toNat = k := by simp; omega
      rw [e] at h
      exact h
    rw [HE.out]
    clear hl hr hm hf hq ha HE i0 i8 ir ik hk hbd hlen
    go_enter Tryd.func15, Tryd.ntmps15
    go_wp2_with (go_at_call 11; (with_reducible refine HM.out.mono ?_); rintro e w1 ⟨rfl, hb⟩; obtain ⟨h0, hB, hz⟩ := one_block hb; have HX := Lib.hid (And.intro h0 (And.intro hB hz)); clear hb h0 hB hz)
    clear m0 m1 m2 m3
    obtain ⟨g, hg⟩ : ∃ g, g = w.heap.size := ⟨_, rfl⟩
    have hS : MsgS w g k q (an : Int) (.slice A n c) w1 := by
      obtain ⟨m0, m1, m2, m3, _, _, _, _⟩ := blk4 HX.out.1
      rw [hg]
      exact ⟨m0, m1, m2, m3, Lib.hid ⟨by have := HX.out.2.2; omega, HX.out.2.1⟩⟩
    unfold MsgS at hS
    rw [← hg]
    clear hg HX HM
    go_region_held3 (fun w' => w'.cell? ⟨g, 0, none⟩ = some (.int .u8 (k : Int)) ∧ w'.cell? ⟨g, 1, none⟩ = some (.int .u64 (q : Int)) ∧ w'.cell? ⟨g, 2, none⟩ = some (.int .i64 (an : Int)) ∧ w'.cell? ⟨g, 3, none⟩ = some (.slice A n c) ∧ Hid (g < w'.heap.size ∧ Below w.heap.size w w'))
      (first | assumption | exact msgS_drew (by assumption))
      (first
        | (go_at_call 16; ((with_reducible refine Calls.mono (HP.out _ ?_) ?_); (exact HL.out.over (Nat.le_refl _) (MsgS.below (g := g) (k := k) (q := q) (a := (an : Int)) (v := .slice A n c) (by assumption))); rintro e w5 ⟨rfl, hb5⟩; have hs1 := msgS_over (by assumption) hb5))
        | (go_at_call 30; ((with_reducible refine Calls.mono (HF.out _) ?_); rintro e w6 ⟨rfl, hb6⟩; have hs1 := msgS_over (by assumption) hb6)))
    have HZ := Lib.hid hs1.2.2.2.2.out.2
    go_wp2
    go_ret
    exact ⟨rfl, HZ.out⟩

/-- Whether two messages are the same. -/
def sameL (m x : Msg) : Bool := decide (m.kind = x.kind) && decide (m.seq = x.seq) && decide (m.at_ = x.at_) && decide (m.props = x.props)
theorem same_refl6 (m : Msg) : sameL m m = true := by simp [sameL]

set_option maxRecDepth 100000 in
set_option maxHeartbeats 1000000 in
theorem rsamem_any (k q : Nat) (a : Int) (A : Option Addr) (n c : Nat) (l : List Pr) (k2 q2 : Nat) (a2 : Int) (A2 : Option Addr) (n2 c2 : Nat) (l2 : List Pr) (w : World)
    (h1 : Props w w.heap.size (.slice A n c) l) (h2 : Props w w.heap.size (.slice A2 n2 c2) l2) (hm : l.length ≤ 100000 ∧ l2.length ≤ 100000) {x : Bool} (hx : sameL ⟨k, q, a, l⟩ ⟨k2, q2, a2, l2⟩ = x) :
    Calls Tryd.prog 19 #[.agg #[.int .u8 (k : Int), .int .u64 (q : Int), .int .i64 a, .slice A n c], .agg #[.int .u8 (k2 : Int), .int .u64 (q2 : Int), .int .i64 a2, .slice A2 n2 c2]] w fun e w' => e = .returned (.bool x) ∧ Below w.heap.size w w' := by
  obtain ⟨w0, hw0⟩ : ∃ w0, w0 = w.alloc (.cells #[.int .u8 (k : Int), .int .u64 (q : Int), .int .i64 a, .slice A n c] 28) := ⟨_, rfl⟩
  have hb1 : Below w.heap.size w w0 := by rw [hw0]; exact bmore (bself w) _
  have hb2 : Below w0.heap.size w0 (w0.alloc (.cells #[.int .u8 (k2 : Int), .int .u64 (q2 : Int), .int .i64 a2, .slice A2 n2 c2] 28)) := bmore (bself w0) _
  have hz : w.heap.size < w0.heap.size := by rw [hw0]; simp
  obtain ⟨m0, m1, m2, m3, _, _, _, _⟩ := blk4 (heap_alloc_new w (.cells #[.int .u8 (k : Int), .int .u64 (q : Int), .int .i64 a, .slice A n c] 28))
  rw [← hw0] at m0 m1 m2 m3
  have m0 := (hb2.cell (p := ⟨w.heap.size, 0, none⟩) hz).trans m0
  have m1 := (hb2.cell (p := ⟨w.heap.size, 1, none⟩) hz).trans m1
  have m2 := (hb2.cell (p := ⟨w.heap.size, 2, none⟩) hz).trans m2
  have m3 := (hb2.cell (p := ⟨w.heap.size, 3, none⟩) hz).trans m3
  obtain ⟨x0, x1, x2, x3, _, _, _, _⟩ := blk4 (heap_alloc_new w0 (.cells #[.int .u8 (k2 : Int), .int .u64 (q2 : Int), .int .i64 a2, .slice A2 n2 c2] 28))
  have HB0 := Lib.hid (bstep hb1 hb2)
  have HSA := Lib.hid (fun (y : Bool) (hy : decide (l = l2) = y) => rsame_any A n c l A2 n2 c2 l2 (w0.alloc (.cells #[.int .u8 (k2 : Int), .int .u64 (q2 : Int), .int .i64 a2, .slice A2 n2 c2] 28)) (h1.over (Nat.le_refl _) HB0.out) (h2.over (Nat.le_refl _) HB0.out) hm hy)
  clear hb1 hb2 hz h1 h2 hm
  rw [hw0] at HB0 HSA m0 m1 m2 m3 x0 x1 x2 x3
  clear hw0
  have hh : (decide (k = k2) && decide (q = q2) && decide (a = a2) && decide (l = l2)) = x := hx
  clear hx
  by_cases e1 : k = k2
  · have f1 : ((k : Int) == (k2 : Int)) = true := by simp [e1]
    by_cases e2 : q = q2
    · have f2 : ((q : Int) == (q2 : Int)) = true := by simp [e2]
      by_cases e3 : a = a2
      · have f3 : (a == a2) = true := by simp [e3]
        have HS := Lib.hid (HSA.out x (by rw [← hh, decide_eq_true e1, decide_eq_true e2, decide_eq_true e3]; rfl))
        clear hh HSA e1 e2 e3
        go_enter Tryd.func19, Tryd.ntmps19
        go_wp2_with (go_at_call 46; (with_reducible refine HS.out.mono ?_); rintro e w1 ⟨rfl, hb⟩; have HB := Lib.hid (bstep HB0.out hb); clear hb)
        go_ret
        exact ⟨rfl, HB.out⟩
      · have f3 : (a == a2) = false := by simp [e3]
        obtain rfl : x = false := by rw [← hh, decide_eq_false e3]; simp
        clear hh HSA e1 e2 e3
        go_enter Tryd.func19, Tryd.ntmps19
        go_wp2
        go_ret
        exact ⟨rfl, HB0.out⟩
    · have f2 : ((q : Int) == (q2 : Int)) = false := by simp; omega
      obtain rfl : x = false := by rw [← hh, decide_eq_false e2]; simp
      clear hh HSA e1 e2
      go_enter Tryd.func19, Tryd.ntmps19
      go_wp2
      go_ret
      exact ⟨rfl, HB0.out⟩
  · have f1 : ((k : Int) == (k2 : Int)) = false := by simp; omega
    obtain rfl : x = false := by rw [← hh, decide_eq_false e1]; simp
    clear hh HSA e1
    go_enter Tryd.func19, Tryd.ntmps19
    go_wp2
    go_ret
    exact ⟨rfl, HB0.out⟩
end Go.Proofs.YtiflpjdiokloaaaDoor
