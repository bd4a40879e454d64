/-
  The walk of the law LabelHolds.
-/
import Derived.Test.YtckhhphchphmlaaAwakeFive
import Derived.Test.YtckhhphchphmlaaFewFive
import Derived.Test.YtckhhphchphmlaaRefHolds
namespace Go.Proofs.Ytckhhphchphmlaa
open Go.RowKit
set_option linter.unusedVariables false

/-- What the two calls read: the atom's box, the list. -/
def HoldsS (W : World) (g : Nat) (s : ByteArray) (op u : Int) (v : Value) (l : List Pr) (w' : World) : Prop :=
  w'.cell? ⟨g, 0, none⟩ = some (.string s) ∧ w'.cell? ⟨g, 1, none⟩ = some (.int .i64 op) ∧ w'.cell? ⟨g, 2, none⟩ = some (.int .i64 u) ∧ Hid (g < w'.heap.size ∧ Below W.heap.size W w' ∧ Props w' w'.heap.size v l)
theorem holdsS_over {W w1 w2 : World} {g : Nat} {s : ByteArray} {op u : Int} {v : Value} {l : List Pr} (h : HoldsS W g s op u v l w1) (hb : Below w1.heap.size w1 w2) : HoldsS W g s op u v l w2 := by
  obtain ⟨h1, h2, h3, h4⟩ := h
  have hg := h4.out.1
  exact ⟨(hb.cell (p := ⟨g, 0, none⟩) hg).trans h1, (hb.cell (p := ⟨g, 1, none⟩) hg).trans h2, (hb.cell (p := ⟨g, 2, none⟩) hg).trans h3, Lib.hid ⟨Nat.lt_of_lt_of_le hg hb.size, bstep h4.out.2.1 hb, h4.out.2.2.over (Nat.le_refl _) hb⟩⟩
theorem holdsS_drew {W w1 : World} {g : Nat} {s : ByteArray} {op u : Int} {v : Value} {l : List Pr} (h : HoldsS W g s op u v l w1) : HoldsS W g s op u v l w1.drew := holdsS_over h (bself w1).drew
theorem HoldsS.list {W w1 : World} {g : Nat} {s : ByteArray} {op u : Int} {v : Value} {l : List Pr} (h : HoldsS W g s op u v l w1) : Props w1 w1.heap.size v l := h.2.2.2.out.2.2
theorem rholds_s (A : Option Addr) (n c : Nat) (l : List Pr) (s : ByteArray) (nm : List UInt8) (op u : Int) (w : World) (hs : s = mkB nm) (hl : Props w w.heap.size (.slice A n c) l) (hm : l.length ≤ 1000) {q : Bool} (hq : holdsL l nm op u = q) : Calls Try.prog 21 #[.slice A n c, .agg #[.string s, .int .i64 op, .int .i64 u]] w fun e w' => e = .returned (.bool q) ∧ Below w.heap.size w w' := by
  subst hs; exact rholds_any A n c l nm op u w hl (by omega) hq

set_option maxRecDepth 100000 in
set_option maxHeartbeats 1000000 in
theorem labelHolds_any (v : Value) (l : List Pr) (nm : List UInt8) (op u : Int) (W : World) (hm : l.length ≤ 4611686018427387904) (hv : Props W W.heap.size v l) : Calls Try.prog 5 #[v, .agg #[.string (mkB nm), .int .i64 op, .int .i64 u]] W fun e w' => e = .returned (.bool true) ∧ Below W.heap.size W w' := by
  obtain ⟨A, c, rfl, hnc⟩ := hv.open_
  obtain ⟨n, hn⟩ : ∃ n, n = l.length := ⟨_, rfl⟩
  rw [← hn] at hv ⊢
  obtain ⟨q, hq⟩ : ∃ q, holdsL l nm op u = q := ⟨_, rfl⟩
  obtain ⟨f, hf⟩ : ∃ f, fewL l = f := ⟨_, rfl⟩
  obtain ⟨s, hs⟩ : ∃ s, s = mkB nm := ⟨_, rfl⟩
  rw [← hs]
  have HA := Lib.hid (awake5_any (W.alloc (.cells #[.string s, .int .i64 op, .int .i64 u] 31)))
  have HF := Lib.hid (fun w (h : Props w w.heap.size (.slice A n c) l) => few5_any A n c l w h hm hf)
  have HLN : Hid (f = true → l.length ≤ 1000) := Lib.hid fun e => by have := few_len (hf.trans e); omega
  have H1 := Lib.hid (fun w (hlen : l.length ≤ 1000) (h : Props w w.heap.size (.slice A n c) l) => lholds_s A n c l s nm op u w hs h hlen hq)
  have H2 := Lib.hid (fun w (hlen : l.length ≤ 1000) (h : Props w w.heap.size (.slice A n c) l) => rholds_s A n c l s nm op u w hs h hlen hq)
  have HV := Lib.hid hv
  clear hm hv hq hf hn hs hnc
  cases f with
  | false =>
    go_enter Try.func5, Try.ntmps5
    go_wp2_with (first
      | (go_at_call 9; (with_reducible refine HA.out.mono ?_); rintro e w1 ⟨rfl, hb⟩; have HB := Lib.hid (bstep (bmore (bself W) _) hb); clear hb)
      | (go_at_call 12; (with_reducible refine (HF.out _ (HV.out.over (Nat.le_refl _) HB.out)).mono ?_); rintro e w2 ⟨rfl, rfl⟩))
    go_ret
    exact ⟨rfl, HB.out⟩
  | true =>
    have HLEN := Lib.hid (HLN.out rfl)
    go_enter Try.func5, Try.ntmps5
    go_wp2_with (first
      | (go_at_call 9; (with_reducible refine HA.out.mono ?_); rintro e w1 ⟨rfl, hb⟩; have HB := Lib.hid (bstep (bmore (bself W) _) hb); obtain ⟨h0, _, hz⟩ := one_block hb; have HX := Lib.hid (And.intro h0 hz); clear hb h0 hz)
      | (go_at_call 12; (with_reducible refine (HF.out _ (HV.out.over (Nat.le_refl _) HB.out)).mono ?_); rintro e w2 ⟨rfl, rfl⟩))
    obtain ⟨g, hg⟩ : ∃ g, g = W.heap.size := ⟨_, rfl⟩
    have hS : HoldsS W g s op u (.slice A n c) l w2 := by
      obtain ⟨b0, b1, b2, _, _, _⟩ := blk3 HX.out.1
      rw [hg]
      exact ⟨b0, b1, b2, Lib.hid ⟨by have := HX.out.2; omega, HB.out, HV.out.over (Nat.le_refl _) HB.out⟩⟩
    unfold HoldsS at hS
    rw [← hg]
    clear hg
    go_region_held3 (fun w' => w'.cell? ⟨g, 0, none⟩ = some (.string s) ∧ w'.cell? ⟨g, 1, none⟩ = some (.int .i64 op) ∧ w'.cell? ⟨g, 2, none⟩ = some (.int .i64 u) ∧ Hid (g < w'.heap.size ∧ Below W.heap.size W w' ∧ Props w' w'.heap.size (.slice A n c) l))
      (first | assumption | exact holdsS_drew (by assumption))
      (first
        | (go_at_call 20; ((with_reducible refine Calls.mono (H1.out _ HLEN.out ?_) ?_); (exact HoldsS.list (W := W) (g := g) (s := s) (op := op) (u := u) (by assumption)); rintro e w5 ⟨rfl, hb5⟩; have hs1 := holdsS_over (by assumption) hb5))
        | (go_at_call 21; ((with_reducible refine Calls.mono (H2.out _ HLEN.out ?_) ?_); (exact HoldsS.list (W := W) (g := g) (s := s) (op := op) (u := u) (by assumption)); rintro e w6 ⟨rfl, hb6⟩; have hs1 := holdsS_over (by assumption) hb6)))
    have HZ := Lib.hid hs1.2.2.2.out.2.1
    go_wp2
    go_ret
    exact ⟨rfl, HZ.out⟩
end Go.Proofs.Ytckhhphchphmlaa
