/-
  The walk of the law MessageCut.
-/
import Derived.Test.YtiflpjdiokloaaaDoorPackQ
import Derived.Test.YtiflpjdiokloaaaDoorPackI
namespace Go.Proofs.YtiflpjdiokloaaaDoor
open Go.RowKit
set_option linter.unusedVariables false

/-- No message, and an error. -/
def TookNo (x : Int) (w : World) (e : Ending) (w' : World) : Prop := ∃ A n c, e = .returned (.tuple #[.agg #[.int .u8 0, .int .u64 0, .int .i64 0, .slice A n c], .int .i64 x]) ∧ Below w.heap.size w w'
theorem took_no {x : Int} {w : World} {e : Ending} {w' : World} (h : TookM (noMsg, x) w e w') : TookNo x w e w' := by
  obtain ⟨A, n, c, h1, _, h3⟩ := h
  exact ⟨A, n, c, h1, h3⟩
theorem liesB_take {w : World} {B : Nat} {A : Option Addr} {n c : Nat} {b : List UInt8} (h : LiesB w B (.slice A n c) b) (j : Nat) (hj : j < b.length) : LiesB w B (.slice A j c) (b.take j) := by
  have e : (b.take j).length = j := by rw [List.length_take]; omega
  rcases h with ⟨rfl, _⟩ | ⟨b1, off, c1, e1, hl, hB, hc⟩
  · simp at hj
  · simp only [Value.slice.injEq] at e1
    obtain ⟨rfl, _, rfl⟩ := e1
    refine .inr ⟨b1, off, c, by rw [e], by omega, hB, fun i hi => ?_⟩
    rw [e] at hi
    rw [hc i (by omega), List.getElem_take]
/-- What the last call reads: the message's kind. -/
abbrev CutS (w3 : World) (g k : Nat) (w' : World) : Prop := w'.cell? ⟨g, 0, none⟩ = some (.int .u8 (k : Int)) ∧ Hid (g < w3.heap.size ∧ Below w3.heap.size w3 w')
theorem CutS.hid {w3 : World} {g k : Nat} {w' : World} (h : CutS w3 g k w') : g < w3.heap.size ∧ Below w3.heap.size w3 w' := h.2.out
theorem cutS_over {w3 : World} {g k : Nat} {w1 w2 : World} (h : CutS w3 g k w1) (hb : Below w1.heap.size w1 w2) : CutS w3 g k w2 :=
  ⟨(hb.cell (p := ⟨g, 0, none⟩) (Nat.lt_of_lt_of_le h.2.out.1 h.2.out.2.size)).trans h.1, Lib.hid ⟨h.2.out.1, bstep h.2.out.2 hb⟩⟩
theorem cutS_drew {w3 : World} {g k : Nat} {w1 : World} (h : CutS w3 g k w1) : CutS w3 g k w1.drew := cutS_over h (bself w1).drew
theorem cutS_alloc {w3 : World} {g k : Nat} {w1 : World} (h : CutS w3 g k w1) (o : Obj) : CutS w3 g k (w1.alloc o) := cutS_over h (bmore (bself w1) o)
theorem cutS_set {w3 : World} {g k : Nat} {w1 : World} (h : CutS w3 g k w1) {p : Addr} (u : Value) (hp : w3.heap.size ≤ p.block) : CutS w3 g k (w1.setCell p u) := by
  have hf : ∀ j, j < w3.heap.size → (w1.setCell p u).heap[j]? = w1.heap[j]? := fun j hj => Below.heap_setCell w1 p u j (by omega)
  have hb := h.2.out
  have hB : Below w3.heap.size w3 (w1.setCell p u) := ⟨hb.2.os, hb.2.tape, hb.2.output, by rw [setCell_size]; exact hb.2.size, fun j hj => (hf j hj).trans (hb.2.block j hj)⟩
  exact ⟨(World.cell?_of_block (w := w1) (hf g hb.1)).trans h.1, Lib.hid ⟨hb.1, hB⟩⟩
theorem cutS_fin {W w3 : World} {g k : Nat} {w1 : World} (hW : Below W.heap.size W w3) (h : CutS w3 g k w1) : Below W.heap.size W w1 := hW.trans (h.2.out.2.mono hW.size)
theorem box_drew (w : World) (o : Obj) (w1 : World) (hb : Below (w.alloc o).drew.heap.size (w.alloc o).drew w1) : w1.heap[w.heap.size]? = some o := (one_block (w := w) (o1 := o) (bstep (bself (w.alloc o)).drew hb)).1
theorem cutS_set4 {w3 : World} {g k : Nat} {w1 : World} (h : CutS w3 g k w1) {B : Nat} {u0 u1 u2 u3 : Value} (hp : w3.heap.size ≤ B) : CutS w3 g k ((((w1.setCell ⟨B, 0, none⟩ u0).setCell ⟨B, 1, none⟩ u1).setCell ⟨B, 2, none⟩ u2).setCell ⟨B, 3, none⟩ u3) :=
  cutS_set (cutS_set (cutS_set (cutS_set h u0 hp) u1 hp) u2 hp) u3 hp
set_option maxRecDepth 100000 in
set_option maxHeartbeats 2000000 in
theorem messageCut_any (k q : Nat) (a : Int) (A : Option Addr) (n c : Nat) (l : List Pr) (cut : Nat) (x : UInt8) (W : World) (hT : Tabs W) (hk : k < 256) (hq : q ≤ 18446744073709551615) (ha : -9223372036854775808 ≤ a ∧ a ≤ 9223372036854775807) (hl : Props W W.heap.size (.slice A n c) l) (hf : ∀ p ∈ l, -9223372036854775808 ≤ p.val ∧ p.val ≤ 9223372036854775807) (hcut : cut < 65536) :
    Calls Tryd.prog 7 #[.agg #[.int .u8 (k : Int), .int .u64 (q : Int), .int .i64 a, .slice A n c], .int .u16 (cut : Int), .int .u8 (x.toNat : Int)] W fun e w' => e = .returned (.bool true) ∧ Below W.heap.size W w' := by
  have HV := Lib.hid hl
  have HA := Lib.hid (awake6_any (W.alloc (.cells #[.int .u8 (k : Int), .int .u64 (q : Int), .int .i64 a, .slice A n c] 25)) (hT.over (bmore (bself W) _)))
  obtain ⟨f, hff⟩ : ∃ f, few6L l = f := ⟨_, rfl⟩
  have HF := Lib.hid (fun w (h : Props w w.heap.size (.slice A n c) l) => few6_any k q a A n c l w h hff)
  cases f with
  | false =>
    clear hl hT hff hf ha hq hk hcut
    go_enter Tryd.func7, Tryd.ntmps7
    go_wp2_with (first
      | (go_at_call 8; (with_reducible refine HA.out.mono ?_); rintro e w1 ⟨rfl, hb⟩; obtain ⟨hx, hB, hz⟩ := one_block hb; have HB := Lib.hid hB; have HG := Lib.hid (show W.heap.size < _ from hz); obtain ⟨m0, m1, m2, m3, _, _, _, _⟩ := blk4 hx; have HPp := Lib.hid (HV.out.over (Nat.le_refl _) hB); clear hb hx hB hz)
      | (go_at_call 9; (with_reducible refine (HF.out _ HPp.out).mono ?_); rintro e w2 ⟨rfl, hb⟩; have m0 := (hb.cell HG.out).trans m0; have m1 := (hb.cell HG.out).trans m1; have m2 := (hb.cell HG.out).trans m2; have m3 := (hb.cell HG.out).trans m3; have HB := Lib.hid (bstep HB.out hb); have HPp := Lib.hid (HPp.out.over (Nat.le_refl _) hb); have HG := Lib.hid (Nat.lt_of_lt_of_le HG.out hb.size); clear hb))
    go_ret
    exact ⟨rfl, HB.out⟩
  | true =>
    obtain ⟨f1, f2⟩ := few6_len hff
    have hfit : FitsL l := fun p hp => ⟨by have := f2 p hp; omega, hf p hp⟩
    cases hr : mayL ⟨k, q, a, l⟩ with
    | false =>
      have hpr : PutR ⟨k, q, a, l⟩ = ([], 1) := by unfold PutR; rw [hr]; rfl
      have HPU := Lib.hid (fun w (h : Props w w.heap.size (.slice A n c) l) => mput_any k q a A n c l w hq ha.2 h (by omega) hfit hpr)
      clear hl hT hff hf ha hq hk hcut f1 f2 hfit hr hpr
      go_enter Tryd.func7, Tryd.ntmps7
      go_wp2_with (first
        | (go_at_call 8; (with_reducible refine HA.out.mono ?_); rintro e w1 ⟨rfl, hb⟩; obtain ⟨hx, hB, hz⟩ := one_block hb; have HB := Lib.hid hB; have HG := Lib.hid (show W.heap.size < _ from hz); obtain ⟨m0, m1, m2, m3, _, _, _, _⟩ := blk4 hx; have HPp := Lib.hid (HV.out.over (Nat.le_refl _) hB); clear hb hx hB hz)
        | (go_at_call 9; (with_reducible refine (HF.out _ HPp.out).mono ?_); rintro e w2 ⟨rfl, hb⟩; have m0 := (hb.cell HG.out).trans m0; have m1 := (hb.cell HG.out).trans m1; have m2 := (hb.cell HG.out).trans m2; have m3 := (hb.cell HG.out).trans m3; have HB := Lib.hid (bstep HB.out hb); have HPp := Lib.hid (HPp.out.over (Nat.le_refl _) hb); have HG := Lib.hid (Nat.lt_of_lt_of_le HG.out hb.size); clear hb)
        | (go_at_call 12; (with_reducible refine (HPU.out _ HPp.out).mono ?_); rintro e w3 ⟨G3, z3, rfl, hlb, hb⟩; have HL3 := Lib.hid hlb; clear hlb; have m0 := (hb.cell HG.out).trans m0; have m1 := (hb.cell HG.out).trans m1; have m2 := (hb.cell HG.out).trans m2; have m3 := (hb.cell HG.out).trans m3; have HB := Lib.hid (bstep HB.out hb); have HPp := Lib.hid (HPp.out.over (Nat.le_refl _) hb); have HG := Lib.hid (Nat.lt_of_lt_of_le HG.out hb.size); clear hb))
      go_ret
      exact ⟨rfl, HB.out⟩
    | true =>
      have hw : Msg.Wf ⟨k, q, a, l⟩ := ⟨hq, ha.2, hf⟩
      obtain ⟨pb, hpb⟩ : ∃ pb, putM ⟨k, q, a, l⟩ = pb := ⟨_, rfl⟩
      have hpr : PutR ⟨k, q, a, l⟩ = (pb, 0) := by unfold PutR; rw [hr, hpb]; rfl
      have hlen : pb.length ≤ 203 := by rw [← hpb]; exact put_len6 hw hr
      have hleft : takeM k (pb ++ [x]) = (noMsg, 12) := by rw [← hpb]; exact put_left hw hr x []
      have hshort : ∀ j, j < pb.length → takeM k (pb.take j) = (noMsg, 10) := fun j hj => by rw [← hpb] at hj ⊢; exact put_cut hw hr j hj
      have HPU := Lib.hid (fun w (h : Props w w.heap.size (.slice A n c) l) => mput_any k q a A n c l w hq ha.2 h (by omega) hfit hpr)
      have HT1 : Hid (∀ v w, LiesB w w.heap.size v (pb ++ [x]) → Calls Tryd.prog 17 #[.int .u8 (k : Int), v] w (TookNo 12 w)) := Lib.hid (fun v w h => by
        have := mtake_any k v (pb ++ [x]) w hk h (by simp; omega)
        rw [hleft] at this
        exact this.mono fun e w' h => took_no h)
      have HT2 : Hid (∀ j, j < pb.length → ∀ v w, LiesB w w.heap.size v (pb.take j) → Calls Tryd.prog 17 #[.int .u8 (k : Int), v] w (TookNo 10 w)) := Lib.hid (fun j hj v w h => by
        have := mtake_any k v (pb.take j) w hk h (by rw [List.length_take]; omega)
        rw [hshort j hj] at this
        exact this.mono fun e w' h => took_no h)
      have HPL := Lib.hid hlen
      have HCU := Lib.hid hcut
      clear hl hT hff hf ha hq hk hcut f1 f2 hfit hr hpr hw hpb hlen hleft hshort
      go_enter Tryd.func7, Tryd.ntmps7
      go_upto_region 13 with (first
        | (go_at_call 8; (with_reducible refine HA.out.mono ?_); rintro e w1 ⟨rfl, hb⟩; obtain ⟨hx, hB, hz⟩ := one_block hb; have HB := Lib.hid hB; have HG := Lib.hid (show W.heap.size < _ from hz); obtain ⟨m0, m1, m2, m3, _, _, _, _⟩ := blk4 hx; have HPp := Lib.hid (HV.out.over (Nat.le_refl _) hB); clear hb hx hB hz)
        | (go_at_call 9; (with_reducible refine (HF.out _ HPp.out).mono ?_); rintro e w2 ⟨rfl, hb⟩; have m0 := (hb.cell HG.out).trans m0; have m1 := (hb.cell HG.out).trans m1; have m2 := (hb.cell HG.out).trans m2; have m3 := (hb.cell HG.out).trans m3; have HB := Lib.hid (bstep HB.out hb); have HPp := Lib.hid (HPp.out.over (Nat.le_refl _) hb); have HG := Lib.hid (Nat.lt_of_lt_of_le HG.out hb.size); clear hb)
        | (go_at_call 12; (with_reducible refine (HPU.out _ HPp.out).mono ?_); rintro e w3 ⟨G3, z3, rfl, hlb, hb⟩; have HL3 := Lib.hid hlb; clear hlb; have m0 := (hb.cell HG.out).trans m0; have m1 := (hb.cell HG.out).trans m1; have m2 := (hb.cell HG.out).trans m2; have m3 := (hb.cell HG.out).trans m3; have HB := Lib.hid (bstep HB.out hb); have HPp := Lib.hid (HPp.out.over (Nat.le_refl _) hb); have HG := Lib.hid (Nat.lt_of_lt_of_le HG.out hb.size); clear hb)
        | (at_builtin; refine wp_app_any rfl (.tmp 30) (.tmp 31) rfl w3.heap.size w3.heap.size (.slice none 0 0) [] pb G3 z3 rfl (Owns.none_ _ _) rfl (liesB_slice HL3.out).2.2.1 (liesB_slice HL3.out).1 (Fits.of (by have := HPL.out; simp only [List.length_nil]; omega)) (Nat.le_refl _) ?_; intro v4 w4 ho hb; have HO4 : Hid (Owns w4 w3.heap.size v4 pb) := Lib.hid ho; obtain ⟨A4, c4, rfl, _, _, _⟩ := lies_row ho.lies; have HC4 := Lib.hid hb; clear ho hb)
        | (at_builtin; refine wp_app_any rfl (.tmp 33) (.tmp 35) rfl w3.heap.size (w4.alloc (.cells #[.int .u8 (x.toNat : Int)] 5)).heap.size (.slice A4 pb.length c4) pb [x] (some ⟨w4.heap.size, 0, none⟩) 1 rfl (HO4.out.over (bmore (bself w4) _)) rfl (fun e => by cases e) (lit_row_mark w4 (bc [x]) _ _ _ rfl) (Fits.of (by have := HPL.out; simp; omega)) (by have := HC4.out.size; simp; omega) ?_; intro v5 w5 ho hb; have HO5 := Lib.hid ho; have hb := ((HC4.out).alloc HC4.out.size _).trans hb; obtain ⟨A5, c5, rfl, _, _, _⟩ := lies_row ho.lies; have m0' := m0; have m0 := (hb.cell HG.out).trans m0; have HC5 := Lib.hid hb; have HB5 := Lib.hid (HB.out.trans (hb.mono HB.out.size)); clear ho hb))
      have HL5 : Hid (LiesB w5 w5.heap.size (.slice A5 (pb.length + 1) c5) (pb ++ [x])) := Lib.hid (by
        have := HO5.out.lies.in_
        rw [List.length_append] at this
        exact this)
      generalize hnp : pb.length = np at HL5 ⊢
      have HNP := Lib.hid hnp
      clear hnp HO4 HO5
      go_upto_region 14 with (go_at_call 17; (with_reducible refine (HT1.out _ _ HL5.out).mono ?_); rintro e w6 ⟨A6, n6, c6, rfl, hb⟩; have HC6 := Lib.hid (HC5.out.trans (hb.mono HC5.out.size)); have HB6 := Lib.hid (bstep HB5.out hb); clear hb)
      have hb7 := bmore (bself w6) (.cells #[.int .u8 0, .int .u64 0, .int .i64 0, .slice A6 n6 c6] 25)
      have m0 := ((HC6.out.trans (hb7.mono HC6.out.size)).cell HG.out).trans m0'
      have HC7 := Lib.hid (HC6.out.trans (hb7.mono HC6.out.size))
      have HB7 := Lib.hid (bstep HB6.out hb7)
      generalize w6.alloc (Obj.cells #[Value.int IntKind.u8 0, Value.int IntKind.u64 0, Value.int IntKind.i64 0, Value.slice A6 n6 c6] 25) = w7 at HC7 HB7 m0 ⊢
      clear hb7 HC6 HB6
      by_cases h0 : np = 0
      · have h1 : ((np : Int) == 0) = true := by simp [h0]
        clear h0
        go_wp2
        go_ret
        exact ⟨rfl, HB7.out⟩
      · have h1 : ((np : Int) == 0) = false := by simp [h0]
        have h2 : ¬ (np : Int) = 0 := by omega
        obtain ⟨j, hj⟩ : ∃ j, j = cut % np := ⟨_, rfl⟩
        have hjn : j < np := by rw [hj]; exact Nat.mod_lt _ (by omega)
        have hrem : (cut : Int).tmod (np : Int) = (j : Int) := by rw [hj, Int.tmod_eq_emod_of_nonneg (by omega)]; rfl
        have hjz : (j : Int) ≤ (z3 : Int) := by have := (liesB_slice HL3.out).2.1; have := HNP.out; omega
        have hj0 : (0 : Int) ≤ (j : Int) := by omega
        have hwj : IntKind.i64.wrap (j : Int) = (j : Int) := IntWalk.i64_in _ (by have := HCU.out; have := Nat.mod_le cut np; omega)
        have hwc : IntKind.i64.wrap (cut : Int) = (cut : Int) := IntWalk.i64_in _ (by have := HCU.out; omega)
        have HJ : Hid (∀ w, Below w3.heap.size w3 w → Calls Tryd.prog 17 #[.int .u8 (k : Int), .slice G3 j z3] w (TookNo 10 w)) := Lib.hid fun w hb => by
          have hjl : j < pb.length := by have := HNP.out; omega
          exact HT2.out j hjl _ w (liesB_take (HL3.out.over (Nat.le_refl _) hb) j hjl)
        obtain ⟨b3, o3, rfl⟩ : ∃ b3 o3, G3 = some ⟨b3, o3, none⟩ := by
          rcases HL3.out with ⟨h, _⟩ | ⟨b3, o3, c3, e, _⟩
          · have := HNP.out; rw [h] at this; simp at this; omega
          · simp only [Value.slice.injEq] at e; exact ⟨b3, o3, e.1⟩
        obtain ⟨g, hg⟩ : ∃ g, g = W.heap.size := ⟨_, rfl⟩
        have hS : CutS w3 g k w7 := ⟨by rw [hg]; exact m0, Lib.hid ⟨by rw [hg]; exact HG.out, HC7.out⟩⟩
        unfold CutS at hS
        have HWG := Lib.hid HB.out
        have hBB : w3.heap.size ≤ w7.heap.size := HC7.out.size
        rw [← hg]
        go_upto_region 18 with (fail)
        clear hg hj hjn m0 HG HB HC7 HB7 HC5 HB5 HC4
        go_region_held3 (fun w' => w'.cell? ⟨g, 0, none⟩ = some (.int .u8 (k : Int)) ∧ Hid (g < w3.heap.size ∧ Below w3.heap.size w3 w'))
          (first | assumption | (with_reducible exact cutS_drew (by assumption)) | (with_reducible exact cutS_set4 (by assumption) hBB) | (with_reducible exact cutS_alloc (by assumption) _) | (with_reducible exact cutS_drew (cutS_alloc (by assumption) _)))
          (first
            | (go_at_call 17; ((with_reducible refine Calls.mono (HJ.out _ ?_) ?_); (exact (CutS.hid (w3 := w3) (g := g) (k := k) (by assumption)).2); rintro e w8 ⟨A8, n8, c8, rfl, hb⟩; have hs1 := cutS_over (by assumption) hb; first | ((with_reducible have hx := box_drew w7 (.cells #[.int .u8 0, .int .u64 0, .int .i64 0, .slice none 0 0] 25) _ hb); obtain ⟨y0, y1, y2, y3, f0, f1, f2, f3⟩ := blk4 hx) | skip)))
        all_goals
          rename_i hh
          have HZ := Lib.hid (cutS_fin (g := g) (k := k) HWG.out hh)
          clear hh
          go_wp2
          go_ret
          exact ⟨rfl, HZ.out⟩
theorem messageCut_row (m : Msg) (A : Option Addr) (n c : Nat) (p : Nat) (x : UInt8) (W : World) (hT : Tabs W) (hin : m.In) (hp : Props W W.heap.size (.slice A n c) m.props) (hcut : p < 65536) :
    Calls Tryd.prog 7 #[.agg #[.int .u8 (m.kind : Int), .int .u64 (m.seq : Int), .int .i64 m.at_, .slice A n c], .int .u16 (p : Int), .int .u8 (x.toNat : Int)] W fun e w' => e = .returned (.bool true) ∧ Below W.heap.size W w' :=
  messageCut_any m.kind m.seq m.at_ A n c m.props p x W hT hin.1 hin.2.1 hin.2.2.1 hp hin.2.2.2 hcut
end Go.Proofs.YtiflpjdiokloaaaDoor
