/-
  Texts of the proofs, put together: Message, AwakeSix, WalkMessageTakes, WalkMessagePuts.
-/
import Derived.Test.YtiflpjdiokloaaaDoorMsgPut
import Derived.Test.YtiflpjdiokloaaaDoorMsgTake
import Derived.Test.YtiflpjdiokloaaaDoorRefTakeM
import Derived.Test.YtiflpjdiokloaaaDoorRefFrameM
import Derived.Test.YtiflpjdiokloaaaDoorPackP
import Derived.Test.YtiflpjdiokloaaaDoorPackK
import Derived.Deep.Cut
import Derived.Deep.RegionHeld3
import Derived.Test.YtiflpjdiokloaaaDoorPackI
/-
  Package message's contracts: May, Put, Frame, Take.
-/
namespace Go.Proofs.YtiflpjdiokloaaaDoor
open Go.RowKit
set_option linter.unusedVariables false

theorem mput_any (k q : Nat) (a : Int) (A : Option Addr) (n c : Nat) (l : List Pr) (w : World) (hq : q ≤ 18446744073709551615) (ha : a ≤ 9223372036854775807) (hl : Props w w.heap.size (.slice A n c) l) (hm : l.length ≤ 1000) (hf : FitsL l) {b : List UInt8} {x : Int} (hr : PutR ⟨k, q, a, l⟩ = (b, x)) :
    Calls Tryd.prog 12 #[.agg #[.int .u8 (k : Int), .int .u64 (q : Int), .int .i64 a, .slice A n c]] w fun e w' => ∃ G z, e = .returned (.tuple #[.slice G b.length z, .int .i64 x]) ∧ LiesB w' w'.heap.size (.slice G b.length z) b ∧ Below w.heap.size w w' :=
  mputp_any k q a A n c l w hq ha hl hm hf hr
theorem mtake_any (k : Nat) (v : Value) (b : List UInt8) (w : World) (hk : k < 256) (hb : LiesB w w.heap.size v b) (hl : b.length ≤ 100000) :
    Calls Tryd.prog 17 #[.int .u8 (k : Int), v] w (TookM (takeM k b) w) := by
  by_cases h : k < 1 ∨ 4 < k
  · rw [take_none h]
    exact mtake_no k v w h
  · obtain ⟨A, c, rfl, hr, hc, hA⟩ := liesB_row hb
    rcases h1 : optN (nmS k) b 0 with ⟨q, l1, e1⟩
    rcases h2 : optA (nmA k) l1 e1 with ⟨a, l2, e2⟩
    rcases h3 : optN (nmP k) l2 e2 with ⟨n, l3, e3⟩
    rcases h4 : rdProps n l3 e3 with ⟨ps, l4, e4⟩
    exact mtake_ok k A c b w _ _ _ rfl rfl rfl (by unfold nmI; simp; omega) hr hA hc hl h1 h2 h3 h4 (take_opt (by omega) (by omega) h1 h2 h3 h4)

set_option maxRecDepth 100000 in
theorem mframe_no (k q : Nat) (a : Int) (A : Option Addr) (n c : Nat) (w : World) (HP : Hid (∀ w1, Below w.heap.size w w1 → Calls Tryd.prog 12 #[.agg #[.int .u8 (k : Int), .int .u64 (q : Int), .int .i64 a, .slice A n c]] w1 fun e w' => ∃ G z, e = .returned (.tuple #[.slice G 0 z, .int .i64 1]) ∧ Below w1.heap.size w1 w')) :
    Calls Tryd.prog 14 #[.agg #[.int .u8 (k : Int), .int .u64 (q : Int), .int .i64 a, .slice A n c]] w fun e w' => e = .returned (.slice none 0 0) ∧ Below w.heap.size w w' := by
  obtain ⟨m0, m1, m2, m3, _, _, _, _⟩ := blk4 (heap_alloc_new w (.cells #[.int .u8 (k : Int), .int .u64 (q : Int), .int .i64 a, .slice A n c] 25))
  go_enter Tryd.func14, Tryd.ntmps14
  go_wp2_with (go_at_call 12; (with_reducible refine (HP.out _ (bmore (bself w) _)).mono ?_); rintro e w1 ⟨G, z, rfl, hb⟩; have HB := Lib.hid (bstep (bmore (bself w) _) hb); clear hb)
  go_ret
  exact ⟨rfl, HB.out⟩
set_option maxRecDepth 100000 in
theorem mframe_ok (W : World) (hT : Tabs W) (k q : Nat) (a : Int) (A : Option Addr) (n c : Nat) (w : World) (hW : Below W.heap.size W w) (hk : k < 256) (body : List UInt8) (hbl : body.length ≤ 256)
    (HP : Hid (∀ w1, Below w.heap.size w w1 → Calls Tryd.prog 12 #[.agg #[.int .u8 (k : Int), .int .u64 (q : Int), .int .i64 a, .slice A n c]] w1 fun e w' => ∃ G z, e = .returned (.tuple #[.slice G body.length z, .int .i64 0]) ∧ LiesB w' w'.heap.size (.slice G body.length z) body ∧ Below w1.heap.size w1 w')) :
    Calls Tryd.prog 14 #[.agg #[.int .u8 (k : Int), .int .u64 (q : Int), .int .i64 a, .slice A n c]] w fun e w' => ∃ v, e = .returned v ∧ Fresh w' w.heap.size v (putF (UInt8.ofNat k) body) ∧ Below w.heap.size w w' := by
  obtain ⟨m0, m1, m2, m3, _, _, _, _⟩ := blk4 (heap_alloc_new w (.cells #[.int .u8 (k : Int), .int .u64 (q : Int), .int .i64 a, .slice A n c] 25))
  have HW := Lib.hid (And.intro hW (And.intro hT hbl))
  have hkk := u8_nat k hk
  have HF := Lib.hid (fun (w1 : World) (G : Option Addr) (z : Nat) (hb : Below w.heap.size w w1) (hl : LiesB w1 w1.heap.size (.slice G body.length z) body) => show Calls Tryd.prog 29 #[.int .u8 (k : Int), .slice G body.length z] w1 fun e w' => ∃ v, e = .returned (.tuple #[v, .int .i64 0]) ∧ Fresh w' w1.heap.size v (putF (UInt8.ofNat k) body) ∧ Below w1.heap.size w1 w' from by
    obtain ⟨h1, h2, h3, _⟩ := liesB_slice hl
    have h := fput_any W HW.out.2.1 (UInt8.ofNat k) G z body w1 (bstep HW.out.1 hb) h1 h2 h3 HW.out.2.2
    rw [hkk] at h
    exact h)
  clear hW hT hbl hk hkk
  go_enter Tryd.func14, Tryd.ntmps14
  go_wp2_with (first
    | (go_at_call 12; (with_reducible refine (HP.out _ (bmore (bself w) _)).mono ?_); rintro e w1 ⟨G, z, rfl, hl, hb⟩; obtain ⟨h0, hB, hz⟩ := one_block hb; have HL := Lib.hid hl; have HB := Lib.hid hB; clear m0 m1 m2 m3; obtain ⟨m0, m1, m2, m3, _, _, _, _⟩ := blk4 h0; clear hb hl h0 hB hz)
    | (go_at_call 29; (with_reducible refine (HF.out _ _ _ HB.out HL.out).mono ?_); rintro e w2 ⟨v2, rfl, hf, hb⟩; have HF2 := Lib.hid hf; have HB2 := Lib.hid hb; clear hf hb))
  go_ret
  obtain ⟨g, off, cap, rfl, f1, f2, f3, f4⟩ := HF2.out
  exact ⟨_, rfl, ⟨g, off, cap, rfl, f1, Nat.le_trans HB.out.size f2, f3, f4⟩, bstep HB.out HB2.out⟩
theorem mframe_new (W : World) (hT : Tabs W) (k q : Nat) (a : Int) (A : Option Addr) (n c : Nat) (l : List Pr) (w : World) (hW : Below W.heap.size W w) (hq : q ≤ 18446744073709551615) (ha : a ≤ 9223372036854775807) (hl : Props w w.heap.size (.slice A n c) l) (hm : l.length ≤ 1000) (hf : FitsL l) {b : List UInt8} (hr : frameM ⟨k, q, a, l⟩ = b) :
    Calls Tryd.prog 14 #[.agg #[.int .u8 (k : Int), .int .u64 (q : Int), .int .i64 a, .slice A n c]] w fun e w' => ∃ G z, e = .returned (.slice G b.length z) ∧ LiesIn w' (fun j => w.heap.size ≤ j ∧ j < w'.heap.size) (.slice G b.length z) b ∧ Below w.heap.size w w' := by
  cases h : mayL ⟨k, q, a, l⟩ with
  | false =>
    have e : b = [] := by rw [← hr]; unfold frameM; rw [h]; rfl
    subst e
    refine (mframe_no k q a A n c w (Lib.hid fun w1 hb => ?_)).mono fun e w' he => ⟨none, 0, he.1, .inl ⟨rfl, none, 0, rfl, fun _ => rfl⟩, he.2⟩
    refine (mput_any k q a A n c l w1 hq ha (hl.over (Nat.le_refl _) hb) hm hf (b := []) (x := 1) (by unfold PutR; rw [h]; rfl)).mono fun e w' he => ?_
    obtain ⟨G, z, h1, _, h3⟩ := he
    exact ⟨G, z, h1, h3⟩
  | true =>
    obtain ⟨_, _, _, ik⟩ := (may_iff _).1 h
    dsimp only at ik
    have hlen : (putM ⟨k, q, a, l⟩).length ≤ 203 := put_len6 (m := ⟨k, q, a, l⟩) ⟨hq, ha, fun p hp => (hf p hp).2⟩ h
    have eb : putF (UInt8.ofNat k) (putM ⟨k, q, a, l⟩) = b := by rw [← hr]; unfold frameM; rw [h]; rfl
    refine (mframe_ok W hT k q a A n c w hW (by omega) (putM ⟨k, q, a, l⟩) (by omega) (Lib.hid fun w1 hb => mput_any k q a A n c l w1 hq ha (hl.over (Nat.le_refl _) hb) hm hf (by unfold PutR; rw [h]; rfl))).mono fun e w' he => ?_
    obtain ⟨v, h1, ⟨g, off, cap, h2, f1, f2, f3, f4⟩, h5⟩ := he
    subst h2
    subst eb
    exact ⟨_, _, h1, .inr ⟨g, off, cap, rfl, f1, ⟨f2, f3⟩, fun i hi => (f4 i hi).1⟩, h5⟩
theorem mframe_any (W : World) (hT : Tabs W) (k q : Nat) (a : Int) (A : Option Addr) (n c : Nat) (l : List Pr) (w : World) (hW : Below W.heap.size W w) (hq : q ≤ 18446744073709551615) (ha : a ≤ 9223372036854775807) (hl : Props w w.heap.size (.slice A n c) l) (hm : l.length ≤ 1000) (hf : FitsL l) {b : List UInt8} (hr : frameM ⟨k, q, a, l⟩ = b) :
    Calls Tryd.prog 14 #[.agg #[.int .u8 (k : Int), .int .u64 (q : Int), .int .i64 a, .slice A n c]] w fun e w' => ∃ G z, e = .returned (.slice G b.length z) ∧ LiesB w' w'.heap.size (.slice G b.length z) b ∧ Below w.heap.size w w' :=
  (mframe_new W hT k q a A n c l w hW hq ha hl hm hf hr).mono fun e w' h => by
    obtain ⟨G, z, h1, h2, h3⟩ := h
    exact ⟨G, z, h1, h2.below fun j hj => hj.2, h3⟩
end Go.Proofs.YtiflpjdiokloaaaDoor
/-
  Contract of layer 6's law's 'awake'.
-/
namespace Go.Proofs.YtiflpjdiokloaaaDoor
open Go.RowKit
set_option linter.unusedVariables false

theorem ex6_may : mayL ⟨2, 1, 300, [⟨[97], 2⟩]⟩ = true := by decide
theorem ex6_put : putM ⟨2, 1, 300, [⟨[97], 2⟩]⟩ = [1, 249, 1, 44, 1, 1, 97, 4] := by decide
theorem ex6_wf : Msg.Wf ⟨2, 1, 300, [⟨[97], 2⟩]⟩ := ⟨by decide, by decide, by simp⟩
theorem ex6_take : takeM 2 [1, 249, 1, 44, 1, 1, 97, 4] = (⟨2, 1, 300, [⟨[97], 2⟩]⟩, 0) := by
  have h := put_take ex6_wf ex6_may
  rw [ex6_put] at h
  exact h
theorem ex6_left : takeM 4 [1] = (noMsg, 12) := by rw [take_bye]; unfold finM rdEnd; simp
theorem ex6_frame : (frameM ⟨2, 1, 300, [⟨[97], 2⟩]⟩).length = 15 := by
  unfold frameM
  rw [ex6_may, if_pos rfl, putF_length, ex6_put]
  rfl
/-- What the last test reads. -/
def AwS (w : World) (gx : Nat) (G1 : Option Addr) (bb : List UInt8) (z1 : Nat) (A2 : Option Addr) (c2 : Nat) (l : List Pr) (w' : World) : Prop := (convert 31 9 (.slice G1 bb.length z1)).run Tryd.prog w' = .ok (.string ⟨#[1, 249, 1, 44, 1, 1, 97, 4]⟩) w' ∧ w'.cell? ⟨gx, 2, none⟩ = some (.int .i64 300) ∧ w'.cell? ⟨gx, 3, none⟩ = some (.slice A2 1 c2) ∧ w'.cell? ⟨w.heap.size + 1, 0, none⟩ = some (.int .u8 2) ∧ w'.cell? ⟨w.heap.size + 1, 1, none⟩ = some (.int .u64 1) ∧ w'.cell? ⟨w.heap.size + 1, 2, none⟩ = some (.int .i64 300) ∧ w'.cell? ⟨w.heap.size + 1, 3, none⟩ = some (.slice (some ⟨w.heap.size, 0, none⟩) 1 1) ∧ Hid (bb = [1, 249, 1, 44, 1, 1, 97, 4] ∧ LiesB w' w'.heap.size (.slice G1 bb.length z1) bb ∧ gx < w'.heap.size ∧ w.heap.size + 1 < w'.heap.size ∧ Below w.heap.size w w' ∧ Props w' w'.heap.size (.slice (some ⟨w.heap.size, 0, none⟩) 1 1) l)
theorem awS_over {w : World} {gx : Nat} {G1 : Option Addr} {bb : List UInt8} {z1 : Nat} {A2 : Option Addr} {c2 : Nat} {l : List Pr} {w1 w2 : World} (k : AwS w gx G1 bb z1 A2 c2 l w1) (hb : Below w1.heap.size w1 w2) : AwS w gx G1 bb z1 A2 c2 l w2 := by
  obtain ⟨_, x2, x3, m0, m1, m2, m3, k⟩ := k
  obtain ⟨k1, k2, k3, k4, k5, k6⟩ := k.out
  have kl := k2.over (Nat.le_refl _) hb
  refine ⟨?_, (hb.cell (p := ⟨gx, 2, none⟩) k3).trans x2, (hb.cell (p := ⟨gx, 3, none⟩) k3).trans x3, (hb.cell (p := ⟨w.heap.size + 1, 0, none⟩) k4).trans m0, (hb.cell (p := ⟨w.heap.size + 1, 1, none⟩) k4).trans m1, (hb.cell (p := ⟨w.heap.size + 1, 2, none⟩) k4).trans m2, (hb.cell (p := ⟨w.heap.size + 1, 3, none⟩) k4).trans m3, Lib.hid ⟨k1, kl, Nat.lt_of_lt_of_le k3 hb.size, Nat.lt_of_lt_of_le k4 hb.size, bstep k5 hb, k6.over (Nat.le_refl _) hb⟩⟩
  obtain ⟨A', c', e, h0, h1, h2⟩ := liesB_row kl
  simp only [Value.slice.injEq] at e
  obtain ⟨rfl, _, rfl⟩ := e
  have h := run_str_any z1 h0
  rw [h, k1]
  rfl
theorem awS_drew {w : World} {gx : Nat} {G1 : Option Addr} {bb : List UInt8} {z1 : Nat} {A2 : Option Addr} {c2 : Nat} {l : List Pr} {w1 : World} (k : AwS w gx G1 bb z1 A2 c2 l w1) : AwS w gx G1 bb z1 A2 c2 l w1.drew := awS_over k (bself w1).drew
theorem AwS.hid {w : World} {gx : Nat} {G1 : Option Addr} {bb : List UInt8} {z1 : Nat} {A2 : Option Addr} {c2 : Nat} {l : List Pr} {w1 : World} (k : AwS w gx G1 bb z1 A2 c2 l w1) : bb = [1, 249, 1, 44, 1, 1, 97, 4] ∧ LiesB w1 w1.heap.size (.slice G1 bb.length z1) bb ∧ gx < w1.heap.size ∧ w.heap.size + 1 < w1.heap.size ∧ Below w.heap.size w w1 ∧ Props w1 w1.heap.size (.slice (some ⟨w.heap.size, 0, none⟩) 1 1) l := k.2.2.2.2.2.2.2.out
theorem lies_one (w : World) : LiesB (w.alloc (.cells #[.int .u8 1] 5)) (w.alloc (.cells #[.int .u8 1] 5)).heap.size (.slice (some ⟨w.heap.size, 0, none⟩) 1 1) [1] :=
  .inr ⟨w.heap.size, 0, 1, rfl, by simp, by simp, fun i hi => by
    have : i = 0 := by simpa using hi
    subst this
    rw [heap_cell (heap_alloc_new w _)]
    rfl⟩
set_option maxRecDepth 100000 in
set_option maxHeartbeats 1000000 in
theorem awake6_any (w : World) (hT : Tabs w) : Calls Tryd.prog 8 #[] w fun e w' => e = .returned (.bool true) ∧ Below w.heap.size w w' := by
  obtain ⟨l, hl⟩ : ∃ l, l = [(⟨[97], 2⟩ : Pr)] := ⟨_, rfl⟩
  obtain ⟨bb, hbb⟩ : ∃ bb, bb = ([1, 249, 1, 44, 1, 1, 97, 4] : List UInt8) := ⟨_, rfl⟩
  obtain ⟨V, hV⟩ : ∃ V, V = Value.slice (some ⟨w.heap.size, 0, none⟩) 1 1 := ⟨_, rfl⟩
  obtain ⟨fr, hfr⟩ : ∃ fr, frameM ⟨2, 1, 300, l⟩ = fr := ⟨_, rfl⟩
  have hfl : fr.length = 15 := by rw [← hfr, hl]; exact ex6_frame
  have hfit : FitsL l := by rw [hl]; intro p hp; simp at hp; subst hp; simp
  have HP0 : Hid (Props (w.alloc (.cells #[.string ⟨#[97]⟩, .int .i64 2] 58)) (w.alloc (.cells #[.string ⟨#[97]⟩, .int .i64 2] 58)).heap.size (.slice (some ⟨w.heap.size, 0, none⟩) 1 1) l) := Lib.hid (by rw [hl]; exact props_lit w [⟨[97], 2⟩] _ _ rfl)
  have HPU : Hid (∀ w', Props w' w'.heap.size (.slice (some ⟨w.heap.size, 0, none⟩) 1 1) l → Calls Tryd.prog 12 #[.agg #[.int .u8 2, .int .u64 1, .int .i64 300, .slice (some ⟨w.heap.size, 0, none⟩) 1 1]] w' fun e w1 => ∃ G z, e = .returned (.tuple #[.slice G bb.length z, .int .i64 0]) ∧ LiesB w1 w1.heap.size (.slice G bb.length z) bb ∧ Below w'.heap.size w' w1) :=
    Lib.hid fun w' h => mput_any 2 1 300 _ 1 1 l w' (by omega) (by omega) h (by rw [hl]; simp) hfit (by rw [hl, hbb]; unfold PutR; rw [ex6_may, if_pos rfl, ex6_put])
  have HTA : Hid (∀ w' v, LiesB w' w'.heap.size v bb → Calls Tryd.prog 17 #[.int .u8 2, v] w' fun e w1 => ∃ A n c, e = .returned (.tuple #[.agg #[.int .u8 2, .int .u64 1, .int .i64 300, .slice A n c], .int .i64 0]) ∧ Props w1 w1.heap.size (.slice A n c) l ∧ Below w'.heap.size w' w1) := Lib.hid fun w' v h => by
    have k := mtake_any 2 v bb w' (by omega) h (by rw [hbb]; simp)
    rw [hbb, ex6_take, ← hl] at k
    exact k
  have HTB : Hid (∀ w' v, LiesB w' w'.heap.size v [1] → Calls Tryd.prog 17 #[.int .u8 4, v] w' fun e w1 => ∃ A n c, e = .returned (.tuple #[.agg #[.int .u8 0, .int .u64 0, .int .i64 0, .slice A n c], .int .i64 12]) ∧ Below w'.heap.size w' w1) := Lib.hid fun w' v h => by
    have k := mtake_any 4 v [1] w' (by omega) h (by simp)
    rw [ex6_left] at k
    exact k.mono fun e w1 ⟨A, n, c, h1, _, h3⟩ => ⟨A, n, c, h1, h3⟩
  have HFR : Hid (∀ w', Below w.heap.size w w' → Props w' w'.heap.size (.slice (some ⟨w.heap.size, 0, none⟩) 1 1) l → Calls Tryd.prog 14 #[.agg #[.int .u8 2, .int .u64 1, .int .i64 300, .slice (some ⟨w.heap.size, 0, none⟩) 1 1]] w' fun e w1 => ∃ G z, e = .returned (.slice G fr.length z) ∧ Below w'.heap.size w' w1) := Lib.hid fun w' h1 h2 =>
    (mframe_any w hT 2 1 300 _ 1 1 l w' h1 (by omega) (by omega) h2 (by rw [hl]; simp) hfit hfr).mono fun e w1 ⟨G, z, h1, _, h3⟩ => ⟨G, z, h1, h3⟩
  have HL := Lib.hid (And.intro hl hbb)
  clear hT hfr hfit hl hbb V hV
  go_enter Tryd.func8, Tryd.ntmps8
  go_upto_region 2 with (fail)
  obtain ⟨wp, hwp⟩ : ∃ wp, wp = w.alloc (.cells #[.string ⟨#[97]⟩, .int .i64 2] 58) := ⟨_, rfl⟩
  have hbp : Below w.heap.size w wp := by rw [hwp]; exact bmore (bself w) _
  have hsz : wp.heap.size = w.heap.size + 1 := by rw [hwp]; simp
  rw [← hwp] at HP0 ⊢
  have hx := heap_alloc_new wp (.cells #[.int .u8 2, .int .u64 1, .int .i64 300, .slice (some ⟨w.heap.size, 0, none⟩) 1 1] 25)
  have hbm := bmore (bself wp) (.cells #[.int .u8 2, .int .u64 1, .int .i64 300, .slice (some ⟨w.heap.size, 0, none⟩) 1 1] 25)
  rw [hsz] at hx
  have HB := Lib.hid (bstep hbp hbm)
  have HP := Lib.hid (HP0.out.over (Nat.le_refl _) hbm)
  have HM := Lib.hid (And.intro hx (show w.heap.size + 1 < _ from (by simp [hsz] : w.heap.size + 1 < (wp.alloc (.cells #[.int .u8 2, .int .u64 1, .int .i64 300, .slice (some ⟨w.heap.size, 0, none⟩) 1 1] 25)).heap.size)))
  generalize wp.alloc (Obj.cells #[.int .u8 2, .int .u64 1, .int .i64 300, .slice (some ⟨w.heap.size, 0, none⟩) 1 1] 25) = wa at HB HP HM ⊢
  clear hx hbm hsz hbp hwp HP0
  obtain ⟨m0, m1, m2, m3, _, _, _, _⟩ := blk4 HM.out.1
  go_upto_region 4 with (first
    | (go_at_call 12; (with_reducible refine (HPU.out _ HP.out).mono ?_); rintro e w1 ⟨G1, z1, rfl, hlb, hb⟩; have HL1 := Lib.hid hlb; have HP := Lib.hid (HP.out.over (Nat.le_refl _) hb); have HM := Lib.hid (And.intro ((hb.block _ HM.out.2).trans HM.out.1) (Nat.lt_of_lt_of_le HM.out.2 hb.size)); have HB := Lib.hid (bstep HB.out hb); clear hb hlb m0 m1 m2 m3)
    | (go_at_call 17; (with_reducible refine (HTA.out _ _ HL1.out).mono ?_); rintro e w2 ⟨A2, n2, c2, rfl, hp, hb⟩; have HX := Lib.hid hp; have HB2 := Lib.hid hb; clear hb hp))
  have hb2 := HB2.out
  have hl1 : l.length = 1 := by rw [HL.out.1]; rfl
  obtain rfl : n2 = 1 := HX.out.len.1.trans hl1
  clear hl1
  have hbx := bmore (bself w2) (.cells #[.int .u8 2, .int .u64 1, .int .i64 300, .slice A2 1 c2] 25)
  have hba := hb2.trans (hbx.mono hb2.size)
  obtain ⟨gx, hgx⟩ : ∃ gx, gx = w2.heap.size := ⟨_, rfl⟩
  have HS : Hid (AwS w gx G1 bb z1 A2 c2 l (w2.alloc (.cells #[.int .u8 2, .int .u64 1, .int .i64 300, .slice A2 1 c2] 25))) := Lib.hid (by
    obtain ⟨m0, m1, m2, m3, _, _, _, _⟩ := blk4 HM.out.1
    obtain ⟨x0, x1, x2, x3, _, _, _, _⟩ := blk4 (heap_alloc_new w2 (.cells #[.int .u8 2, .int .u64 1, .int .i64 300, .slice A2 1 c2] 25))
    have kl := HL1.out.over (Nat.le_refl _) hba
    have hs := Nat.lt_of_lt_of_le HM.out.2 hba.size
    rw [hgx]
    refine ⟨?_, x2, x3, (hba.cell HM.out.2).trans m0, (hba.cell HM.out.2).trans m1, (hba.cell HM.out.2).trans m2, (hba.cell HM.out.2).trans m3, Lib.hid ⟨HL.out.2, kl, by simp, hs, bstep HB.out hba, HP.out.over (Nat.le_refl _) hba⟩⟩
    obtain ⟨A', c', e, h0, h1, h2⟩ := liesB_row kl
    simp only [Value.slice.injEq] at e
    obtain ⟨rfl, _, rfl⟩ := e
    have h := run_str_any z1 h0
    rw [h, HL.out.2]
    rfl)
  rw [← hgx]
  generalize w2.alloc (Obj.cells #[Value.int IntKind.u8 2, Value.int IntKind.u64 1, Value.int IntKind.i64 300, Value.slice A2 1 c2] 25) = wx at HS ⊢
  clear hb2 hbx hba hgx HX HM HB HP HL1 HB2
  go_upto_region 5 with (go_at_call 17; (with_reducible refine (HTB.out _ _ (lies_one wx)).mono ?_); rintro e w4 ⟨A4, n4, c4, rfl, hb⟩; have HS := Lib.hid (awS_over (awS_over HS.out (bmore (bself wx) (.cells #[.int .u8 1] 5))) hb); clear hb)
  have HS := Lib.hid (awS_over HS.out (bmore (bself w4) (.cells #[.int .u8 0, .int .u64 0, .int .i64 0, .slice A4 n4 c4] 25)))
  generalize w4.alloc (Obj.cells #[Value.int IntKind.u8 0, Value.int IntKind.u64 0, Value.int IntKind.i64 0, Value.slice A4 n4 c4] 25) = wy at HS ⊢
  obtain ⟨hcv, x2, x3, m0, m1, m2, m3, _⟩ := id HS.out
  go_wp2_with (go_at_call 14; (with_reducible refine (HFR.out _ (AwS.hid HS.out).2.2.2.2.1 (AwS.hid HS.out).2.2.2.2.2).mono ?_); rintro e w6 ⟨G6, z6, rfl, hb⟩; have HZ := Lib.hid (bstep (AwS.hid HS.out).2.2.2.2.1 hb); clear hb)
  go_ret
  exact ⟨rfl, HZ.out⟩
end Go.Proofs.YtiflpjdiokloaaaDoor
/-
  The walk of the law MessageTakes.
-/
namespace Go.Proofs.YtiflpjdiokloaaaDoor
open Go.RowKit
set_option linter.unusedVariables false

theorem fin_or (m : Msg) (l : List UInt8) (e : Int) : (finM m l e).1 = m ∧ mayL m = true ∨ (finM m l e).1 = noMsg := by
  unfold finM
  split
  · cases h : mayL m with
    | true => exact .inl ⟨by rw [if_pos rfl], rfl⟩
    | false => exact .inr (by rw [if_neg (by decide)])
  · exact .inr rfl
theorem take_or (k : Nat) (l : List UInt8) : mayL (takeM k l).1 = true ∨ (takeM k l).1 = noMsg := by
  have fo : ∀ m l e, mayL (finM m l e).1 = true ∨ (finM m l e).1 = noMsg := fun m l e => (fin_or m l e).elim (fun h => .inl (by rw [h.1]; exact h.2)) .inr
  unfold takeM
  split
  · exact .inr rfl
  · split
    · split
      · exact .inr rfl
      · exact fo _ _ _
    · exact fo _ _ _
theorem take_few (k : Nat) (l : List UInt8) : (takeM k l).1.props.length ≤ 8 := by
  rcases take_or k l with h | h
  · exact ((may_iff _).1 h).2.1
  · rw [h]; exact Nat.zero_le _

/-- What the last test reads: two boxed messages, the same. -/
def TwinS (W : World) (g h mk mq : Nat) (ma : Int) (v2 v3 : Value) (mp : List Pr) (w' : World) : Prop :=
  w'.cell? ⟨g, 0, none⟩ = some (.int .u8 (mk : Int)) ∧ w'.cell? ⟨g, 1, none⟩ = some (.int .u64 (mq : Int)) ∧ w'.cell? ⟨g, 2, none⟩ = some (.int .i64 ma) ∧ w'.cell? ⟨g, 3, none⟩ = some v2 ∧ w'.cell? ⟨h, 0, none⟩ = some (.int .u8 (mk : Int)) ∧ w'.cell? ⟨h, 1, none⟩ = some (.int .u64 (mq : Int)) ∧ w'.cell? ⟨h, 2, none⟩ = some (.int .i64 ma) ∧ w'.cell? ⟨h, 3, none⟩ = some v3 ∧ Hid (g < w'.heap.size ∧ h < w'.heap.size ∧ Below W.heap.size W w' ∧ Props w' w'.heap.size v2 mp ∧ Props w' w'.heap.size v3 mp)
theorem twinS_over {W : World} {g h mk mq : Nat} {ma : Int} {v2 v3 : Value} {mp : List Pr} {w1 w2 : World} (k : TwinS W g h mk mq ma v2 v3 mp w1) (hb : Below w1.heap.size w1 w2) : TwinS W g h mk mq ma v2 v3 mp w2 := by
  obtain ⟨a0, a1, a2, a3, b0, b1, b2, b3, k⟩ := k
  have hg := k.out.1
  have hh := k.out.2.1
  exact ⟨(hb.cell (p := ⟨g, 0, none⟩) hg).trans a0, (hb.cell (p := ⟨g, 1, none⟩) hg).trans a1, (hb.cell (p := ⟨g, 2, none⟩) hg).trans a2, (hb.cell (p := ⟨g, 3, none⟩) hg).trans a3,
    (hb.cell (p := ⟨h, 0, none⟩) hh).trans b0, (hb.cell (p := ⟨h, 1, none⟩) hh).trans b1, (hb.cell (p := ⟨h, 2, none⟩) hh).trans b2, (hb.cell (p := ⟨h, 3, none⟩) hh).trans b3,
    Lib.hid ⟨Nat.lt_of_lt_of_le hg hb.size, Nat.lt_of_lt_of_le hh hb.size, bstep k.out.2.2.1 hb, k.out.2.2.2.1.over (Nat.le_refl _) hb, k.out.2.2.2.2.over (Nat.le_refl _) hb⟩⟩
theorem twinS_drew {W : World} {g h mk mq : Nat} {ma : Int} {v2 v3 : Value} {mp : List Pr} {w1 : World} (k : TwinS W g h mk mq ma v2 v3 mp w1) : TwinS W g h mk mq ma v2 v3 mp w1.drew := twinS_over k (bself w1).drew
theorem TwinS.hid {W : World} {g h mk mq : Nat} {ma : Int} {v2 v3 : Value} {mp : List Pr} {w1 : World} (k : TwinS W g h mk mq ma v2 v3 mp w1) : g < w1.heap.size ∧ h < w1.heap.size ∧ Below W.heap.size W w1 ∧ Props w1 w1.heap.size v2 mp ∧ Props w1 w1.heap.size v3 mp := k.2.2.2.2.2.2.2.2.out

set_option maxRecDepth 100000 in
set_option maxHeartbeats 2000000 in
theorem messageTakes_any (t : UInt8) (A : Option Addr) (c : Nat) (b : List UInt8) (W : World) (hT : Tabs W) (hb : LiesB W W.heap.size (.slice A b.length c) b) :
    Calls Tryd.prog 4 #[.int .u8 (t.toNat : Int), .slice A b.length c] W fun e w' => e = .returned (.bool true) ∧ Below W.heap.size W w' := by
  have HA := Lib.hid (awake6_any W hT)
  have HB := Lib.hid hb
  obtain ⟨k, hk⟩ : ∃ k, k = t.toNat := ⟨_, rfl⟩
  have hk2 : k < 256 := by rw [hk]; exact t.toNat_lt
  rw [← hk]
  clear hk hT hb
  by_cases h6 : b.length ≤ 600
  · have q6 : ¬ (600 : Int) < (b.length : Int) := by omega
    rcases hr : takeM k b with ⟨⟨mk, mq, ma, mp⟩, x⟩
    have hmp : mp.length ≤ 8 := by have := take_few k b; rw [hr] at this; exact this
    have HM := Lib.hid (fun w (h : LiesB w w.heap.size (.slice A b.length c) b) => mtake_any k _ b w hk2 h (by omega))
    have HR := Lib.hid (fun w => rtakem_any k b w (by omega))
    rw [hr] at HM HR
    have HN := Lib.hid hmp
    obtain ⟨n, hn⟩ : ∃ n, b.length = n := ⟨_, rfl⟩
    rw [hn] at HB HM q6 ⊢
    have HNb := Lib.hid hn
    clear hr hmp h6 hk2 hn
    go_enter Tryd.func4, Tryd.ntmps4
    go_upto_region 7 with (first
      | (go_at_call 8; (with_reducible refine HA.out.mono ?_); rintro e w1 ⟨rfl, hb⟩; have HB1 := Lib.hid hb; clear hb)
      | (go_at_call 17; (with_reducible refine (HM.out _ (HB.out.over (Nat.le_refl _) HB1.out)).mono ?_); rintro e w2 ⟨A2, n2, c2, rfl, hp, hb⟩; have HP2 := Lib.hid hp; have HB2 := Lib.hid (bstep HB1.out hb); clear hp hb))
    have hb2 := bmore (bself w2) (.cells #[.int .u8 (mk : Int), .int .u64 (mq : Int), .int .i64 ma, .slice A2 n2 c2] 25)
    have HP := Lib.hid (HP2.out.over (Nat.le_refl _) hb2)
    have HBa := Lib.hid (bstep HB2.out hb2)
    have HX := Lib.hid (And.intro (heap_alloc_new w2 (.cells #[.int .u8 (mk : Int), .int .u64 (mq : Int), .int .i64 ma, .slice A2 n2 c2] 25)) (show w2.heap.size < _ from (by simp : w2.heap.size < (w2.alloc (.cells #[.int .u8 (mk : Int), .int .u64 (mq : Int), .int .i64 ma, .slice A2 n2 c2] 25)).heap.size)))
    obtain ⟨g, hg⟩ : ∃ g, g = w2.heap.size := ⟨_, rfl⟩
    rw [← hg] at HX ⊢
    generalize w2.alloc (Obj.cells #[Value.int IntKind.u8 (mk : Int), Value.int IntKind.u64 (mq : Int), Value.int IntKind.i64 ma, Value.slice A2 n2 c2] 25) = wa at HP HBa HX ⊢
    clear hg hb2 HP2 HB2
    have hcv : (convert 31 9 (.slice A n c)).run Tryd.prog wa = .ok (.string (mkB b)) wa := by
      obtain ⟨A', c', e, h0, h1, h2⟩ := liesB_row (HB.out.over (Nat.le_refl _) HBa.out)
      have hn := HNb.out
      simp only [Value.slice.injEq] at e
      obtain ⟨rfl, _, rfl⟩ := e
      rw [← hn]
      exact run_str_any c h0
    go_upto_region 8 with (go_at_call 18; (with_reducible refine (HR.out _).mono ?_); rintro e w3 ⟨A3, n3, c3, rfl, hp, hb⟩; have HQ3 := Lib.hid hp; have HP3 := Lib.hid (HP.out.over (Nat.le_refl _) hb); have HX3 := Lib.hid (And.intro ((hb.block _ HX.out.2).trans HX.out.1) (Nat.lt_of_lt_of_le HX.out.2 hb.size)); have HB3 := Lib.hid (bstep HBa.out hb); clear hp hb hcv)
    have hb4 := bmore (bself w3) (.cells #[.int .u8 (mk : Int), .int .u64 (mq : Int), .int .i64 ma, .slice A3 n3 c3] 28)
    have HP4 := Lib.hid (And.intro (HP3.out.over (Nat.le_refl _) hb4) (HQ3.out.over (Nat.le_refl _) hb4))
    have HX4 := Lib.hid (And.intro ((hb4.block _ HX3.out.2).trans HX3.out.1) (And.intro (heap_alloc_new w3 (.cells #[.int .u8 (mk : Int), .int .u64 (mq : Int), .int .i64 ma, .slice A3 n3 c3] 28)) (And.intro (Nat.lt_of_lt_of_le HX3.out.2 hb4.size) (show w3.heap.size < _ from (by simp : w3.heap.size < (w3.alloc (.cells #[.int .u8 (mk : Int), .int .u64 (mq : Int), .int .i64 ma, .slice A3 n3 c3] 28)).heap.size)))))
    have HB4 := Lib.hid (bstep HB3.out hb4)
    obtain ⟨h, hh⟩ : ∃ h, h = w3.heap.size := ⟨_, rfl⟩
    rw [← hh] at HX4 ⊢
    generalize w3.alloc (Obj.cells #[Value.int IntKind.u8 (mk : Int), Value.int IntKind.u64 (mq : Int), Value.int IntKind.i64 ma, Value.slice A3 n3 c3] 28) = wb at HP4 HB4 HX4 ⊢
    clear hh hb4 HP3 HX3 HB3
    have hS : TwinS W g h mk mq ma (.slice A2 n2 c2) (.slice A3 n3 c3) mp wb := by
      obtain ⟨m0, m1, m2, m3, _, _, _, _⟩ := blk4 HX4.out.1
      obtain ⟨r0, r1, r2, r3, _, _, _, _⟩ := blk4 HX4.out.2.1
      exact ⟨m0, m1, m2, m3, r0, r1, r2, r3, Lib.hid ⟨HX4.out.2.2.1, HX4.out.2.2.2, HB4.out, HP4.out.1, HP4.out.2⟩⟩
    unfold TwinS at hS
    clear HX4 HP4 HB4
    have hxx : (x == x) = true := by simp
    go_region_held3 (fun w' => w'.cell? ⟨g, 0, none⟩ = some (.int .u8 (mk : Int)) ∧ w'.cell? ⟨g, 1, none⟩ = some (.int .u64 (mq : Int)) ∧ w'.cell? ⟨g, 2, none⟩ = some (.int .i64 ma) ∧ w'.cell? ⟨g, 3, none⟩ = some (.slice A2 n2 c2) ∧ w'.cell? ⟨h, 0, none⟩ = some (.int .u8 (mk : Int)) ∧ w'.cell? ⟨h, 1, none⟩ = some (.int .u64 (mq : Int)) ∧ w'.cell? ⟨h, 2, none⟩ = some (.int .i64 ma) ∧ w'.cell? ⟨h, 3, none⟩ = some (.slice A3 n3 c3) ∧ Hid (g < w'.heap.size ∧ h < w'.heap.size ∧ Below W.heap.size W w' ∧ Props w' w'.heap.size (.slice A2 n2 c2) mp ∧ Props w' w'.heap.size (.slice A3 n3 c3) mp))
      (first | assumption | exact twinS_drew (by assumption))
      (first
        | (go_at_call 10; ((with_reducible refine Calls.mono (plain6_any mk mq ma A2 n2 c2 _) ?_); rintro e w5 ⟨rfl, hb⟩; have hs1 := twinS_over (by assumption) hb; clear hb))
        | (go_at_call 19; ((with_reducible refine Calls.mono (rsamem_any mk mq ma A2 n2 c2 mp mk mq ma A3 n3 c3 mp _ ?_ ?_ (by have := HN.out; omega) (same_refl6 _)) ?_); (exact (TwinS.hid (W := W) (g := g) (h := h) (mk := mk) (mq := mq) (ma := ma) (v2 := .slice A2 n2 c2) (v3 := .slice A3 n3 c3) (mp := mp) (by assumption)).2.2.2.1); (exact (TwinS.hid (W := W) (g := g) (h := h) (mk := mk) (mq := mq) (ma := ma) (v2 := .slice A2 n2 c2) (v3 := .slice A3 n3 c3) (mp := mp) (by assumption)).2.2.2.2); rintro e w6 ⟨rfl, hb⟩; have hs1 := twinS_over (by assumption) hb; clear hb)))
    have HZ := Lib.hid (TwinS.hid (W := W) (g := g) (h := h) (mk := mk) (mq := mq) (ma := ma) (v2 := .slice A2 n2 c2) (v3 := .slice A3 n3 c3) (mp := mp) hs1).2.2.1
    go_wp2
    go_ret
    exact ⟨rfl, HZ.out⟩
  · have q6 : (600 : Int) < (b.length : Int) := by omega
    clear h6 hk2
    go_enter Tryd.func4, Tryd.ntmps4
    go_wp2_with (go_at_call 8; (with_reducible refine HA.out.mono ?_); rintro e w1 ⟨rfl, hb⟩; have HB1 := Lib.hid hb; clear hb)
    go_ret
    exact ⟨rfl, HB1.out⟩
theorem messageTakes_row (t : UInt8) (A : Option Addr) (c : Nat) (b : List UInt8) (W : World) (hT : Tabs W) (hb : LiesB W W.heap.size (.slice A b.length c) b) :
    Calls Tryd.prog 4 #[.int .u8 (t.toNat : Int), .slice A b.length c] W fun e w' => e = .returned (.bool true) ∧ Below W.heap.size W w' := messageTakes_any t A c b W hT hb
end Go.Proofs.YtiflpjdiokloaaaDoor
/-
  The walk of the law MessagePuts.
-/
namespace Go.Proofs.YtiflpjdiokloaaaDoor
open Go.RowKit
set_option linter.unusedVariables false

theorem conv_of {w : World} {G : Option Addr} {z : Nat} {b : List UInt8} (h : LiesB w w.heap.size (.slice G b.length z) b) : (convert 31 9 (.slice G b.length z)).run Tryd.prog w = .ok (.string (mkB b)) w := by
  obtain ⟨A', c', e, h0, h1, h2⟩ := liesB_row h
  simp only [Value.slice.injEq] at e
  obtain ⟨rfl, _, rfl⟩ := e
  exact run_str_any z h0

set_option maxRecDepth 100000 in
set_option maxHeartbeats 2000000 in
theorem messagePuts_any (k q : Nat) (a : Int) (A : Option Addr) (n c : Nat) (l : List Pr) (W : World) (hT : Tabs W) (hq : q ≤ 18446744073709551615) (ha : -9223372036854775808 ≤ a ∧ a ≤ 9223372036854775807) (hl : Props W W.heap.size (.slice A n c) l) (hf : ∀ p ∈ l, -9223372036854775808 ≤ p.val ∧ p.val ≤ 9223372036854775807) :
    Calls Tryd.prog 3 #[.agg #[.int .u8 (k : Int), .int .u64 (q : Int), .int .i64 a, .slice A n c]] W fun e w' => e = .returned (.bool true) ∧ Below W.heap.size W w' := by
  have HV := Lib.hid hl
  have HT := Lib.hid hT
  have HA := Lib.hid (awake6_any (W.alloc (.cells #[.int .u8 (k : Int), .int .u64 (q : Int), .int .i64 a, .slice A n c] 25)) (hT.over (bmore (bself W) _)))
  obtain ⟨f, hff⟩ : ∃ f, few6L l = f := ⟨_, rfl⟩
  have HF := Lib.hid (fun w (h : Props w w.heap.size (.slice A n c) l) => few6_any k q a A n c l w h hff)
  cases f with
  | false =>
    clear hl hT hff hf ha hq
    go_enter Tryd.func3, Tryd.ntmps3
    go_wp2_with (first
      | (go_at_call 8; (with_reducible refine HA.out.mono ?_); rintro e w1 ⟨rfl, hb⟩; obtain ⟨hx, hB, hz⟩ := one_block hb; have HB := Lib.hid hB; have HG := Lib.hid (show W.heap.size < _ from hz); obtain ⟨m0, m1, m2, m3, _, _, _, _⟩ := blk4 hx; have HPp := Lib.hid (HV.out.over (Nat.le_refl _) hB); clear hb hx hB hz)
      | (go_at_call 9; (with_reducible refine (HF.out _ HPp.out).mono ?_); rintro e w2 ⟨rfl, hb⟩; have m0 := (hb.cell HG.out).trans m0; have m1 := (hb.cell HG.out).trans m1; have m2 := (hb.cell HG.out).trans m2; have m3 := (hb.cell HG.out).trans m3; have HB := Lib.hid (bstep HB.out hb); have HPp := Lib.hid (HPp.out.over (Nat.le_refl _) hb); have HG := Lib.hid (Nat.lt_of_lt_of_le HG.out hb.size); clear hb))
    go_ret
    exact ⟨rfl, HB.out⟩
  | true =>
    obtain ⟨f1, f2⟩ := few6_len hff
    have hfit : FitsL l := fun p hp => ⟨by have := f2 p hp; omega, hf p hp⟩
    obtain ⟨r, hr⟩ : ∃ r, mayL ⟨k, q, a, l⟩ = r := ⟨_, rfl⟩
    obtain ⟨fr, hfr⟩ : ∃ fr, frameM ⟨k, q, a, l⟩ = fr := ⟨_, rfl⟩
    rcases hpr : PutR ⟨k, q, a, l⟩ with ⟨pb, x⟩
    have HRM := Lib.hid (fun w (h : Props w w.heap.size (.slice A n c) l) => rmay_any k q a A n c l w h (by omega) hr)
    have HMM := Lib.hid (fun w (h : Props w w.heap.size (.slice A n c) l) => mmay_any k q a A n c l w h (by omega) hr)
    have HPU := Lib.hid (fun w (h : Props w w.heap.size (.slice A n c) l) => mput_any k q a A n c l w hq ha.2 h (by omega) hfit hpr)
    have HFr := Lib.hid (fun w (hW : Below W.heap.size W w) (h : Props w w.heap.size (.slice A n c) l) => mframe_any W hT k q a A n c l w hW hq ha.2 h (by omega) hfit hfr)
    have HRF : Hid (∀ w, Props w w.heap.size (.slice A n c) l → Calls Tryd.prog 15 #[.agg #[.int .u8 (k : Int), .int .u64 (q : Int), .int .i64 a, .slice A n c]] w fun e w' => e = .returned (.string (mkB fr)) ∧ Below w.heap.size w w') := Lib.hid (fun w h => by
      rw [← hfr]; exact rframem_any k q a A n c l w hq ha.2 h (by omega) hfit)
    have HQ := Lib.hid (And.intro hpr (And.intro hr (And.intro hq (And.intro ha (And.intro f1 hfit)))))
    clear hl hT hff hf ha hq f1 f2 hfit hr hfr hpr
    cases r with
    | false =>
      go_enter Tryd.func3, Tryd.ntmps3
      go_upto_region 8 with (first
        | (go_at_call 8; (with_reducible refine HA.out.mono ?_); rintro e w1 ⟨rfl, hb⟩; obtain ⟨hx, hB, hz⟩ := one_block hb; have HB := Lib.hid hB; have HG := Lib.hid (show W.heap.size < _ from hz); obtain ⟨m0, m1, m2, m3, _, _, _, _⟩ := blk4 hx; have HPp := Lib.hid (HV.out.over (Nat.le_refl _) hB); clear hb hx hB hz)
        | (go_at_call 9; (with_reducible refine (HF.out _ HPp.out).mono ?_); rintro e w2 ⟨rfl, hb⟩; have m0 := (hb.cell HG.out).trans m0; have m1 := (hb.cell HG.out).trans m1; have m2 := (hb.cell HG.out).trans m2; have m3 := (hb.cell HG.out).trans m3; have HB := Lib.hid (bstep HB.out hb); have HPp := Lib.hid (HPp.out.over (Nat.le_refl _) hb); have HG := Lib.hid (Nat.lt_of_lt_of_le HG.out hb.size); clear hb)
        | (go_at_call 10; (with_reducible refine (plain6_any k q a A n c _).mono ?_); rintro e w3 ⟨rfl, hb⟩; have m0 := (hb.cell HG.out).trans m0; have m1 := (hb.cell HG.out).trans m1; have m2 := (hb.cell HG.out).trans m2; have m3 := (hb.cell HG.out).trans m3; have HB := Lib.hid (bstep HB.out hb); have HPp := Lib.hid (HPp.out.over (Nat.le_refl _) hb); have HG := Lib.hid (Nat.lt_of_lt_of_le HG.out hb.size); clear hb))
      have hb2 := bmore (bself w3) (.cells #[.int .u8 (k : Int), .int .u64 (q : Int), .int .i64 a, .slice A n c] 28)
      have HP4 := Lib.hid (HPp.out.over (Nat.le_refl _) hb2)
      have HB4 := Lib.hid (bstep HB.out hb2)
      obtain ⟨h, hh⟩ : ∃ h, h = w3.heap.size := ⟨_, rfl⟩
      obtain ⟨g, hg⟩ : ∃ g, g = W.heap.size := ⟨_, rfl⟩
      have HS : Hid (TwinS W g h k q a (.slice A n c) (.slice A n c) l (w3.alloc (.cells #[.int .u8 (k : Int), .int .u64 (q : Int), .int .i64 a, .slice A n c] 28))) := Lib.hid (by
        obtain ⟨r0, r1, r2, r3, _, _, _, _⟩ := blk4 (heap_alloc_new w3 (.cells #[.int .u8 (k : Int), .int .u64 (q : Int), .int .i64 a, .slice A n c] 28))
        rw [hg, hh]
        exact ⟨(hb2.cell HG.out).trans m0, (hb2.cell HG.out).trans m1, (hb2.cell HG.out).trans m2, (hb2.cell HG.out).trans m3, r0, r1, r2, r3, Lib.hid ⟨Nat.lt_of_lt_of_le HG.out hb2.size, by simp, HB4.out, HP4.out, HP4.out⟩⟩)
      rw [← hg, ← hh]
      generalize w3.alloc (Obj.cells #[Value.int IntKind.u8 (k : Int), Value.int IntKind.u64 (q : Int), Value.int IntKind.i64 a, Value.slice A n c] 28) = wb at HS ⊢
      clear hg hh hb2 HP4 HB4 m0 m1 m2 m3 HG HB HPp
      obtain ⟨a0, a1, a2, a3, b0, b1, b2, b3, _⟩ := id HS.out
      go_upto_region 10 with (first
        | (go_at_call 11; (with_reducible refine (HRM.out _ (TwinS.hid (W := W) (g := g) (h := h) (mk := k) (mq := q) (ma := a) (v2 := .slice A n c) (v3 := .slice A n c) (mp := l) HS.out).2.2.2.1).mono ?_); rintro e w4 ⟨rfl, hb⟩; have HS := Lib.hid (twinS_over HS.out hb); clear hb a0 a1 a2 a3 b0 b1 b2 b3; obtain ⟨a0, a1, a2, a3, b0, b1, b2, b3, _⟩ := id HS.out)
        | (go_at_call 12; (with_reducible refine (HPU.out _ (TwinS.hid (W := W) (g := g) (h := h) (mk := k) (mq := q) (ma := a) (v2 := .slice A n c) (v3 := .slice A n c) (mp := l) HS.out).2.2.2.1).mono ?_); rintro e w5 ⟨G5, z5, rfl, hlb, hb⟩; have HL5 := Lib.hid hlb; clear hlb; have HS := Lib.hid (twinS_over HS.out hb); clear hb a0 a1 a2 a3 b0 b1 b2 b3; obtain ⟨a0, a1, a2, a3, b0, b1, b2, b3, _⟩ := id HS.out))
      clear a0 a1 a2 a3 b0 b1 b2 b3
      have hS := HS.out
      unfold TwinS at hS
      refine wp_region_held_drew (S := fun w' => w'.cell? ⟨g, 0, none⟩ = some (.int .u8 (k : Int)) ∧ w'.cell? ⟨g, 1, none⟩ = some (.int .u64 (q : Int)) ∧ w'.cell? ⟨g, 2, none⟩ = some (.int .i64 a) ∧ w'.cell? ⟨g, 3, none⟩ = some (.slice A n c) ∧ w'.cell? ⟨h, 0, none⟩ = some (.int .u8 (k : Int)) ∧ w'.cell? ⟨h, 1, none⟩ = some (.int .u64 (q : Int)) ∧ w'.cell? ⟨h, 2, none⟩ = some (.int .i64 a) ∧ w'.cell? ⟨h, 3, none⟩ = some (.slice A n c) ∧ Hid (g < w'.heap.size ∧ h < w'.heap.size ∧ Below W.heap.size W w' ∧ Props w' w'.heap.size (.slice A n c) l ∧ Props w' w'.heap.size (.slice A n c) l)) (by kernel_rfl) ?_ (fun hHeld => ?_)
      · (try dsimp only)
        (first | assumption | exact twinS_drew (by assumption))
      refine wpAnyH_take (i := 0) (v := ?_) rfl (by kernel_rfl) (by kernel_rfl) (by kernel_rfl) (fun _ _ _ h => h) (Or.inl ⟨by rfl, ?_⟩) (by assumption) ?_
      rotate_left
      · intro w hSw
        (try dsimp only at hSw)
        go_simp
        try with_reducible rfl
      (try simp only [Act.put, List.getElem_toArray, List.getElem_cons_zero, List.setIfInBounds_toArray, List.set_cons_zero, List.set_cons_succ])
      refine wpAnyH_take (i := 2) (v := ?_) rfl (by kernel_rfl) (by kernel_rfl) (by kernel_rfl) (fun _ _ _ h => h) (Or.inl ⟨by rfl, ?_⟩) (by assumption) ?_
      rotate_left
      · intro w hSw
        (try dsimp only at hSw)
        go_simp
        try with_reducible rfl
      (try simp only [Act.put, List.getElem_toArray, List.getElem_cons_succ, List.getElem_cons_zero, List.setIfInBounds_toArray, List.set_cons_zero, List.set_cons_succ])
      refine wpAnyH_ready (rs := [1]) (by kernel_rfl) (by simp) ?_
      refine AllReadyH.cons rfl (fun K hK => ?_) AllReadyH.nil
      go_simp
      (go_at_call 13; ((with_reducible refine Calls.mono (HMM.out _ ?_) ?_); (exact (TwinS.hid (W := W) (g := g) (h := h) (mk := k) (mq := q) (ma := a) (v2 := .slice A n c) (v3 := .slice A n c) (mp := l) hHeld).2.2.2.1); rintro e w6 ⟨rfl, hb⟩; have hs6 := twinS_over hHeld hb; have HL6 := Lib.hid (HL5.out.over (Nat.le_refl _) ((bself w5).drew.trans (hb.mono (Nat.le_refl _)))); clear hb))
      go_wp2_with fail
      refine hK.out _ _ ?_ (fun hHeld => ?_)
      · (try dsimp only)
        (first | assumption | exact twinS_drew (by assumption))
      clear hK K
      (try simp only [Act.put, List.getElem_toArray, List.getElem_cons_succ, List.getElem_cons_zero, List.setIfInBounds_toArray, List.set_cons_zero, List.set_cons_succ])
      refine wpAnyH_take (i := 3) (v := ?_) rfl (by kernel_rfl) (by kernel_rfl) (by kernel_rfl) (fun _ _ _ h => h) (Or.inl ⟨by rfl, ?_⟩) (by assumption) ?_
      rotate_left
      · intro w hSw
        (try dsimp only at hSw)
        go_simp
        try with_reducible rfl
      (try simp only [Act.put, List.getElem_toArray, List.getElem_cons_succ, List.getElem_cons_zero, List.setIfInBounds_toArray, List.set_cons_zero, List.set_cons_succ])
      refine wpAnyH_take (i := 4) (v := ?_) rfl (by kernel_rfl) (by kernel_rfl) (by kernel_rfl) (fun _ _ _ h => h) (Or.inl ⟨by rfl, ?_⟩) (by assumption) ?_
      rotate_left
      · intro w hSw
        (try dsimp only at hSw)
        go_simp
        try with_reducible rfl
      (try simp only [Act.put, List.getElem_toArray, List.getElem_cons_succ, List.getElem_cons_zero, List.setIfInBounds_toArray, List.set_cons_zero, List.set_cons_succ])
      refine wpAnyH_take (i := 5) (v := ?_) rfl (by kernel_rfl) (by kernel_rfl) (by kernel_rfl) (fun _ _ _ h => h) (Or.inl ⟨by rfl, ?_⟩) (by assumption) ?_
      rotate_left
      · intro w hSw
        (try dsimp only at hSw)
        go_simp
        try with_reducible rfl
      (try simp only [Act.put, List.getElem_toArray, List.getElem_cons_succ, List.getElem_cons_zero, List.setIfInBounds_toArray, List.set_cons_zero, List.set_cons_succ])
      refine wpAnyH_take (i := 8) (v := ?_) rfl (by kernel_rfl) (by kernel_rfl) (by kernel_rfl) (fun _ _ _ h => h) (Or.inl ⟨by rfl, ?_⟩) (by assumption) ?_
      rotate_left
      · intro w hSw
        (try dsimp only at hSw)
        go_simp
        try with_reducible rfl
      (try simp only [Act.put, List.getElem_toArray, List.getElem_cons_succ, List.getElem_cons_zero, List.setIfInBounds_toArray, List.set_cons_zero, List.set_cons_succ])
      refine wpAnyH_ready (rs := [6]) (by kernel_rfl) (by simp) ?_
      refine AllReadyH.cons rfl (fun K hK => ?_) AllReadyH.nil
      go_simp
      (go_at_call 14; ((with_reducible refine Calls.mono (HFr.out _ ?_ ?_) ?_); (exact (TwinS.hid (W := W) (g := g) (h := h) (mk := k) (mq := q) (ma := a) (v2 := .slice A n c) (v3 := .slice A n c) (mp := l) hHeld).2.2.1); (exact (TwinS.hid (W := W) (g := g) (h := h) (mk := k) (mq := q) (ma := a) (v2 := .slice A n c) (v3 := .slice A n c) (mp := l) hHeld).2.2.2.1); rintro e w7 ⟨G7, z7, rfl, hlb, hb⟩; have hs7 := twinS_over hHeld hb; have HF7 := Lib.hid hlb; have HL7 := Lib.hid (HL6.out.over (Nat.le_refl _) hb); clear hb hlb))
      go_wp2_with fail
      refine hK.out _ _ ?_ (fun hHeld => ?_)
      · (try dsimp only)
        (first | assumption | exact twinS_drew (by assumption))
      clear hK K
      (try simp only [Act.put, List.getElem_toArray, List.getElem_cons_succ, List.getElem_cons_zero, List.setIfInBounds_toArray, List.set_cons_zero, List.set_cons_succ])
      refine wpAnyH_ready (rs := [7, 9]) (by kernel_rfl) (by simp) ?_
      refine AllReadyH.cons rfl (fun K hK => ?_) (AllReadyH.cons rfl (fun K hK => ?_) AllReadyH.nil)
      · have hcv := conv_of (w := w7) (by first | exact HF8.out | exact HF7.out)
        go_simp
        clear hcv
        refine hK.out _ _ ?_ (fun hHeld => ?_)
        · (try dsimp only)
          (first | assumption | exact twinS_drew (by assumption))
        clear hK K
        (try simp only [Act.put, List.getElem_toArray, List.getElem_cons_succ, List.getElem_cons_zero, List.setIfInBounds_toArray, List.set_cons_zero, List.set_cons_succ])
        refine wpAnyH_ready (rs := [9]) (by kernel_rfl) (by simp) ?_
        refine AllReadyH.cons rfl (fun K hK => ?_) AllReadyH.nil
        go_simp
        (go_at_call 15; ((with_reducible refine Calls.mono (HRF.out _ ?_) ?_); (exact (TwinS.hid (W := W) (g := g) (h := h) (mk := k) (mq := q) (ma := a) (v2 := .slice A n c) (v3 := .slice A n c) (mp := l) hHeld).2.2.2.1); rintro e w8 ⟨rfl, hb⟩; have hs8 := twinS_over hHeld hb; have HF8 := Lib.hid (HF7.out.over (Nat.le_refl _) hb); have HL8 := Lib.hid (HL7.out.over (Nat.le_refl _) hb); clear hb))
        go_wp2_with fail
        refine hK.out _ _ ?_ (fun hHeld => ?_)
        · (try dsimp only)
          (first | assumption | exact twinS_drew (by assumption))
        clear hK K
        (try simp only [Act.put, List.getElem_toArray, List.getElem_cons_succ, List.getElem_cons_zero, List.setIfInBounds_toArray, List.set_cons_zero, List.set_cons_succ])
        refine wpAnyH_take (i := 10) (v := ?_) rfl (by kernel_rfl) (by kernel_rfl) (by kernel_rfl) (fun _ _ _ h => h) (Or.inl ⟨by rfl, ?_⟩) (by assumption) ?_
        rotate_left
        · intro w hSw
          (try dsimp only at hSw)
          go_simp
          try with_reducible rfl
        (try simp only [Act.put, List.getElem_toArray, List.getElem_cons_succ, List.getElem_cons_zero, List.setIfInBounds_toArray, List.set_cons_zero, List.set_cons_succ])
        refine wpAnyH_take (i := 11) (v := ?_) rfl (by kernel_rfl) (by kernel_rfl) (by kernel_rfl) (fun _ _ _ h => h) (Or.inl ⟨by rfl, ?_⟩) (by assumption) ?_
        rotate_left
        · intro w hSw
          (try dsimp only at hSw)
          go_simp
          try with_reducible rfl
        (try simp only [Act.put, List.getElem_toArray, List.getElem_cons_succ, List.getElem_cons_zero, List.setIfInBounds_toArray, List.set_cons_zero, List.set_cons_succ])
        refine wpAnyH_done (by kernel_rfl) ?_ _
        have HZ := Lib.hid (TwinS.hid (W := W) (g := g) (h := h) (mk := k) (mq := q) (ma := a) (v2 := .slice A n c) (v3 := .slice A n c) (mp := l) hHeld).2.2.1
        clear hHeld
        obtain ⟨rfl, rfl⟩ : [] = pb ∧ 1 = x := by have h1 := HQ.out.1; unfold PutR at h1; rw [HQ.out.2.1, if_neg (by decide)] at h1; simpa using h1
        go_wp2
        go_ret
        exact ⟨rfl, HZ.out⟩
      · go_simp
        (go_at_call 15; ((with_reducible refine Calls.mono (HRF.out _ ?_) ?_); (exact (TwinS.hid (W := W) (g := g) (h := h) (mk := k) (mq := q) (ma := a) (v2 := .slice A n c) (v3 := .slice A n c) (mp := l) hHeld).2.2.2.1); rintro e w8 ⟨rfl, hb⟩; have hs8 := twinS_over hHeld hb; have HF8 := Lib.hid (HF7.out.over (Nat.le_refl _) hb); have HL8 := Lib.hid (HL7.out.over (Nat.le_refl _) hb); clear hb))
        go_wp2_with fail
        refine hK.out _ _ ?_ (fun hHeld => ?_)
        · (try dsimp only)
          (first | assumption | exact twinS_drew (by assumption))
        clear hK K
        (try simp only [Act.put, List.getElem_toArray, List.getElem_cons_succ, List.getElem_cons_zero, List.setIfInBounds_toArray, List.set_cons_zero, List.set_cons_succ])
        refine wpAnyH_ready (rs := [7]) (by kernel_rfl) (by simp) ?_
        refine AllReadyH.cons rfl (fun K hK => ?_) AllReadyH.nil
        have hcv := conv_of (w := w8) (by first | exact HF8.out | exact HF7.out)
        go_simp
        clear hcv
        refine hK.out _ _ ?_ (fun hHeld => ?_)
        · (try dsimp only)
          (first | assumption | exact twinS_drew (by assumption))
        clear hK K
        (try simp only [Act.put, List.getElem_toArray, List.getElem_cons_succ, List.getElem_cons_zero, List.setIfInBounds_toArray, List.set_cons_zero, List.set_cons_succ])
        refine wpAnyH_take (i := 10) (v := ?_) rfl (by kernel_rfl) (by kernel_rfl) (by kernel_rfl) (fun _ _ _ h => h) (Or.inl ⟨by rfl, ?_⟩) (by assumption) ?_
        rotate_left
        · intro w hSw
          (try dsimp only at hSw)
          go_simp
          try with_reducible rfl
        (try simp only [Act.put, List.getElem_toArray, List.getElem_cons_succ, List.getElem_cons_zero, List.setIfInBounds_toArray, List.set_cons_zero, List.set_cons_succ])
        refine wpAnyH_take (i := 11) (v := ?_) rfl (by kernel_rfl) (by kernel_rfl) (by kernel_rfl) (fun _ _ _ h => h) (Or.inl ⟨by rfl, ?_⟩) (by assumption) ?_
        rotate_left
        · intro w hSw
          (try dsimp only at hSw)
          go_simp
          try with_reducible rfl
        (try simp only [Act.put, List.getElem_toArray, List.getElem_cons_succ, List.getElem_cons_zero, List.setIfInBounds_toArray, List.set_cons_zero, List.set_cons_succ])
        refine wpAnyH_done (by kernel_rfl) ?_ _
        have HZ := Lib.hid (TwinS.hid (W := W) (g := g) (h := h) (mk := k) (mq := q) (ma := a) (v2 := .slice A n c) (v3 := .slice A n c) (mp := l) hHeld).2.2.1
        clear hHeld
        obtain ⟨rfl, rfl⟩ : [] = pb ∧ 1 = x := by have h1 := HQ.out.1; unfold PutR at h1; rw [HQ.out.2.1, if_neg (by decide)] at h1; simpa using h1
        go_wp2
        go_ret
        exact ⟨rfl, HZ.out⟩
    | true =>
      go_enter Tryd.func3, Tryd.ntmps3
      go_upto_region 8 with (first
        | (go_at_call 8; (with_reducible refine HA.out.mono ?_); rintro e w1 ⟨rfl, hb⟩; obtain ⟨hx, hB, hz⟩ := one_block hb; have HB := Lib.hid hB; have HG := Lib.hid (show W.heap.size < _ from hz); obtain ⟨m0, m1, m2, m3, _, _, _, _⟩ := blk4 hx; have HPp := Lib.hid (HV.out.over (Nat.le_refl _) hB); clear hb hx hB hz)
        | (go_at_call 9; (with_reducible refine (HF.out _ HPp.out).mono ?_); rintro e w2 ⟨rfl, hb⟩; have m0 := (hb.cell HG.out).trans m0; have m1 := (hb.cell HG.out).trans m1; have m2 := (hb.cell HG.out).trans m2; have m3 := (hb.cell HG.out).trans m3; have HB := Lib.hid (bstep HB.out hb); have HPp := Lib.hid (HPp.out.over (Nat.le_refl _) hb); have HG := Lib.hid (Nat.lt_of_lt_of_le HG.out hb.size); clear hb)
        | (go_at_call 10; (with_reducible refine (plain6_any k q a A n c _).mono ?_); rintro e w3 ⟨rfl, hb⟩; have m0 := (hb.cell HG.out).trans m0; have m1 := (hb.cell HG.out).trans m1; have m2 := (hb.cell HG.out).trans m2; have m3 := (hb.cell HG.out).trans m3; have HB := Lib.hid (bstep HB.out hb); have HPp := Lib.hid (HPp.out.over (Nat.le_refl _) hb); have HG := Lib.hid (Nat.lt_of_lt_of_le HG.out hb.size); clear hb))
      have hb2 := bmore (bself w3) (.cells #[.int .u8 (k : Int), .int .u64 (q : Int), .int .i64 a, .slice A n c] 28)
      have HP4 := Lib.hid (HPp.out.over (Nat.le_refl _) hb2)
      have HB4 := Lib.hid (bstep HB.out hb2)
      obtain ⟨h, hh⟩ : ∃ h, h = w3.heap.size := ⟨_, rfl⟩
      obtain ⟨g, hg⟩ : ∃ g, g = W.heap.size := ⟨_, rfl⟩
      have HS : Hid (TwinS W g h k q a (.slice A n c) (.slice A n c) l (w3.alloc (.cells #[.int .u8 (k : Int), .int .u64 (q : Int), .int .i64 a, .slice A n c] 28))) := Lib.hid (by
        obtain ⟨r0, r1, r2, r3, _, _, _, _⟩ := blk4 (heap_alloc_new w3 (.cells #[.int .u8 (k : Int), .int .u64 (q : Int), .int .i64 a, .slice A n c] 28))
        rw [hg, hh]
        exact ⟨(hb2.cell HG.out).trans m0, (hb2.cell HG.out).trans m1, (hb2.cell HG.out).trans m2, (hb2.cell HG.out).trans m3, r0, r1, r2, r3, Lib.hid ⟨Nat.lt_of_lt_of_le HG.out hb2.size, by simp, HB4.out, HP4.out, HP4.out⟩⟩)
      rw [← hg, ← hh]
      generalize w3.alloc (Obj.cells #[Value.int IntKind.u8 (k : Int), Value.int IntKind.u64 (q : Int), Value.int IntKind.i64 a, Value.slice A n c] 28) = wb at HS ⊢
      clear hg hh hb2 HP4 HB4 m0 m1 m2 m3 HG HB HPp
      obtain ⟨a0, a1, a2, a3, b0, b1, b2, b3, _⟩ := id HS.out
      go_upto_region 10 with (first
        | (go_at_call 11; (with_reducible refine (HRM.out _ (TwinS.hid (W := W) (g := g) (h := h) (mk := k) (mq := q) (ma := a) (v2 := .slice A n c) (v3 := .slice A n c) (mp := l) HS.out).2.2.2.1).mono ?_); rintro e w4 ⟨rfl, hb⟩; have HS := Lib.hid (twinS_over HS.out hb); clear hb a0 a1 a2 a3 b0 b1 b2 b3; obtain ⟨a0, a1, a2, a3, b0, b1, b2, b3, _⟩ := id HS.out)
        | (go_at_call 12; (with_reducible refine (HPU.out _ (TwinS.hid (W := W) (g := g) (h := h) (mk := k) (mq := q) (ma := a) (v2 := .slice A n c) (v3 := .slice A n c) (mp := l) HS.out).2.2.2.1).mono ?_); rintro e w5 ⟨G5, z5, rfl, hlb, hb⟩; have HL5 := Lib.hid hlb; clear hlb; have HS := Lib.hid (twinS_over HS.out hb); clear hb a0 a1 a2 a3 b0 b1 b2 b3; obtain ⟨a0, a1, a2, a3, b0, b1, b2, b3, _⟩ := id HS.out))
      clear a0 a1 a2 a3 b0 b1 b2 b3
      have hS := HS.out
      unfold TwinS at hS
      refine wp_region_held_drew (S := fun w' => w'.cell? ⟨g, 0, none⟩ = some (.int .u8 (k : Int)) ∧ w'.cell? ⟨g, 1, none⟩ = some (.int .u64 (q : Int)) ∧ w'.cell? ⟨g, 2, none⟩ = some (.int .i64 a) ∧ w'.cell? ⟨g, 3, none⟩ = some (.slice A n c) ∧ w'.cell? ⟨h, 0, none⟩ = some (.int .u8 (k : Int)) ∧ w'.cell? ⟨h, 1, none⟩ = some (.int .u64 (q : Int)) ∧ w'.cell? ⟨h, 2, none⟩ = some (.int .i64 a) ∧ w'.cell? ⟨h, 3, none⟩ = some (.slice A n c) ∧ Hid (g < w'.heap.size ∧ h < w'.heap.size ∧ Below W.heap.size W w' ∧ Props w' w'.heap.size (.slice A n c) l ∧ Props w' w'.heap.size (.slice A n c) l)) (by kernel_rfl) ?_ (fun hHeld => ?_)
      · (try dsimp only)
        (first | assumption | exact twinS_drew (by assumption))
      refine wpAnyH_take (i := 0) (v := ?_) rfl (by kernel_rfl) (by kernel_rfl) (by kernel_rfl) (fun _ _ _ h => h) (Or.inl ⟨by rfl, ?_⟩) (by assumption) ?_
      rotate_left
      · intro w hSw
        (try dsimp only at hSw)
        go_simp
        try with_reducible rfl
      (try simp only [Act.put, List.getElem_toArray, List.getElem_cons_zero, List.setIfInBounds_toArray, List.set_cons_zero, List.set_cons_succ])
      refine wpAnyH_take (i := 2) (v := ?_) rfl (by kernel_rfl) (by kernel_rfl) (by kernel_rfl) (fun _ _ _ h => h) (Or.inl ⟨by rfl, ?_⟩) (by assumption) ?_
      rotate_left
      · intro w hSw
        (try dsimp only at hSw)
        go_simp
        try with_reducible rfl
      (try simp only [Act.put, List.getElem_toArray, List.getElem_cons_succ, List.getElem_cons_zero, List.setIfInBounds_toArray, List.set_cons_zero, List.set_cons_succ])
      refine wpAnyH_ready (rs := [1]) (by kernel_rfl) (by simp) ?_
      refine AllReadyH.cons rfl (fun K hK => ?_) AllReadyH.nil
      go_simp
      (go_at_call 13; ((with_reducible refine Calls.mono (HMM.out _ ?_) ?_); (exact (TwinS.hid (W := W) (g := g) (h := h) (mk := k) (mq := q) (ma := a) (v2 := .slice A n c) (v3 := .slice A n c) (mp := l) hHeld).2.2.2.1); rintro e w6 ⟨rfl, hb⟩; have hs6 := twinS_over hHeld hb; have HL6 := Lib.hid (HL5.out.over (Nat.le_refl _) ((bself w5).drew.trans (hb.mono (Nat.le_refl _)))); clear hb))
      go_wp2_with fail
      refine hK.out _ _ ?_ (fun hHeld => ?_)
      · (try dsimp only)
        (first | assumption | exact twinS_drew (by assumption))
      clear hK K
      (try simp only [Act.put, List.getElem_toArray, List.getElem_cons_succ, List.getElem_cons_zero, List.setIfInBounds_toArray, List.set_cons_zero, List.set_cons_succ])
      refine wpAnyH_take (i := 3) (v := ?_) rfl (by kernel_rfl) (by kernel_rfl) (by kernel_rfl) (fun _ _ _ h => h) (Or.inl ⟨by rfl, ?_⟩) (by assumption) ?_
      rotate_left
      · intro w hSw
        (try dsimp only at hSw)
        go_simp
        try with_reducible rfl
      (try simp only [Act.put, List.getElem_toArray, List.getElem_cons_succ, List.getElem_cons_zero, List.setIfInBounds_toArray, List.set_cons_zero, List.set_cons_succ])
      refine wpAnyH_take (i := 4) (v := ?_) rfl (by kernel_rfl) (by kernel_rfl) (by kernel_rfl) (fun _ _ _ h => h) (Or.inl ⟨by rfl, ?_⟩) (by assumption) ?_
      rotate_left
      · intro w hSw
        (try dsimp only at hSw)
        go_simp
        try with_reducible rfl
      (try simp only [Act.put, List.getElem_toArray, List.getElem_cons_succ, List.getElem_cons_zero, List.setIfInBounds_toArray, List.set_cons_zero, List.set_cons_succ])
      refine wpAnyH_take (i := 5) (v := ?_) rfl (by kernel_rfl) (by kernel_rfl) (by kernel_rfl) (fun _ _ _ h => h) (Or.inl ⟨by rfl, ?_⟩) (by assumption) ?_
      rotate_left
      · intro w hSw
        (try dsimp only at hSw)
        go_simp
        try with_reducible rfl
      (try simp only [Act.put, List.getElem_toArray, List.getElem_cons_succ, List.getElem_cons_zero, List.setIfInBounds_toArray, List.set_cons_zero, List.set_cons_succ])
      refine wpAnyH_take (i := 8) (v := ?_) rfl (by kernel_rfl) (by kernel_rfl) (by kernel_rfl) (fun _ _ _ h => h) (Or.inl ⟨by rfl, ?_⟩) (by assumption) ?_
      rotate_left
      · intro w hSw
        (try dsimp only at hSw)
        go_simp
        try with_reducible rfl
      (try simp only [Act.put, List.getElem_toArray, List.getElem_cons_succ, List.getElem_cons_zero, List.setIfInBounds_toArray, List.set_cons_zero, List.set_cons_succ])
      refine wpAnyH_ready (rs := [6]) (by kernel_rfl) (by simp) ?_
      refine AllReadyH.cons rfl (fun K hK => ?_) AllReadyH.nil
      go_simp
      (go_at_call 14; ((with_reducible refine Calls.mono (HFr.out _ ?_ ?_) ?_); (exact (TwinS.hid (W := W) (g := g) (h := h) (mk := k) (mq := q) (ma := a) (v2 := .slice A n c) (v3 := .slice A n c) (mp := l) hHeld).2.2.1); (exact (TwinS.hid (W := W) (g := g) (h := h) (mk := k) (mq := q) (ma := a) (v2 := .slice A n c) (v3 := .slice A n c) (mp := l) hHeld).2.2.2.1); rintro e w7 ⟨G7, z7, rfl, hlb, hb⟩; have hs7 := twinS_over hHeld hb; have HF7 := Lib.hid hlb; have HL7 := Lib.hid (HL6.out.over (Nat.le_refl _) hb); clear hb hlb))
      go_wp2_with fail
      refine hK.out _ _ ?_ (fun hHeld => ?_)
      · (try dsimp only)
        (first | assumption | exact twinS_drew (by assumption))
      clear hK K
      (try simp only [Act.put, List.getElem_toArray, List.getElem_cons_succ, List.getElem_cons_zero, List.setIfInBounds_toArray, List.set_cons_zero, List.set_cons_succ])
      refine wpAnyH_ready (rs := [7, 9]) (by kernel_rfl) (by simp) ?_
      refine AllReadyH.cons rfl (fun K hK => ?_) (AllReadyH.cons rfl (fun K hK => ?_) AllReadyH.nil)
      · have hcv := conv_of (w := w7) (by first | exact HF8.out | exact HF7.out)
        go_simp
        clear hcv
        refine hK.out _ _ ?_ (fun hHeld => ?_)
        · (try dsimp only)
          (first | assumption | exact twinS_drew (by assumption))
        clear hK K
        (try simp only [Act.put, List.getElem_toArray, List.getElem_cons_succ, List.getElem_cons_zero, List.setIfInBounds_toArray, List.set_cons_zero, List.set_cons_succ])
        refine wpAnyH_ready (rs := [9]) (by kernel_rfl) (by simp) ?_
        refine AllReadyH.cons rfl (fun K hK => ?_) AllReadyH.nil
        go_simp
        (go_at_call 15; ((with_reducible refine Calls.mono (HRF.out _ ?_) ?_); (exact (TwinS.hid (W := W) (g := g) (h := h) (mk := k) (mq := q) (ma := a) (v2 := .slice A n c) (v3 := .slice A n c) (mp := l) hHeld).2.2.2.1); rintro e w8 ⟨rfl, hb⟩; have hs8 := twinS_over hHeld hb; have HF8 := Lib.hid (HF7.out.over (Nat.le_refl _) hb); have HL8 := Lib.hid (HL7.out.over (Nat.le_refl _) hb); clear hb))
        go_wp2_with fail
        refine hK.out _ _ ?_ (fun hHeld => ?_)
        · (try dsimp only)
          (first | assumption | exact twinS_drew (by assumption))
        clear hK K
        (try simp only [Act.put, List.getElem_toArray, List.getElem_cons_succ, List.getElem_cons_zero, List.setIfInBounds_toArray, List.set_cons_zero, List.set_cons_succ])
        refine wpAnyH_take (i := 10) (v := ?_) rfl (by kernel_rfl) (by kernel_rfl) (by kernel_rfl) (fun _ _ _ h => h) (Or.inl ⟨by rfl, ?_⟩) (by assumption) ?_
        rotate_left
        · intro w hSw
          (try dsimp only at hSw)
          go_simp
          try with_reducible rfl
        (try simp only [Act.put, List.getElem_toArray, List.getElem_cons_succ, List.getElem_cons_zero, List.setIfInBounds_toArray, List.set_cons_zero, List.set_cons_succ])
        refine wpAnyH_take (i := 11) (v := ?_) rfl (by kernel_rfl) (by kernel_rfl) (by kernel_rfl) (fun _ _ _ h => h) (Or.inl ⟨by rfl, ?_⟩) (by assumption) ?_
        rotate_left
        · intro w hSw
          (try dsimp only at hSw)
          go_simp
          try with_reducible rfl
        (try simp only [Act.put, List.getElem_toArray, List.getElem_cons_succ, List.getElem_cons_zero, List.setIfInBounds_toArray, List.set_cons_zero, List.set_cons_succ])
        refine wpAnyH_done (by kernel_rfl) ?_ _
        have HS := Lib.hid hHeld
        clear hHeld
        obtain ⟨a0, a1, a2, a3, b0, b1, b2, b3, _⟩ := id HS.out
        have hp2 : putM ⟨k, q, a, l⟩ = pb ∧ 0 = x := by have h1 := HQ.out.1; unfold PutR at h1; rw [HQ.out.2.1, if_pos rfl] at h1; simpa using h1
        have HPB := Lib.hid hp2.1
        obtain rfl := hp2.2
        clear hp2
        have HRP : Hid (∀ w, Props w w.heap.size (.slice A n c) l → Calls Tryd.prog 16 #[.agg #[.int .u8 (k : Int), .int .u64 (q : Int), .int .i64 a, .slice A n c]] w fun e w' => e = .returned (.string (mkB pb)) ∧ Below w.heap.size w w') := Lib.hid (fun w h => by
          obtain ⟨hr, hq, ha, hlen, hfit⟩ := HQ.out.2
          have h0 := ((may_iff _).1 hr).1
          obtain ⟨an, rfl⟩ : ∃ an : Nat, a = (an : Int) := ⟨a.toNat, by dsimp only at h0; omega⟩
          rw [← HPB.out]
          exact rputm_any k q an A n c l w hq (by omega) h (by omega) hfit)
        go_upto_region 14 with (fail)
        clear a0 a1 a2 a3 b0 b1 b2 b3
        have hS := HS.out
        unfold TwinS at hS
        refine wp_region_held_drew (S := fun w' => w'.cell? ⟨g, 0, none⟩ = some (.int .u8 (k : Int)) ∧ w'.cell? ⟨g, 1, none⟩ = some (.int .u64 (q : Int)) ∧ w'.cell? ⟨g, 2, none⟩ = some (.int .i64 a) ∧ w'.cell? ⟨g, 3, none⟩ = some (.slice A n c) ∧ w'.cell? ⟨h, 0, none⟩ = some (.int .u8 (k : Int)) ∧ w'.cell? ⟨h, 1, none⟩ = some (.int .u64 (q : Int)) ∧ w'.cell? ⟨h, 2, none⟩ = some (.int .i64 a) ∧ w'.cell? ⟨h, 3, none⟩ = some (.slice A n c) ∧ Hid (g < w'.heap.size ∧ h < w'.heap.size ∧ Below W.heap.size W w' ∧ Props w' w'.heap.size (.slice A n c) l ∧ Props w' w'.heap.size (.slice A n c) l)) (by kernel_rfl) ?_ (fun hHeld => ?_)
        · (try dsimp only)
          (first | assumption | exact twinS_drew (by assumption))
        refine wpAnyH_take (i := 0) (v := ?_) rfl (by kernel_rfl) (by kernel_rfl) (by kernel_rfl) (fun _ _ _ h => h) (Or.inl ⟨by rfl, ?_⟩) (by assumption) ?_
        rotate_left
        · intro w hSw
          (try dsimp only at hSw)
          go_simp
          try with_reducible rfl
        (try simp only [Act.put, List.getElem_toArray, List.getElem_cons_zero, List.setIfInBounds_toArray, List.set_cons_zero, List.set_cons_succ])
        refine wpAnyH_take (i := 1) (v := ?_) rfl (by kernel_rfl) (by kernel_rfl) (by kernel_rfl) (fun _ _ _ h => h) (Or.inl ⟨by rfl, ?_⟩) (by assumption) ?_
        rotate_left
        · intro w hSw
          (try dsimp only at hSw)
          go_simp
          try with_reducible rfl
        (try simp only [Act.put, List.getElem_toArray, List.getElem_cons_succ, List.getElem_cons_zero, List.setIfInBounds_toArray, List.set_cons_zero, List.set_cons_succ])
        refine wpAnyH_take (i := 2) (v := ?_) rfl (by kernel_rfl) (by kernel_rfl) (by kernel_rfl) (fun _ _ _ h => h) (Or.inl ⟨by rfl, ?_⟩) (by assumption) ?_
        rotate_left
        · intro w hSw
          (try dsimp only at hSw)
          go_simp
          try with_reducible rfl
        (try simp only [Act.put, List.getElem_toArray, List.getElem_cons_succ, List.getElem_cons_zero, List.setIfInBounds_toArray, List.set_cons_zero, List.set_cons_succ])
        refine wpAnyH_take (i := 3) (v := ?_) rfl (by kernel_rfl) (by kernel_rfl) (by kernel_rfl) (fun _ _ _ h => h) (Or.inl ⟨by rfl, ?_⟩) (by assumption) ?_
        rotate_left
        · intro w hSw
          (try dsimp only at hSw)
          go_simp
          try with_reducible rfl
        (try simp only [Act.put, List.getElem_toArray, List.getElem_cons_succ, List.getElem_cons_zero, List.setIfInBounds_toArray, List.set_cons_zero, List.set_cons_succ])
        refine wpAnyH_take (i := 5) (v := ?_) rfl (by kernel_rfl) (by kernel_rfl) (by kernel_rfl) (fun _ _ _ h => h) (Or.inl ⟨by rfl, ?_⟩) (by assumption) ?_
        rotate_left
        · intro w hSw
          (try dsimp only at hSw)
          go_simp
          try with_reducible rfl
        (try simp only [Act.put, List.getElem_toArray, List.getElem_cons_succ, List.getElem_cons_zero, List.setIfInBounds_toArray, List.set_cons_zero, List.set_cons_succ])
        refine wpAnyH_ready (rs := [4, 6]) (by kernel_rfl) (by simp) ?_
        refine AllReadyH.cons rfl (fun K hK => ?_) (AllReadyH.cons rfl (fun K hK => ?_) AllReadyH.nil)
        · have hcv := conv_of (w := w8.drew) (by first | exact HL9.out | exact HL8.out.over (Nat.le_refl _) (bself w8).drew)
          go_simp
          clear hcv
          refine hK.out _ _ ?_ (fun hHeld => ?_)
          · (try dsimp only)
            (first | assumption | exact twinS_drew (by assumption))
          clear hK K
          (try simp only [Act.put, List.getElem_toArray, List.getElem_cons_succ, List.getElem_cons_zero, List.setIfInBounds_toArray, List.set_cons_zero, List.set_cons_succ])
          refine wpAnyH_ready (rs := [6]) (by kernel_rfl) (by simp) ?_
          refine AllReadyH.cons rfl (fun K hK => ?_) AllReadyH.nil
          go_simp
          (go_at_call 16; ((with_reducible refine Calls.mono (HRP.out _ ?_) ?_); (exact (TwinS.hid (W := W) (g := g) (h := h) (mk := k) (mq := q) (ma := a) (v2 := .slice A n c) (v3 := .slice A n c) (mp := l) hHeld).2.2.2.1); rintro e w9 ⟨rfl, hb⟩; have hs9 := twinS_over hHeld hb; have HL9 := Lib.hid (HL8.out.over (Nat.le_refl _) ((bself w8).drew.trans (hb.mono (Nat.le_refl _)))); clear hb))
          go_wp2_with fail
          refine hK.out _ _ ?_ (fun hHeld => ?_)
          · (try dsimp only)
            (first | assumption | exact twinS_drew (by assumption))
          clear hK K
          (try simp only [Act.put, List.getElem_toArray, List.getElem_cons_succ, List.getElem_cons_zero, List.setIfInBounds_toArray, List.set_cons_zero, List.set_cons_succ])
          refine wpAnyH_take (i := 7) (v := ?_) rfl (by kernel_rfl) (by kernel_rfl) (by kernel_rfl) (fun _ _ _ h => h) (Or.inl ⟨by rfl, ?_⟩) (by assumption) ?_
          rotate_left
          · intro w hSw
            (try dsimp only at hSw)
            go_simp
            try with_reducible rfl
          (try simp only [Act.put, List.getElem_toArray, List.getElem_cons_succ, List.getElem_cons_zero, List.setIfInBounds_toArray, List.set_cons_zero, List.set_cons_succ])
          refine wpAnyH_take (i := 8) (v := ?_) rfl (by kernel_rfl) (by kernel_rfl) (by kernel_rfl) (fun _ _ _ h => h) (Or.inl ⟨by rfl, ?_⟩) (by assumption) ?_
          rotate_left
          · intro w hSw
            (try dsimp only at hSw)
            go_simp
            try with_reducible rfl
          (try simp only [Act.put, List.getElem_toArray, List.getElem_cons_succ, List.getElem_cons_zero, List.setIfInBounds_toArray, List.set_cons_zero, List.set_cons_succ])
          refine wpAnyH_take (i := 9) (v := ?_) rfl (by kernel_rfl) (by kernel_rfl) (by kernel_rfl) (fun _ _ _ h => h) (Or.inl ⟨by rfl, ?_⟩) (by assumption) ?_
          rotate_left
          · intro w hSw
            (try dsimp only at hSw)
            go_simp
            try with_reducible rfl
          (try simp only [Act.put, List.getElem_toArray, List.getElem_cons_succ, List.getElem_cons_zero, List.setIfInBounds_toArray, List.set_cons_zero, List.set_cons_succ])
          refine wpAnyH_done (by kernel_rfl) ?_ _
          have HZ := Lib.hid (TwinS.hid (W := W) (g := g) (h := h) (mk := k) (mq := q) (ma := a) (v2 := .slice A n c) (v3 := .slice A n c) (mp := l) hHeld).2.2.1
          clear hHeld
          go_wp2
          go_ret
          exact ⟨rfl, HZ.out⟩
        · go_simp
          (go_at_call 16; ((with_reducible refine Calls.mono (HRP.out _ ?_) ?_); (exact (TwinS.hid (W := W) (g := g) (h := h) (mk := k) (mq := q) (ma := a) (v2 := .slice A n c) (v3 := .slice A n c) (mp := l) hHeld).2.2.2.1); rintro e w9 ⟨rfl, hb⟩; have hs9 := twinS_over hHeld hb; have HL9 := Lib.hid (HL8.out.over (Nat.le_refl _) ((bself w8).drew.trans (hb.mono (Nat.le_refl _)))); clear hb))
          go_wp2_with fail
          refine hK.out _ _ ?_ (fun hHeld => ?_)
          · (try dsimp only)
            (first | assumption | exact twinS_drew (by assumption))
          clear hK K
          (try simp only [Act.put, List.getElem_toArray, List.getElem_cons_succ, List.getElem_cons_zero, List.setIfInBounds_toArray, List.set_cons_zero, List.set_cons_succ])
          refine wpAnyH_ready (rs := [4]) (by kernel_rfl) (by simp) ?_
          refine AllReadyH.cons rfl (fun K hK => ?_) AllReadyH.nil
          have hcv := conv_of (w := w9) (by first | exact HL9.out | exact HL8.out.over (Nat.le_refl _) (bself w8).drew)
          go_simp
          clear hcv
          refine hK.out _ _ ?_ (fun hHeld => ?_)
          · (try dsimp only)
            (first | assumption | exact twinS_drew (by assumption))
          clear hK K
          (try simp only [Act.put, List.getElem_toArray, List.getElem_cons_succ, List.getElem_cons_zero, List.setIfInBounds_toArray, List.set_cons_zero, List.set_cons_succ])
          refine wpAnyH_take (i := 7) (v := ?_) rfl (by kernel_rfl) (by kernel_rfl) (by kernel_rfl) (fun _ _ _ h => h) (Or.inl ⟨by rfl, ?_⟩) (by assumption) ?_
          rotate_left
          · intro w hSw
            (try dsimp only at hSw)
            go_simp
            try with_reducible rfl
          (try simp only [Act.put, List.getElem_toArray, List.getElem_cons_succ, List.getElem_cons_zero, List.setIfInBounds_toArray, List.set_cons_zero, List.set_cons_succ])
          refine wpAnyH_take (i := 8) (v := ?_) rfl (by kernel_rfl) (by kernel_rfl) (by kernel_rfl) (fun _ _ _ h => h) (Or.inl ⟨by rfl, ?_⟩) (by assumption) ?_
          rotate_left
          · intro w hSw
            (try dsimp only at hSw)
            go_simp
            try with_reducible rfl
          (try simp only [Act.put, List.getElem_toArray, List.getElem_cons_succ, List.getElem_cons_zero, List.setIfInBounds_toArray, List.set_cons_zero, List.set_cons_succ])
          refine wpAnyH_take (i := 9) (v := ?_) rfl (by kernel_rfl) (by kernel_rfl) (by kernel_rfl) (fun _ _ _ h => h) (Or.inl ⟨by rfl, ?_⟩) (by assumption) ?_
          rotate_left
          · intro w hSw
            (try dsimp only at hSw)
            go_simp
            try with_reducible rfl
          (try simp only [Act.put, List.getElem_toArray, List.getElem_cons_succ, List.getElem_cons_zero, List.setIfInBounds_toArray, List.set_cons_zero, List.set_cons_succ])
          refine wpAnyH_done (by kernel_rfl) ?_ _
          have HZ := Lib.hid (TwinS.hid (W := W) (g := g) (h := h) (mk := k) (mq := q) (ma := a) (v2 := .slice A n c) (v3 := .slice A n c) (mp := l) hHeld).2.2.1
          clear hHeld
          go_wp2
          go_ret
          exact ⟨rfl, HZ.out⟩
      · go_simp
        (go_at_call 15; ((with_reducible refine Calls.mono (HRF.out _ ?_) ?_); (exact (TwinS.hid (W := W) (g := g) (h := h) (mk := k) (mq := q) (ma := a) (v2 := .slice A n c) (v3 := .slice A n c) (mp := l) hHeld).2.2.2.1); rintro e w8 ⟨rfl, hb⟩; have hs8 := twinS_over hHeld hb; have HF8 := Lib.hid (HF7.out.over (Nat.le_refl _) hb); have HL8 := Lib.hid (HL7.out.over (Nat.le_refl _) hb); clear hb))
        go_wp2_with fail
        refine hK.out _ _ ?_ (fun hHeld => ?_)
        · (try dsimp only)
          (first | assumption | exact twinS_drew (by assumption))
        clear hK K
        (try simp only [Act.put, List.getElem_toArray, List.getElem_cons_succ, List.getElem_cons_zero, List.setIfInBounds_toArray, List.set_cons_zero, List.set_cons_succ])
        refine wpAnyH_ready (rs := [7]) (by kernel_rfl) (by simp) ?_
        refine AllReadyH.cons rfl (fun K hK => ?_) AllReadyH.nil
        have hcv := conv_of (w := w8) (by first | exact HF8.out | exact HF7.out)
        go_simp
        clear hcv
        refine hK.out _ _ ?_ (fun hHeld => ?_)
        · (try dsimp only)
          (first | assumption | exact twinS_drew (by assumption))
        clear hK K
        (try simp only [Act.put, List.getElem_toArray, List.getElem_cons_succ, List.getElem_cons_zero, List.setIfInBounds_toArray, List.set_cons_zero, List.set_cons_succ])
        refine wpAnyH_take (i := 10) (v := ?_) rfl (by kernel_rfl) (by kernel_rfl) (by kernel_rfl) (fun _ _ _ h => h) (Or.inl ⟨by rfl, ?_⟩) (by assumption) ?_
        rotate_left
        · intro w hSw
          (try dsimp only at hSw)
          go_simp
          try with_reducible rfl
        (try simp only [Act.put, List.getElem_toArray, List.getElem_cons_succ, List.getElem_cons_zero, List.setIfInBounds_toArray, List.set_cons_zero, List.set_cons_succ])
        refine wpAnyH_take (i := 11) (v := ?_) rfl (by kernel_rfl) (by kernel_rfl) (by kernel_rfl) (fun _ _ _ h => h) (Or.inl ⟨by rfl, ?_⟩) (by assumption) ?_
        rotate_left
        · intro w hSw
          (try dsimp only at hSw)
          go_simp
          try with_reducible rfl
        (try simp only [Act.put, List.getElem_toArray, List.getElem_cons_succ, List.getElem_cons_zero, List.setIfInBounds_toArray, List.set_cons_zero, List.set_cons_succ])
        refine wpAnyH_done (by kernel_rfl) ?_ _
        have HS := Lib.hid hHeld
        clear hHeld
        obtain ⟨a0, a1, a2, a3, b0, b1, b2, b3, _⟩ := id HS.out
        have hp2 : putM ⟨k, q, a, l⟩ = pb ∧ 0 = x := by have h1 := HQ.out.1; unfold PutR at h1; rw [HQ.out.2.1, if_pos rfl] at h1; simpa using h1
        have HPB := Lib.hid hp2.1
        obtain rfl := hp2.2
        clear hp2
        have HRP : Hid (∀ w, Props w w.heap.size (.slice A n c) l → Calls Tryd.prog 16 #[.agg #[.int .u8 (k : Int), .int .u64 (q : Int), .int .i64 a, .slice A n c]] w fun e w' => e = .returned (.string (mkB pb)) ∧ Below w.heap.size w w') := Lib.hid (fun w h => by
          obtain ⟨hr, hq, ha, hlen, hfit⟩ := HQ.out.2
          have h0 := ((may_iff _).1 hr).1
          obtain ⟨an, rfl⟩ : ∃ an : Nat, a = (an : Int) := ⟨a.toNat, by dsimp only at h0; omega⟩
          rw [← HPB.out]
          exact rputm_any k q an A n c l w hq (by omega) h (by omega) hfit)
        go_upto_region 14 with (fail)
        clear a0 a1 a2 a3 b0 b1 b2 b3
        have hS := HS.out
        unfold TwinS at hS
        refine wp_region_held_drew (S := fun w' => w'.cell? ⟨g, 0, none⟩ = some (.int .u8 (k : Int)) ∧ w'.cell? ⟨g, 1, none⟩ = some (.int .u64 (q : Int)) ∧ w'.cell? ⟨g, 2, none⟩ = some (.int .i64 a) ∧ w'.cell? ⟨g, 3, none⟩ = some (.slice A n c) ∧ w'.cell? ⟨h, 0, none⟩ = some (.int .u8 (k : Int)) ∧ w'.cell? ⟨h, 1, none⟩ = some (.int .u64 (q : Int)) ∧ w'.cell? ⟨h, 2, none⟩ = some (.int .i64 a) ∧ w'.cell? ⟨h, 3, none⟩ = some (.slice A n c) ∧ Hid (g < w'.heap.size ∧ h < w'.heap.size ∧ Below W.heap.size W w' ∧ Props w' w'.heap.size (.slice A n c) l ∧ Props w' w'.heap.size (.slice A n c) l)) (by kernel_rfl) ?_ (fun hHeld => ?_)
        · (try dsimp only)
          (first | assumption | exact twinS_drew (by assumption))
        refine wpAnyH_take (i := 0) (v := ?_) rfl (by kernel_rfl) (by kernel_rfl) (by kernel_rfl) (fun _ _ _ h => h) (Or.inl ⟨by rfl, ?_⟩) (by assumption) ?_
        rotate_left
        · intro w hSw
          (try dsimp only at hSw)
          go_simp
          try with_reducible rfl
        (try simp only [Act.put, List.getElem_toArray, List.getElem_cons_zero, List.setIfInBounds_toArray, List.set_cons_zero, List.set_cons_succ])
        refine wpAnyH_take (i := 1) (v := ?_) rfl (by kernel_rfl) (by kernel_rfl) (by kernel_rfl) (fun _ _ _ h => h) (Or.inl ⟨by rfl, ?_⟩) (by assumption) ?_
        rotate_left
        · intro w hSw
          (try dsimp only at hSw)
          go_simp
          try with_reducible rfl
        (try simp only [Act.put, List.getElem_toArray, List.getElem_cons_succ, List.getElem_cons_zero, List.setIfInBounds_toArray, List.set_cons_zero, List.set_cons_succ])
        refine wpAnyH_take (i := 2) (v := ?_) rfl (by kernel_rfl) (by kernel_rfl) (by kernel_rfl) (fun _ _ _ h => h) (Or.inl ⟨by rfl, ?_⟩) (by assumption) ?_
        rotate_left
        · intro w hSw
          (try dsimp only at hSw)
          go_simp
          try with_reducible rfl
        (try simp only [Act.put, List.getElem_toArray, List.getElem_cons_succ, List.getElem_cons_zero, List.setIfInBounds_toArray, List.set_cons_zero, List.set_cons_succ])
        refine wpAnyH_take (i := 3) (v := ?_) rfl (by kernel_rfl) (by kernel_rfl) (by kernel_rfl) (fun _ _ _ h => h) (Or.inl ⟨by rfl, ?_⟩) (by assumption) ?_
        rotate_left
        · intro w hSw
          (try dsimp only at hSw)
          go_simp
          try with_reducible rfl
        (try simp only [Act.put, List.getElem_toArray, List.getElem_cons_succ, List.getElem_cons_zero, List.setIfInBounds_toArray, List.set_cons_zero, List.set_cons_succ])
        refine wpAnyH_take (i := 5) (v := ?_) rfl (by kernel_rfl) (by kernel_rfl) (by kernel_rfl) (fun _ _ _ h => h) (Or.inl ⟨by rfl, ?_⟩) (by assumption) ?_
        rotate_left
        · intro w hSw
          (try dsimp only at hSw)
          go_simp
          try with_reducible rfl
        (try simp only [Act.put, List.getElem_toArray, List.getElem_cons_succ, List.getElem_cons_zero, List.setIfInBounds_toArray, List.set_cons_zero, List.set_cons_succ])
        refine wpAnyH_ready (rs := [4, 6]) (by kernel_rfl) (by simp) ?_
        refine AllReadyH.cons rfl (fun K hK => ?_) (AllReadyH.cons rfl (fun K hK => ?_) AllReadyH.nil)
        · have hcv := conv_of (w := w8.drew) (by first | exact HL9.out | exact HL8.out.over (Nat.le_refl _) (bself w8).drew)
          go_simp
          clear hcv
          refine hK.out _ _ ?_ (fun hHeld => ?_)
          · (try dsimp only)
            (first | assumption | exact twinS_drew (by assumption))
          clear hK K
          (try simp only [Act.put, List.getElem_toArray, List.getElem_cons_succ, List.getElem_cons_zero, List.setIfInBounds_toArray, List.set_cons_zero, List.set_cons_succ])
          refine wpAnyH_ready (rs := [6]) (by kernel_rfl) (by simp) ?_
          refine AllReadyH.cons rfl (fun K hK => ?_) AllReadyH.nil
          go_simp
          (go_at_call 16; ((with_reducible refine Calls.mono (HRP.out _ ?_) ?_); (exact (TwinS.hid (W := W) (g := g) (h := h) (mk := k) (mq := q) (ma := a) (v2 := .slice A n c) (v3 := .slice A n c) (mp := l) hHeld).2.2.2.1); rintro e w9 ⟨rfl, hb⟩; have hs9 := twinS_over hHeld hb; have HL9 := Lib.hid (HL8.out.over (Nat.le_refl _) ((bself w8).drew.trans (hb.mono (Nat.le_refl _)))); clear hb))
          go_wp2_with fail
          refine hK.out _ _ ?_ (fun hHeld => ?_)
          · (try dsimp only)
            (first | assumption | exact twinS_drew (by assumption))
          clear hK K
          (try simp only [Act.put, List.getElem_toArray, List.getElem_cons_succ, List.getElem_cons_zero, List.setIfInBounds_toArray, List.set_cons_zero, List.set_cons_succ])
          refine wpAnyH_take (i := 7) (v := ?_) rfl (by kernel_rfl) (by kernel_rfl) (by kernel_rfl) (fun _ _ _ h => h) (Or.inl ⟨by rfl, ?_⟩) (by assumption) ?_
          rotate_left
          · intro w hSw
            (try dsimp only at hSw)
            go_simp
            try with_reducible rfl
          (try simp only [Act.put, List.getElem_toArray, List.getElem_cons_succ, List.getElem_cons_zero, List.setIfInBounds_toArray, List.set_cons_zero, List.set_cons_succ])
          refine wpAnyH_take (i := 8) (v := ?_) rfl (by kernel_rfl) (by kernel_rfl) (by kernel_rfl) (fun _ _ _ h => h) (Or.inl ⟨by rfl, ?_⟩) (by assumption) ?_
          rotate_left
          · intro w hSw
            (try dsimp only at hSw)
            go_simp
            try with_reducible rfl
          (try simp only [Act.put, List.getElem_toArray, List.getElem_cons_succ, List.getElem_cons_zero, List.setIfInBounds_toArray, List.set_cons_zero, List.set_cons_succ])
          refine wpAnyH_take (i := 9) (v := ?_) rfl (by kernel_rfl) (by kernel_rfl) (by kernel_rfl) (fun _ _ _ h => h) (Or.inl ⟨by rfl, ?_⟩) (by assumption) ?_
          rotate_left
          · intro w hSw
            (try dsimp only at hSw)
            go_simp
            try with_reducible rfl
          (try simp only [Act.put, List.getElem_toArray, List.getElem_cons_succ, List.getElem_cons_zero, List.setIfInBounds_toArray, List.set_cons_zero, List.set_cons_succ])
          refine wpAnyH_done (by kernel_rfl) ?_ _
          have HZ := Lib.hid (TwinS.hid (W := W) (g := g) (h := h) (mk := k) (mq := q) (ma := a) (v2 := .slice A n c) (v3 := .slice A n c) (mp := l) hHeld).2.2.1
          clear hHeld
          go_wp2
          go_ret
          exact ⟨rfl, HZ.out⟩
        · go_simp
          (go_at_call 16; ((with_reducible refine Calls.mono (HRP.out _ ?_) ?_); (exact (TwinS.hid (W := W) (g := g) (h := h) (mk := k) (mq := q) (ma := a) (v2 := .slice A n c) (v3 := .slice A n c) (mp := l) hHeld).2.2.2.1); rintro e w9 ⟨rfl, hb⟩; have hs9 := twinS_over hHeld hb; have HL9 := Lib.hid (HL8.out.over (Nat.le_refl _) ((bself w8).drew.trans (hb.mono (Nat.le_refl _)))); clear hb))
          go_wp2_with fail
          refine hK.out _ _ ?_ (fun hHeld => ?_)
          · (try dsimp only)
            (first | assumption | exact twinS_drew (by assumption))
          clear hK K
          (try simp only [Act.put, List.getElem_toArray, List.getElem_cons_succ, List.getElem_cons_zero, List.setIfInBounds_toArray, List.set_cons_zero, List.set_cons_succ])
          refine wpAnyH_ready (rs := [4]) (by kernel_rfl) (by simp) ?_
          refine AllReadyH.cons rfl (fun K hK => ?_) AllReadyH.nil
          have hcv := conv_of (w := w9) (by first | exact HL9.out | exact HL8.out.over (Nat.le_refl _) (bself w8).drew)
          go_simp
          clear hcv
          refine hK.out _ _ ?_ (fun hHeld => ?_)
          · (try dsimp only)
            (first | assumption | exact twinS_drew (by assumption))
          clear hK K
          (try simp only [Act.put, List.getElem_toArray, List.getElem_cons_succ, List.getElem_cons_zero, List.setIfInBounds_toArray, List.set_cons_zero, List.set_cons_succ])
          refine wpAnyH_take (i := 7) (v := ?_) rfl (by kernel_rfl) (by kernel_rfl) (by kernel_rfl) (fun _ _ _ h => h) (Or.inl ⟨by rfl, ?_⟩) (by assumption) ?_
          rotate_left
          · intro w hSw
            (try dsimp only at hSw)
            go_simp
            try with_reducible rfl
          (try simp only [Act.put, List.getElem_toArray, List.getElem_cons_succ, List.getElem_cons_zero, List.setIfInBounds_toArray, List.set_cons_zero, List.set_cons_succ])
          refine wpAnyH_take (i := 8) (v := ?_) rfl (by kernel_rfl) (by kernel_rfl) (by kernel_rfl) (fun _ _ _ h => h) (Or.inl ⟨by rfl, ?_⟩) (by assumption) ?_
          rotate_left
          · intro w hSw
            (try dsimp only at hSw)
            go_simp
            try with_reducible rfl
          (try simp only [Act.put, List.getElem_toArray, List.getElem_cons_succ, List.getElem_cons_zero, List.setIfInBounds_toArray, List.set_cons_zero, List.set_cons_succ])
          refine wpAnyH_take (i := 9) (v := ?_) rfl (by kernel_rfl) (by kernel_rfl) (by kernel_rfl) (fun _ _ _ h => h) (Or.inl ⟨by rfl, ?_⟩) (by assumption) ?_
          rotate_left
          · intro w hSw
            (try dsimp only at hSw)
            go_simp
            try with_reducible rfl
          (try simp only [Act.put, List.getElem_toArray, List.getElem_cons_succ, List.getElem_cons_zero, List.setIfInBounds_toArray, List.set_cons_zero, List.set_cons_succ])
          refine wpAnyH_done (by kernel_rfl) ?_ _
          have HZ := Lib.hid (TwinS.hid (W := W) (g := g) (h := h) (mk := k) (mq := q) (ma := a) (v2 := .slice A n c) (v3 := .slice A n c) (mp := l) hHeld).2.2.1
          clear hHeld
          go_wp2
          go_ret
          exact ⟨rfl, HZ.out⟩
theorem messagePuts_row (m : Msg) (A : Option Addr) (n c : Nat) (W : World) (hT : Tabs W) (hin : m.In) (hp : Props W W.heap.size (.slice A n c) m.props) :
    Calls Tryd.prog 3 #[.agg #[.int .u8 (m.kind : Int), .int .u64 (m.seq : Int), .int .i64 m.at_, .slice A n c]] W fun e w' => e = .returned (.bool true) ∧ Below W.heap.size W w' :=
  messagePuts_any m.kind m.seq m.at_ A n c m.props W hT hin.2.1 hin.2.2.1 hp hin.2.2.2
end Go.Proofs.YtiflpjdiokloaaaDoor
