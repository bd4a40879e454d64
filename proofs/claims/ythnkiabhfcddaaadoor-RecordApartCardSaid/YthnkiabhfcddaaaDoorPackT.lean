/-
  Texts of the proofs, put together: Record, AwakeSeven, WalkRecordTakes, WalkRecordAll.
-/
import Derived.Test.YthnkiabhfcddaaaDoorRecAll
import Derived.Test.YthnkiabhfcddaaaDoorRecFmt
import Derived.Test.YthnkiabhfcddaaaDoorRefShow7
import Derived.Test.YthnkiabhfcddaaaDoorPackO
import Derived.Deep.RegionHeld3
import Derived.Deep.Cut
import Derived.Test.YthnkiabhfcddaaaDoorPackG
/-
  Package record's contracts: May, Put, Take, All, Show.
-/
namespace Go.Proofs.YthnkiabhfcddaaaDoor
open Go.RowKit
set_option linter.unusedVariables false

theorem Pows.over {W w : World} (hT : Pows W) (hW : Below W.heap.size W w) : Pows w := fun w' h => hT w' (bstep hW h)
/-- What the walks use of the first world: crc's table, record's, the library's. -/
structure TbR (W : World) : Prop where
  crc : Tabs W
  shap : Shaps W
  pow : Pows W
theorem TbR.over {W w : World} (hT : TbR W) (hW : Below W.heap.size W w) : TbR w := ⟨fun w' h => hT.crc w' (bstep hW h), hT.shap.over hW, hT.pow.over hW⟩
theorem cmay7_any (W : World) (hT : TbR W) (r : Rec) (w : World) (hW : Below W.heap.size W w) (hin : r.In) {x : Bool} (h : mayR r = x) :
    Calls Tryd.prog 11 #[.agg #[.int .u8 (r.kind : Int), .int .i64 r.src, .int .u64 (r.seq : Int), .int .i64 r.at_, .int .i64 r.num, .int .i64 r.code, .bool r.yes, .string (mkB r.text)]] w fun e w' => e = .returned (.bool x) ∧ Below w.heap.size w w' :=
  cmay7_of W hT.shap r w hW hin h
theorem cput7_new (W : World) (hT : TbR W) (r : Rec) (w : World) (hW : Below W.heap.size W w) (hin : r.In) {b : List UInt8} (h : putR r = b) :
    Calls Tryd.prog 13 #[.agg #[.int .u8 (r.kind : Int), .int .i64 r.src, .int .u64 (r.seq : Int), .int .i64 r.at_, .int .i64 r.num, .int .i64 r.code, .bool r.yes, .string (mkB r.text)]] w fun e w' => ∃ G z, e = .returned (.slice G b.length z) ∧ LiesIn w' (fun j => w.heap.size ≤ j ∧ j < w'.heap.size) (.slice G b.length z) b ∧ Below w.heap.size w w' :=
  cput7_of W hT.crc hT.shap r w hW hin h
theorem cput7_any (W : World) (hT : TbR W) (r : Rec) (w : World) (hW : Below W.heap.size W w) (hin : r.In) {b : List UInt8} (h : putR r = b) :
    Calls Tryd.prog 13 #[.agg #[.int .u8 (r.kind : Int), .int .i64 r.src, .int .u64 (r.seq : Int), .int .i64 r.at_, .int .i64 r.num, .int .i64 r.code, .bool r.yes, .string (mkB r.text)]] w fun e w' => ∃ G z, e = .returned (.slice G b.length z) ∧ LiesB w' w'.heap.size (.slice G b.length z) b ∧ Below w.heap.size w w' :=
  (cput7_new W hT r w hW hin h).mono fun e w' h => by
    obtain ⟨G, z, h1, h2, h3⟩ := h
    exact ⟨G, z, h1, h2.below fun j hj => hj.2, h3⟩
theorem cshow7_any (W : World) (hT : TbR W) (r : Rec) (w : World) (hW : Below W.heap.size W w) (hin : r.In) {b : List UInt8} (h : showR r = b) :
    Calls Tryd.prog 15 #[.agg #[.int .u8 (r.kind : Int), .int .i64 r.src, .int .u64 (r.seq : Int), .int .i64 r.at_, .int .i64 r.num, .int .i64 r.code, .bool r.yes, .string (mkB r.text)]] w fun e w' => e = .returned (.string (mkB b)) ∧ Below w.heap.size w w' :=
  cshow7_of W hT.shap hT.pow r w hW hin h
theorem ctake7_any (W : World) (hT : TbR W) (k : Nat) (v : Value) (b : List UInt8) (w : World) (hW : Below W.heap.size W w) (hb : LiesB w w.heap.size v b) (hl : b.length ≤ 100000) {r : Rec} {x : Int} (h : takeR k b = (r, x)) :
    Calls Tryd.prog 17 #[.int .u8 (k : Int), v] w fun e w' => e = .returned (.tuple #[.agg #[.int .u8 (r.kind : Int), .int .i64 r.src, .int .u64 (r.seq : Int), .int .i64 r.at_, .int .i64 r.num, .int .i64 r.code, .bool r.yes, .string (mkB r.text)], .int .i64 x]) ∧ Below w.heap.size w w' :=
  ctake7_of W hT.shap k v b w hW hb hl h
theorem call7_any (W : World) (hT : TbR W) (v : Value) (b : List UInt8) (w : World) (hW : Below W.heap.size W w) (hb : LiesB w w.heap.size v b) (hl : b.length ≤ 100000) {rs : List Rec} {x : Int} (h : allR (allI b) [] = (rs, x)) :
    Calls Tryd.prog 19 #[v] w (AllDid7 rs x w) := by
  obtain ⟨A, c, rfl, _⟩ := liesB_row hb
  exact call_core W hT.crc hT.shap A c b w hW hb hl h
end Go.Proofs.YthnkiabhfcddaaaDoor
/-
  Contract of layer 7's law's 'awake'.
-/
namespace Go.Proofs.YthnkiabhfcddaaaDoor
open Go.RowKit
set_option linter.unusedVariables false

def exF : Rec := ⟨30, 0, 0, 7, 0, 0, true, []⟩
def exJ : Rec := ⟨20, 1, 2, 3, 0, 42, false, []⟩
theorem exF_may : mayR exF = true := by decide
theorem exF_in : exF.In := by unfold Rec.In exF; dsimp only; omega
theorem exJ_in : exJ.In := by unfold Rec.In exJ; dsimp only; omega
theorem dec_42 : Lib.decDigits 42 = [52, 50] := by rw [Lib.decDigits, dif_neg (by decide), Lib.decDigits_one (by decide)]; rfl
theorem exF_show : showR exF = [102, 105, 110, 97, 108, 32, 55, 32, 121, 101, 115] := by
  unfold showR
  rw [exF_may, if_pos rfl]
  show wordR 30 ++ (orderR 30).flatMap _ = _
  rw [order_30]
  simp [wordR, tokR, numR, exF, Lib.decDigits_one]
theorem exJ_show : showR exJ = [114, 101, 106, 101, 99, 116, 101, 100, 32, 49, 32, 50, 32, 51, 32, 52, 50] := by
  unfold showR
  rw [show mayR exJ = true by decide, if_pos rfl]
  show wordR 20 ++ (orderR 20).flatMap _ = _
  rw [order_20]
  simp [wordR, tokR, numR, exJ, Lib.decDigits_one, dec_42]
theorem exF_all : allR (allI (putR exF)) [] = ([exF], 0) := by
  have h := all_frsR [exF] (by simp [exF_in])
  simpa [exF_may] using h
theorem exF_cells {w : World} {b o : Nat} (h : RecAt w b o exF) : w.cell? ⟨b, o, none⟩ = some (.int .u8 30) ∧ w.cell? ⟨b, o + 1, none⟩ = some (.int .i64 0) ∧ w.cell? ⟨b, o + 2, none⟩ = some (.int .u64 0) ∧ w.cell? ⟨b, o + 3, none⟩ = some (.int .i64 7) ∧ w.cell? ⟨b, o + 4, none⟩ = some (.int .i64 0) ∧ w.cell? ⟨b, o + 5, none⟩ = some (.int .i64 0) ∧ w.cell? ⟨b, o + 6, none⟩ = some (.bool true) ∧ w.cell? ⟨b, o + 7, none⟩ = some (.string ⟨#[]⟩) := ⟨h.c0, h.c1, h.c2, h.c3, h.c4, h.c5, h.c6, h.c7⟩
/-- What the last test reads. -/
abbrev AwS7 (W : World) (g p op : Nat) (w' : World) : Prop :=
  w'.cell? ⟨g, 0, none⟩ = some (.int .u8 30) ∧ w'.cell? ⟨g, 1, none⟩ = some (.int .i64 0) ∧ w'.cell? ⟨g, 2, none⟩ = some (.int .u64 0) ∧ w'.cell? ⟨g, 3, none⟩ = some (.int .i64 7) ∧ w'.cell? ⟨g, 4, none⟩ = some (.int .i64 0) ∧ w'.cell? ⟨g, 5, none⟩ = some (.int .i64 0) ∧ w'.cell? ⟨g, 6, none⟩ = some (.bool true) ∧ w'.cell? ⟨g, 7, none⟩ = some (.string ⟨#[]⟩) ∧ w'.cell? ⟨p, op, none⟩ = some (.int .u8 30) ∧ w'.cell? ⟨p, op + 1, none⟩ = some (.int .i64 0) ∧ w'.cell? ⟨p, op + 2, none⟩ = some (.int .u64 0) ∧ w'.cell? ⟨p, op + 3, none⟩ = some (.int .i64 7) ∧ w'.cell? ⟨p, op + 4, none⟩ = some (.int .i64 0) ∧ w'.cell? ⟨p, op + 5, none⟩ = some (.int .i64 0) ∧ w'.cell? ⟨p, op + 6, none⟩ = some (.bool true) ∧ w'.cell? ⟨p, op + 7, none⟩ = some (.string ⟨#[]⟩) ∧ Hid (g < w'.heap.size ∧ p < w'.heap.size ∧ Below W.heap.size W w')
section
variable {W w1 w2 : World} {g p op : Nat}
theorem awS7_of (hg : RecAt w1 g 0 exF) (hp : RecAt w1 p op exF) (k : g < w1.heap.size ∧ p < w1.heap.size ∧ Below W.heap.size W w1) : AwS7 W g p op w1 := by
  obtain ⟨g0, g1, g2, g3, g4, g5, g6, g7⟩ := hg
  obtain ⟨h0, h1, h2, h3, h4, h5, h6, h7⟩ := hp
  exact ⟨g0, g1, g2, g3, g4, g5, g6, g7, h0, h1, h2, h3, h4, h5, h6, h7, Lib.hid k⟩
theorem awS7_hid (k : AwS7 W g p op w1) : g < w1.heap.size ∧ p < w1.heap.size ∧ Below W.heap.size W w1 := k.2.2.2.2.2.2.2.2.2.2.2.2.2.2.2.2.out
theorem awS7_over (k : AwS7 W g p op w1) (hb : Below w1.heap.size w1 w2) : AwS7 W g p op w2 := by
  obtain ⟨k1, k2, k3⟩ := awS7_hid k
  obtain ⟨g0, g1, g2, g3, g4, g5, g6, g7, h0, h1, h2, h3, h4, h5, h6, h7, _⟩ := k
  exact awS7_of (RecAt.over ⟨g0, g1, g2, g3, g4, g5, g6, g7⟩ k1 hb) (RecAt.over ⟨h0, h1, h2, h3, h4, h5, h6, h7⟩ k2 hb) ⟨Nat.lt_of_lt_of_le k1 hb.size, Nat.lt_of_lt_of_le k2 hb.size, bstep k3 hb⟩
theorem awS7_drew (k : AwS7 W g p op w1) : AwS7 W g p op w1.drew := awS7_over k (bself w1).drew
end
set_option maxRecDepth 100000 in
set_option maxHeartbeats 4000000 in
theorem awake7_any (W : World) (hT : TbR W) : Calls Tryd.prog 9 #[] W fun e w' => e = .returned (.bool true) ∧ Below W.heap.size W w' := by
  obtain ⟨pb, hpb⟩ : ∃ pb, putR exF = pb := ⟨_, rfl⟩
  have hal := exF_all
  rw [hpb] at hal
  have hpl : pb.length ≤ 100000 := by
    have := body_len exF_may exF_in
    rw [← hpb]; unfold putR; rw [exF_may, if_pos rfl, putF_length]; omega
  have HM : Hid (∀ w, Below W.heap.size W w → Calls Tryd.prog 11 #[.agg #[.int .u8 30, .int .i64 0, .int .u64 0, .int .i64 7, .int .i64 0, .int .i64 0, .bool true, .string ⟨#[]⟩]] w fun e w' => e = .returned (.bool true) ∧ Below w.heap.size w w') := Lib.hid fun w hW => cmay7_any W hT exF w hW exF_in exF_may
  have HP : Hid (∀ w, Below W.heap.size W w → Calls Tryd.prog 13 #[.agg #[.int .u8 30, .int .i64 0, .int .u64 0, .int .i64 7, .int .i64 0, .int .i64 0, .bool true, .string ⟨#[]⟩]] w fun e w' => ∃ G z, e = .returned (.slice G pb.length z) ∧ LiesB w' w'.heap.size (.slice G pb.length z) pb ∧ Below w.heap.size w w') := Lib.hid fun w hW => cput7_any W hT exF w hW exF_in hpb
  have HS : Hid (∀ w, Below W.heap.size W w → Calls Tryd.prog 15 #[.agg #[.int .u8 30, .int .i64 0, .int .u64 0, .int .i64 7, .int .i64 0, .int .i64 0, .bool true, .string ⟨#[]⟩]] w fun e w' => e = .returned (.string ⟨#[102, 105, 110, 97, 108, 32, 55, 32, 121, 101, 115]⟩) ∧ Below w.heap.size w w') := Lib.hid fun w hW => cshow7_any W hT exF w hW exF_in exF_show
  have HSJ : Hid (∀ w, Below W.heap.size W w → Calls Tryd.prog 15 #[.agg #[.int .u8 20, .int .i64 1, .int .u64 2, .int .i64 3, .int .i64 0, .int .i64 42, .bool false, .string ⟨#[]⟩]] w fun e w' => e = .returned (.string ⟨#[114, 101, 106, 101, 99, 116, 101, 100, 32, 49, 32, 50, 32, 51, 32, 52, 50]⟩) ∧ Below w.heap.size w w') := Lib.hid fun w hW => cshow7_any W hT exJ w hW exJ_in exJ_show
  have HAL : Hid (∀ v w, Below W.heap.size W w → LiesB w w.heap.size v pb → Calls Tryd.prog 19 #[v] w fun e w' => ∃ A c, e = .returned (.tuple #[.slice A 1 c, .int .i64 0]) ∧ SeqR w' w'.heap.size (.slice A 1 c) [exF] ∧ Below w.heap.size w w') := Lib.hid fun v w hW hb => call7_any W hT v pb w hW hb hpl hal
  have HTK : Hid (∀ w, Below W.heap.size W w → Calls Tryd.prog 17 #[.int .u8 16, .slice none 0 0] w fun e w' => e = .returned (.tuple #[.agg #[.int .u8 0, .int .i64 0, .int .u64 0, .int .i64 0, .int .i64 0, .int .i64 0, .bool false, .string ⟨#[]⟩], .int .i64 1]) ∧ Below w.heap.size w w') := Lib.hid fun w hW => ctake7_any W hT 16 _ [] w hW (.inl ⟨rfl, none, 0, rfl, fun _ => rfl⟩) (by simp) (show takeR 16 [] = (noRec, 1) by unfold takeR; rw [if_pos (by omega)])
  have heq : ∀ w, (binOp .eql 24 (.agg #[.int .u8 30, .int .i64 0, .int .u64 0, .int .i64 7, .int .i64 0, .int .i64 0, .bool true, .string ⟨#[]⟩]) (.agg #[.int .u8 30, .int .i64 0, .int .u64 0, .int .i64 7, .int .i64 0, .int .i64 0, .bool true, .string ⟨#[]⟩])).run Tryd.prog w = .ok (.bool true) w := fun w => (run_eq_r7 w exF exF).trans (by rw [decide_eq_true rfl])
  have HG0 : Hid (RecAt (W.alloc (recB exF 24)) W.heap.size 0 exF ∧ W.heap.size < (W.alloc (recB exF 24)).heap.size ∧ Below W.heap.size W (W.alloc (recB exF 24))) := Lib.hid ⟨recAt_blk (heap_alloc_new W _), by simp, bmore (bself W) _⟩
  clear hpb hal hpl hT
  go_enter Tryd.func9, Tryd.ntmps9
  go_upto_region 2 with (fail)
  generalize hE : W.alloc (Obj.cells #[Value.int IntKind.u8 30, Value.int IntKind.i64 0, Value.int IntKind.u64 0, Value.int IntKind.i64 7, Value.int IntKind.i64 0, Value.int IntKind.i64 0, Value.bool true, Value.string ⟨#[]⟩] 24) = w0
  have HG1 : Hid (RecAt w0 W.heap.size 0 exF ∧ W.heap.size < w0.heap.size ∧ Below W.heap.size W w0) := Lib.hid (by rw [← hE]; exact HG0.out)
  clear hE HG0
  obtain ⟨g, hg⟩ : ∃ g, g = W.heap.size := ⟨_, rfl⟩
  have HG2 : Hid (RecAt w0 g 0 exF ∧ g < w0.heap.size ∧ Below W.heap.size W w0) := Lib.hid (by rw [hg]; exact HG1.out)
  rw [← hg]
  clear hg HG1
  obtain ⟨m0, m1, m2, m3, m4, m5, m6, m7⟩ := exF_cells HG2.out.1
  go_upto_region 4 with (first
    | (go_at_call 13; (with_reducible refine (HP.out _ HG2.out.2.2).mono ?_); rintro e w1 ⟨G1, z1, rfl, hl, hb⟩; have HL := Lib.hid hl; have HG3 := Lib.hid (And.intro (HG2.out.1.over HG2.out.2.1 hb) (And.intro (Nat.lt_of_lt_of_le HG2.out.2.1 hb.size) (bstep HG2.out.2.2 hb))); clear hb hl m0 m1 m2 m3 m4 m5 m6 m7)
    | (go_at_call 19; (with_reducible refine (HAL.out _ _ HG3.out.2.2 HL.out).mono ?_); rintro e w2 ⟨A2, c2, rfl, hs, hb⟩; have HSQ := Lib.hid hs; have HG4 := Lib.hid (And.intro (HG3.out.1.over HG3.out.2.1 hb) (And.intro (Nat.lt_of_lt_of_le HG3.out.2.1 hb.size) (bstep HG3.out.2.2 hb))); clear hb hs)
    | (go_at_call 17; (with_reducible refine (HTK.out _ HG4.out.2.2).mono ?_); rintro e w3 ⟨rfl, hb⟩; have HSQ3 := Lib.hid (HSQ.out.over (Nat.le_refl _) hb); have HG5 := Lib.hid (And.intro (HG4.out.1.over HG4.out.2.1 hb) (And.intro (Nat.lt_of_lt_of_le HG4.out.2.1 hb.size) (bstep HG4.out.2.2 hb))); clear hb))
  have hb7 := bmore (bself w3) (.cells #[Value.int IntKind.u8 0, Value.int IntKind.i64 0, Value.int IntKind.u64 0, Value.int IntKind.i64 0, Value.int IntKind.i64 0, Value.int IntKind.i64 0, Value.bool false, Value.string { data := #[] }] 24)
  have HSQ4 := Lib.hid (HSQ3.out.over (Nat.le_refl _) hb7)
  have HG6 := Lib.hid (And.intro (HG5.out.1.over HG5.out.2.1 hb7) (And.intro (Nat.lt_of_lt_of_le HG5.out.2.1 hb7.size) (bstep HG5.out.2.2 hb7)))
  generalize w3.alloc (Obj.cells #[Value.int IntKind.u8 0, Value.int IntKind.i64 0, Value.int IntKind.u64 0, Value.int IntKind.i64 0, Value.int IntKind.i64 0, Value.int IntKind.i64 0, Value.bool false, Value.string { data := #[] }] 24) = w4 at HSQ4 HG6 ⊢
  clear hb7 HSQ3 HG5 HG4 HG3 HSQ HG2 HL
  obtain ⟨-, p, op, rfl, hp, hpr⟩ := SeqR.at_ HSQ4.out 0 (by decide)
  rw [show op + 0 * 8 = op by omega] at hpr
  have hS : AwS7 W g p op w4 := awS7_of HG6.out.1 hpr ⟨HG6.out.2.1, hp, HG6.out.2.2⟩
  clear hp hpr HSQ4 HG6
  unfold AwS7 at hS
  go_region_held3 (fun w' => w'.cell? ⟨g, 0, none⟩ = some (.int .u8 30) ∧ w'.cell? ⟨g, 1, none⟩ = some (.int .i64 0) ∧ w'.cell? ⟨g, 2, none⟩ = some (.int .u64 0) ∧ w'.cell? ⟨g, 3, none⟩ = some (.int .i64 7) ∧ w'.cell? ⟨g, 4, none⟩ = some (.int .i64 0) ∧ w'.cell? ⟨g, 5, none⟩ = some (.int .i64 0) ∧ w'.cell? ⟨g, 6, none⟩ = some (.bool true) ∧ w'.cell? ⟨g, 7, none⟩ = some (.string ⟨#[]⟩) ∧ w'.cell? ⟨p, op, none⟩ = some (.int .u8 30) ∧ w'.cell? ⟨p, op + 1, none⟩ = some (.int .i64 0) ∧ w'.cell? ⟨p, op + 2, none⟩ = some (.int .u64 0) ∧ w'.cell? ⟨p, op + 3, none⟩ = some (.int .i64 7) ∧ w'.cell? ⟨p, op + 4, none⟩ = some (.int .i64 0) ∧ w'.cell? ⟨p, op + 5, none⟩ = some (.int .i64 0) ∧ w'.cell? ⟨p, op + 6, none⟩ = some (.bool true) ∧ w'.cell? ⟨p, op + 7, none⟩ = some (.string ⟨#[]⟩) ∧ Hid (g < w'.heap.size ∧ p < w'.heap.size ∧ Below W.heap.size W w'))
    (first | (with_reducible assumption) | (with_reducible exact awS7_drew (by assumption)))
    (first
      | (go_at_call 11; ((with_reducible refine Calls.mono (HM.out _ ?_) ?_); (exact (awS7_hid (by assumption)).2.2); rintro e w5 ⟨rfl, hb⟩; have hs1 := awS7_over (by assumption) hb; clear hb))
      | (go_at_call 15; ((with_reducible refine Calls.mono (HS.out _ ?_) ?_); (exact (awS7_hid (by assumption)).2.2); rintro e w6 ⟨rfl, hb⟩; have hs2 := awS7_over (by assumption) hb; clear hb))
      | (go_at_call 15; ((with_reducible refine Calls.mono (HSJ.out _ ?_) ?_); (exact (awS7_hid (by assumption)).2.2); rintro e w7 ⟨rfl, hb⟩; have hs3 := awS7_over (by assumption) hb; clear hb)))
  have HZ := Lib.hid (awS7_hid hs3).2.2
  clear hs1 hs2 hs3
  go_wp2
  go_ret
  exact ⟨rfl, HZ.out⟩
end Go.Proofs.YthnkiabhfcddaaaDoor
/-
  The walk of the law RecordTakes.
-/
namespace Go.Proofs.YthnkiabhfcddaaaDoor
open Go.RowKit
set_option linter.unusedVariables false

/-- What a test of two boxed records reads. -/
abbrev TwinR (W : World) (g h : Nat) (a b : Rec) (w' : World) : Prop :=
  w'.cell? ⟨g, 0, none⟩ = some (.int .u8 (a.kind : Int)) ∧ w'.cell? ⟨g, 1, none⟩ = some (.int .i64 a.src) ∧ w'.cell? ⟨g, 2, none⟩ = some (.int .u64 (a.seq : Int)) ∧ w'.cell? ⟨g, 3, none⟩ = some (.int .i64 a.at_) ∧ w'.cell? ⟨g, 4, none⟩ = some (.int .i64 a.num) ∧ w'.cell? ⟨g, 5, none⟩ = some (.int .i64 a.code) ∧ w'.cell? ⟨g, 6, none⟩ = some (.bool a.yes) ∧ w'.cell? ⟨g, 7, none⟩ = some (.string (mkB a.text)) ∧ w'.cell? ⟨h, 0, none⟩ = some (.int .u8 (b.kind : Int)) ∧ w'.cell? ⟨h, 1, none⟩ = some (.int .i64 b.src) ∧ w'.cell? ⟨h, 2, none⟩ = some (.int .u64 (b.seq : Int)) ∧ w'.cell? ⟨h, 3, none⟩ = some (.int .i64 b.at_) ∧ w'.cell? ⟨h, 4, none⟩ = some (.int .i64 b.num) ∧ w'.cell? ⟨h, 5, none⟩ = some (.int .i64 b.code) ∧ w'.cell? ⟨h, 6, none⟩ = some (.bool b.yes) ∧ w'.cell? ⟨h, 7, none⟩ = some (.string (mkB b.text)) ∧ Hid (g < w'.heap.size ∧ h < w'.heap.size ∧ Below W.heap.size W w')
section
variable {W w1 w2 : World} {g h : Nat} {a b : Rec}
theorem twinR_hid (k : TwinR W g h a b w1) : g < w1.heap.size ∧ h < w1.heap.size ∧ Below W.heap.size W w1 := k.2.2.2.2.2.2.2.2.2.2.2.2.2.2.2.2.out
theorem twinR_of (hg : RecAt w1 g 0 a) (hh : RecAt w1 h 0 b) (k : g < w1.heap.size ∧ h < w1.heap.size ∧ Below W.heap.size W w1) : TwinR W g h a b w1 := by
  obtain ⟨g0, g1, g2, g3, g4, g5, g6, g7⟩ := hg
  obtain ⟨h0, h1, h2, h3, h4, h5, h6, h7⟩ := hh
  exact ⟨g0, g1, g2, g3, g4, g5, g6, g7, h0, h1, h2, h3, h4, h5, h6, h7, Lib.hid k⟩
theorem twinR_at (k : TwinR W g h a b w1) : RecAt w1 g 0 a ∧ RecAt w1 h 0 b := by
  obtain ⟨g0, g1, g2, g3, g4, g5, g6, g7, h0, h1, h2, h3, h4, h5, h6, h7, _⟩ := k
  exact ⟨⟨g0, g1, g2, g3, g4, g5, g6, g7⟩, ⟨h0, h1, h2, h3, h4, h5, h6, h7⟩⟩
theorem twinR_over (k : TwinR W g h a b w1) (hb : Below w1.heap.size w1 w2) : TwinR W g h a b w2 := by
  obtain ⟨k1, k2, k3⟩ := twinR_hid k
  obtain ⟨q1, q2⟩ := twinR_at k
  exact twinR_of (q1.over k1 hb) (q2.over k2 hb) ⟨Nat.lt_of_lt_of_le k1 hb.size, Nat.lt_of_lt_of_le k2 hb.size, bstep k3 hb⟩
theorem twinR_drew (k : TwinR W g h a b w1) : TwinR W g h a b w1.drew := twinR_over k (bself w1).drew
end
theorem conv_of7 {w : World} {G : Option Addr} {n z : Nat} {b : List UInt8} (hn : b.length = n) (h : LiesB w w.heap.size (.slice G n z) b) : (convert 30 9 (.slice G n z)).run Tryd.prog w = .ok (.string (mkB b)) w := by
  subst hn
  obtain ⟨A', c', e, h0, h1, h2⟩ := liesB_row h
  simp only [Value.slice.injEq] at e
  obtain ⟨rfl, _, rfl⟩ := e
  exact run_str_any z h0
set_option maxRecDepth 100000 in
set_option maxHeartbeats 2000000 in
theorem recordTakes_any (k : Nat) (A : Option Addr) (n c : Nat) (b : List UInt8) (W : World) (hT : TbR W) (hk : k < 256) (hb : LiesB W W.heap.size (.slice A n c) b) (hn : b.length = n) :
    Calls Tryd.prog 4 #[.int .u8 (k : Int), .slice A n c] W fun e w' => e = .returned (.bool true) ∧ Below W.heap.size W w' := by
  have HA := Lib.hid (awake7_any W hT)
  have HB := Lib.hid hb
  have HN := Lib.hid hn
  clear hb
  by_cases h6 : n ≤ 600
  · have q6 : ¬ (600 : Int) < (n : Int) := by omega
    rcases hr : takeR k b with ⟨r, x⟩
    have HM := Lib.hid (fun w (hW : Below W.heap.size W w) (h : LiesB w w.heap.size (.slice A n c) b) => ctake7_any W hT k _ b w hW h (by omega) hr)
    have HR := Lib.hid (fun w => rtake7_any k b w (by omega) hr)
    have heq : ∀ w, (binOp .eql 26 (.agg #[.int .u8 (r.kind : Int), .int .i64 r.src, .int .u64 (r.seq : Int), .int .i64 r.at_, .int .i64 r.num, .int .i64 r.code, .bool r.yes, .string (mkB r.text)]) (.agg #[.int .u8 (r.kind : Int), .int .i64 r.src, .int .u64 (r.seq : Int), .int .i64 r.at_, .int .i64 r.num, .int .i64 r.code, .bool r.yes, .string (mkB r.text)])).run Tryd.prog w = .ok (.bool true) w := fun w => by rw [run_eq_x7]; simp
    clear hr h6 hk hn hT
    go_enter Tryd.func4, Tryd.ntmps4
    go_upto_region 7 with (first
      | (go_at_call 9; (with_reducible refine HA.out.mono ?_); rintro e w1 ⟨rfl, hb⟩; have HB1 := Lib.hid hb; clear hb)
      | (go_at_call 17; (with_reducible refine (HM.out _ HB1.out (HB.out.over (Nat.le_refl _) HB1.out)).mono ?_); rintro e w2 ⟨rfl, hb⟩; have HB2 := Lib.hid (bstep HB1.out hb); clear hb))
    have hb3 := bmore (bself w2) (recB r 24)
    have HB3 := Lib.hid (bstep HB2.out hb3)
    have HG3 : Hid (RecAt (w2.alloc (recB r 24)) w2.heap.size 0 r ∧ w2.heap.size < (w2.alloc (recB r 24)).heap.size) := Lib.hid ⟨recAt_blk (heap_alloc_new w2 _), by simp⟩
    unfold recB at HB3 HG3
    obtain ⟨g, hg⟩ : ∃ g, g = w2.heap.size := ⟨_, rfl⟩
    rw [← hg] at HG3 ⊢
    generalize w2.alloc (Obj.cells #[Value.int IntKind.u8 (r.kind : Int), Value.int IntKind.i64 r.src, Value.int IntKind.u64 (r.seq : Int), Value.int IntKind.i64 r.at_, Value.int IntKind.i64 r.num, Value.int IntKind.i64 r.code, Value.bool r.yes, Value.string (mkB r.text)] 24) = w3 at HB3 HG3 ⊢
    clear hg hb3 HB2
    have hc := conv_of7 HN.out (HB.out.over (Nat.le_refl _) HB3.out)
    go_upto_region 8 with (go_at_call 18; (with_reducible refine (HR.out _).mono ?_); rintro e w4 ⟨rfl, hb⟩; have HB4 := Lib.hid (bstep HB3.out hb); have HG4 := Lib.hid (And.intro (HG3.out.1.over HG3.out.2 hb) (Nat.lt_of_lt_of_le HG3.out.2 hb.size)); clear hb hc)
    have hS : TwinR W g w4.heap.size r r (w4.alloc (recB r 26)) := twinR_of (HG4.out.1.over HG4.out.2 (bmore (bself w4) _)) (recAt_blk (heap_alloc_new w4 _)) ⟨Nat.lt_of_lt_of_le HG4.out.2 (bmore (bself w4) _).size, by simp, bstep HB4.out (bmore (bself w4) _)⟩
    obtain ⟨h, hh⟩ : ∃ h, h = w4.heap.size := ⟨_, rfl⟩
    rw [← hh] at hS ⊢
    unfold TwinR recB at hS
    generalize w4.alloc (Obj.cells #[Value.int IntKind.u8 (r.kind : Int), Value.int IntKind.i64 r.src, Value.int IntKind.u64 (r.seq : Int), Value.int IntKind.i64 r.at_, Value.int IntKind.i64 r.num, Value.int IntKind.i64 r.code, Value.bool r.yes, Value.string (mkB r.text)] 26) = w5 at hS ⊢
    clear hh HG3 HB3 HG4 HB4
    go_region_held3 (fun w' => w'.cell? ⟨g, 0, none⟩ = some (.int .u8 (r.kind : Int)) ∧ w'.cell? ⟨g, 1, none⟩ = some (.int .i64 r.src) ∧ w'.cell? ⟨g, 2, none⟩ = some (.int .u64 (r.seq : Int)) ∧ w'.cell? ⟨g, 3, none⟩ = some (.int .i64 r.at_) ∧ w'.cell? ⟨g, 4, none⟩ = some (.int .i64 r.num) ∧ w'.cell? ⟨g, 5, none⟩ = some (.int .i64 r.code) ∧ w'.cell? ⟨g, 6, none⟩ = some (.bool r.yes) ∧ w'.cell? ⟨g, 7, none⟩ = some (.string (mkB r.text)) ∧ w'.cell? ⟨h, 0, none⟩ = some (.int .u8 (r.kind : Int)) ∧ w'.cell? ⟨h, 1, none⟩ = some (.int .i64 r.src) ∧ w'.cell? ⟨h, 2, none⟩ = some (.int .u64 (r.seq : Int)) ∧ w'.cell? ⟨h, 3, none⟩ = some (.int .i64 r.at_) ∧ w'.cell? ⟨h, 4, none⟩ = some (.int .i64 r.num) ∧ w'.cell? ⟨h, 5, none⟩ = some (.int .i64 r.code) ∧ w'.cell? ⟨h, 6, none⟩ = some (.bool r.yes) ∧ w'.cell? ⟨h, 7, none⟩ = some (.string (mkB r.text)) ∧ Hid (g < w'.heap.size ∧ h < w'.heap.size ∧ Below W.heap.size W w'))
      (first | (with_reducible assumption) | (with_reducible exact twinR_drew (by assumption)))
      (first
        | (go_at_call 10; ((with_reducible refine Calls.mono (plain7_any r _) ?_); rintro e w6 ⟨rfl, hb⟩; have hs1 := twinR_over (by assumption) hb; clear hb)))
    have HZ := Lib.hid (twinR_hid hs1).2.2
    clear hs1
    go_wp2
    go_ret
    exact ⟨rfl, HZ.out⟩
  · have q6 : (600 : Int) < (n : Int) := by omega
    go_enter Tryd.func4, Tryd.ntmps4
    go_wp2_with (go_at_call 9; (with_reducible refine HA.out.mono ?_); rintro e w1 ⟨rfl, hb⟩; have HB1 := Lib.hid hb; clear hb)
    go_ret
    exact ⟨rfl, HB1.out⟩
theorem recordTakes_row (t : UInt8) (A : Option Addr) (c : Nat) (l : List UInt8) (W : World) (hT : TbR W) (hb : LiesB W W.heap.size (.slice A l.length c) l) :
    Calls Tryd.prog 4 #[.int .u8 (t.toNat : Int), .slice A l.length c] W fun e w' => e = .returned (.bool true) ∧ Below W.heap.size W w' := recordTakes_any t.toNat A _ c l W hT t.toNat_lt hb rfl
end Go.Proofs.YthnkiabhfcddaaaDoor
/-
  The walk of the law RecordAll.
-/
namespace Go.Proofs.YthnkiabhfcddaaaDoor
open Go.RowKit
set_option linter.unusedVariables false

theorem allR_len : ∀ (l : List It) (acc : List Rec), (allR l acc).1.length ≤ acc.length + l.length
  | [], acc => by simp [allR]
  | x :: l, acc => by
    rw [allR]
    split
    · exact Nat.zero_le _
    · split
      · have := allR_len l (acc ++ [(takeR x.kind.toNat x.body).1])
        rw [List.length_append] at this
        simp only [List.length_cons, List.length_nil] at this ⊢
        omega
      · exact Nat.zero_le _
theorem all_len7 (b : List UInt8) : (allR (allI b) []).1.length ≤ b.length := by
  have h1 := allR_len (allI b) []
  have h2 := all_len b
  simp only [List.length_nil] at h1
  omega
/-- What a round reads: two records of two slices. -/
abbrev TwinO (W : World) (p op q oq : Nat) (r : Rec) (w' : World) : Prop :=
  w'.cell? ⟨p, op, none⟩ = some (.int .u8 (r.kind : Int)) ∧ w'.cell? ⟨p, op + 1, none⟩ = some (.int .i64 r.src) ∧ w'.cell? ⟨p, op + 2, none⟩ = some (.int .u64 (r.seq : Int)) ∧ w'.cell? ⟨p, op + 3, none⟩ = some (.int .i64 r.at_) ∧ w'.cell? ⟨p, op + 4, none⟩ = some (.int .i64 r.num) ∧ w'.cell? ⟨p, op + 5, none⟩ = some (.int .i64 r.code) ∧ w'.cell? ⟨p, op + 6, none⟩ = some (.bool r.yes) ∧ w'.cell? ⟨p, op + 7, none⟩ = some (.string (mkB r.text)) ∧ w'.cell? ⟨q, oq, none⟩ = some (.int .u8 (r.kind : Int)) ∧ w'.cell? ⟨q, oq + 1, none⟩ = some (.int .i64 r.src) ∧ w'.cell? ⟨q, oq + 2, none⟩ = some (.int .u64 (r.seq : Int)) ∧ w'.cell? ⟨q, oq + 3, none⟩ = some (.int .i64 r.at_) ∧ w'.cell? ⟨q, oq + 4, none⟩ = some (.int .i64 r.num) ∧ w'.cell? ⟨q, oq + 5, none⟩ = some (.int .i64 r.code) ∧ w'.cell? ⟨q, oq + 6, none⟩ = some (.bool r.yes) ∧ w'.cell? ⟨q, oq + 7, none⟩ = some (.string (mkB r.text)) ∧ Hid (p < w'.heap.size ∧ q < w'.heap.size ∧ Below W.heap.size W w')
section
variable {W w1 w2 : World} {p op q oq : Nat} {r : Rec}
theorem twinO_of (hp : RecAt w1 p op r) (hq : RecAt w1 q oq r) (k : p < w1.heap.size ∧ q < w1.heap.size ∧ Below W.heap.size W w1) : TwinO W p op q oq r w1 := by
  obtain ⟨g0, g1, g2, g3, g4, g5, g6, g7⟩ := hp
  obtain ⟨h0, h1, h2, h3, h4, h5, h6, h7⟩ := hq
  exact ⟨g0, g1, g2, g3, g4, g5, g6, g7, h0, h1, h2, h3, h4, h5, h6, h7, Lib.hid k⟩
theorem twinO_hid (k : TwinO W p op q oq r w1) : p < w1.heap.size ∧ q < w1.heap.size ∧ Below W.heap.size W w1 := k.2.2.2.2.2.2.2.2.2.2.2.2.2.2.2.2.out
theorem twinO_over (k : TwinO W p op q oq r w1) (hb : Below w1.heap.size w1 w2) : TwinO W p op q oq r w2 := by
  obtain ⟨k1, k2, k3⟩ := twinO_hid k
  obtain ⟨g0, g1, g2, g3, g4, g5, g6, g7, h0, h1, h2, h3, h4, h5, h6, h7, _⟩ := k
  exact twinO_of (RecAt.over ⟨g0, g1, g2, g3, g4, g5, g6, g7⟩ k1 hb) (RecAt.over ⟨h0, h1, h2, h3, h4, h5, h6, h7⟩ k2 hb) ⟨Nat.lt_of_lt_of_le k1 hb.size, Nat.lt_of_lt_of_le k2 hb.size, bstep k3 hb⟩
theorem twinO_drew (k : TwinO W p op q oq r w1) : TwinO W p op q oq r w1.drew := twinO_over k (bself w1).drew
end
theorem run_neq_x7 (w : World) (a : Rec) : (binOp .neq 26 (.agg #[.int .u8 (a.kind : Int), .int .i64 a.src, .int .u64 (a.seq : Int), .int .i64 a.at_, .int .i64 a.num, .int .i64 a.code, .bool a.yes, .string (mkB a.text)]) (.agg #[.int .u8 (a.kind : Int), .int .i64 a.src, .int .u64 (a.seq : Int), .int .i64 a.at_, .int .i64 a.num, .int .i64 a.code, .bool a.yes, .string (mkB a.text)])).run Tryd.prog w = .ok (.bool false) w := by
  have h := run_eq_x7 w a a
  rw [run_eql_struct] at h
  rw [run_neq_struct]
  revert h
  cases (Op.equalIn 10000 26 (.agg #[.int .u8 (a.kind : Int), .int .i64 a.src, .int .u64 (a.seq : Int), .int .i64 a.at_, .int .i64 a.num, .int .i64 a.code, .bool a.yes, .string (mkB a.text)]) (.agg #[.int .u8 (a.kind : Int), .int .i64 a.src, .int .u64 (a.seq : Int), .int .i64 a.at_, .int .i64 a.num, .int .i64 a.code, .bool a.yes, .string (mkB a.text)])).run Tryd.prog w with
  | ok v w2 =>
    intro h
    simp only [Result.andThen_ok, Result.ok.injEq, Value.bool.injEq, decide_true] at h ⊢
    obtain ⟨rfl, rfl⟩ := h
    exact ⟨rfl, rfl⟩
  | _ => intro h; cases h
set_option maxRecDepth 100000 in
set_option maxHeartbeats 4000000 in
theorem recordAll_any (A : Option Addr) (n c : Nat) (b : List UInt8) (W : World) (hT : TbR W) (hb : LiesB W W.heap.size (.slice A n c) b) (hn : b.length = n) :
    Calls Tryd.prog 5 #[.slice A n c] W fun e w' => e = .returned (.bool true) ∧ Below W.heap.size W w' := by
  have HA := Lib.hid (awake7_any W hT)
  have HB := Lib.hid hb
  have HN := Lib.hid hn
  by_cases h6 : n ≤ 1500
  · have q6 : ¬ (1500 : Int) < (n : Int) := by omega
    rcases hr : allR (allI b) [] with ⟨rs, x⟩
    have hlen : rs.length ≤ 1500 := by have := all_len7 b; rw [hr] at this; dsimp only at this; omega
    have HM := Lib.hid (fun w (hW : Below W.heap.size W w) (h : LiesB w w.heap.size (.slice A n c) b) => call7_any W hT _ b w hW h (by omega) hr)
    have HR := Lib.hid (fun w => rall7_any b w (by omega) hr)
    clear hr h6 hn hT hb
    go_enter Tryd.func5, Tryd.ntmps5
    go_upto_region 7 with (first
      | (go_at_call 9; (with_reducible refine HA.out.mono ?_); rintro e w1 ⟨rfl, hb⟩; have HB1 := Lib.hid hb; clear hb)
      | (go_at_call 19; (with_reducible refine (HM.out _ HB1.out (HB.out.over (Nat.le_refl _) HB1.out)).mono ?_); rintro e w2 ⟨A2, c2, rfl, hs, hb⟩; have HS2 := Lib.hid hs; have HB2 := Lib.hid (bstep HB1.out hb); clear hb hs))
    have hc := conv_of7 HN.out (HB.out.over (Nat.le_refl _) HB2.out)
    go_upto_region 8 with (go_at_call 20; (with_reducible refine (HR.out _).mono ?_); rintro e w3 ⟨A3, c3, rfl, hs, hb⟩; have HS3 := Lib.hid (And.intro (HS2.out.over (Nat.le_refl _) hb) hs); have HB3 := Lib.hid (bstep HB2.out hb); clear hb hs hc)
    obtain ⟨m, hm⟩ : ∃ m, rs.length = m := ⟨_, rfl⟩
    rw [hm] at HS3 hlen ⊢
    have HME := Lib.hid hm
    have hm9 : (m : Int) ≤ 1500 := by omega
    clear hm HS2 HB1 HB2
    go_wp2
    go_loopw [8] (fun i wr => ∃ (j : Nat), j ≤ m ∧ i = .int .i64 j ∧ Hid (SeqR wr wr.heap.size (.slice A2 m c2) rs ∧ SeqR wr wr.heap.size (.slice A3 m c3) rs ∧ Below W.heap.size W wr)) (fun i _ => m - (intOf i).toNat)
    case atStart => exact ⟨0, Nat.zero_le _, rfl, Lib.hid ⟨HS3.out.1, HS3.out.2, HB3.out⟩⟩
    case round =>
      obtain ⟨j, hj, rfl, HP⟩ := hrel
      by_cases hlt : j < m
      · have hlt2 : (j : Int) < (m : Int) := by omega
        have hjl : j < rs.length := by have := HME.out; omega
        obtain ⟨-, p, op, rfl, hp, hpr⟩ := SeqR.at_ HP.out.1 j hjl
        obtain ⟨-, q, oq, rfl, hq, hqr⟩ := SeqR.at_ HP.out.2.1 j hjl
        have hS : TwinO W p (op + j * 8) q (oq + j * 8) rs[j] wr := twinO_of hpr hqr ⟨hp, hq, HP.out.2.2⟩
        clear hpr hqr hp hq
        generalize rs[j] = r at hS
        have heq : ∀ w, (binOp .neq 26 (.agg #[.int .u8 (r.kind : Int), .int .i64 r.src, .int .u64 (r.seq : Int), .int .i64 r.at_, .int .i64 r.num, .int .i64 r.code, .bool r.yes, .string (mkB r.text)]) (.agg #[.int .u8 (r.kind : Int), .int .i64 r.src, .int .u64 (r.seq : Int), .int .i64 r.at_, .int .i64 r.num, .int .i64 r.code, .bool r.yes, .string (mkB r.text)])).run Tryd.prog w = .ok (.bool false) w := fun w => run_neq_x7 w r
        unfold TwinO at hS
        clear hjl
        go_upto_region 13 with (fail)
        go_region_held3 (fun w' => w'.cell? ⟨p, op + j * 8, none⟩ = some (.int .u8 (r.kind : Int)) ∧ w'.cell? ⟨p, op + j * 8 + 1, none⟩ = some (.int .i64 r.src) ∧ w'.cell? ⟨p, op + j * 8 + 2, none⟩ = some (.int .u64 (r.seq : Int)) ∧ w'.cell? ⟨p, op + j * 8 + 3, none⟩ = some (.int .i64 r.at_) ∧ w'.cell? ⟨p, op + j * 8 + 4, none⟩ = some (.int .i64 r.num) ∧ w'.cell? ⟨p, op + j * 8 + 5, none⟩ = some (.int .i64 r.code) ∧ w'.cell? ⟨p, op + j * 8 + 6, none⟩ = some (.bool r.yes) ∧ w'.cell? ⟨p, op + j * 8 + 7, none⟩ = some (.string (mkB r.text)) ∧ w'.cell? ⟨q, oq + j * 8, none⟩ = some (.int .u8 (r.kind : Int)) ∧ w'.cell? ⟨q, oq + j * 8 + 1, none⟩ = some (.int .i64 r.src) ∧ w'.cell? ⟨q, oq + j * 8 + 2, none⟩ = some (.int .u64 (r.seq : Int)) ∧ w'.cell? ⟨q, oq + j * 8 + 3, none⟩ = some (.int .i64 r.at_) ∧ w'.cell? ⟨q, oq + j * 8 + 4, none⟩ = some (.int .i64 r.num) ∧ w'.cell? ⟨q, oq + j * 8 + 5, none⟩ = some (.int .i64 r.code) ∧ w'.cell? ⟨q, oq + j * 8 + 6, none⟩ = some (.bool r.yes) ∧ w'.cell? ⟨q, oq + j * 8 + 7, none⟩ = some (.string (mkB r.text)) ∧ Hid (p < w'.heap.size ∧ q < w'.heap.size ∧ Below W.heap.size W w'))
          (first | (with_reducible assumption) | (with_reducible exact twinO_drew (by assumption)))
          (first
            | (go_at_call 10; ((with_reducible refine Calls.mono (plain7_any r _) ?_); rintro e w6 ⟨rfl, hb⟩; have hs1 := twinO_over (by assumption) hb; have HP6 := Lib.hid (show Below wr.heap.size wr w6 from bstep (bself wr).drew hb); clear hb)))
        have HB6 := Lib.hid (twinO_hid hs1).2.2
        have HP7 := Lib.hid (And.intro (HP.out.1.over (Nat.le_refl _) HP6.out) (And.intro (HP.out.2.1.over (Nat.le_refl _) HP6.out) HB6.out))
        clear hs1 hS HP
        go_wp2
        go_roundw
        case rel => exact ⟨j + 1, by omega, by go_num, HP7⟩
        case measure => simp [intOf]; omega
      · have hlt2 : ¬ (j : Int) < (m : Int) := by omega
        go_wp2
        go_ret
        exact ⟨rfl, HP.out.2.2⟩
  · have q6 : (1500 : Int) < (n : Int) := by omega
    go_enter Tryd.func5, Tryd.ntmps5
    go_wp2_with (go_at_call 9; (with_reducible refine HA.out.mono ?_); rintro e w1 ⟨rfl, hb⟩; have HB1 := Lib.hid hb; clear hb)
    go_ret
    exact ⟨rfl, HB1.out⟩
theorem recordAll_row (A : Option Addr) (c : Nat) (l : List UInt8) (W : World) (hT : TbR W) (hb : LiesB W W.heap.size (.slice A l.length c) l) :
    Calls Tryd.prog 5 #[.slice A l.length c] W fun e w' => e = .returned (.bool true) ∧ Below W.heap.size W w' := recordAll_any A _ c l W hT hb rfl
end Go.Proofs.YthnkiabhfcddaaaDoor
