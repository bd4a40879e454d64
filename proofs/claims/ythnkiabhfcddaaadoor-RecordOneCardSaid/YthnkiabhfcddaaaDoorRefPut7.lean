/-
  Contract of layer 7's reference: Put.
-/
import Derived.Test.YthnkiabhfcddaaaDoorRefBody
import Derived.Test.YthnkiabhfcddaaaDoorPackH
import Derived.Test.YthnkiabhfcddaaaDoorRefPutF
namespace Go.Proofs.YthnkiabhfcddaaaDoor
open Go.RowKit
set_option linter.unusedVariables false

/-- What reads a record's box. -/
abbrev BoxS (W : World) (g k : Nat) (s : Int) (q : Nat) (a n c : Int) (y : Bool) (t : List UInt8) (w' : World) : Prop :=
  w'.cell? ⟨g, 0, none⟩ = some (.int .u8 (k : Int)) ∧ w'.cell? ⟨g, 1, none⟩ = some (.int .i64 s) ∧ w'.cell? ⟨g, 2, none⟩ = some (.int .u64 (q : Int)) ∧ w'.cell? ⟨g, 3, none⟩ = some (.int .i64 a) ∧ w'.cell? ⟨g, 4, none⟩ = some (.int .i64 n) ∧ w'.cell? ⟨g, 5, none⟩ = some (.int .i64 c) ∧ w'.cell? ⟨g, 6, none⟩ = some (.bool y) ∧ w'.cell? ⟨g, 7, none⟩ = some (.string (mkB t)) ∧ Hid (g < w'.heap.size ∧ Below W.heap.size W w')
section
variable {W w1 w2 : World} {g k : Nat} {s : Int} {q : Nat} {a n c : Int} {y : Bool} {t : List UInt8}
theorem boxS_over (h : BoxS W g k s q a n c y t w1) (hb : Below w1.heap.size w1 w2) : BoxS W g k s q a n c y t w2 := by
  obtain ⟨h0, h1, h2, h3, h4, h5, h6, h7, h9⟩ := h
  have hg := h9.out.1
  exact ⟨(hb.cell (p := ⟨g, 0, none⟩) hg).trans h0, (hb.cell (p := ⟨g, 1, none⟩) hg).trans h1, (hb.cell (p := ⟨g, 2, none⟩) hg).trans h2, (hb.cell (p := ⟨g, 3, none⟩) hg).trans h3, (hb.cell (p := ⟨g, 4, none⟩) hg).trans h4, (hb.cell (p := ⟨g, 5, none⟩) hg).trans h5, (hb.cell (p := ⟨g, 6, none⟩) hg).trans h6, (hb.cell (p := ⟨g, 7, none⟩) hg).trans h7, Lib.hid ⟨Nat.lt_of_lt_of_le hg hb.size, bstep h9.out.2 hb⟩⟩
theorem boxS_drew (h : BoxS W g k s q a n c y t w1) : BoxS W g k s q a n c y t w1.drew := boxS_over h (bself w1).drew
theorem BoxS.hid (h : BoxS W g k s q a n c y t w1) : g < w1.heap.size ∧ Below W.heap.size W w1 := h.2.2.2.2.2.2.2.2.out
theorem boxS_new (W : World) (k : Nat) (s : Int) (q : Nat) (a n c : Int) (y : Bool) (t : List UInt8) (ty : TypeId) : BoxS W W.heap.size k s q a n c y t (W.alloc (.cells #[.int .u8 (k : Int), .int .i64 s, .int .u64 (q : Int), .int .i64 a, .int .i64 n, .int .i64 c, .bool y, .string (mkB t)] ty)) := by
  obtain ⟨m0, m1, m2, m3, m4, m5, m6, m7⟩ := recAt_blk (r := ⟨k, s, q, a, n, c, y, t⟩) (heap_alloc_new W (recB ⟨k, s, q, a, n, c, y, t⟩ ty))
  exact ⟨m0, m1, m2, m3, m4, m5, m6, m7, Lib.hid ⟨by simp, bmore (bself W) _⟩⟩
end
theorem rput4_at (k : Nat) (body : List UInt8) (w : World) (hk : k < 256) (hl : body.length ≤ 256) : Calls Tryd.prog 26 #[.int .u8 (k : Int), .string (mkB body)] w fun e w' => e = .returned (.string (mkB (putF (UInt8.ofNat k) body))) ∧ Below w.heap.size w w' := by
  have h := rput4_any (UInt8.ofNat k) body w (by omega)
  have e : (UInt8.ofNat k).toNat = k := by simp; omega
  rw [e] at h
  exact h
set_option maxRecDepth 100000 in
set_option maxHeartbeats 1000000 in
theorem rput7_any (k : Nat) (s : Int) (q : Nat) (a n c : Int) (y : Bool) (t : List UInt8) (w : World) (hin : Rec.In ⟨k, s, q, a, n, c, y, t⟩) {b : List UInt8} (hb : putR ⟨k, s, q, a, n, c, y, t⟩ = b) :
    Calls Tryd.prog 14 #[.agg #[.int .u8 (k : Int), .int .i64 s, .int .u64 (q : Int), .int .i64 a, .int .i64 n, .int .i64 c, .bool y, .string (mkB t)]] w fun e w' => e = .returned (.string (mkB b)) ∧ Below w.heap.size w w' := by
  obtain ⟨m0, m1, m2, m3, m4, m5, m6, m7, m8⟩ := boxS_new w k s q a n c y t 26
  have HS0 := Lib.hid (boxS_new w k s q a n c y t 26)
  cases hr : mayR ⟨k, s, q, a, n, c, y, t⟩ with
  | false =>
    have HM := Lib.hid (fun w => rmay7_any k s q a n c y t w hr)
    obtain rfl : [] = b := by rw [← hb]; unfold putR; rw [hr]; rfl
    clear hb hr hin m8
    go_enter Tryd.func14, Tryd.ntmps14
    go_wp2_with (go_at_call 12; (with_reducible refine (HM.out _).mono ?_); rintro e w1 ⟨rfl, hb⟩; have HB := Lib.hid (boxS_over HS0.out hb).hid.2; clear hb)
    go_ret
    exact ⟨rfl, HB.out⟩
  | true =>
    have HM := Lib.hid (fun w => rmay7_any k s q a n c y t w hr)
    have HBO := Lib.hid (fun w => rbody7_any k s q a n c y t w hin hr)
    have hlen := body_len hr hin
    obtain ⟨bd, hbd⟩ : ∃ bd, bodyR ⟨k, s, q, a, n, c, y, t⟩ = bd := ⟨_, rfl⟩
    rw [hbd] at HBO hlen
    have HP := Lib.hid (fun w => rput4_at k bd w hin.1 (by omega))
    have hb2 : putF (UInt8.ofNat k) bd = b := by rw [← hb, ← hbd]; unfold putR; rw [hr]; rfl
    rw [hb2] at HP
    clear hb hr hin m8 hlen hbd hb2
    go_enter Tryd.func14, Tryd.ntmps14
    go_wp2_with (go_at_call 12; (with_reducible refine (HM.out _).mono ?_); rintro e w1 ⟨rfl, hb⟩; have HS1 := Lib.hid (boxS_over HS0.out hb); clear hb)
    clear m0 m1 m2 m3 m4 m5 m6 m7 HS0
    obtain ⟨g, hg⟩ : ∃ g, g = w.heap.size := ⟨_, rfl⟩
    rw [← hg] at HS1 ⊢
    have hS := HS1.out
    clear hg HS1
    unfold BoxS at hS
    go_region_held3 (fun w' => w'.cell? ⟨g, 0, none⟩ = some (.int .u8 (k : Int)) ∧ w'.cell? ⟨g, 1, none⟩ = some (.int .i64 s) ∧ w'.cell? ⟨g, 2, none⟩ = some (.int .u64 (q : Int)) ∧ w'.cell? ⟨g, 3, none⟩ = some (.int .i64 a) ∧ w'.cell? ⟨g, 4, none⟩ = some (.int .i64 n) ∧ w'.cell? ⟨g, 5, none⟩ = some (.int .i64 c) ∧ w'.cell? ⟨g, 6, none⟩ = some (.bool y) ∧ w'.cell? ⟨g, 7, none⟩ = some (.string (mkB t)) ∧ Hid (g < w'.heap.size ∧ Below w.heap.size w w'))
      (first | assumption | (with_reducible exact boxS_drew (by assumption)))
      (first
        | (go_at_call 27; ((with_reducible refine Calls.mono (HBO.out _) ?_); rintro e w2 ⟨rfl, hb⟩; have hs1 := boxS_over (by assumption) hb; clear hb))
        | (go_at_call 26; ((with_reducible refine Calls.mono (HP.out _) ?_); rintro e w3 ⟨rfl, hb⟩; have hs2 := boxS_over (by assumption) hb; clear hb)))
    have HZ := Lib.hid (BoxS.hid hs2).2
    clear hs1 hs2
    go_wp2
    go_ret
    exact ⟨rfl, HZ.out⟩
end Go.Proofs.YthnkiabhfcddaaaDoor
