/-
  The walk of the law FrameSpoilt.
-/
import Derived.Test.YtpgainalimmecaaDoorAwakeFour
import Derived.Test.YtpgainalimmecaaDoorAllAny
import Derived.Laws.BitsAllLaws
namespace Go.Proofs.YtpgainalimmecaaDoor
open Go.RowKit
set_option linter.unusedVariables false

theorem fresh_set {w : World} {g o n c : Nat} {l : List UInt8} (hg : g < w.heap.size) (hc : ∀ i (h : i < l.length), w.cell? ⟨g, o + i, none⟩ = some (.int .u8 (l[i].toNat : Int)) ∧ w.frozen? ⟨g, o + i, none⟩ = false) (k : Nat) (hk : k < l.length) (y : UInt8) (hn : n = l.length) (hnc : n ≤ c) :
    LiesB (w.setCell ⟨g, o + k, none⟩ (.int .u8 (y.toNat : Int))) (w.setCell ⟨g, o + k, none⟩ (.int .u8 (y.toNat : Int))).heap.size (.slice (some ⟨g, o, none⟩) n c) (l.set k y) := by
  subst hn
  refine .inr ⟨g, o, c, by rw [List.length_set], by rw [List.length_set]; exact hnc, by rw [setCell_size]; exact hg, fun i hi => ?_⟩
  rw [List.length_set] at hi
  by_cases e : k = i
  · subst e
    rw [List.getElem_set_self]
    exact World.cell?_setCell_same w _ _ (hc k hk).1
  · rw [List.getElem_set_ne e, World.cell?_setCell_other w _ _ _ (by intro h; injection h with h1 h2; omega)]
    exact (hc i hi).1

set_option maxRecDepth 100000 in
set_option maxHeartbeats 4000000 in
theorem spoilt_core (kind : UInt8) (A : Option Addr) (c : Nat) (body : List UInt8) (p r k : Nat) (t : UInt8) (W : World) (hT : Tabs W) (hb : LiesB W W.heap.size (.slice A body.length c) body) (hl : body.length ≤ 256) (ht : t ≠ 0) (hp : p < 65536) (hr : p % (body.length + 4) = r) (hk : r = 0 ∧ k = 1 ∨ 0 < r ∧ k = 1 + r + 2) :
    Calls Tryd.prog 10 #[.agg #[.int .u8 (kind.toNat : Int), .slice A body.length c], .int .u16 (p : Int), .int .u8 (t.toNat : Int)] W fun e w' => e = .returned (.bool true) ∧ Below W.heap.size W w' := by
  have HT := Lib.hid hT
  have HBY := Lib.hid hb
  have hrl : r < body.length + 4 := by rw [← hr]; exact Nat.mod_lt _ (by omega)
  have HALL := all_spoilt kind body k t hl (by omega) ht
  have hkl : k < (putF kind body).length := by rw [putF_length]; omega
  obtain ⟨xb, hxb⟩ : ∃ xb, (putF kind body).getD k 0 = xb := ⟨_, rfl⟩
  obtain ⟨y, hy⟩ : ∃ y, xb ^^^ t = y := ⟨_, rfl⟩
  rw [hxb, hy] at HALL
  have HALLH := Lib.hid HALL
  have HXB := Lib.hid (show ∀ h : k < (putF kind body).length, (putF kind body)[k] = xb from fun h => by rw [← hxb]; simp [List.getD, h])
  have HY := Lib.hid hy
  have hW := bmore (bself W) (.cells #[.int .u8 (kind.toNat : Int), .slice A body.length c] 40)
  have HCA := Lib.hid (awake4_any (W.alloc (.cells #[.int .u8 (kind.toNat : Int), .slice A body.length c] 40)) (hT.over hW))
  obtain ⟨hm, hA⟩ : body.length ≤ c ∧ (A = none → c = 0) := by
    obtain ⟨A', c', e, _, h1, h2⟩ := liesB_row hb
    simp only [Value.slice.injEq] at e
    obtain ⟨rfl, _, rfl⟩ := e
    exact ⟨h1, h2⟩
  have HPL := Lib.hid (putF_length kind body)
  have HI := Lib.hid (And.intro (show r < body.length + 4 from hrl) (And.intro hr hk))
  have HM := Lib.hid (And.intro hm (And.intro hA hl))
  have HKL := Lib.hid hkl
  have ht0 : ((t.toNat : Int) == 0) = false := beq_eq_false_iff_ne.2 fun h => ht (UInt8.toNat_inj.1 (by show t.toNat = 0; omega))
  clear hT hb hl ht hr hk hrl hkl hm hA HALL hxb hy
  go_enter Tryd.func10, Tryd.ntmps10
  go_wp2_with fail
  refine HCA.out.mono ?_
  rintro e w1 ⟨rfl, hb1⟩
  have hbx := (one_block hb1).1
  have HB1 := Lib.hid (hW.trans (hb1.mono (by simp)))
  have s0 : w1.cell? ⟨W.heap.size, 0, none⟩ = some (.int .u8 (kind.toNat : Int)) := by rw [heap_cell hbx]; rfl
  have s1 : w1.cell? ⟨W.heap.size, 1, none⟩ = some (.slice A body.length c) := by rw [heap_cell hbx]; rfl
  have hby1 := HBY.out.over (Nat.le_refl _) HB1.out
  have HC1 := Lib.hid (fput_any W HT.out kind A c body w1 HB1.out (by
    obtain ⟨A', c', e, h0, _⟩ := liesB_row hby1
    simp only [Value.slice.injEq] at e
    obtain ⟨rfl, _, rfl⟩ := e
    exact h0) HM.out.1 HM.out.2.1 HM.out.2.2)
  clear hbx hb1 hW hby1 HCA
  go_wp2_with fail
  refine HC1.out.mono ?_
  rintro e w2 ⟨v, rfl, ⟨g, o2, c2, rfl, hc2, hg1, hg2, hcs⟩, hb2⟩
  have HB2 := Lib.hid (bstep HB1.out hb2)
  have HCS := Lib.hid hcs
  have HG := Lib.hid (And.intro hg1 (And.intro hg2 hc2))
  have hx := hcs k HKL.out
  obtain ⟨n, hn⟩ : ∃ n, (putF kind body).length = n := ⟨_, rfl⟩
  have HNN := Lib.hid (show n = body.length + 7 from hn.symm.trans HPL.out)
  have HNQ := Lib.hid hn
  rw [hn]
  rw [HXB.out] at hx
  have hxy : Go.bits .xor .u8 (xb.toNat : Int) (t.toNat : Int) = (y.toNat : Int) := by rw [u8_xor_nat _ _ xb.toNat_lt t.toNat_lt, ← HY.out, UInt8.toNat_xor]
  have HSET := Lib.hid (fresh_set (n := n) (c := c2) hg2 hcs k HKL.out y HNQ.out.symm (by rw [← HNQ.out]; exact hc2))
  obtain ⟨hx, hfz⟩ := hx
  have hn7 : decide ((n : Int) < 7) = false := decide_eq_false (by have := HNN.out; omega)
  have hn8 : (7 : Int) ≤ (n : Int) := by have := HNN.out; omega
  have hn0 : ((n : Int) == 0) = false := by rw [beq_eq_false_iff_ne]; omega
  have hkn : (k : Int) < (n : Int) := by have := HKL.out; have := HNQ.out; omega
  have hnb : (n : Int) ≤ 263 := by have := HNN.out; have := HM.out.2.2; omega
  have hrem : Int.tmod (p : Int) ((n : Int) - 3) = (r : Int) := by
    have h1 := HI.out.2.1
    have h2 : (n : Int) - 3 = ((body.length + 4 : Nat) : Int) := by have := HNN.out; omega
    rw [h2, Int.tmod_eq_emod_of_nonneg (by omega), ← h1]
    rfl
  have hrem2 : (p : Int) % ((n : Int) - 3) = (r : Int) := by rw [Int.tmod_eq_emod_of_nonneg (by omega)] at hrem; exact hrem
  clear hn hcs hb2 hg1 hg2 hc2 HC1
  obtain ⟨x0, l0, hL, hsk⟩ := HALLH.out
  have HB3 := Lib.hid (HB2.out.setCell (p := ⟨g, o2 + k, none⟩) (Nat.le_trans HB1.out.size HG.out.1) (.int .u8 (y.toNat : Int)))
  have hc3 := all_any W HT.out _ [(putF kind body).set k y] ((w2.setCell ⟨g, o2 + k, none⟩ (.int .u8 (y.toNat : Int))).alloc (.cells #[.slice (some ⟨g, o2, none⟩) n c2] 22)) (bmore HB3.out _) (blobs_one HSET.out _) (by have h := HPL.out; have h2 := HM.out.2.2; show ((putF kind body).set k y).length + 0 ≤ _; rw [List.length_set]; omega) (by simp)
  rw [List.flatten_singleton, hL, setCell_size] at hc3
  have HC3 := Lib.hid hc3
  have hsk2 : decide (0 < x0.skip) = true := decide_eq_true hsk
  have hsk3 : (0 : Int) < (x0.skip : Int) := by omega
  clear hc3 hL hsk HSET
  have hri := HI.out.2.2
  rcases hri with ⟨hr0, hk1⟩ | ⟨hr0, hk1⟩
  · subst hr0; subst hk1
    go_wp2_with (go_at_call 25; ((with_reducible refine HC3.out.mono ?_); rintro e w3 ⟨A3, c3, rfl, hs3, hc3, hb3⟩; have HB4 := Lib.hid (bstep (bmore HB3.out _) hb3); obtain ⟨b3, o3, c3', A9, m9, e3, _, z0, _⟩ := hs3.at_ 0 (by simp); simp only [Value.slice.injEq] at e3; obtain ⟨rfl, _, rfl⟩ := e3; have z0 : w3.cell? ⟨b3, o3, none⟩ = some (.int .i64 (x0.skip : Int)) := z0; clear hs3 hc3 hb3))
    go_ret
    exact ⟨rfl, HB4.out⟩
  · have hr1 : (0 : Int) < (r : Int) := by omega
    have hrb : (r : Int) ≤ 300 := by have := HI.out.1; have := HM.out.2.2; omega
    subst hk1
    clear hr0
    go_wp2_with (go_at_call 25; ((with_reducible refine HC3.out.mono ?_); rintro e w3 ⟨A3, c3, rfl, hs3, hc3, hb3⟩; have HB4 := Lib.hid (bstep (bmore HB3.out _) hb3); obtain ⟨b3, o3, c3', A9, m9, e3, _, z0, _⟩ := hs3.at_ 0 (by simp); simp only [Value.slice.injEq] at e3; obtain ⟨rfl, _, rfl⟩ := e3; have z0 : w3.cell? ⟨b3, o3, none⟩ = some (.int .i64 (x0.skip : Int)) := z0; clear hs3 hc3 hb3))
    go_ret
    exact ⟨rfl, HB4.out⟩

set_option maxRecDepth 100000 in
set_option maxHeartbeats 4000000 in
theorem spoilt_rest (kind : UInt8) (A : Option Addr) (c : Nat) (body : List UInt8) (p : Nat) (t : UInt8) (W : World) (hT : Tabs W) (hb : LiesB W W.heap.size (.slice A body.length c) body) (hp : p < 65536) (h : 256 < body.length ∨ body.length ≤ 256 ∧ t = 0) :
    Calls Tryd.prog 10 #[.agg #[.int .u8 (kind.toNat : Int), .slice A body.length c], .int .u16 (p : Int), .int .u8 (t.toNat : Int)] W fun e w' => e = .returned (.bool true) ∧ Below W.heap.size W w' := by
  have HT := Lib.hid hT
  have HBY := Lib.hid hb
  have hW := bmore (bself W) (.cells #[.int .u8 (kind.toNat : Int), .slice A body.length c] 40)
  have HCA := Lib.hid (awake4_any (W.alloc (.cells #[.int .u8 (kind.toNat : Int), .slice A body.length c] 40)) (hT.over hW))
  obtain ⟨hm, hA⟩ : body.length ≤ c ∧ (A = none → c = 0) := by
    obtain ⟨A', c', e, _, h1, h2⟩ := liesB_row hb
    simp only [Value.slice.injEq] at e
    obtain ⟨rfl, _, rfl⟩ := e
    exact ⟨h1, h2⟩
  have HPL := Lib.hid (putF_length kind body)
  have HM := Lib.hid (And.intro hm hA)
  have HH := Lib.hid h
  clear hT hb h hm hA
  go_enter Tryd.func10, Tryd.ntmps10
  go_wp2_with fail
  refine HCA.out.mono ?_
  rintro e w1 ⟨rfl, hb1⟩
  have hbx := (one_block hb1).1
  have HB1 := Lib.hid (hW.trans (hb1.mono (by simp)))
  have s0 : w1.cell? ⟨W.heap.size, 0, none⟩ = some (.int .u8 (kind.toNat : Int)) := by rw [heap_cell hbx]; rfl
  have s1 : w1.cell? ⟨W.heap.size, 1, none⟩ = some (.slice A body.length c) := by rw [heap_cell hbx]; rfl
  clear hbx hb1 hW HCA
  rcases HH.out with h | ⟨h, h0⟩
  · have HC1 := Lib.hid (fput_long kind A c body.length w1 h)
    clear h
    go_wp2_with fail
    refine HC1.out.mono ?_
    rintro e w2 ⟨B2, m2, rfl, hb2⟩
    have HB2 := Lib.hid (bstep HB1.out hb2)
    clear hb2
    go_wp2
    go_ret
    exact ⟨rfl, HB2.out⟩
  · have hby1 := HBY.out.over (Nat.le_refl _) HB1.out
    have HC1 := Lib.hid (fput_any W HT.out kind A c body w1 HB1.out (by
      obtain ⟨A', c', e, h0, _⟩ := liesB_row hby1
      simp only [Value.slice.injEq] at e
      obtain ⟨rfl, _, rfl⟩ := e
      exact h0) HM.out.1 HM.out.2 h)
    subst h0
    clear hby1
    go_wp2_with fail
    refine HC1.out.mono ?_
    rintro e w2 ⟨v, rfl, ⟨g, o2, c2, rfl, hc2, hg1, hg2, hcs⟩, hb2⟩
    have HB2 := Lib.hid (bstep HB1.out hb2)
    obtain ⟨n, hn⟩ : ∃ n, (putF kind body).length = n := ⟨_, rfl⟩
    rw [hn]
    have hnn : n = body.length + 7 := hn.symm.trans HPL.out
    have q1 : decide ((n : Int) < 7) = false := decide_eq_false (by omega)
    have q2 : ((n : Int) == 0) = false := by rw [beq_eq_false_iff_ne]; omega
    have q3 : ((n : Int) != 0) = true := by rw [bne_iff_ne]; omega
    clear hn hnn hcs hb2 hg1 hg2 hc2 HC1
    go_wp2
    go_ret
    exact ⟨rfl, HB2.out⟩
theorem frameSpoilt_any (kind : UInt8) (A : Option Addr) (c : Nat) (body : List UInt8) (p : Nat) (t : UInt8) (W : World) (hT : Tabs W) (hb : LiesB W W.heap.size (.slice A body.length c) body) (hp : p < 65536) :
    Calls Tryd.prog 10 #[.agg #[.int .u8 (kind.toNat : Int), .slice A body.length c], .int .u16 (p : Int), .int .u8 (t.toNat : Int)] W fun e w' => e = .returned (.bool true) ∧ Below W.heap.size W w' := by
  by_cases h1 : body.length ≤ 256
  · by_cases h2 : t = 0
    · exact spoilt_rest kind A c body p t W hT hb hp (.inr ⟨h1, h2⟩)
    · by_cases hr : p % (body.length + 4) = 0
      · exact spoilt_core kind A c body p 0 1 t W hT hb h1 h2 hp hr (.inl ⟨rfl, rfl⟩)
      · exact spoilt_core kind A c body p _ _ t W hT hb h1 h2 hp rfl (.inr ⟨by omega, rfl⟩)
  · exact spoilt_rest kind A c body p t W hT hb hp (.inl (by omega))
end Go.Proofs.YtpgainalimmecaaDoor
