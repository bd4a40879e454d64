/-
  Contract of layer 4's law's 'awake': a frame behind two bytes.
-/
import Derived.Test.YtpgainalimmecaaDoorAll
import Derived.Deep.Cut
namespace Go.Proofs.YtpgainalimmecaaDoor
open Go.RowKit
set_option linter.unusedVariables false

theorem Moved.far {w w' : World} {p : Value} {d : DS} {F F' : Nat → Prop} (h : Moved w p d F w' F') (k : Nat) (hk : k < w.heap.size) (hn : ¬ F k) : w'.heap[k]? = w.heap[k]? ∧ ¬ F' k ∧ k < w'.heap.size :=
  ⟨h.2.1.block k hk hn, fun f => (h.2.2 k f).elim hn (by omega), Nat.lt_of_lt_of_le hk h.2.1.size⟩
def w2S : DS := ⟨[], 2, [], false⟩
def w3S : DS := ⟨[], 0, [⟨2, 0, []⟩, ⟨0, 3, [7]⟩], false⟩
theorem give_two : giveS newS [1, 2] = w2S := by
  unfold giveS newS w2S
  have h := pass_noise false [] [1, 2] 0 (by decide)
  rw [List.append_nil, pass_nil] at h
  show (if false = true then _ else DS.mk (passF false ([] ++ [1, 2]) 0).1 (passF false ([] ++ [1, 2]) 0).2.1 ([] ++ (passF false ([] ++ [1, 2]) 0).2.2) false) = _
  rw [List.nil_append, h]
  rfl
theorem give_three : giveS w2S (putF 3 [7]) = w3S := by
  unfold giveS w2S w3S
  have h := pass_put false 3 [7] [] 2 (by decide)
  rw [List.append_nil, pass_nil] at h
  show (if false = true then _ else DS.mk (passF false ([] ++ putF 3 [7]) 2).1 (passF false ([] ++ putF 3 [7]) 2).2.1 ([] ++ (passF false ([] ++ putF 3 [7]) 2).2.2) false) = _
  rw [List.nil_append, h]
  rfl
theorem put_len37 : (putF 3 [7]).length = 8 := putF_length 3 [7]
theorem put_head (kind : UInt8) (body : List UInt8) (h : 0 < (putF kind body).length) : (putF kind body)[0] = 165 := rfl
/-- What awake's test reads. -/
def AwakeAt (WZ : World) (g o2 xg yg : Nat) (A7 : Option Addr) (c7 : Nat) (w' : World) : Prop :=
  w'.cell? ⟨g, o2, none⟩ = some (.int .u8 165) ∧ w'.cell? ⟨xg, 0, none⟩ = some (.int .i64 2) ∧ w'.cell? ⟨yg, 0, none⟩ = some (.int .i64 0) ∧ w'.cell? ⟨yg, 1, none⟩ = some (.int .u8 3) ∧ w'.cell? ⟨yg, 2, none⟩ = some (.slice A7 1 c7) ∧
  (convert 22 9 (.slice A7 1 c7)).run Tryd.prog w' = .ok (.string ⟨#[7]⟩) w'
theorem awake_at {WZ : World} {g o2 xg yg : Nat} {A7 : Option Addr} {c7 : Nat} {xc : List Value} {t1 t2 : TypeId} (hg : g < WZ.heap.size) (h0 : WZ.cell? ⟨g, o2, none⟩ = some (.int .u8 165)) (hx : WZ.heap[xg]? = some (.cells (.int .i64 2 :: xc).toArray t1 (0, 0))) (hy : WZ.heap[yg]? = some (.cells #[.int .i64 0, .int .u8 3, .slice A7 1 c7] t2 (0, 0))) (hr : Row WZ WZ.heap.size A7 (bc [7])) (w' : World) (hb : Below WZ.heap.size WZ w') : AwakeAt WZ g o2 xg yg A7 c7 w' := by
  have hx' : w'.heap[xg]? = _ := (hb.block xg (heap_lt hx)).trans hx
  have hy' : w'.heap[yg]? = _ := (hb.block yg (heap_lt hy)).trans hy
  refine ⟨(hb.cell (p := ⟨g, o2, none⟩) hg).trans h0, by rw [heap_cell hx']; simp, by rw [heap_cell hy']; rfl, by rw [heap_cell hy']; rfl, by rw [heap_cell hy']; rfl, ?_⟩
  exact run_str_any (l := [7]) c7 (hr.below_ hb)

set_option maxRecDepth 100000 in
set_option maxHeartbeats 2000000 in
theorem awake4_any (W : World) (hT : Tabs W) : Calls Tryd.prog 11 #[] W fun e w' => e = .returned (.bool true) ∧ Below W.heap.size W w' := by
  have HT := Lib.hid hT
  have HC0 := Lib.hid (fput_any W hT 3 (some ⟨W.heap.size, 0, none⟩) 1 [7] (W.alloc (.cells #[.int .u8 7] 5)) (bmore (bself W) _) (lit_row W (bc [7]) 5 _ rfl) (by decide) (fun h => by cases h) (by decide))
  clear hT
  go_enter Tryd.func11, Tryd.ntmps11
  go_wp2_with fail
  refine HC0.out.mono ?_
  rintro e w1 ⟨v, rfl, ⟨g, o2, c2, rfl, hc2, hg1, hg2, hcs⟩, hb1⟩
  have HG := Lib.hid (And.intro hg2 (hcs 0 (by rw [put_len37]; decide)).1)
  have HB1 := Lib.hid (bstep (bmore (bself W) _) hb1)
  have HRB : Hid (Row w1 w1.heap.size (some ⟨g, o2, none⟩) (bc (putF 3 [7]))) := Lib.hid (Lies.row hg2 fun i hi => (hcs i hi).1)
  have HLQ : Hid (LiesIn w1 (fun k => k < w1.heap.size) (.slice (some ⟨g, o2, none⟩) (putF 3 [7]).length c2) (putF 3 [7])) := Lib.hid (.inr ⟨g, o2, c2, rfl, hc2, hg2, fun i hi => (hcs i hi).1⟩)
  rw [put_len37]
  clear hcs hb1 hg1 hg2 hc2 HC0
  go_wp2_with fail
  refine (new_any w1).mono ?_
  rintro e w2 ⟨p, F, rfl, hd, hF, hb2⟩
  have HD2 := Lib.hid hd
  have HF2 := Lib.hid hF
  have HB2 := Lib.hid hb2
  clear hd hF hb2
  have hL1 : LiesIn (w2.alloc (.cells #[.int .u8 1, .int .u8 2] 5)) (fun k => k = w2.heap.size) (.slice (some ⟨w2.heap.size, 0, none⟩) [1, 2].length 2) [1, 2] := .inr ⟨w2.heap.size, 0, 2, rfl, by decide, rfl, fun i hi => by rw [Nat.zero_add, heap_cell (heap_alloc_new w2 _)]; match i, hi with | 0, _ => rfl | 1, _ => rfl⟩
  have HC1 := Lib.hid (give_any W HT.out p newS F (some ⟨w2.heap.size, 0, none⟩) 2 [1, 2] (w2.alloc (.cells #[.int .u8 1, .int .u8 2] 5)) (bmore (bstep HB1.out HB2.out) _) (fun k hk => Nat.le_trans HB1.out.size (HF2.out k hk)) (HD2.out.keep fun k hk => Below.heap_alloc _ _ _ (HD2.out.old k hk)) (fun k => k = w2.heap.size) hL1 (fun k hk => ⟨by subst hk; simp, fun f => by have := HD2.out.old k f; omega⟩) (by decide))
  rw [give_two] at HC1
  clear hL1
  go_wp2_with fail
  refine HC1.out.mono ?_
  rintro e w4 ⟨F1, rfl, hm⟩
  have hF4 : ∀ k, F1 k → w1.heap.size ≤ k := fun k hk => (hm.2.2 k hk).elim (HF2.out k) (fun q => Nat.le_trans (bmore HB2.out (.cells #[.int .u8 1, .int .u8 2] 5)).size q)
  have HF4 := Lib.hid hF4
  have HB4 := Lib.hid ((bmore HB2.out (.cells #[.int .u8 1, .int .u8 2] 5)).trans (hm.2.1.below HF2.out (bmore HB2.out _).size))
  have HD4 := Lib.hid hm.1
  clear hm hF4 HC1 HD2 HF2
  have HC2 := Lib.hid (give_any W HT.out p w2S F1 (some ⟨g, o2, none⟩) c2 (putF 3 [7]) w4 (bstep HB1.out HB4.out) (fun k hk => Nat.le_trans HB1.out.size (HF4.out k hk)) HD4.out (fun k => k < w1.heap.size) (HLQ.out.keep fun k hk => HB4.out.block k hk) (fun k hk => ⟨Nat.lt_of_lt_of_le hk HB4.out.size, fun f => Nat.lt_irrefl _ (Nat.lt_of_lt_of_le hk (HF4.out k f))⟩) (by rw [put_len37]; decide))
  rw [give_three, put_len37] at HC2
  go_wp2_with fail
  refine HC2.out.mono ?_
  rintro e w5 ⟨F2, rfl, hm⟩
  have hF5 : ∀ k, F2 k → w1.heap.size ≤ k := fun k hk => (hm.2.2 k hk).elim (HF4.out k) (fun q => Nat.le_trans HB4.out.size q)
  have HF5 := Lib.hid hF5
  have HB5 := Lib.hid (HB4.out.trans (hm.2.1.below HF4.out HB4.out.size))
  have HD5 := Lib.hid hm.1
  clear hm hF5 HC2 HD4
  have HC3 := Lib.hid (next_at p w3S ⟨[], 0, [⟨0, 3, [7]⟩], false⟩ ⟨2, 0, []⟩ true F2 w5 HD5.out rfl)
  go_wp2_with fail
  refine HC3.out.mono ?_
  rintro e w6 ⟨F3, D3, A6, c6, rfl, hm, hl, hD⟩
  have hF6 : ∀ k, F3 k → w1.heap.size ≤ k := fun k hk => (hm.2.2 k hk).elim (HF5.out k) (fun q => Nat.le_trans HB5.out.size q)
  have HF6 := Lib.hid hF6
  have HB6 := Lib.hid (HB5.out.trans (hm.2.1.below HF5.out HB5.out.size))
  have HD6 := Lib.hid hm.1
  clear hm hl hD hF6 HC3 HD5
  have HC4 := Lib.hid (next_at p ⟨[], 0, [⟨0, 3, [7]⟩], false⟩ ⟨[], 0, [], false⟩ ⟨0, 3, [7]⟩ true F3 (w6.alloc (.cells #[.int .i64 2, .int .u8 0, .slice A6 0 c6] 42)) (HD6.out.keep fun k hk => Below.heap_alloc _ _ _ (HD6.out.old k hk)) rfl)
  have HX0 : Hid ((w6.alloc (.cells #[.int .i64 2, .int .u8 0, .slice A6 0 c6] 42)).heap[w6.heap.size]? = some (.cells #[.int .i64 2, .int .u8 0, .slice A6 0 c6] 42 (0, 0)) ∧ ¬ F3 w6.heap.size) := Lib.hid ⟨heap_alloc_new w6 _, fun f => by have := HD6.out.old _ f; omega⟩
  have HB6b := Lib.hid (HB6.out.alloc HB6.out.size (.cells #[.int .i64 2, .int .u8 0, .slice A6 0 c6] 42))
  go_wp2_with fail
  refine HC4.out.mono ?_
  rintro e w7 ⟨F4, D4, A7, c7, rfl, hm, hl, hD⟩
  obtain ⟨x1, x2, x3⟩ := hm.far w6.heap.size (by simp) HX0.out.2
  have HX7 := Lib.hid (And.intro (x1.trans HX0.out.1) (And.intro x2 x3))
  have hF7 : ∀ k, F4 k → w1.heap.size ≤ k := fun k hk => (hm.2.2 k hk).elim (HF6.out k) (fun q => Nat.le_trans HB6b.out.size q)
  have HF7 := Lib.hid hF7
  have HB7 := Lib.hid (HB6b.out.trans (hm.2.1.below HF6.out HB6b.out.size))
  have HD7 := Lib.hid hm.1
  have HL7 := Lib.hid hl
  have HE7 := Lib.hid hD
  clear hm hl hD hF7 HC4 HD6 x1 x2 x3
  have HC5 := Lib.hid (next_at p ⟨[], 0, [], false⟩ ⟨[], 0, [], false⟩ ⟨0, 0, []⟩ false F4 (w7.alloc (.cells #[.int .i64 0, .int .u8 3, .slice A7 1 c7] 42)) (HD7.out.keep fun k hk => Below.heap_alloc _ _ _ (HD7.out.old k hk)) rfl)
  have HB7b := Lib.hid (HB7.out.alloc HB7.out.size (.cells #[.int .i64 0, .int .u8 3, .slice A7 1 c7] 42))
  go_wp2_with fail
  refine HC5.out.mono ?_
  rintro e w8 ⟨F5, D5, A8, c8, rfl, hm, hl, hD⟩
  obtain ⟨x1, _, x3⟩ := hm.far w6.heap.size (by have := HX7.out.2.2; simp; omega) HX7.out.2.1
  have HX8 := Lib.hid (And.intro ((x1.trans (Below.heap_alloc w7 _ _ HX7.out.2.2)).trans HX7.out.1) x3)
  obtain ⟨y1, _, y3⟩ := hm.far w7.heap.size (by simp) (fun f => by have := HD7.out.old _ f; omega)
  have HY8 := Lib.hid (And.intro (y1.trans (heap_alloc_new w7 _)) y3)
  have HL8 := Lib.hid (show LiesIn w8 D4 (.slice A7 1 c7) [7] from HL7.out.keep fun k hk => (hm.2.1.block k (by have := (HE7.out k hk).2.1; simp; omega) (HE7.out k hk).2.2).trans (Below.heap_alloc w7 _ _ (HE7.out k hk).2.1))
  have hE8 : ∀ k, D4 k → k < w8.heap.size := fun k hk => by have := (HE7.out k hk).2.1; have := hm.2.1.size; simp at this; omega
  have HE8 := Lib.hid hE8
  have hb8 := HB7b.out.trans (hm.2.1.below HF7.out HB7b.out.size)
  have HB8 := Lib.hid (hb8.alloc hb8.size (.cells #[.int .i64 0, .int .u8 0, .slice A8 0 c8] 42))
  have HD8 := Lib.hid (hm.1.keep (w' := w8.alloc (.cells #[.int .i64 0, .int .u8 0, .slice A8 0 c8] 42)) fun k hk => Below.heap_alloc _ _ _ (hm.1.old k hk))
  clear hm hl hD hE8 hb8 HC5 HD7 x1 x3 y1 y3
  have hall : ∀ w', Below (w8.alloc (.cells #[.int .i64 0, .int .u8 0, .slice A8 0 c8] 42)).heap.size (w8.alloc (.cells #[.int .i64 0, .int .u8 0, .slice A8 0 c8] 42)) w' → AwakeAt (w8.alloc (.cells #[.int .i64 0, .int .u8 0, .slice A8 0 c8] 42)) g o2 w6.heap.size w7.heap.size A7 c7 w' := by
    refine awake_at (xc := [.int .u8 0, .slice A6 0 c6]) (t1 := 42) (t2 := 42) (Nat.lt_of_lt_of_le HG.out.1 HB8.out.size) ((HB8.out.cell (p := ⟨g, o2, none⟩) HG.out.1).trans HG.out.2) ((Below.heap_alloc w8 _ _ HX8.out.2).trans HX8.out.1) ((Below.heap_alloc w8 _ _ HY8.out.2).trans HY8.out.1) ?_
    obtain ⟨A9, c9, e9, r9, _⟩ := liesB_row ((HL8.out.below HE8.out).over (Nat.le_refl _) (bmore (bself w8) (.cells #[.int .i64 0, .int .u8 0, .slice A8 0 c8] 42)))
    simp only [Value.slice.injEq] at e9
    obtain ⟨rfl, _, rfl⟩ := e9
    exact r9
  go_upto_region 8 with (fail)
  obtain ⟨s0, s1, s2, s3, s4, s5⟩ := hall _ (bself _)
  have HD9 := Lib.hid HD8.out
  have HB9 := Lib.hid (bstep HB1.out HB8.out)
  clear hall HD8 HL8 HE8 HX8 HY8 HX7 HX0 HL7 HE7 HB8
  generalize w8.alloc (.cells #[.int .i64 0, .int .u8 0, .slice A8 0 c8] 42) = wz at s0 s1 s2 s3 s4 s5 HD9 HB9 ⊢
  go_wp2_with (go_at_call 21; ((with_reducible refine (held_any p ⟨[], 0, [], false⟩ F5 wz HD9.out).mono ?_); rintro e w9 ⟨rfl, rfl⟩))
  go_ret
  exact ⟨rfl, HB9.out⟩
end Go.Proofs.YtpgainalimmecaaDoor
