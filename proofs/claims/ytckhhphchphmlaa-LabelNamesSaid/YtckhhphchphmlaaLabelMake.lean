/-
  Package label's contracts of Of and Union.
-/
import Derived.Test.YtckhhphchphmlaaLabelMergeW
import Derived.Test.YtckhhphchphmlaaSeqApp
import Derived.Lib.LazyBuf
namespace Go.Proofs.Ytckhhphchphmlaa
open Go.RowKit
set_option linter.unusedVariables false

theorem own_none (w : World) (base : Nat) (hb : base ≤ w.heap.size) : OwnsP (w.alloc (.cells #[] 38)) base (.slice (some ⟨w.heap.size, 0, none⟩) 0 0) [] :=
  ⟨rfl, .inr ⟨w.heap.size, 0, #[], rfl, hb, heap_alloc_new w _, Nat.le_refl _, Nat.zero_le _, rfl, rfl⟩⟩
set_option maxRecDepth 100000 in
theorem clonep_any (A : Option Addr) (n c : Nat) (l : List Pr) (w : World) (hl : Props w w.heap.size (.slice A n c) l) (hm : l.length ≤ 100000) :
    Calls Try.prog 24 #[.slice A n c] w (GaveS w l) := by
  obtain ⟨hn, hc⟩ := hl.len
  have HL := Lib.hid hl
  have HM := Lib.hid hm
  have HN := Lib.hid hn
  cases A with
  | none =>
    have h0 : l = [] := by
      cases l with
      | nil => rfl
      | cons x l => obtain ⟨b, off, e⟩ := hl.some_ (by simp); cases e
    have HE := Lib.hid h0
    have h2 : n = 0 ∧ c = 0 := by
      subst h0
      rcases hl.2 with ⟨_, A', c', e, hA⟩ | ⟨b, off, c', e, _⟩
      · simp only [Value.slice.injEq] at e
        obtain ⟨rfl, e2, rfl⟩ := e
        exact ⟨e2, hA rfl⟩
      · simp only [Value.slice.injEq] at e; cases e.1
    obtain ⟨rfl, rfl⟩ := h2
    have hq := Go.run_eql_slice_nil (P := Try.prog) w 24 38 none 0 0 Try.underlying24
    clear hl hm hn h0
    go_enter Try.func24, Try.ntmps24
    go_wp2
    go_ret
    exact ⟨none, 0, 0, rfl, by rw [HE.out]; exact Seq.nil_ _ _ _, bself _⟩
  | some ad =>
    have hq := Go.run_eql_slice_nil (P := Try.prog) w 24 38 (some ad) n c Try.underlying24
    clear hl hm hn
    go_enter Try.func24, Try.ntmps24
    go_wp2_with (at_builtin; refine wp_app_seqA rfl (.tmp 5) (.tmp 6) 24 38 _ 2 24 Try.underlying24 info_P rfl (by omega) rfl w.heap.size _ (.slice (some ad) n c) 0 _ [] _ rfl rfl (own_none w _ (Nat.le_refl _)) (HL.out.keep (bmore (bself w) _).block) (prC_one _) (by have := HM.out; simp at this ⊢; omega) (by simp) ?_; intro v9 w9 hg; obtain ⟨A9, n9, c9, rfl⟩ := own_slice hg.1; have HG := Lib.hid hg; clear hg)
    go_ret
    have hg := HG.out
    refine ⟨A9, n9, c9, rfl, ?_, ((Below.refl _ _).alloc (Nat.le_refl _) _).trans hg.2.2.2⟩
    have h1 := hg.1
    rw [Nat.zero_add, List.nil_append] at h1
    exact Seq.own h1
theorem lmerge_at (A0 : Option Addr) (n0 c0 : Nat) (a : List Pr) (A : Option Addr) (n c : Nat) (b : List Pr) (w : World) (ha : Seq w w.heap.size 2 (.slice A0 n0 c0) (ofL a).length (prC (ofL a))) (hb : Seq w w.heap.size 2 (.slice A n c) (ofL b).length (prC (ofL b))) (hm : a.length + b.length ≤ 200000) :
    Calls Try.prog 26 #[.slice A0 n0 c0, .slice A n c, .func (.func 27) #[] #[]] w (GaveS w (unionL a b)) :=
  lmerge_any A0 n0 c0 (ofL a) A n c (ofL b) w ha hb (by have := of_len a; have := of_len b; omega) (merge_of a b)
/-- Of keeps its contract at lists of so many. -/
def OfOk (k : Nat) : Prop := ∀ (A : Option Addr) (n c : Nat) (l : List Pr) (w : World), Props w w.heap.size (.slice A n c) l → l.length ≤ k → Calls Try.prog 14 #[.slice A n c] w (GaveS w (ofL l))
theorem OfOk.at_ {k : Nat} (H : OfOk k) (A : Option Addr) (n c : Nat) (l : List Pr) (w : World) (h : Props w w.heap.size (.slice A n c) l) (hk : l.length ≤ k) : Calls Try.prog 14 #[.slice A n c] w (GaveS w (ofL l)) := H A n c l w h hk
set_option maxRecDepth 100000 in
theorem union_ok (k : Nat) (hk : k ≤ 100000) (H : OfOk k) (A0 : Option Addr) (n0 c0 : Nat) (a : List Pr) (A : Option Addr) (n c : Nat) (b : List Pr) (w : World) (ha : Props w w.heap.size (.slice A0 n0 c0) a) (hb : Props w w.heap.size (.slice A n c) b) (hm : a.length ≤ k ∧ b.length ≤ k) :
    Calls Try.prog 16 #[.slice A0 n0 c0, .slice A n c] w (GaveS w (unionL a b)) := by
  have HH := Lib.hid H
  have HA := Lib.hid ha
  have HB := Lib.hid hb
  have HM := Lib.hid (And.intro hk hm)
  clear H ha hb hm hk
  go_enter Try.func16, Try.ntmps16
  go_wp2_with (first
    | (go_at_call 14; (with_reducible refine Calls.mono (HH.out.at_ A0 _ _ a _ HA.out HM.out.2.1) ?_); rintro e w1 ⟨A1, n1, c1, rfl, hs, hb⟩; have H1 := Lib.hid (And.intro hs hb); clear hs hb)
    | (go_at_call 14; (with_reducible refine Calls.mono (HH.out.at_ A _ _ b _ (HB.out.over (Nat.le_refl _) H1.out.2) HM.out.2.2) ?_); rintro e w2 ⟨A2, n2, c2, rfl, hs, hb⟩; have H2 := Lib.hid (And.intro hs hb); clear hs hb)
    | (go_at_call 26; (with_reducible refine Calls.mono (lmerge_at A1 _ _ a A2 _ _ b _ (H1.out.1.over (Nat.le_refl _) H2.out.2) H2.out.1 (by have := HM.out; omega)) ?_); rintro e w3 ⟨A3, n3, c3, rfl, hs, hb⟩; have H3 := Lib.hid (And.intro hs hb); clear hs hb))
  go_ret
  exact ⟨A3, n3, c3, rfl, H3.out.1, bstep (bstep H1.out.2 H2.out.2) H3.out.2⟩
theorem Props.halves {w : World} {bb off n c k half : Nat} {l : List Pr} (h : Props w w.heap.size (.slice (some ⟨bb, off, none⟩) n c) l) (hm : n = l.length ∧ n ≤ c ∧ 2 ≤ l.length ∧ l.length ≤ k + 1) (hh : half = n / 2) :
    Props w.drew w.drew.heap.size (.slice (some ⟨bb, off, none⟩) half c) (l.take half) ∧ Props w.drew w.drew.heap.size (.slice (some ⟨bb, off + half * 2, none⟩) (n - half) (c - half)) (l.drop half) ∧ (l.take half).length ≤ k ∧ (l.drop half).length ≤ k := by
  obtain ⟨h1, h2, h3, h4⟩ := hm
  have e1 : (l.take half).length = half := by rw [List.length_take]; omega
  have e2 : (l.drop half).length = n - half := by rw [List.length_drop]; omega
  rcases h.2 with ⟨h0, _⟩ | ⟨b', off', c', e, hn', hb, hc⟩
  · omega
  simp only [Value.slice.injEq, Option.some.injEq, Addr.mk.injEq] at e
  obtain ⟨⟨rfl, rfl, _⟩, _, rfl⟩ := e
  have ec : prC l = prC (l.take half) ++ prC (l.drop half) := by rw [← prC_append, List.take_append_drop]
  rw [ec] at hc
  refine ⟨⟨prC_length _, .inr ⟨bb, off, c, by rw [e1], by omega, hb, fun i u hu => hc i u ?_⟩⟩, ⟨prC_length _, .inr ⟨bb, off + half * 2, c - half, by rw [e2], by omega, hb, fun i u hu => ?_⟩⟩, by omega, by omega⟩
  · rw [List.getElem?_append_left ((List.getElem?_eq_some_iff.1 hu).1)]; exact hu
  · have e3 : (prC (l.take half)).length = half * 2 := by rw [prC_length, e1]
    rw [Nat.add_assoc]
    refine hc (half * 2 + i) u ?_
    rw [List.getElem?_append_right (by omega), e3, Nat.add_sub_cancel_left]
    exact hu
set_option maxRecDepth 100000 in
theorem of_less (A : Option Addr) (n c : Nat) (l : List Pr) (w : World) (hl : Props w w.heap.size (.slice A n c) l) (hm : l.length < 2) :
    Calls Try.prog 14 #[.slice A n c] w (GaveS w (ofL l)) := by
  obtain ⟨hn, hnc⟩ := hl.len
  have HL := Lib.hid hl
  have HE := Lib.hid (of_one l hm)
  have HM := Lib.hid (show l.length ≤ 100000 by omega)
  have hlt : (n : Int) < 2 := by omega
  clear hl hm hn
  go_enter Try.func14, Try.ntmps14
  go_wp2_with (go_at_call 24; (with_reducible refine Calls.mono (clonep_any _ _ _ l _ HL.out HM.out) ?_); rintro e w1 ⟨A1, n1, c1, rfl, hs, hb⟩; have H1 := Lib.hid (And.intro hs hb); clear hs hb)
  go_ret
  exact ⟨A1, n1, c1, rfl, by rw [HE.out]; exact H1.out.1, H1.out.2⟩
theorem hidden_drew {w w1 : World} (h : Hid (Below w.heap.size w w1)) : Hid (Below w.heap.size w w1.drew) := Lib.hid h.out.drew
set_option maxRecDepth 100000 in
theorem of_more (k : Nat) (hk : k ≤ 100000) (H : OfOk k) (A : Option Addr) (n c : Nat) (l : List Pr) (w : World) (hl : Props w w.heap.size (.slice A n c) l) (hm : l.length ≤ k + 1) (h2 : 2 ≤ l.length) :
    Calls Try.prog 14 #[.slice A n c] w (GaveS w (ofL l)) := by
  obtain ⟨hn, hnc⟩ := hl.len
  obtain ⟨bb, off, rfl⟩ := hl.some_ (by omega)
  have HU := Lib.hid (union_ok k hk H)
  have HL := Lib.hid hl
  have HM := Lib.hid (And.intro hn (And.intro hnc (And.intro h2 hm)))
  have hlt : ¬ (n : Int) < 2 := by omega
  have hn9 : (n : Int) ≤ 100001 := by omega
  obtain ⟨half, hh⟩ : ∃ half, half = n / 2 := ⟨_, rfl⟩
  have hq : (n : Int) / 2 = (half : Int) := by omega
  have hb1 : (half : Int) ≤ (n : Int) := by omega
  have hb2 : (n : Int) ≤ (c : Int) := by omega
  have hb3 : (0 : Int) ≤ (half : Int) := by omega
  have hb4 : (half : Int) ≤ (c : Int) := by omega
  have hb5 : ¬ c = half := by omega
  have hb6 : ¬ c - half = 0 := by omega
  have HHF := Lib.hid hh
  clear hl hm hn H hh
  go_enter Try.func14, Try.ntmps14
  go_wp2
  have hS : Hid (Below w.heap.size w w) := Lib.hid (bself w)
  go_region_held3 (fun w' => Hid (Below w.heap.size w w'))
    (first | assumption | exact hidden_drew (by assumption))
    (first | (go_at_call 16; ((with_reducible refine Calls.mono (HU.out _ _ _ (l.take half) _ _ _ (l.drop half) w.drew (HL.out.halves HM.out HHF.out).1 (HL.out.halves HM.out HHF.out).2.1 (HL.out.halves HM.out HHF.out).2.2) ?_); rintro e w5 ⟨A5, n5, c5, rfl, h5, hb5⟩; have H5 := Lib.hid (And.intro h5 hb5); have hs1 := Lib.hid (bstep (bself w).drew hb5))))
  clear HHF
  go_wp2
  go_ret
  exact ⟨A5, n5, c5, rfl, by rw [← of_halves l half]; exact H5.out.1, bstep (bself w).drew H5.out.2⟩
theorem of_ok : ∀ k, k ≤ 100000 → OfOk k
  | k, hk => fun A n c l w hl hm => by
    by_cases h2 : 2 ≤ l.length
    · cases k with
      | zero => omega
      | succ k => exact of_more k (by omega) (of_ok k (by omega)) A n c l w hl hm h2
    · exact of_less A n c l w hl (by omega)
end Go.Proofs.Ytckhhphchphmlaa
