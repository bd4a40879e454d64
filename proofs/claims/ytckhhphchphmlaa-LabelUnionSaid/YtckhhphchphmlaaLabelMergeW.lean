/-
  Package label's contract of merge.
-/
import Derived.Test.YtckhhphchphmlaaLabelMerge
import Derived.Laws.MakeOwn
import Derived.Deep.Cut
namespace Go.Proofs.Ytckhhphchphmlaa
open Go.RowKit
set_option linter.unusedVariables false

def lenV : Value → Nat
  | .slice _ n _ => n
  | _ => 0
/-- What a call leaves: new propositions, or those of memory that was there. -/
def GaveS (w : World) (q : List Pr) (e : Ending) (w' : World) : Prop := ∃ A n c, e = .returned (.slice A n c) ∧ Seq w' w'.heap.size 2 (.slice A n c) q.length (prC q) ∧ Below w.heap.size w w'
theorem Seq.len_ {w : World} {B z n m c : Nat} {A : Option Addr} {xs : List Value} (h : Seq w B z (.slice A m c) n xs) : m = n ∧ n ≤ c := by
  obtain ⟨A', c', e, hc, _⟩ := h.open_
  simp only [Value.slice.injEq] at e
  omega
/-- The first one of them, and the others. -/
theorem seq_cons {w : World} {B m c : Nat} {A : Option Addr} {x : Pr} {l : List Pr} (h : Seq w B 2 (.slice A m c) (x :: l).length (prC (x :: l))) :
    ∃ b off, A = some ⟨b, off, none⟩ ∧ m = l.length + 1 ∧ l.length + 1 ≤ c ∧ b < B ∧ w.cell? ⟨b, off, none⟩ = some (.string (mkB x.name)) ∧ w.cell? ⟨b, off + 1, none⟩ = some (.int .i64 x.val)
      ∧ Seq w B 2 (.slice (some ⟨b, off + 2, none⟩) l.length (c - 1)) l.length (prC l) := by
  rcases h.2 with ⟨_, h0⟩ | ⟨b, off, c', e, hn, hb, hc⟩
  · simp at h0
  · simp only [Value.slice.injEq] at e
    obtain ⟨rfl, rfl, rfl⟩ := e
    have ec : prC (x :: l) = [.string (mkB x.name), .int .i64 x.val] ++ prC l := rfl
    rw [ec] at hc
    rw [List.length_cons] at hn
    refine ⟨b, off, rfl, rfl, hn, hb, hc 0 _ rfl, hc 1 _ rfl, prC_length l, .inr ⟨b, off + 2, c - 1, rfl, by omega, hb, fun i u hu => ?_⟩⟩
    rw [Nat.add_assoc, Nat.add_comm 2 i]
    exact hc (i + 2) u (by rw [List.getElem?_append_right (by simp)]; simpa using hu)
/-- The others, as the code names them. -/
theorem seq_tail {w : World} {B b off n c : Nat} {l : List Pr} (h : Seq w B 2 (.slice (some ⟨b, off + 2, none⟩) l.length (c - 1)) l.length (prC l)) (hn : n = l.length + 1) (hc : l.length + 1 ≤ c) :
    Seq w B 2 (.slice (if c = 1 then some ⟨b, off, none⟩ else some ⟨b, off + 2, none⟩) (n - 1) (c - 1)) l.length (prC l) := by
  subst hn
  rw [Nat.add_sub_cancel]
  by_cases h1 : c = 1
  · rw [if_pos h1]
    have h0 : l.length = 0 := by omega
    have hl := List.eq_nil_of_length_eq_zero h0
    subst hl
    rcases h.2 with ⟨e, _⟩ | ⟨b', off', c', e, hn', hb, _⟩
    · cases e
    · simp only [Value.slice.injEq, Option.some.injEq, Addr.mk.injEq] at e
      obtain ⟨⟨rfl, _⟩, _⟩ := e
      exact ⟨rfl, .inr ⟨b, off, c - 1, rfl, by simp, hb, fun i u hu => by simp [prC] at hu⟩⟩
  · rw [if_neg h1]; exact h
theorem make_room (w : World) (base n : Nat) (hn : n ≤ 1000000) (hb : base ≤ w.heap.size) : ∃ w', (Instr.makeSlice 24 (.int .i64 0) (.int .i64 (n : Int))).run Try.prog w = .ok (.slice (some ⟨w.heap.size, 0, none⟩) 0 n) w' ∧ OwnsP w' base (.slice (some ⟨w.heap.size, 0, none⟩) 0 n) [] ∧ Below w.heap.size w w' := by
  obtain ⟨i0, hi0, hz0, hz1, hz2⟩ := info_parts info_P
  obtain ⟨w', h1, h2, h3⟩ := run_makeSlice_owned (P := Try.prog) w base 24 38 i0 _ 2 Try.underlying24 hi0 hz0 hz1 .i64 .i64 n (by omega) (by rw [hz2]; omega) (by unfold maxLen; omega) hb
  exact ⟨w', h1, h2, Below.grown (Below.refl _ _) h3 (Nat.le_refl _) (fun k hk => by cases hk)⟩
theorem grew_join {wr w1 : World} {base : Nat} {v v' : Value} {o l : List Pr} (hg : Grew wr base 38 2 v v' (o.length + l.length) (prC o ++ prC l) w1) : OwnsP w1 base v' (o ++ l) ∧ Below base wr w1 :=
  ⟨by unfold OwnsP; rw [prC_append, List.length_append]; exact hg.1, hg.2.2.2⟩
/-- Where merge stands: what is left of either row; the list so far. -/
structure MergeAt (w wr : World) (a b : List Pr) (va vb v : Value) (a' b' o : List Pr) : Prop where
  ha : Seq w w.heap.size 2 va a'.length (prC a')
  hb : Seq w w.heap.size 2 vb b'.length (prC b')
  ho : OwnsP wr w.heap.size v o
  hW : Below w.heap.size w wr
  hq : mergeL a b = o ++ mergeL a' b'
  hn : o.length + a'.length + b'.length ≤ 200000
/-- One more in the list. -/
theorem MergeAt.push {w wr w1 : World} {a b : List Pr} {va vb v v' : Value} {a' b' o : List Pr} {q : Pr} {cs : Array Value} {t : TypeId} (h : MergeAt w wr a b va vb v a' b' o)
    (hg : Grew (wr.alloc (.cells cs t)) w.heap.size 38 2 v v' (o.length + 1) (prC o ++ [.string (mkB q.name), .int .i64 q.val]) w1) : OwnsP w1 w.heap.size v' (o ++ [q]) ∧ Below w.heap.size w w1 := by
  obtain ⟨g1, g2, g3, g4⟩ := hg
  exact ⟨OwnsP.join g1 rfl rfl, h.hW.trans (((Below.refl _ _).alloc h.hW.size _).trans g4)⟩
/-- What the test of the two first ones reads. -/
def MergeS (w wr : World) (a b : List Pr) (va vb v : Value) (a' b' o : List Pr) (ba oa bb ob : Nat) (x y : Pr) : Prop :=
  wr.cell? ⟨ba, oa, none⟩ = some (.string (mkB x.name)) ∧ wr.cell? ⟨ba, oa + 1, none⟩ = some (.int .i64 x.val) ∧ wr.cell? ⟨bb, ob, none⟩ = some (.string (mkB y.name)) ∧ wr.cell? ⟨bb, ob + 1, none⟩ = some (.int .i64 y.val) ∧ Hid (ba < w.heap.size ∧ bb < w.heap.size ∧ MergeAt w wr a b va vb v a' b' o)
theorem MergeAt.over {w wr w' : World} {a b : List Pr} {va vb v : Value} {a' b' o : List Pr} (h : MergeAt w wr a b va vb v a' b' o) (hb : Below wr.heap.size wr w') : MergeAt w w' a b va vb v a' b' o :=
  ⟨h.ha, h.hb, ownsRow_over h.ho hb, bstep h.hW hb, h.hq, h.hn⟩
theorem mergeS_over {w wr w' : World} {a b : List Pr} {va vb v : Value} {a' b' o : List Pr} {ba oa bb ob : Nat} {x y : Pr} (h : MergeS w wr a b va vb v a' b' o ba oa bb ob x y) (hb : Below wr.heap.size wr w') : MergeS w w' a b va vb v a' b' o ba oa bb ob x y := by
  obtain ⟨h1, h2, h3, h4, h5⟩ := h
  have ha : ba < wr.heap.size := by have := h5.out.2.2.hW.size; have := h5.out.1; omega
  have hc : bb < wr.heap.size := by have := h5.out.2.2.hW.size; have := h5.out.2.1; omega
  exact ⟨(hb.cell (p := ⟨ba, oa, none⟩) ha).trans h1, (hb.cell (p := ⟨ba, oa + 1, none⟩) ha).trans h2, (hb.cell (p := ⟨bb, ob, none⟩) hc).trans h3, (hb.cell (p := ⟨bb, ob + 1, none⟩) hc).trans h4, Lib.hid ⟨h5.out.1, h5.out.2.1, h5.out.2.2.over hb⟩⟩
theorem mergeS_drew {w wr : World} {a b : List Pr} {va vb v : Value} {a' b' o : List Pr} {ba oa bb ob : Nat} {x y : Pr} (h : MergeS w wr a b va vb v a' b' o ba oa bb ob x y) : MergeS w wr.drew a b va vb v a' b' o ba oa bb ob x y := mergeS_over h (bself wr).drew
set_option maxRecDepth 100000 in
set_option maxHeartbeats 1000000 in
theorem lmerge_any (A0 : Option Addr) (n0 c0 : Nat) (a : List Pr) (A : Option Addr) (n c : Nat) (b : List Pr) (w : World) (ha : Seq w w.heap.size 2 (.slice A0 n0 c0) a.length (prC a)) (hb : Seq w w.heap.size 2 (.slice A n c) b.length (prC b)) (hm : a.length + b.length ≤ 200000) {q : List Pr} (hq : mergeL a b = q) :
    Calls Try.prog 26 #[.slice A0 n0 c0, .slice A n c, .func (.func 27) #[] #[]] w (GaveS w q) := by
  obtain ⟨rfl, _⟩ := ha.len_
  obtain ⟨rfl, _⟩ := hb.len_
  have hz : (a.length : Int) + (b.length : Int) ≤ 200000 := by omega
  have HA := Lib.hid ha
  have HB := Lib.hid hb
  have HM := Lib.hid hm
  have HQ := Lib.hid hq
  clear ha hb hm hq
  generalize hx : a.length = x at HA hz ⊢
  generalize hy : b.length = y at HB hz ⊢
  obtain ⟨w2, hmk, ho2, hb2⟩ := make_room w w.heap.size (x + y) (by omega) (Nat.le_refl _)
  rw [show ((x + y : Nat) : Int) = (x : Int) + (y : Int) by omega] at hmk
  have HO2 := Lib.hid (And.intro ho2 hb2)
  clear ho2 hb2
  go_enter Try.func26, Try.ntmps26
  go_wp2
  go_loopw [0, 1, 7] (fun va vb v wr => ∃ a' b' o, Hid (MergeAt w wr a b va vb v a' b' o)) (fun va vb _ _ => lenV va + lenV vb)
  case atStart =>
    exact ⟨a, b, [], Lib.hid ⟨by rw [hx]; exact HA.out, by rw [hy]; exact HB.out, HO2.out.1, HO2.out.2, rfl, by have := HM.out; simp; omega⟩⟩
  case round =>
    clear hmk HA HB HO2 hx hy hz
    obtain ⟨a', b', o, HP⟩ := hrel
    obtain ⟨A1, n1, c1, rfl⟩ := seq_slice HP.out.ha
    obtain ⟨A2, n2, c2, rfl⟩ := seq_slice HP.out.hb
    obtain ⟨A3, n3, c3, rfl⟩ := own_slice HP.out.ho
    cases a' with
    | nil =>
      obtain ⟨rfl, _⟩ := HP.out.ha.len_
      have hlt : ¬ (0 : Int) < ((([] : List Pr).length : Nat) : Int) := by simp
      have HF := Lib.hid (show o ++ [] ++ b' = q by rw [← HQ.out, HP.out.hq, merge_nil, List.append_nil])
      go_wp2_with (first
        | (at_builtin; refine wp_app_seq rfl (.tmp 51) (.tmp 52) 24 38 _ 2 24 Try.underlying24 info_P rfl (by omega) rfl w.heap.size (.slice A3 n3 c3) _ o.length _ (prC o) _ rfl rfl HP.out.ho (HP.out.ha.below_ HP.out.hW) (prC_one _) (by have := HP.out.hn; simp at this ⊢; omega) HP.out.hW.size ?_; intro v9 w9 hg; obtain ⟨A9, n9, c9, rfl⟩ := own_slice hg.1; have HT := Lib.hid (grew_join hg); clear hg)
        | (at_builtin; refine wp_app_seq rfl (.tmp 53) (.tmp 54) 24 38 _ 2 24 Try.underlying24 info_P rfl (by omega) rfl w.heap.size (.slice A9 n9 c9) _ _ _ _ _ rfl rfl HT.out.1 (HP.out.hb.below_ (HP.out.hW.trans HT.out.2)) (prC_one _) (by have := HP.out.hn; simp at this ⊢; omega) (HP.out.hW.trans HT.out.2).size ?_; intro v8 w8 hg; obtain ⟨A8, n8, c8, rfl⟩ := own_slice hg.1; have HT2 := Lib.hid (grew_join hg); clear hg))
      go_ret
      exact ⟨A8, n8, c8, rfl, by rw [← HF.out]; exact Seq.own HT2.out.1, HP.out.hW.trans (HT.out.2.trans HT2.out.2)⟩
    | cons x a' =>
      cases b' with
      | nil =>
        obtain ⟨rfl, _⟩ := HP.out.hb.len_
        obtain ⟨rfl, _⟩ := HP.out.ha.len_
        have hla : (0 : Int) < (((x :: a').length : Nat) : Int) := by simp
        have hlt : ¬ (0 : Int) < ((([] : List Pr).length : Nat) : Int) := by simp
        have HF := Lib.hid (show o ++ (x :: a') ++ [] = q by rw [← HQ.out, HP.out.hq, merge_nil2, List.append_nil])
        go_wp2_with (first
          | (at_builtin; refine wp_app_seq rfl (.tmp 51) (.tmp 52) 24 38 _ 2 24 Try.underlying24 info_P rfl (by omega) rfl w.heap.size (.slice A3 n3 c3) _ o.length _ (prC o) _ rfl rfl HP.out.ho (HP.out.ha.below_ HP.out.hW) (prC_one _) (by have := HP.out.hn; simp at this ⊢; omega) HP.out.hW.size ?_; intro v9 w9 hg; obtain ⟨A9, n9, c9, rfl⟩ := own_slice hg.1; have HT := Lib.hid (grew_join hg); clear hg)
          | (at_builtin; refine wp_app_seq rfl (.tmp 53) (.tmp 54) 24 38 _ 2 24 Try.underlying24 info_P rfl (by omega) rfl w.heap.size (.slice A9 n9 c9) _ _ _ _ _ rfl rfl HT.out.1 (HP.out.hb.below_ (HP.out.hW.trans HT.out.2)) (prC_one _) (by have := HP.out.hn; simp at this ⊢; omega) (HP.out.hW.trans HT.out.2).size ?_; intro v8 w8 hg; obtain ⟨A8, n8, c8, rfl⟩ := own_slice hg.1; have HT2 := Lib.hid (grew_join hg); clear hg))
        go_ret
        exact ⟨A8, n8, c8, rfl, by rw [← HF.out]; exact Seq.own HT2.out.1, HP.out.hW.trans (HT.out.2.trans HT2.out.2)⟩
      | cons y b' =>
        obtain ⟨ba, oa, rfl, hna, hca, hba, e0, e1, hta⟩ := seq_cons HP.out.ha
        obtain ⟨bb, ob, rfl, hnb, hcb, hbb, f0, f1, htb⟩ := seq_cons HP.out.hb
        have e0 := (HP.out.hW.cell (p := ⟨ba, oa, none⟩) hba).trans e0
        have e1 := (HP.out.hW.cell (p := ⟨ba, oa + 1, none⟩) hba).trans e1
        have f0 := (HP.out.hW.cell (p := ⟨bb, ob, none⟩) hbb).trans f0
        have f1 := (HP.out.hW.cell (p := ⟨bb, ob + 1, none⟩) hbb).trans f1
        have hla : (0 : Int) < (n1 : Int) := by omega
        have hlb : (0 : Int) < (n2 : Int) := by omega
        have hS : MergeS w wr a b (.slice (some ⟨ba, oa, none⟩) n1 c1) (.slice (some ⟨bb, ob, none⟩) n2 c2) (.slice A3 n3 c3) (x :: a') (y :: b') o ba oa bb ob x y := ⟨e0, e1, f0, f1, Lib.hid ⟨hba, hbb, HP.out⟩⟩
        have HT := Lib.hid (And.intro hna (And.intro hnb (And.intro hca (And.intro hcb (And.intro hta htb)))))
        unfold MergeS at hS
        clear e0 e1 f0 f1 hna hnb hta htb hba hbb hca hcb
        have h11 : (1 : Int) ≤ (n1 : Int) := by omega
        have h12 : (n1 : Int) ≤ (c1 : Int) := by have := HT.out.1; have := HT.out.2.2.1; omega
        have h21 : (1 : Int) ≤ (n2 : Int) := by omega
        have h22 : (n2 : Int) ≤ (c2 : Int) := by have := HT.out.2.1; have := HT.out.2.2.2.1; omega
        rcases ord_cases x y with ⟨_, ho⟩ | ⟨hxy, ho⟩ | ⟨_, ho⟩
        · have HC := Lib.hid (fun w' => order_at x y w' ho)
          have HO := Lib.hid ho
          clear ho
          go_wp2
          go_region_held3 (fun w' => w'.cell? ⟨ba, oa, none⟩ = some (.string (mkB x.name)) ∧ w'.cell? ⟨ba, oa + 1, none⟩ = some (.int .i64 x.val) ∧ w'.cell? ⟨bb, ob, none⟩ = some (.string (mkB y.name)) ∧ w'.cell? ⟨bb, ob + 1, none⟩ = some (.int .i64 y.val) ∧ Hid (ba < w.heap.size ∧ bb < w.heap.size ∧ MergeAt w w' a b (.slice (some ⟨ba, oa, none⟩) n1 c1) (.slice (some ⟨bb, ob, none⟩) n2 c2) (.slice A3 n3 c3) (x :: a') (y :: b') o))
            (first | assumption | exact mergeS_drew (by assumption))
            (first | (go_at_call 27; ((with_reducible refine (HC.out _).mono ?_); rintro e w5 ⟨rfl, hb5⟩; have hs1 := mergeS_over (by assumption) hb5)))
          obtain ⟨e0, e1, f0, f1, h5⟩ := hs1
          have HP5 := Lib.hid h5.out.2.2
          clear h5
          go_wp2_with (at_builtin; refine wp_app_seq rfl (.tmp 33) (.tmp 37) 24 38 _ 2 24 Try.underlying24 info_P rfl (by omega) rfl w.heap.size (.slice A3 n3 c3) _ o.length 1 (prC o) _ rfl rfl (ownsRow_over HP5.out.ho (bmore (bself w5) _)) (Seq.lit_ w5 [.string (mkB x.name), .int .i64 x.val] _) (by simp [Value.oneCell']) (by have := HP5.out.hn; simp at this ⊢; omega) (by have := HP5.out.hW.size; simp; omega) ?_; intro v9 w9 hg; obtain ⟨A9, n9, c9, rfl⟩ := own_slice hg.1; have HP9 := Lib.hid (HP5.out.push hg); clear hg)
          go_roundw
          case rel =>
            obtain ⟨h1, h2, h3, h4, h5, h6⟩ := HT.out
            have hq := HP5.out.hq
            rw [merge_lt a' b' HO.out, List.append_cons] at hq
            exact ⟨a', y :: b', o ++ [x], Lib.hid ⟨seq_tail h5 h1 h3, HP5.out.hb, HP9.out.1, HP9.out.2, hq, by have := HP5.out.hn; simp at this ⊢; omega⟩⟩
          case measure => obtain ⟨h1, h2, h3, h4, _⟩ := HT.out; simp only [lenV]; omega
        · have HC := Lib.hid (fun w' => order_at x y w' ho)
          clear hxy
          have HO := Lib.hid ho
          clear ho
          go_wp2
          go_region_held3 (fun w' => w'.cell? ⟨ba, oa, none⟩ = some (.string (mkB x.name)) ∧ w'.cell? ⟨ba, oa + 1, none⟩ = some (.int .i64 x.val) ∧ w'.cell? ⟨bb, ob, none⟩ = some (.string (mkB y.name)) ∧ w'.cell? ⟨bb, ob + 1, none⟩ = some (.int .i64 y.val) ∧ Hid (ba < w.heap.size ∧ bb < w.heap.size ∧ MergeAt w w' a b (.slice (some ⟨ba, oa, none⟩) n1 c1) (.slice (some ⟨bb, ob, none⟩) n2 c2) (.slice A3 n3 c3) (x :: a') (y :: b') o))
            (first | assumption | exact mergeS_drew (by assumption))
            (first | (go_at_call 27; ((with_reducible refine (HC.out _).mono ?_); rintro e w5 ⟨rfl, hb5⟩; have hs1 := mergeS_over (by assumption) hb5)))
          obtain ⟨e0, e1, f0, f1, h5⟩ := hs1
          have HP5 := Lib.hid h5.out.2.2
          clear h5
          go_wp2_with (at_builtin; refine wp_app_seq rfl (.tmp 33) (.tmp 37) 24 38 _ 2 24 Try.underlying24 info_P rfl (by omega) rfl w.heap.size (.slice A3 n3 c3) _ o.length 1 (prC o) _ rfl rfl (ownsRow_over HP5.out.ho (bmore (bself w5) _)) (Seq.lit_ w5 [.string (mkB x.name), .int .i64 x.val] _) (by simp [Value.oneCell']) (by have := HP5.out.hn; simp at this ⊢; omega) (by have := HP5.out.hW.size; simp; omega) ?_; intro v9 w9 hg; obtain ⟨A9, n9, c9, rfl⟩ := own_slice hg.1; have HP9 := Lib.hid (HP5.out.push hg); clear hg)
          go_roundw
          case rel =>
            obtain ⟨h1, h2, h3, h4, h5, h6⟩ := HT.out
            have hq := HP5.out.hq
            rw [merge_eq a' b' HO.out, List.append_cons] at hq
            exact ⟨a', b', o ++ [x], Lib.hid ⟨seq_tail h5 h1 h3, seq_tail h6 h2 h4, HP9.out.1, HP9.out.2, hq, by have := HP5.out.hn; simp at this ⊢; omega⟩⟩
          case measure => obtain ⟨h1, h2, h3, h4, _⟩ := HT.out; simp only [lenV]; omega
        · have HC := Lib.hid (fun w' => order_at x y w' ho)
          have HO := Lib.hid ho
          clear ho
          go_wp2
          go_region_held3 (fun w' => w'.cell? ⟨ba, oa, none⟩ = some (.string (mkB x.name)) ∧ w'.cell? ⟨ba, oa + 1, none⟩ = some (.int .i64 x.val) ∧ w'.cell? ⟨bb, ob, none⟩ = some (.string (mkB y.name)) ∧ w'.cell? ⟨bb, ob + 1, none⟩ = some (.int .i64 y.val) ∧ Hid (ba < w.heap.size ∧ bb < w.heap.size ∧ MergeAt w w' a b (.slice (some ⟨ba, oa, none⟩) n1 c1) (.slice (some ⟨bb, ob, none⟩) n2 c2) (.slice A3 n3 c3) (x :: a') (y :: b') o))
            (first | assumption | exact mergeS_drew (by assumption))
            (first | (go_at_call 27; ((with_reducible refine (HC.out _).mono ?_); rintro e w5 ⟨rfl, hb5⟩; have hs1 := mergeS_over (by assumption) hb5)))
          obtain ⟨e0, e1, f0, f1, h5⟩ := hs1
          have HP5 := Lib.hid h5.out.2.2
          clear h5
          go_wp2_with (at_builtin; refine wp_app_seq rfl (.tmp 41) (.tmp 45) 24 38 _ 2 24 Try.underlying24 info_P rfl (by omega) rfl w.heap.size (.slice A3 n3 c3) _ o.length 1 (prC o) _ rfl rfl (ownsRow_over HP5.out.ho (bmore (bself w5) _)) (Seq.lit_ w5 [.string (mkB y.name), .int .i64 y.val] _) (by simp [Value.oneCell']) (by have := HP5.out.hn; simp at this ⊢; omega) (by have := HP5.out.hW.size; simp; omega) ?_; intro v9 w9 hg; obtain ⟨A9, n9, c9, rfl⟩ := own_slice hg.1; have HP9 := Lib.hid (HP5.out.push hg); clear hg)
          go_roundw
          case rel =>
            obtain ⟨h1, h2, h3, h4, h5, h6⟩ := HT.out
            have hq := HP5.out.hq
            rw [merge_gt a' b' HO.out, List.append_cons] at hq
            exact ⟨x :: a', b', o ++ [y], Lib.hid ⟨HP5.out.ha, seq_tail h6 h2 h4, HP9.out.1, HP9.out.2, hq, by have := HP5.out.hn; simp at this ⊢; omega⟩⟩
          case measure => obtain ⟨h1, h2, h3, h4, _⟩ := HT.out; simp only [lenV]; omega
end Go.Proofs.Ytckhhphchphmlaa
