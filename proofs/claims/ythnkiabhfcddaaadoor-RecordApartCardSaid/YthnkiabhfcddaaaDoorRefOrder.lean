/-
  Contract of layer 7's reference: order.
-/
import Derived.Test.YthnkiabhfcddaaaDoorPackG
import Derived.Test.YthnkiabhfcddaaaDoorPackI
import Derived.Test.YthnkiabhfcddaaaDoorPackA
namespace Go.Proofs.YthnkiabhfcddaaaDoor
open Go.RowKit
set_option linter.unusedVariables false

/-- Numbers as cells. -/
def ic (l : List Nat) : List Value := l.map fun (f : Nat) => Value.int .i64 (f : Int)
theorem ic_len (l : List Nat) : (ic l).length = l.length := by simp [ic]
theorem ic_append (a b : List Nat) : ic (a ++ b) = ic a ++ ic b := by simp [ic]
theorem ic_at (l : List Nat) (i : Nat) (h : i < l.length) : (ic l)[i]? = some (.int .i64 (l[i] : Int)) := by simp [ic, h]
theorem info_I64 : (Tryd.prog.info? 3).map (fun i => (i.zero, i.size, i.bytes)) = some (some (.int .i64 0), 1, 8) := by kernel_rfl
/-- A list of numbers of the call's own. -/
def OwnsN (w : World) (base : Nat) (v : Value) (l : List Nat) : Prop := w.ownsRow base 3 1 v l.length (ic l)
theorem OwnsN.push {w w1 : World} {base : Nat} {v v' : Value} {l : List Nat} {f : Nat} {cs : Array Value} {t : TypeId} (hb : base ≤ w.heap.size) (hg : Grew (w.alloc (.cells cs t)) base 3 1 v v' (l.length + 1) (ic l ++ [.int .i64 (f : Int)]) w1) : OwnsN w1 base v' (l ++ [f]) ∧ Below base w w1 := by
  obtain ⟨g1, _, _, g4⟩ := hg
  refine ⟨?_, ((Below.refl _ _).alloc hb _).trans g4⟩
  unfold OwnsN
  rw [ic_append, List.length_append]
  exact g1
/-- Numbers that lie in memory. -/
structure NumsIn (w : World) (v : Value) (l : List Nat) : Prop where
  sq : ∃ A c, v = .slice A l.length c
  at_ : ∀ i (h : i < l.length), ∃ b off c, v = .slice (some ⟨b, off, none⟩) l.length c ∧ b < w.heap.size ∧ w.cell? ⟨b, off + i, none⟩ = some (.int .i64 (l[i] : Int))
theorem Seq.nums {w : World} {B : Nat} {v : Value} {l : List Nat} (h : Seq w B 1 v l.length (ic l)) (hB : B ≤ w.heap.size) : NumsIn w v l := by
  refine ⟨?_, fun i hi => ?_⟩
  · obtain ⟨A, c, e, _⟩ := h.open_
    exact ⟨A, c, e⟩
  · rcases h.2 with ⟨_, h0⟩ | ⟨b, off, c, e, _, hb, hc⟩
    · omega
    · exact ⟨b, off, c, e, by omega, hc i _ (ic_at l i hi)⟩
theorem NumsIn.over {w w' : World} {v : Value} {l : List Nat} (h : NumsIn w v l) (hb : Below w.heap.size w w') : NumsIn w' v l := by
  refine ⟨h.sq, fun i hi => ?_⟩
  obtain ⟨b, off, c, e, h1, h2⟩ := h.at_ i hi
  exact ⟨b, off, c, e, Nat.lt_of_lt_of_le h1 hb.size, (hb.cell (p := ⟨b, off + i, none⟩) h1).trans h2⟩
def uptoR (k j : Nat) : List Nat := ([1, 2, 3, 4, 5, 6, 7].take j).filter (hasR k)
theorem upto_yes {k j : Nat} (hj : j < 7) (h : hasR k (j + 1) = true) : uptoR k (j + 1) = uptoR k j ++ [j + 1] := by
  unfold uptoR
  rcases (show j = 0 ∨ j = 1 ∨ j = 2 ∨ j = 3 ∨ j = 4 ∨ j = 5 ∨ j = 6 by omega) with rfl | rfl | rfl | rfl | rfl | rfl | rfl <;> simp only [Nat.reduceAdd] at h <;> simp [List.filter_cons, h, List.take] <;> (repeat' split) <;> simp
theorem upto_no {k j : Nat} (hj : j < 7) (h : hasR k (j + 1) = false) : uptoR k (j + 1) = uptoR k j := by
  unfold uptoR
  rcases (show j = 0 ∨ j = 1 ∨ j = 2 ∨ j = 3 ∨ j = 4 ∨ j = 5 ∨ j = 6 by omega) with rfl | rfl | rfl | rfl | rfl | rfl | rfl <;> simp only [Nat.reduceAdd] at h <;> simp [List.filter_cons, h, List.take]
theorem upto_len (k j : Nat) : (uptoR k j).length ≤ 7 := Nat.le_trans (List.length_filter_le _ _) (by simp; omega)
theorem upto_all {k : Nat} (h : k ≠ 27) : uptoR k 7 = orderR k := by unfold uptoR orderR; rw [if_neg h]; rfl
/-- What order answers. -/
def GaveN (w : World) (l : List Nat) (e : Ending) (w' : World) : Prop := ∃ A c, e = .returned (.slice A l.length c) ∧ NumsIn w' (.slice A l.length c) l ∧ Below w.heap.size w w' ∧ ∀ p, A = some p → w.heap.size ≤ p.block
set_option maxRecDepth 100000 in
theorem rorder_any (k : Nat) (w : World) :
    Calls Tryd.prog 30 #[.int .u8 (k : Int)] w (GaveN w (orderR k)) := by
  by_cases h27 : k = 27
  · subst h27
    go_enter Tryd.func30, Tryd.ntmps30
    go_wp2
    go_ret
    rw [order_27]
    refine ⟨some ⟨w.heap.size, 0, none⟩, 2, rfl, ⟨⟨_, _, rfl⟩, fun i hi => ⟨w.heap.size, 0, 2, rfl, by simp, ?_⟩⟩, bmore (bself w) _, fun p hp => by cases hp; exact Nat.le_refl _⟩
    have hi : i < 2 := hi
    rcases (show i = 0 ∨ i = 1 by omega) with rfl | rfl
    · exact heap_cell (heap_alloc_new w _) 0
    · exact heap_cell (heap_alloc_new w _) 1
  · have h1 : ((k : Int) == 27) = false := by rw [beq_eq_false_iff_ne]; omega
    have HK := Lib.hid h27
    clear h27
    go_enter Tryd.func30, Tryd.ntmps30
    go_wp2
    go_loopw [3, 4] (fun v f wr => ∃ j : Nat, j ≤ 7 ∧ f = .int .i64 ((j + 1 : Nat) : Int) ∧ Hid (OwnsN wr w.heap.size v (uptoR k j) ∧ Below w.heap.size w wr)) (fun _ f _ => 8 - (intOf f).toNat)
    case atStart => exact ⟨0, by omega, rfl, Lib.hid ⟨World.ownsRow_nil w _ _ 1, bself w⟩⟩
    case round =>
      obtain ⟨j, hj, rfl, HP⟩ := hrel
      obtain ⟨A3, n3, c3, rfl⟩ := own_slice HP.out.1
      obtain ⟨f, hf⟩ : ∃ f, f = j + 1 := ⟨_, rfl⟩
      rw [← hf]
      have hf9 : (f : Int) ≤ 8 := by omega
      by_cases hlt : j < 7
      · have hlt2 : (f : Int) ≤ 7 := by omega
        cases hh : hasR k f with
        | false =>
          have HH := Lib.hid (fun w' => rhas_any k f w' (by omega) hh)
          have HU := Lib.hid (upto_no hlt (by rw [← hf]; exact hh))
          have HF := Lib.hid hf
          clear hh hf
          go_wp2_with (go_at_call 23; (with_reducible refine (HH.out _).mono ?_); rintro e w' ⟨rfl, rfl⟩)
          go_roundw
          case rel => exact ⟨j + 1, by omega, by rw [← HF.out]; go_num, Lib.hid (by rw [HU.out]; exact HP.out)⟩
          case measure => simp [intOf]; omega
        | true =>
          have HH := Lib.hid (fun w' => rhas_any k f w' (by omega) hh)
          have HU := Lib.hid (upto_yes hlt (by rw [← hf]; exact hh))
          have HF := Lib.hid hf
          clear hh hf
          go_wp2_with (first
            | (go_at_call 23; (with_reducible refine (HH.out _).mono ?_); rintro e w' ⟨rfl, rfl⟩)
            | (at_builtin; refine wp_app_seq rfl (.tmp 15) (.tmp 17) 63 3 _ 1 8 Tryd.underlying63 info_I64 rfl (by omega) rfl w.heap.size (.slice A3 n3 c3) _ (uptoR k j).length 1 (ic (uptoR k j)) _ rfl rfl (ownsRow_over HP.out.1 (bmore (bself _) _)) (Seq.lit_ _ [.int .i64 (f : Int)] _) (by simp [Value.oneCell']) (by have := upto_len k j; omega) (by have := HP.out.2.size; simp; omega) ?_; intro v9 w9 hg; obtain ⟨A9, n9, c9, rfl⟩ := own_slice hg.1; have HG := Lib.hid (OwnsN.push HP.out.2.size hg); clear hg))
          go_roundw
          case rel => exact ⟨j + 1, by omega, by rw [← HF.out]; go_num, Lib.hid (by rw [HU.out, ← HF.out]; exact ⟨HG.out.1, HP.out.2.trans HG.out.2⟩)⟩
          case measure => simp [intOf]; omega
      · have hlt2 : ¬ (f : Int) ≤ 7 := by omega
        obtain rfl : j = 7 := by omega
        go_wp2
        go_ret
        have h := HP.out
        rw [upto_all HK.out] at h
        have hn := (Seq.own h.1).nums (Nat.le_refl _)
        obtain ⟨A, c, e⟩ := hn.sq
        rw [e] at hn ⊢
        exact ⟨A, c, rfl, hn, h.2, fun p hp => (ownsRow_old h.1 p.block (by rw [e, hp]; rfl)).1⟩
end Go.Proofs.YthnkiabhfcddaaaDoor
