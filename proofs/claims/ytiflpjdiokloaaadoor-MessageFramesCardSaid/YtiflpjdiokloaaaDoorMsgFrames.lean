/-
  Layer 6: messages as frames, over lists; the law's decoder in memory.
-/
import Derived.Test.YtiflpjdiokloaaaDoorPackP
import Derived.Test.YtiflpjdiokloaaaDoorRefFrameM
import Derived.Test.YtiflpjdiokloaaaDoorPackI
namespace Go.Proofs.YtiflpjdiokloaaaDoor
open Go.RowKit
set_option linter.unusedVariables false

/-- The frames of those that may be. -/
def frsM (ms : List Msg) : List (UInt8 × List UInt8) := (ms.filter mayL).map fun m => (UInt8.ofNat m.kind, putM m)
theorem flat_frsM : ∀ ms : List Msg, (ms.map frameM).flatten = putsF (frsM ms)
  | [] => rfl
  | m :: ms => by
    rw [List.map_cons, List.flatten_cons, flat_frsM ms]
    cases hr : mayL m with
    | false =>
      have e : frsM (m :: ms) = frsM ms := by unfold frsM; rw [List.filter_cons_of_neg (by rw [hr]; exact Bool.false_ne_true)]
      rw [e]; unfold frameM; rw [hr]; rfl
    | true =>
      have e : frsM (m :: ms) = (UInt8.ofNat m.kind, putM m) :: frsM ms := by unfold frsM; rw [List.filter_cons_of_pos hr]; rfl
      rw [e]; unfold frameM; rw [hr]; rfl
theorem frsM_small (ms : List Msg) (h : ∀ m ∈ ms, m.In) : ∀ f ∈ frsM ms, f.2.length ≤ 256 := by
  intro f hf
  obtain ⟨m, hm, rfl⟩ := List.mem_map.1 hf
  obtain ⟨h1, h2⟩ := List.mem_filter.1 hm
  have := put_len6 (h m h1).wf h2
  dsimp only
  omega
theorem items_frsM (ms : List Msg) (h : ∀ m ∈ ms, m.In) : (endS (giveAll (ms.map frameM))).items = framesI (frsM ms) := by
  rw [end_all, flat_frsM, all_puts _ (frsM_small ms h)]
theorem frsM_no {ms : List Msg} {k : Nat} (hk : k < ms.length) (hr : mayL ms[k] = false) : frsM (ms.drop k) = frsM (ms.drop (k + 1)) := by
  rw [List.drop_eq_getElem_cons hk]; unfold frsM; rw [List.filter_cons_of_neg (by rw [hr]; exact Bool.false_ne_true)]
theorem frsM_yes {ms : List Msg} {k : Nat} (hk : k < ms.length) (hr : mayL ms[k] = true) : framesI (frsM (ms.drop k)) = ⟨0, UInt8.ofNat ms[k].kind, putM ms[k]⟩ :: framesI (frsM (ms.drop (k + 1))) := by
  rw [List.drop_eq_getElem_cons hk]; unfold frsM; rw [List.filter_cons_of_pos hr]; rfl
theorem frameM_len {m : Msg} (h : m.In) : (frameM m).length ≤ 300 := by
  unfold frameM
  cases hr : mayL m with
  | false => simp
  | true =>
    have := put_len6 h.wf hr
    rw [if_pos rfl]
    simp [putF, putC, headF]
    omega
theorem lenB_frames : ∀ (ms : List Msg), (∀ m ∈ ms, m.In) → lenB (ms.map frameM) ≤ 300 * ms.length
  | [], _ => Nat.le_refl _
  | m :: ms, h => by
    have h1 := frameM_len (h m (by simp))
    have h2 := lenB_frames ms fun x hx => h x (by simp [hx])
    simp only [List.map_cons, lenB, List.length_cons] at *
    omega
/-- The law's decoder. -/
structure FgAt (W wr : World) (p : Value) (d : DS) (F : Nat → Prop) : Prop where
  d : Dec wr p d F
  f : ∀ k, F k → W.heap.size ≤ k
  b : Below W.heap.size W wr
theorem FgAt.moved {W wr w1 : World} {p : Value} {d d' : DS} {F F' : Nat → Prop} (h : FgAt W wr p d F) (hm : Moved wr p d' F w1 F') : FgAt W w1 p d' F' :=
  ⟨hm.1, fun k hk => (hm.2.2 k hk).elim (h.f k) (fun q => Nat.le_trans h.b.size q), h.b.trans (hm.2.1.below h.f h.b.size)⟩
theorem FgAt.over {W wr w1 : World} {p : Value} {d : DS} {F : Nat → Prop} (h : FgAt W wr p d F) (hb : Below wr.heap.size wr w1) : FgAt W w1 p d F := h.moved (h.d.over hb)
theorem next_yes (p : Value) (d : DS) (F : Nat → Prop) (w : World) (x : It) (l : List It) (hd : Dec w p d F) (h : d.items = x :: l) :
    Calls Tryd.prog 23 #[p] w fun e w' => ∃ F' A c, e = .returned (.tuple #[.agg #[.int .i64 (x.skip : Int), .int .u8 (x.kind.toNat : Int), .slice A x.body.length c], .bool true]) ∧ Moved w p { d with items := l } F w' F' ∧ LiesB w' w'.heap.size (.slice A x.body.length c) x.body := by
  have h2 := next_any p d F w hd
  have e : nextS d = ({ d with items := l }, x, true) := by unfold nextS; rw [h]
  unfold NextDid at h2
  rw [e] at h2
  refine h2.mono fun y w' hy => ?_
  obtain ⟨F', D, A, c, h3, h4, h5, h6⟩ := hy
  exact ⟨F', A, c, h3, h4, h5.below fun k hk => (h6 k hk).2.1⟩
theorem next_msg (p : Value) (d : DS) (F : Nat → Prop) (w : World) (k : Nat) (b : List UInt8) (l : List It) (hd : Dec w p d F) (hk : k < 256) (h : d.items = ⟨0, UInt8.ofNat k, b⟩ :: l) :
    Calls Tryd.prog 23 #[p] w fun e w' => ∃ F' A c, e = .returned (.tuple #[.agg #[.int .i64 0, .int .u8 (k : Int), .slice A b.length c], .bool true]) ∧ Moved w p { d with items := l } F w' F' ∧ LiesB w' w'.heap.size (.slice A b.length c) b := by
  have h2 := next_yes p d F w _ l hd h
  have e : (UInt8.ofNat k).toNat = k := by simp; omega
  dsimp only at h2
  rw [e] at h2
  exact h2
theorem next_no (p : Value) (d : DS) (F : Nat → Prop) (w : World) (hd : Dec w p d F) (h : d.items = []) :
    Calls Tryd.prog 23 #[p] w fun e w' => ∃ F' A c, e = .returned (.tuple #[.agg #[.int .i64 0, .int .u8 0, .slice A 0 c], .bool false]) ∧ Moved w p d F w' F' := by
  have h2 := next_any p d F w hd
  have e : nextS d = (d, noIt, false) := by unfold nextS; rw [h]
  unfold NextDid at h2
  rw [e] at h2
  refine h2.mono fun y w' hy => ?_
  obtain ⟨F', D, A, c, h3, h4, _, _⟩ := hy
  exact ⟨F', A, c, h3, h4⟩
end Go.Proofs.YtiflpjdiokloaaaDoor
