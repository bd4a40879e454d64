/-
  Layer 4: the program's decoder beside the reference's, step by step.
-/
import Derived.Test.YtpgainalimmecaaDoorAll
import Derived.Test.YtpgainalimmecaaDoorFrames
namespace Go.Proofs.YtpgainalimmecaaDoor
open Go.RowKit
set_option linter.unusedVariables false

/-- The decoder p is in state d', the reference's one, in block g, in state d. -/
structure PlayAt (w wr : World) (p : Value) (d' d : DS) (F : Nat → Prop) (g : Nat) (v : Value) : Prop where
  hd : Dec wr p d' F
  hF : ∀ k, F k → w.heap.size ≤ k
  hB : Below w.heap.size w wr
  hg : wr.heap[g]? = some (.cells #[.string (mkB d.wait), .int .i64 (d.skip : Int), v, .bool d.over] 36 (0, 0))
  hgw : w.heap.size ≤ g ∧ ¬ F g
  hs : SeqI wr wr.heap.size v d.items
  hx : ∀ b, v.ownBlock = some b → b ≠ g ∧ ¬ F b
section
variable {w wr w1 : World} {p : Value} {d' d : DS} {F : Nat → Prop} {g : Nat} {v : Value}
theorem PlayAt.lt (h : PlayAt w wr p d' d F g v) : g < wr.heap.size := heap_lt h.hg
/-- Behind a call of the program's decoder. -/
theorem PlayAt.moved (h : PlayAt w wr p d' d F g v) {d2 : DS} {F' : Nat → Prop} (hm : Moved wr p d2 F w1 F') : PlayAt w w1 p d2 d F' g v := by
  obtain ⟨h1, h2, h3⟩ := hm
  have hlt := h.lt
  have nF : ∀ k, k < wr.heap.size → ¬ F k → ¬ F' k := fun k hk hn f => (h3 k f).elim hn (by omega)
  exact ⟨h1, fun k hk => (h3 k hk).elim (h.hF k) (fun q => Nat.le_trans h.hB.size q), h.hB.trans (h2.below h.hF h.hB.size), (h2.block g hlt h.hgw.2).trans h.hg, ⟨h.hgw.1, nF g hlt h.hgw.2⟩, (h.hs.keep_ fun k hk => h2.block k (h.hs.old k hk) (h.hx k hk).2).more h2.size, fun b hb => ⟨(h.hx b hb).1, nF b (h.hs.old b hb) (h.hx b hb).2⟩⟩
/-- Behind a call that makes memory. -/
theorem PlayAt.over (h : PlayAt w wr p d' d F g v) (hb : Below wr.heap.size wr w1) : PlayAt w w1 p d' d F g v :=
  ⟨h.hd.keep fun k hk => hb.block k (h.hd.old k hk), h.hF, bstep h.hB hb, (hb.block g h.lt).trans h.hg, h.hgw, h.hs.over (Nat.le_refl _) hb, h.hx⟩
/-- Behind a call of the reference, its answer stored. -/
theorem PlayAt.stored (h : PlayAt w wr p d' d F g v) {d2 : DS} {A : Option Addr} {n c : Nat} (hs : SeqI w1 w1.heap.size (.slice A n c) d2.items) (hf : From v (.slice A n c) wr.heap.size) (hb : Below wr.heap.size wr w1) :
    PlayAt w (set4 w1 g (.string (mkB d2.wait)) (.int .i64 (d2.skip : Int)) (.slice A n c) (.bool d2.over)) p d' d2 F g (.slice A n c) := by
  have h1 := h.over hb
  have hlt := h.lt
  have hx : ∀ b, (Value.slice A n c).ownBlock = some b → b ≠ g ∧ ¬ F b := fun b hb => (hf b hb).elim (h.hx b) (fun q => ⟨by omega, fun f => by have := h.hd.old b f; omega⟩)
  refine ⟨h1.hd.keep fun k hk => set4_far _ _ _ _ _ _ k (fun e => h.hgw.2 (e ▸ hk)), h.hF, set4_below h1.hB h.hgw.1 _ _ _ _, set4_heap h1.hg, h.hgw, ?_, hx⟩
  unfold SeqI at hs ⊢
  rw [set4_size]
  exact hs.keep_ fun b hb => set4_far _ _ _ _ _ _ b (hx b hb).1
theorem PlayAt.first (hd : Dec wr p newS F) (hF : ∀ k, F k → w.heap.size ≤ k) (hB : Below w.heap.size w wr) : PlayAt w (wr.alloc (.cells #[.string ⟨#[]⟩, .int .i64 0, .slice none 0 0, .bool false] 36)) p newS newS F wr.heap.size (.slice none 0 0) :=
  ⟨hd.keep fun k hk => Below.heap_alloc _ _ k (hd.old k hk), hF, hB.alloc hB.size _, heap_alloc_new wr _, ⟨hB.size, fun f => by have := hd.old _ f; omega⟩, Seq.nil_ _ _ _, fun b hb => by simp [Value.ownBlock] at hb⟩
end

/-! How large states are. -/
theorem giveS_small (d : DS) (b : List UInt8) (n : Nat) (h : d.wait.length + d.skip + d.items.length ≤ n) : (giveS d b).wait.length + (giveS d b).skip + (giveS d b).items.length ≤ n + b.length := by
  unfold giveS
  split
  · omega
  · have hp := pass_sum false _ (d.wait ++ b) d.skip (Nat.le_refl _)
    have hl := sumI_len (passF false (d.wait ++ b) d.skip).2.2
    rw [List.length_append] at hp
    dsimp only
    rw [List.length_append]
    omega
theorem skipI_le (k : Nat) : (skipI k).length ≤ k := by unfold skipI; split <;> simp; omega
theorem endS_small (d : DS) (n : Nat) (h : d.wait.length + d.skip + d.items.length ≤ n) : (endS d).wait.length + (endS d).skip + (endS d).items.length ≤ n := by
  unfold endS
  split
  · omega
  · have hp := pass_sum true _ d.wait d.skip (Nat.le_refl _)
    have hl := sumI_len (passF true d.wait d.skip).2.2
    have hk := skipI_le (passF true d.wait d.skip).2.1
    dsimp only
    rw [List.length_append, List.length_append]
    omega
theorem nextS_small (d : DS) (n : Nat) (h : d.wait.length + d.skip + d.items.length ≤ n) : (nextS d).1.wait.length + (nextS d).1.skip + (nextS d).1.items.length ≤ n := by
  unfold nextS
  split
  · exact h
  · rename_i x l he
    rw [he] at h
    simp at h ⊢
    omega
/-- The states, step by step. -/
def actS (d : DS) (a : UInt8 × List UInt8) : DS := if a.1 = 0 then giveS d a.2 else if a.1 = 1 then (nextS d).1 else endS d
def lenA : List (UInt8 × List UInt8) → Nat
  | [] => 0
  | a :: l => a.2.length + lenA l
theorem lenA_append (a b : List (UInt8 × List UInt8)) : lenA (a ++ b) = lenA a + lenA b := by
  induction a with
  | nil => simp [lenA]
  | cons x a ih => simp only [List.cons_append, lenA, ih]; omega
theorem lenA_take (l : List (UInt8 × List UInt8)) (k : Nat) (h : k < l.length) : lenA (l.take (k + 1)) = lenA (l.take k) + l[k].2.length := by
  rw [List.take_succ_eq_append_getElem h, lenA_append]
  simp [lenA]
theorem lenA_le (l : List (UInt8 × List UInt8)) (k : Nat) : lenA (l.take k) ≤ lenA l := by
  conv => rhs; rw [← List.take_append_drop k l, lenA_append]
  omega
/-- The reference's Next, its answer named. -/
def RNextAt (d2 : DS) (x : It) (ok : Bool) (v0 : Value) (w : World) (e : Ending) (w' : World) : Prop := ∃ A n c, e = .returned (.tuple #[.agg #[.string (mkB d2.wait), .int .i64 (d2.skip : Int), .slice A n c, .bool d2.over], .agg #[.int .i64 (x.skip : Int), .int .u8 (x.kind.toNat : Int), .string (mkB x.body)], .bool ok]) ∧ SeqI w' w'.heap.size (.slice A n c) d2.items ∧ From v0 (.slice A n c) w.heap.size ∧ Below w.heap.size w w'
theorem rnext_at (d d2 : DS) (x : It) (ok : Bool) (A : Option Addr) (n c : Nat) (w : World) (hd : d.items.length ≤ 1000000) (hv : SeqI w w.heap.size (.slice A n c) d.items) (h : nextS d = (d2, x, ok)) :
    Calls Tryd.prog 18 #[.agg #[.string (mkB d.wait), .int .i64 (d.skip : Int), .slice A n c, .bool d.over]] w (RNextAt d2 x ok (.slice A n c) w) := by
  obtain ⟨v0, e, hc⟩ := rnext_any d _ w hd ⟨A, n, c, rfl, hv⟩
  simp only [Value.agg.injEq, Array.mk.injEq, List.cons.injEq] at e
  obtain ⟨_, _, rfl, _⟩ := e
  unfold NDid at hc
  rw [h] at hc
  exact hc
theorem actS_small (d : DS) (a : UInt8 × List UInt8) (n : Nat) (h : d.wait.length + d.skip + d.items.length ≤ n) : (actS d a).wait.length + (actS d a).skip + (actS d a).items.length ≤ n + a.2.length := by
  unfold actS
  split
  · exact giveS_small d a.2 n h
  · split
    · have := nextS_small d n h; omega
    · have := endS_small d n h; omega
end Go.Proofs.YtpgainalimmecaaDoor
