/-
  Texts of the proofs, put together: RefTake7, RefTook7.
-/
import Derived.Test.YthnkiabhfcddaaaDoorRefBody
import Derived.Test.YthnkiabhfcddaaaDoorPackJ
import Derived.Deep.Cut
/-
  Contract of layer 7's reference: Take.
-/
namespace Go.Proofs.YthnkiabhfcddaaaDoor
open Go.RowKit
set_option linter.unusedVariables false

theorem rend_a7 (l : List UInt8) (e x : Int) (w : World) (h : rdEnd l e = x) : Calls Tryd.prog 42 #[.agg #[.string (mkB l), .int .i64 e]] w fun y w' => y = .returned (.int .i64 x) ∧ Below w.heap.size w w' := by
  subst h; exact rend_any (mkB l) e w
theorem rread_a7 (l : List UInt8) (e : Int) (w : World) (hs : l.length ≤ 100000) {u : Nat} {l' : List UInt8} {e' : Int} (hd : rdNum l e = (u, l', e')) :
    Calls Tryd.prog 39 #[.agg #[.string (mkB l), .int .i64 e]] w (RDid (.int .u64 u) (l', e') w) := rread_any (mkB l) e w (by rw [mkB_size]; omega) hd
theorem rtext_a7 (l : List UInt8) (e : Int) (w : World) (hs : l.length ≤ 100000) {t l' : List UInt8} {e' : Int} (hd : rdText l e 240 = (t, l', e')) :
    Calls Tryd.prog 38 #[.agg #[.string (mkB l), .int .i64 e], .int .i64 240] w (RDid (.string (mkB t)) (l', e') w) := by
  have h := rtext2_any (mkB l) e 240 w (by rw [mkB_size]; omega) (by omega) (by omega)
  have e2 : rdText (mkB l).data.toList e 240 = (t, l', e') := hd
  rw [e2] at h
  exact h
theorem rdText_len7 (l : List UInt8) (e most : Int) : (rdText l e most).2.1.length ≤ l.length := by
  have h := rdNum_len l e
  unfold rdText
  split
  · split
    · split
      · dsimp only; rw [List.length_drop]; omega
      · exact Nat.zero_le _
    · exact Nat.zero_le _
  · exact h
theorem step_len7 (s : Rec × List UInt8 × Int × Bool) (f : Nat) : (stepR s f).2.1.length ≤ s.2.1.length := by
  unfold stepR
  split
  · exact rdText_len7 _ _ _
  · split
    · exact rdNum_len _ _
    · exact rdNum_len _ _
theorem fold_len7 : ∀ (fs : List Nat) (s : Rec × List UInt8 × Int × Bool), (fs.foldl stepR s).2.1.length ≤ s.2.1.length
  | [], _ => Nat.le_refl _
  | f :: fs, s => Nat.le_trans (fold_len7 fs (stepR s f)) (step_len7 s f)
theorem fold_step7 (fs : List Nat) (i : Nat) (hi : i < fs.length) (s : Rec × List UInt8 × Int × Bool) : (fs.take (i + 1)).foldl stepR s = stepR ((fs.take i).foldl stepR s) fs[i] := by
  rw [List.take_succ_eq_append_getElem hi, List.foldl_append]; rfl
/-- A record with a field's number, all six. -/
theorem rwith_any (r : Rec) (f m : Nat) (w : World) (hf : 1 ≤ f ∧ f ≤ 6) (hm : m ≤ mostR f) {x : Rec} (hx : withR r f m = x) :
    Calls Tryd.prog 41 #[.agg #[.int .u8 (r.kind : Int), .int .i64 r.src, .int .u64 (r.seq : Int), .int .i64 r.at_, .int .i64 r.num, .int .i64 r.code, .bool r.yes, .string (mkB r.text)], .int .i64 (f : Int), .int .u64 (m : Int)] w fun e w' => e = .returned (.agg #[.int .u8 (x.kind : Int), .int .i64 x.src, .int .u64 (x.seq : Int), .int .i64 x.at_, .int .i64 x.num, .int .i64 x.code, .bool x.yes, .string (mkB x.text)]) ∧ Below w.heap.size w w' := by
  subst hx
  obtain ⟨k, s, q, a, n, c, y, t⟩ := r
  rcases (show f = 1 ∨ f = 2 ∨ f = 3 ∨ f = 4 ∨ f = 5 ∨ f = 6 by omega) with rfl | rfl | rfl | rfl | rfl | rfl <;> simp [mostR] at hm
  · exact rwith_1 k s q a n c y t m w (by omega)
  · exact rwith_2 k s q a n c y t m w (by omega)
  · exact rwith_3 k s q a n c y t m w (by omega)
  · exact rwith_4 k s q a n c y t m w (by omega)
  · exact rwith_5 k s q a n c y t m w (by omega)
  · refine (rwith_6 k s q a n c y t m w (by omega)).mono fun e w' h => ⟨?_, h.2⟩
    rw [h.1]
    have e2 : ((m : Int) == 1) = decide (m = 1) := by rw [Bool.eq_iff_iff, beq_iff_eq, decide_eq_true_eq]; omega
    rw [e2]
    rfl
/-- Eight stores into one block. -/
def setRec (w : World) (g : Nat) (r : Rec) : World :=
  (((((((w.setCell ⟨g, 0, none⟩ (.int .u8 (r.kind : Int))).setCell ⟨g, 1, none⟩ (.int .i64 r.src)).setCell ⟨g, 2, none⟩ (.int .u64 (r.seq : Int))).setCell ⟨g, 3, none⟩ (.int .i64 r.at_)).setCell ⟨g, 4, none⟩ (.int .i64 r.num)).setCell ⟨g, 5, none⟩ (.int .i64 r.code)).setCell ⟨g, 6, none⟩ (.bool r.yes)).setCell ⟨g, 7, none⟩ (.string (mkB r.text))
theorem setRec_far (w : World) (g : Nat) (r : Rec) (k : Nat) (hk : k ≠ g) : (setRec w g r).heap[k]? = w.heap[k]? := by
  unfold setRec
  rw [heap_far _ _ _ hk, heap_far _ _ _ hk, heap_far _ _ _ hk, heap_far _ _ _ hk, heap_far _ _ _ hk, heap_far _ _ _ hk, heap_far _ _ _ hk, heap_far _ _ _ hk]
theorem setRec_size (w : World) (g : Nat) (r : Rec) : (setRec w g r).heap.size = w.heap.size := by
  unfold setRec
  rw [setCell_size, setCell_size, setCell_size, setCell_size, setCell_size, setCell_size, setCell_size, setCell_size]
theorem set8_heap {w : World} {g : Nat} {a b c d e f h i a' b' c' d' e' f' h' i' : Value} {t : TypeId} (q : w.heap[g]? = some (.cells #[a, b, c, d, e, f, h, i] t (0, 0))) :
    ((((((((w.setCell ⟨g, 0, none⟩ a').setCell ⟨g, 1, none⟩ b').setCell ⟨g, 2, none⟩ c').setCell ⟨g, 3, none⟩ d').setCell ⟨g, 4, none⟩ e').setCell ⟨g, 5, none⟩ f').setCell ⟨g, 6, none⟩ h').setCell ⟨g, 7, none⟩ i').heap[g]? = some (.cells #[a', b', c', d', e', f', h', i'] t (0, 0)) := by
    have h0 : (w.setCell ⟨g, 0, none⟩ a').heap[g]? = some (.cells #[a', b, c, d, e, f, h, i] t (0, 0)) := (heap_set q 0 a').trans (by simp)
    have h1 : ((w.setCell ⟨g, 0, none⟩ a').setCell ⟨g, 1, none⟩ b').heap[g]? = some (.cells #[a', b', c, d, e, f, h, i] t (0, 0)) := (heap_set h0 1 b').trans (by simp)
    have h2 : (((w.setCell ⟨g, 0, none⟩ a').setCell ⟨g, 1, none⟩ b').setCell ⟨g, 2, none⟩ c').heap[g]? = some (.cells #[a', b', c', d, e, f, h, i] t (0, 0)) := (heap_set h1 2 c').trans (by simp)
    have h3 : ((((w.setCell ⟨g, 0, none⟩ a').setCell ⟨g, 1, none⟩ b').setCell ⟨g, 2, none⟩ c').setCell ⟨g, 3, none⟩ d').heap[g]? = some (.cells #[a', b', c', d', e, f, h, i] t (0, 0)) := (heap_set h2 3 d').trans (by simp)
    have h4 : (((((w.setCell ⟨g, 0, none⟩ a').setCell ⟨g, 1, none⟩ b').setCell ⟨g, 2, none⟩ c').setCell ⟨g, 3, none⟩ d').setCell ⟨g, 4, none⟩ e').heap[g]? = some (.cells #[a', b', c', d', e', f, h, i] t (0, 0)) := (heap_set h3 4 e').trans (by simp)
    have h5 : ((((((w.setCell ⟨g, 0, none⟩ a').setCell ⟨g, 1, none⟩ b').setCell ⟨g, 2, none⟩ c').setCell ⟨g, 3, none⟩ d').setCell ⟨g, 4, none⟩ e').setCell ⟨g, 5, none⟩ f').heap[g]? = some (.cells #[a', b', c', d', e', f', h, i] t (0, 0)) := (heap_set h4 5 f').trans (by simp)
    have h6 : (((((((w.setCell ⟨g, 0, none⟩ a').setCell ⟨g, 1, none⟩ b').setCell ⟨g, 2, none⟩ c').setCell ⟨g, 3, none⟩ d').setCell ⟨g, 4, none⟩ e').setCell ⟨g, 5, none⟩ f').setCell ⟨g, 6, none⟩ h').heap[g]? = some (.cells #[a', b', c', d', e', f', h', i] t (0, 0)) := (heap_set h5 6 h').trans (by simp)
    have h7 : ((((((((w.setCell ⟨g, 0, none⟩ a').setCell ⟨g, 1, none⟩ b').setCell ⟨g, 2, none⟩ c').setCell ⟨g, 3, none⟩ d').setCell ⟨g, 4, none⟩ e').setCell ⟨g, 5, none⟩ f').setCell ⟨g, 6, none⟩ h').setCell ⟨g, 7, none⟩ i').heap[g]? = some (.cells #[a', b', c', d', e', f', h', i'] t (0, 0)) := (heap_set h6 7 i').trans (by simp)
    exact h7
theorem setRec_heap {w : World} {g : Nat} {r x : Rec} {t : TypeId} (h : w.heap[g]? = some (recB r t)) : (setRec w g x).heap[g]? = some (recB x t) := by
  unfold recB at h ⊢
  unfold setRec
  exact set8_heap h
theorem setRec_below {W w : World} {B g : Nat} (h : Below B W w) (hg : B ≤ g) (r : Rec) : Below B W (setRec w g r) :=
  (((((((h.setCell hg _).setCell hg _).setCell hg _).setCell hg _).setCell hg _).setCell hg _).setCell hg _).setCell hg _
/-- None of its cells is frozen. -/
structure RecFz (w : World) (g : Nat) : Prop where
  f0 : w.frozen? ⟨g, 0, none⟩ = false
  f1 : w.frozen? ⟨g, 1, none⟩ = false
  f2 : w.frozen? ⟨g, 2, none⟩ = false
  f3 : w.frozen? ⟨g, 3, none⟩ = false
  f4 : w.frozen? ⟨g, 4, none⟩ = false
  f5 : w.frozen? ⟨g, 5, none⟩ = false
  f6 : w.frozen? ⟨g, 6, none⟩ = false
  f7 : w.frozen? ⟨g, 7, none⟩ = false
theorem recFz_blk {w : World} {g : Nat} {r : Rec} {t : TypeId} (h : w.heap[g]? = some (recB r t)) : RecFz w g :=
  ⟨heap_frozen h 0, heap_frozen h 1, heap_frozen h 2, heap_frozen h 3, heap_frozen h 4, heap_frozen h 5, heap_frozen h 6, heap_frozen h 7⟩
/-- Where Take stands: the blocks of the answer, of the record so far, of the reader. -/
structure TkR (w wr : World) (g : Nat) (r : Rec) (s e : Value) : Prop where
  hg : g = w.heap.size
  hR : wr.heap[g]? = some (recB noRec 26)
  hM : wr.heap[g + 1]? = some (recB r 26)
  hS : wr.heap[g + 1 + 1]? = some (.cells #[s, e] 75 (0, 0))
  hW : Below w.heap.size w wr
  hz : g + 3 ≤ wr.heap.size
theorem tkr_start (w : World) (g : Nat) (hg : g = w.heap.size) (r : Rec) (s e : Value) : TkR w (((w.alloc (recB noRec 26)).alloc (recB r 26)).alloc (.cells #[s, e] 75)) g r s e := by
  obtain ⟨q1, q2, q3, q4, q5⟩ := three_blocks (w := w) (o1 := recB noRec 26) (o2 := recB r 26) (o3 := .cells #[s, e] 75) (Below.refl _ _)
  exact ⟨hg, hg ▸ q1, hg ▸ q2, hg ▸ q3, q4, by rw [hg]; exact q5⟩
section
variable {w wr w' : World} {g : Nat} {r : Rec} {s e : Value}
theorem TkR.over (h : TkR w wr g r s e) (hb : Below wr.heap.size wr w') : TkR w w' g r s e := by
  have hz := h.hz
  exact ⟨h.hg, (hb.block g (by omega)).trans h.hR, (hb.block (g + 1) (by omega)).trans h.hM, (hb.block (g + 1 + 1) (by omega)).trans h.hS, bstep h.hW hb, Nat.le_trans hz hb.size⟩
theorem TkR.setM (h : TkR w wr g r s e) (x : Rec) : TkR w (setRec wr (g + 1) x) g x s e :=
  ⟨h.hg, (setRec_far _ _ _ g (by omega)).trans h.hR, setRec_heap h.hM, (setRec_far _ _ _ (g + 1 + 1) (by omega)).trans h.hS, setRec_below h.hW (by have := h.hg; omega) _, by rw [setRec_size]; exact h.hz⟩
theorem TkR.setT (h : TkR w wr g r s e) (t : List UInt8) : TkR w (wr.setCell ⟨g + 1, 7, none⟩ (.string (mkB t))) g { r with text := t } s e := by
  have far : ∀ j, j ≠ g + 1 → (wr.setCell ⟨g + 1, 7, none⟩ (.string (mkB t))).heap[j]? = wr.heap[j]? := fun j hj => heap_far _ _ _ hj
  exact ⟨h.hg, (far g (by omega)).trans h.hR, heap_set h.hM 7 _, (far (g + 1 + 1) (by omega)).trans h.hS, h.hW.setCell (by have := h.hg; dsimp only; omega) _, by rw [setCell_size]; exact h.hz⟩
theorem TkR.setS (h : TkR w wr g r s e) (s' e' : Value) : TkR w ((wr.setCell ⟨g + 1 + 1, 0, none⟩ s').setCell ⟨g + 1 + 1, 1, none⟩ e') g r s' e' := by
  have far : ∀ j, j ≠ g + 1 + 1 → ((wr.setCell ⟨g + 1 + 1, 0, none⟩ s').setCell ⟨g + 1 + 1, 1, none⟩ e').heap[j]? = wr.heap[j]? := fun j hj => (heap_far _ _ _ hj).trans (heap_far _ _ _ hj)
  exact ⟨h.hg, (far g (by omega)).trans h.hR, (far (g + 1) (by omega)).trans h.hM, heap_set (heap_set h.hS 0 s') 1 e', (h.hW.setCell (by have := h.hg; dsimp only; omega) _).setCell (by have := h.hg; dsimp only; omega) _, by rw [setCell_size, setCell_size]; exact h.hz⟩
/-- The answer's block set, at the end. -/
theorem TkR.setR (h : TkR w wr g r s e) (x : Rec) : (setRec wr g x).heap[g]? = some (recB x 26) ∧ Below w.heap.size w (setRec wr g x) :=
  ⟨setRec_heap h.hR, setRec_below h.hW (by have := h.hg; omega) _⟩
end
/-- Numbers in blocks that a store does not reach. -/
theorem NumsIn.set {w : World} {v : Value} {l : List Nat} (h : NumsIn w v l) (w' : World) (g : Nat) (hold : ∀ b off c, v = .slice (some ⟨b, off, none⟩) l.length c → g + 3 ≤ b) (hsz : w.heap.size ≤ w'.heap.size) (hfar : ∀ b, g + 3 ≤ b → w'.heap[b]? = w.heap[b]?) : NumsIn w' v l := by
  refine ⟨h.sq, fun i hi => ?_⟩
  obtain ⟨b, off, c, e, h1, h2⟩ := h.at_ i hi
  refine ⟨b, off, c, e, by omega, ?_⟩
  rw [← h2]
  have := hfar b (hold b off c e)
  simp [World.cell?, this]
/-- What Take leaves. -/
def TookR (r : Rec) (x : Int) (w : World) (e : Ending) (w' : World) : Prop := e = .returned (.tuple #[.agg #[.int .u8 (r.kind : Int), .int .i64 r.src, .int .u64 (r.seq : Int), .int .i64 r.at_, .int .i64 r.num, .int .i64 r.code, .bool r.yes, .string (mkB r.text)], .int .i64 x]) ∧ Below w.heap.size w w'
end Go.Proofs.YthnkiabhfcddaaaDoor
/-
  Contract of layer 7's reference: Take, the walk.
-/
namespace Go.Proofs.YthnkiabhfcddaaaDoor
open Go.RowKit
set_option linter.unusedVariables false

theorem noRec_cells {w : World} {g : Nat} {t : TypeId} (h : w.heap[g]? = some (recB noRec t)) : w.cell? ⟨g, 0, none⟩ = some (.int .u8 0) ∧ w.cell? ⟨g, 1, none⟩ = some (.int .i64 0) ∧ w.cell? ⟨g, 2, none⟩ = some (.int .u64 0) ∧ w.cell? ⟨g, 3, none⟩ = some (.int .i64 0) ∧ w.cell? ⟨g, 4, none⟩ = some (.int .i64 0) ∧ w.cell? ⟨g, 5, none⟩ = some (.int .i64 0) ∧ w.cell? ⟨g, 6, none⟩ = some (.bool false) ∧ w.cell? ⟨g, 7, none⟩ = some (.string (mkB [])) := by
  obtain ⟨h0, h1, h2, h3, h4, h5, h6, h7⟩ := recAt_blk h
  exact ⟨h0, h1, h2, h3, h4, h5, h6, h7⟩
set_option maxRecDepth 100000 in
set_option maxHeartbeats 1000000 in
theorem rtake7_none (k : Nat) (b : List UInt8) (w : World) (hk : k < 17 ∨ 32 < k) :
    Calls Tryd.prog 18 #[.int .u8 (k : Int), .string (mkB b)] w (TookR noRec 1 w) := by
  obtain ⟨x0, x1, x2, x3, x4, x5, x6, x7⟩ := recAt_blk (r := noRec) (heap_alloc_new w (recB noRec 26))
  unfold recB noRec at x0 x1 x2 x3 x4 x5 x6 x7
  dsimp only [Int.natCast_zero, Int.ofNat_zero] at x0 x1 x2 x3 x4 x5 x6 x7
  rcases hk with hk | hk
  · have k1 : (k : Int) < 17 := by omega
    go_enter Tryd.func18, Tryd.ntmps18
    go_wp2
    refine bodyPost_ret (v := .tuple #[.agg #[.int .u8 0, .int .i64 0, .int .u64 0, .int .i64 0, .int .i64 0, .int .i64 0, .bool false, .string { data := #[] }], .int .i64 1]) (by simp [results, Tryd.results18, go_sem]) rfl ?_
    exact ⟨rfl, bmore (bself w) _⟩
  · have k1 : ¬ (k : Int) < 17 := by omega
    have k2 : (k : Int) > 32 := by omega
    go_enter Tryd.func18, Tryd.ntmps18
    go_wp2
    refine bodyPost_ret (v := .tuple #[.agg #[.int .u8 0, .int .i64 0, .int .u64 0, .int .i64 0, .int .i64 0, .int .i64 0, .bool false, .string { data := #[] }], .int .i64 1]) (by simp [results, Tryd.results18, go_sem]) rfl ?_
    exact ⟨rfl, bmore (bself w) _⟩
set_option maxRecDepth 100000 in
set_option maxHeartbeats 1000000 in
theorem rtake7_some (k : Nat) (b : List UInt8) (w : World) (hk : 17 ≤ k ∧ k ≤ 32) (hl : b.length ≤ 100000) {x : Rec} {ex : Int} (hx : takeR k b = (x, ex)) :
    Calls Tryd.prog 18 #[.int .u8 (k : Int), .string (mkB b)] w (TookR x ex w) := by
  obtain ⟨g, hg⟩ : ∃ g, g = w.heap.size := ⟨_, rfl⟩
  have HT := Lib.hid (tkr_start w g hg { noRec with kind := k } (.string (mkB b)) (.int .i64 0))
  obtain ⟨fs, hfs⟩ : ∃ fs, orderR k = fs := ⟨_, rfl⟩
  have HO := Lib.hid (fun w => rorder_any k w)
  rw [hfs] at HO
  have HFI := Lib.hid (orderR_in k)
  rw [hfs] at HFI
  have HFL : Hid (fs.length ≤ 7) := Lib.hid (by rw [← hfs]; unfold orderR; split <;> first | simp | exact Nat.le_trans (List.length_filter_le _ _) (by simp))
  have HX : Hid (finR (fs.foldl stepR ({ noRec with kind := k }, b, 0, true)) = (x, ex)) := Lib.hid (by rw [← hx, ← hfs]; unfold takeR readR; rw [if_neg (by omega)])
  have HL := Lib.hid hl
  have k1 : ¬ (k : Int) < 17 := by omega
  have k2 : ¬ (k : Int) > 32 := by omega
  have hg2 := hg
  clear hg2 hx hfs hk hl
  go_enter Tryd.func18, Tryd.ntmps18
  go_upto_region 6 with (fail)
  rw [← hg]
  generalize hE : (((w.alloc (Obj.cells #[Value.int IntKind.u8 0, Value.int IntKind.i64 0, Value.int IntKind.u64 0, Value.int IntKind.i64 0, Value.int IntKind.i64 0, Value.int IntKind.i64 0, Value.bool false, Value.string { data := #[] }] 26)).alloc (Obj.cells #[Value.int IntKind.u8 (k : Int), Value.int IntKind.i64 0, Value.int IntKind.u64 0, Value.int IntKind.i64 0, Value.int IntKind.i64 0, Value.int IntKind.i64 0, Value.bool false, Value.string { data := #[] }] 26)).alloc (Obj.cells #[Value.string (mkB b), Value.int IntKind.i64 0] 75)) = wt
  have HT : Hid (TkR w wt g { noRec with kind := k } (.string (mkB b)) (.int .i64 0)) := Lib.hid (by rw [← hE]; exact HT.out)
  clear hE hg k1 k2
  go_upto_region 7 with (go_at_call 30; (with_reducible refine (HO.out _).mono ?_); rintro e w1 ⟨A1, c1, rfl, hv, hb, hn⟩; have HN : Hid (∀ p, A1 = some p → g + 3 ≤ p.block) := Lib.hid (fun p hp => Nat.le_trans HT.out.hz (hn p hp)); have HT := Lib.hid (HT.out.over hb); have HV := Lib.hid hv; clear hv hb hn)
  obtain ⟨m, hm⟩ : ∃ m, fs.length = m := ⟨_, rfl⟩
  rw [hm] at HV HFL ⊢
  have HM := Lib.hid hm
  have hm9 : (m : Int) ≤ 7 := by have := HFL.out; omega
  clear hm
  go_wp2
  go_loopw [8, 10] (fun fv i wr => ∃ (j : Nat), j ≤ m ∧ i = .int .i64 j ∧ ∃ ok, fv = .bool ok ∧ Hid (∃ r l e, (fs.take j).foldl stepR ({ noRec with kind := k }, b, 0, true) = (r, l, e, ok) ∧ TkR w wr g r (.string (mkB l)) (.int .i64 e) ∧ NumsIn wr (.slice A1 m c1) fs)) (fun _ i _ => m - (intOf i).toNat)
  case atStart => exact ⟨0, Nat.zero_le _, rfl, true, rfl, Lib.hid ⟨_, _, _, rfl, HT.out, HV.out⟩⟩
  case round =>
    obtain ⟨j, hj, rfl, ok, rfl, HP⟩ := hrel
    obtain ⟨r, l, e, p1, p2, p3⟩ := HP.out
    have HT := Lib.hid p2
    have HV := Lib.hid p3
    have HJ := Lib.hid p1
    clear HP p1 p2 p3
    by_cases hlt : j < m
    · skip
      have hjl : j < fs.length := by have := HM.out; omega
      have hlt2 : (j : Int) < (m : Int) := by omega
      have hll : l.length ≤ 100000 := by have := fold_len7 (fs.take j) ({ noRec with kind := k }, b, 0, true); rw [HJ.out] at this; have h := HL.out; dsimp only at this; omega
      obtain ⟨bb, off, c2, e2, hbb, hcell⟩ := HV.out.at_ j hjl
      simp only [Value.slice.injEq] at e2
      obtain ⟨rfl, hmm, rfl⟩ := e2
      clear hmm
      have HFO : Hid ((fs.take (j + 1)).foldl stepR ({ noRec with kind := k }, b, 0, true) = stepR (r, l, e, ok) fs[j]) := Lib.hid (by rw [fold_step7 fs j hjl, HJ.out])
      have HF := Lib.hid (HFI.out _ (List.getElem_mem hjl))
      have HNB : Hid (∀ b off' c, (Value.slice (some ⟨bb, off, none⟩) m c1) = .slice (some ⟨b, off', none⟩) fs.length c → g + 3 ≤ b) := Lib.hid (by intro b o c h; simp only [Value.slice.injEq, Option.some.injEq, Addr.mk.injEq] at h; rw [← h.1.1]; exact HN.out _ rfl)
      obtain ⟨f, hfe⟩ : ∃ f, fs[j] = f := ⟨_, rfl⟩
      rw [hfe] at HFO HF hcell
      have HFE := Lib.hid hfe
      clear hfe
      by_cases h7 : f = 7
      · skip
        have e7 : ((f : Int) == 7) = true := by simp [h7]
        rcases d1 : rdText l e 240 with ⟨t, l1, e1⟩
        have HC := Lib.hid (fun w => rtext_a7 l e w hll d1)
        have HST : Hid ((fs.take (j + 1)).foldl stepR ({ noRec with kind := k }, b, 0, true) = ({ r with text := t }, l1, e1, ok)) := Lib.hid (by rw [HFO.out]; unfold stepR; rw [if_pos h7]; dsimp only; rw [d1])
        clear d1 h7 hll HFO
        go_upto_region 11 with (fail)
        clear e7
        have s0 := (heap_cell HT.out.hS 0).trans rfl
        have s1 := (heap_cell HT.out.hS 1).trans rfl
        go_upto_region 12 with (go_at_call 38; (with_reducible refine (HC.out _).mono ?_); rintro e w1 ⟨rfl, hb⟩; have HT := Lib.hid (HT.out.over hb); have HV := Lib.hid (HV.out.over hb); clear hb s0 s1)
        obtain ⟨z, hz⟩ : ∃ z, z = w1.heap.size := ⟨_, rfl⟩
        have HB : Hid ((w1.alloc (.cells #[.string (mkB l1), .int .i64 e1] 75)).heap[z]? = some (.cells #[.string (mkB l1), .int .i64 e1] 75 (0, 0)) ∧ g + 3 ≤ z) := Lib.hid ⟨by rw [hz]; exact heap_alloc_new w1 _, by rw [hz]; exact HT.out.hz⟩
        have HT := Lib.hid (HT.out.over (bmore (bself w1) (.cells #[.string (mkB l1), .int .i64 e1] 75)))
        have HV := Lib.hid (HV.out.over (bmore (bself w1) (.cells #[.string (mkB l1), .int .i64 e1] 75)))
        rw [← hz]
        clear hz
        generalize w1.alloc (Obj.cells #[Value.string (mkB l1), Value.int IntKind.i64 e1] 75) = w2 at HT HV HB ⊢
        have f7 := heap_frozen HT.out.hM 7
        have m7 := (recAt_blk HT.out.hM).c7
        go_upto_region 13 with (fail)
        have HB := Lib.hid (And.intro ((heap_far _ _ _ (by have := HB.out.2; omega) : (w2.setCell ⟨g + 1, 7, none⟩ (.string (mkB t))).heap[z]? = w2.heap[z]?).trans HB.out.1) HB.out.2)
        have HV := Lib.hid (HV.out.set (w2.setCell ⟨g + 1, 7, none⟩ (.string (mkB t))) g HNB.out (by rw [setCell_size]; exact Nat.le_refl _) fun b hb => heap_far _ _ _ (by omega))
        have HT := Lib.hid (HT.out.setT t)
        generalize w2.setCell { block := g + 1, off := 7 } (Value.string (mkB t)) = w3 at HT HV HB ⊢
        clear f7 m7
        have z0 := (heap_cell HB.out.1 0).trans rfl
        have z1 := (heap_cell HB.out.1 1).trans rfl
        have c0 := (heap_cell HT.out.hS 0).trans rfl
        have c1 := (heap_cell HT.out.hS 1).trans rfl
        have f0 := heap_frozen HT.out.hS 0
        have f1 := heap_frozen HT.out.hS 1
        go_wp2
        have HV := Lib.hid (HV.out.set ((w3.setCell ⟨g + 1 + 1, 0, none⟩ (.string (mkB l1))).setCell ⟨g + 1 + 1, 1, none⟩ (.int .i64 e1)) g HNB.out (by rw [setCell_size, setCell_size]; exact Nat.le_refl _) fun b hb => (heap_far _ _ _ (by omega)).trans (heap_far _ _ _ (by omega)))
        have HT := Lib.hid (HT.out.setS (.string (mkB l1)) (.int .i64 e1))
        generalize (w3.setCell { block := g + 1 + 1, off := 0 } (Value.string (mkB l1))).setCell { block := g + 1 + 1, off := 1 } (Value.int IntKind.i64 e1) = w4 at HT HV ⊢
        clear f0 f1 z0 z1 c0 c1 HB
        have HP2 : Hid (∃ r l e, (fs.take (j + 1)).foldl stepR ({ noRec with kind := k }, b, 0, true) = (r, l, e, ok) ∧ TkR w w4 g r (.string (mkB l)) (.int .i64 e) ∧ NumsIn w4 (.slice (some ⟨bb, off, none⟩) m c1) fs) := Lib.hid ⟨_, _, _, HST.out, HT.out, HV.out⟩
        go_roundw
        case rel => exact ⟨j + 1, by omega, by go_num, ok, rfl, HP2⟩
        case measure => simp [intOf]; omega
      · skip
        have e7 : ((f : Int) == 7) = false := by rw [beq_eq_false_iff_ne]; omega
        have hf6 : 1 ≤ f ∧ f ≤ 6 := by have := HF.out; omega
        rcases d1 : rdNum l e with ⟨n, l1, e1⟩
        have HC := Lib.hid (fun w => rread_a7 l e w hll d1)
        have HMO := Lib.hid (fun w => rmost_any f w HF.out)
        have hmo := mostR_le f
        obtain ⟨mo, hmoe⟩ : ∃ mo, mostR f = mo := ⟨_, rfl⟩
        rw [hmoe] at HMO hmo
        go_upto_region 14 with (fail)
        clear e7
        have s0 := (heap_cell HT.out.hS 0).trans rfl
        have s1 := (heap_cell HT.out.hS 1).trans rfl
        go_upto_region 15 with (go_at_call 39; (with_reducible refine (HC.out _).mono ?_); rintro e w1 ⟨rfl, hb⟩; have HT := Lib.hid (HT.out.over hb); have HV := Lib.hid (HV.out.over hb); clear hb s0 s1)
        obtain ⟨z, hz⟩ : ∃ z, z = w1.heap.size := ⟨_, rfl⟩
        have HB : Hid ((w1.alloc (.cells #[.string (mkB l1), .int .i64 e1] 75)).heap[z]? = some (.cells #[.string (mkB l1), .int .i64 e1] 75 (0, 0)) ∧ g + 3 ≤ z) := Lib.hid ⟨by rw [hz]; exact heap_alloc_new w1 _, by rw [hz]; exact HT.out.hz⟩
        have HT := Lib.hid (HT.out.over (bmore (bself w1) (.cells #[.string (mkB l1), .int .i64 e1] 75)))
        have HV := Lib.hid (HV.out.over (bmore (bself w1) (.cells #[.string (mkB l1), .int .i64 e1] 75)))
        rw [← hz]
        clear hz
        generalize w1.alloc (Obj.cells #[Value.string (mkB l1), Value.int IntKind.i64 e1] 75) = w2 at HT HV HB ⊢
        have z0 := (heap_cell HB.out.1 0).trans rfl
        have z1 := (heap_cell HB.out.1 1).trans rfl
        have c0 := (heap_cell HT.out.hS 0).trans rfl
        have c1 := (heap_cell HT.out.hS 1).trans rfl
        have f0 := heap_frozen HT.out.hS 0
        have f1 := heap_frozen HT.out.hS 1
        go_upto_region 16 with (fail)
        have HV := Lib.hid (HV.out.set ((w2.setCell ⟨g + 1 + 1, 0, none⟩ (.string (mkB l1))).setCell ⟨g + 1 + 1, 1, none⟩ (.int .i64 e1)) g HNB.out (by rw [setCell_size, setCell_size]; exact Nat.le_refl _) fun b hb => (heap_far _ _ _ (by omega)).trans (heap_far _ _ _ (by omega)))
        have HT := Lib.hid (HT.out.setS (.string (mkB l1)) (.int .i64 e1))
        generalize (w2.setCell { block := g + 1 + 1, off := 0 } (Value.string (mkB l1))).setCell { block := g + 1 + 1, off := 1 } (Value.int IntKind.i64 e1) = w3 at HT HV ⊢
        clear f0 f1 z0 z1 c0 c1 HB
        obtain ⟨hbb2, hcell⟩ : bb < w3.heap.size ∧ w3.cell? ⟨bb, off + j, none⟩ = some (.int .i64 (f : Int)) := by
          obtain ⟨b2, o2, c2, e2, h1, h2⟩ := HV.out.at_ j hjl
          simp only [Value.slice.injEq, Option.some.injEq, Addr.mk.injEq, and_true] at e2
          obtain ⟨⟨rfl, rfl⟩, _⟩ := e2
          exact ⟨h1, by rw [h2, HFE.out]⟩
        by_cases hgt : mo < n
        · have hgt2 : (mo : Int) < (n : Int) := by omega
          have HST : Hid ((fs.take (j + 1)).foldl stepR ({ noRec with kind := k }, b, 0, true) = (r, l1, e1, false)) := Lib.hid (by rw [HFO.out]; unfold stepR; rw [if_neg h7]; dsimp only; rw [d1]; dsimp only; rw [if_pos (by rw [hmoe]; exact hgt)])
          clear d1 h7 hll HFO hmoe hmo hgt hf6
          go_wp2_with (go_at_call 40; (with_reducible refine (HMO.out _).mono ?_); rintro e w5 ⟨rfl, rfl⟩)
          have HP2 : Hid (∃ r l e, (fs.take (j + 1)).foldl stepR ({ noRec with kind := k }, b, 0, true) = (r, l, e, false) ∧ TkR w w5 g r (.string (mkB l)) (.int .i64 e) ∧ NumsIn w5 (.slice (some ⟨bb, off, none⟩) m c1) fs) := Lib.hid ⟨_, _, _, HST.out, HT.out, HV.out⟩
          go_roundw
          case rel => exact ⟨j + 1, by omega, by go_num, false, rfl, HP2⟩
          case measure => simp [intOf]; omega
        · have hgt2 : ¬ (mo : Int) < (n : Int) := by omega
          obtain ⟨x2, hx2⟩ : ∃ x2, withR r f n = x2 := ⟨_, rfl⟩
          have HST : Hid ((fs.take (j + 1)).foldl stepR ({ noRec with kind := k }, b, 0, true) = (x2, l1, e1, ok)) := Lib.hid (by rw [HFO.out]; unfold stepR; rw [if_neg h7]; dsimp only; rw [d1]; dsimp only; rw [if_neg (by rw [hmoe]; exact hgt), hx2])
          have HWI := Lib.hid (fun w => rwith_any r f n w hf6 (by rw [hmoe]; omega) hx2)
          clear d1 h7 hll HFO hmoe hmo hgt hf6 hx2
          go_upto_region 18 with (go_at_call 40; (with_reducible refine (HMO.out _).mono ?_); rintro e w5 ⟨rfl, rfl⟩)
          have HTd := Lib.hid (HT.out.over (bself w5).drew)
          have HVd := Lib.hid (HV.out.over (bself w5).drew)
          have hcelld := ((bself w5).drew.cell (p := ⟨bb, off + j, none⟩) hbb2).trans hcell
          obtain ⟨m0, m1, m2, m3, m4, m5, m6, m7⟩ := recAt_blk HTd.out.hM
          clear hcell
          refine wp_region_held_drew (S := fun _ => True) (by kernel_rfl) ?_ (fun hHeld => ?_)
          · (try dsimp only)
            try trivial
          refine wpAnyH_take (i := 1) (v := ?_) rfl (by kernel_rfl) (by kernel_rfl) (by kernel_rfl) (fun _ _ _ h => h) (Or.inl ⟨by rfl, ?_⟩) (by assumption) ?_
          rotate_left
          · intro w hSw
            (try dsimp only at hSw)
            go_simp
            try with_reducible rfl
          (try simp only [Act.put, List.getElem_toArray, List.getElem_cons_succ, List.getElem_cons_zero, List.setIfInBounds_toArray, List.set_cons_zero, List.set_cons_succ])
          refine wpAnyH_take (i := 2) (v := ?_) rfl (by kernel_rfl) (by kernel_rfl) (by kernel_rfl) (fun _ _ _ h => h) (Or.inl ⟨by rfl, ?_⟩) (by assumption) ?_
          rotate_left
          · intro w hSw
            (try dsimp only at hSw)
            go_simp
            try with_reducible rfl
          (try simp only [Act.put, List.getElem_toArray, List.getElem_cons_succ, List.getElem_cons_zero, List.setIfInBounds_toArray, List.set_cons_zero, List.set_cons_succ])
          refine wpAnyH_take (i := 3) (v := ?_) rfl (by kernel_rfl) (by kernel_rfl) (by kernel_rfl) (fun _ _ _ h => h) (Or.inl ⟨by rfl, ?_⟩) (by assumption) ?_
          rotate_left
          · intro w hSw
            (try dsimp only at hSw)
            go_simp
            try with_reducible rfl
          (try simp only [Act.put, List.getElem_toArray, List.getElem_cons_succ, List.getElem_cons_zero, List.setIfInBounds_toArray, List.set_cons_zero, List.set_cons_succ])
          refine wpAnyH_take (i := 5) (v := ?_) rfl (by kernel_rfl) (by kernel_rfl) (by kernel_rfl) (fun _ _ _ h => h) (Or.inl ⟨by rfl, ?_⟩) (by assumption) ?_
          rotate_left
          · intro w hSw
            (try dsimp only at hSw)
            go_simp
            try with_reducible rfl
          (try simp only [Act.put, List.getElem_toArray, List.getElem_cons_succ, List.getElem_cons_zero, List.setIfInBounds_toArray, List.set_cons_zero, List.set_cons_succ])
          refine wpAnyH_ready (rs := [0, 4]) (by kernel_rfl) (by simp) ?_
          refine AllReadyH.cons rfl (fun K hK => ?_) (AllReadyH.cons rfl (fun K hK => ?_) AllReadyH.nil)
          · go_simp
            refine hK.out _ _ ?_ (fun hHeld => ?_)
            · (try dsimp only)
              try trivial
            clear hK K
            (try simp only [Act.put, List.getElem_toArray, List.getElem_cons_succ, List.getElem_cons_zero, List.setIfInBounds_toArray, List.set_cons_zero, List.set_cons_succ])
            refine wpAnyH_ready (rs := [4]) (by kernel_rfl) (by simp) ?_
            refine AllReadyH.cons rfl (fun K hK => ?_) AllReadyH.nil
            go_simp
            refine hK.out _ _ ?_ (fun hHeld => ?_)
            · (try dsimp only)
              try trivial
            clear hK K
            (try simp only [Act.put, List.getElem_toArray, List.getElem_cons_succ, List.getElem_cons_zero, List.setIfInBounds_toArray, List.set_cons_zero, List.set_cons_succ])
            refine wpAnyH_ready (rs := [6]) (by kernel_rfl) (by simp) ?_
            refine AllReadyH.cons rfl (fun K hK => ?_) AllReadyH.nil
            go_simp
            (go_at_call 41; ((with_reducible refine (HWI.out _).mono ?_); rintro e w6 ⟨rfl, hb⟩; have HT6 := Lib.hid (HTd.out.over hb); have HV6 := Lib.hid (HVd.out.over hb); clear hb; obtain ⟨n0, n1, n2, n3, n4, n5, n6, n7⟩ := recAt_blk HT6.out.hM; obtain ⟨f0, f1, f2, f3, f4, f5, f6, f7⟩ := recFz_blk HT6.out.hM))
            go_wp2_with fail
            refine hK.out _ _ ?_ (fun hHeld => ?_)
            · (try dsimp only)
              try trivial
            clear hK K
            (try simp only [Act.put, List.getElem_toArray, List.getElem_cons_succ, List.getElem_cons_zero, List.setIfInBounds_toArray, List.set_cons_zero, List.set_cons_succ])
            refine wpAnyH_ready (rs := [7]) (by kernel_rfl) (by simp) ?_
            refine AllReadyH.cons rfl (fun K hK => ?_) AllReadyH.nil
            go_simp
            refine hK.out _ _ ?_ (fun hHeld => ?_)
            · (try dsimp only)
              try trivial
            clear hK K
            (try simp only [Act.put, List.getElem_toArray, List.getElem_cons_succ, List.getElem_cons_zero, List.setIfInBounds_toArray, List.set_cons_zero, List.set_cons_succ])
            refine wpAnyH_done (by kernel_rfl) ?_ _
            generalize hE : ((((((((w6.setCell { block := g + 1, off := 0 } (Value.int IntKind.u8 (x2.kind : Int))).setCell { block := g + 1, off := 1 } (Value.int IntKind.i64 x2.src)).setCell { block := g + 1, off := 2 } (Value.int IntKind.u64 (x2.seq : Int))).setCell { block := g + 1, off := 3 } (Value.int IntKind.i64 x2.at_)).setCell { block := g + 1, off := 4 } (Value.int IntKind.i64 x2.num)).setCell { block := g + 1, off := 5 } (Value.int IntKind.i64 x2.code)).setCell { block := g + 1, off := 6 } (Value.bool x2.yes)).setCell { block := g + 1, off := 7 } (Value.string (mkB x2.text))) = w7
            have HV := Lib.hid (HV6.out.set w7 g HNB.out (by rw [← hE, setCell_size, setCell_size, setCell_size, setCell_size, setCell_size, setCell_size, setCell_size, setCell_size]; exact Nat.le_refl _) fun b hb => by rw [← hE]; exact setRec_far w6 (g + 1) x2 b (by omega))
            have HT : Hid (TkR w w7 g x2 (.string (mkB l1)) (.int .i64 e1)) := Lib.hid (by rw [← hE]; exact HT6.out.setM x2)
            clear hE HT6 HV6 n0 n1 n2 n3 n4 n5 n6 n7 f0 f1 f2 f3 f4 f5 f6 f7
            have HP2 : Hid (∃ r l e, (fs.take (j + 1)).foldl stepR ({ noRec with kind := k }, b, 0, true) = (r, l, e, ok) ∧ TkR w w7 g r (.string (mkB l)) (.int .i64 e) ∧ NumsIn w7 (.slice (some ⟨bb, off, none⟩) m c1) fs) := Lib.hid ⟨_, _, _, HST.out, HT.out, HV.out⟩
            go_wp2
            go_roundw
            case rel => exact ⟨j + 1, by omega, by go_num, ok, rfl, HP2⟩
            case measure => simp [intOf]; omega
          · go_simp
            refine hK.out _ _ ?_ (fun hHeld => ?_)
            · (try dsimp only)
              try trivial
            clear hK K
            (try simp only [Act.put, List.getElem_toArray, List.getElem_cons_succ, List.getElem_cons_zero, List.setIfInBounds_toArray, List.set_cons_zero, List.set_cons_succ])
            refine wpAnyH_ready (rs := [0]) (by kernel_rfl) (by simp) ?_
            refine AllReadyH.cons rfl (fun K hK => ?_) AllReadyH.nil
            go_simp
            refine hK.out _ _ ?_ (fun hHeld => ?_)
            · (try dsimp only)
              try trivial
            clear hK K
            (try simp only [Act.put, List.getElem_toArray, List.getElem_cons_succ, List.getElem_cons_zero, List.setIfInBounds_toArray, List.set_cons_zero, List.set_cons_succ])
            refine wpAnyH_ready (rs := [6]) (by kernel_rfl) (by simp) ?_
            refine AllReadyH.cons rfl (fun K hK => ?_) AllReadyH.nil
            go_simp
            (go_at_call 41; ((with_reducible refine (HWI.out _).mono ?_); rintro e w6 ⟨rfl, hb⟩; have HT6 := Lib.hid (HTd.out.over hb); have HV6 := Lib.hid (HVd.out.over hb); clear hb; obtain ⟨n0, n1, n2, n3, n4, n5, n6, n7⟩ := recAt_blk HT6.out.hM; obtain ⟨f0, f1, f2, f3, f4, f5, f6, f7⟩ := recFz_blk HT6.out.hM))
            go_wp2_with fail
            refine hK.out _ _ ?_ (fun hHeld => ?_)
            · (try dsimp only)
              try trivial
            clear hK K
            (try simp only [Act.put, List.getElem_toArray, List.getElem_cons_succ, List.getElem_cons_zero, List.setIfInBounds_toArray, List.set_cons_zero, List.set_cons_succ])
            refine wpAnyH_ready (rs := [7]) (by kernel_rfl) (by simp) ?_
            refine AllReadyH.cons rfl (fun K hK => ?_) AllReadyH.nil
            go_simp
            refine hK.out _ _ ?_ (fun hHeld => ?_)
            · (try dsimp only)
              try trivial
            clear hK K
            (try simp only [Act.put, List.getElem_toArray, List.getElem_cons_succ, List.getElem_cons_zero, List.setIfInBounds_toArray, List.set_cons_zero, List.set_cons_succ])
            refine wpAnyH_done (by kernel_rfl) ?_ _
            generalize hE : ((((((((w6.setCell { block := g + 1, off := 0 } (Value.int IntKind.u8 (x2.kind : Int))).setCell { block := g + 1, off := 1 } (Value.int IntKind.i64 x2.src)).setCell { block := g + 1, off := 2 } (Value.int IntKind.u64 (x2.seq : Int))).setCell { block := g + 1, off := 3 } (Value.int IntKind.i64 x2.at_)).setCell { block := g + 1, off := 4 } (Value.int IntKind.i64 x2.num)).setCell { block := g + 1, off := 5 } (Value.int IntKind.i64 x2.code)).setCell { block := g + 1, off := 6 } (Value.bool x2.yes)).setCell { block := g + 1, off := 7 } (Value.string (mkB x2.text))) = w7
            have HV := Lib.hid (HV6.out.set w7 g HNB.out (by rw [← hE, setCell_size, setCell_size, setCell_size, setCell_size, setCell_size, setCell_size, setCell_size, setCell_size]; exact Nat.le_refl _) fun b hb => by rw [← hE]; exact setRec_far w6 (g + 1) x2 b (by omega))
            have HT : Hid (TkR w w7 g x2 (.string (mkB l1)) (.int .i64 e1)) := Lib.hid (by rw [← hE]; exact HT6.out.setM x2)
            clear hE HT6 HV6 n0 n1 n2 n3 n4 n5 n6 n7 f0 f1 f2 f3 f4 f5 f6 f7
            have HP2 : Hid (∃ r l e, (fs.take (j + 1)).foldl stepR ({ noRec with kind := k }, b, 0, true) = (r, l, e, ok) ∧ TkR w w7 g r (.string (mkB l)) (.int .i64 e) ∧ NumsIn w7 (.slice (some ⟨bb, off, none⟩) m c1) fs) := Lib.hid ⟨_, _, _, HST.out, HT.out, HV.out⟩
            go_wp2
            go_roundw
            case rel => exact ⟨j + 1, by omega, by go_num, ok, rfl, HP2⟩
            case measure => simp [intOf]; omega
    · skip
      have hlt2 : ¬ (j : Int) < (m : Int) := by omega
      have HX2 : Hid (finR (r, l, e, ok) = (x, ex)) := Lib.hid (by rw [← HX.out, ← HJ.out, show j = fs.length by have := HM.out; omega, List.take_length])
      obtain ⟨y, hy⟩ : ∃ y, rdEnd l e = y := ⟨_, rfl⟩
      have HEnd := Lib.hid (fun w => rend_a7 l e y w hy)
      have hx2 := HX2.out
      unfold finR at hx2
      dsimp only at hx2
      rw [hy] at hx2
      clear hy HX2 HX HJ
      go_upto_region 19 with (fail)
      clear hlt2
      have s0 := (heap_cell HT.out.hS 0).trans rfl
      have s1 := (heap_cell HT.out.hS 1).trans rfl
      by_cases hy0 : y = 0
      · have hy1 : (y != 0) = false := by rw [hy0]; rfl
        rw [if_pos hy0] at hx2
        clear hy0
        cases ok with
        | false =>
          rw [if_neg (by decide)] at hx2
          simp only [Prod.mk.injEq] at hx2
          obtain ⟨rfl, rfl⟩ := hx2
          go_upto_region 23 with (go_at_call 42; (with_reducible refine (HEnd.out _).mono ?_); rintro e wu ⟨rfl, hb⟩; have HT := Lib.hid (HT.out.over hb); clear hb s0 s1)
          obtain ⟨f0, f1, f2, f3, f4, f5, f6, f7⟩ := recFz_blk HT.out.hR
          obtain ⟨n0, n1, n2, n3, n4, n5, n6, n7⟩ := noRec_cells HT.out.hR
          go_wp2
          generalize hE : ((((((((wu.setCell { block := g, off := 0 } (Value.int IntKind.u8 0)).setCell { block := g, off := 1 } (Value.int IntKind.i64 0)).setCell { block := g, off := 2 } (Value.int IntKind.u64 0)).setCell { block := g, off := 3 } (Value.int IntKind.i64 0)).setCell { block := g, off := 4 } (Value.int IntKind.i64 0)).setCell { block := g, off := 5 } (Value.int IntKind.i64 0)).setCell { block := g, off := 6 } (Value.bool false)).setCell { block := g, off := 7 } (Value.string { data := #[] })) = wv
          have HZ : Hid (wv.heap[g]? = some (recB noRec 26) ∧ Below w.heap.size w wv) := Lib.hid (by rw [← hE]; exact HT.out.setR noRec)
          clear f0 f1 f2 f3 f4 f5 f6 f7 n0 n1 n2 n3 n4 n5 n6 n7 hE
          obtain ⟨m0, m1, m2, m3, m4, m5, m6, m7⟩ := noRec_cells HZ.out.1
          refine bodyPost_ret (v := .tuple #[.agg #[.int .u8 0, .int .i64 0, .int .u64 0, .int .i64 0, .int .i64 0, .int .i64 0, .bool false, .string (mkB [])], .int .i64 11]) (by simp [results, Tryd.results18, go_sem, m0, m1, m2, m3, m4, m5, m6, m7]) rfl ?_
          exact ⟨rfl, HZ.out.2⟩
        | true =>
          rw [if_pos rfl] at hx2
          simp only [Prod.mk.injEq] at hx2
          obtain ⟨rfl, rfl⟩ := hx2
          go_upto_region 24 with (go_at_call 42; (with_reducible refine (HEnd.out _).mono ?_); rintro e wu ⟨rfl, hb⟩; have HT := Lib.hid (HT.out.over hb); clear hb s0 s1)
          obtain ⟨y0, y1, y2, y3, y4, y5, y6, y7⟩ := recAt_blk HT.out.hM
          obtain ⟨f0, f1, f2, f3, f4, f5, f6, f7⟩ := recFz_blk HT.out.hR
          obtain ⟨n0, n1, n2, n3, n4, n5, n6, n7⟩ := noRec_cells HT.out.hR
          go_wp2
          generalize hE : ((((((((wu.setCell { block := g, off := 0 } (Value.int IntKind.u8 (r.kind : Int))).setCell { block := g, off := 1 } (Value.int IntKind.i64 r.src)).setCell { block := g, off := 2 } (Value.int IntKind.u64 (r.seq : Int))).setCell { block := g, off := 3 } (Value.int IntKind.i64 r.at_)).setCell { block := g, off := 4 } (Value.int IntKind.i64 r.num)).setCell { block := g, off := 5 } (Value.int IntKind.i64 r.code)).setCell { block := g, off := 6 } (Value.bool r.yes)).setCell { block := g, off := 7 } (Value.string (mkB r.text))) = wv
          have HZ : Hid (wv.heap[g]? = some (recB r 26) ∧ Below w.heap.size w wv) := Lib.hid (by rw [← hE]; exact HT.out.setR r)
          clear f0 f1 f2 f3 f4 f5 f6 f7 n0 n1 n2 n3 n4 n5 n6 n7 hE
          obtain ⟨m0, m1, m2, m3, m4, m5, m6, m7⟩ := recAt_blk HZ.out.1
          refine bodyPost_ret (v := .tuple #[.agg #[.int .u8 (r.kind : Int), .int .i64 r.src, .int .u64 (r.seq : Int), .int .i64 r.at_, .int .i64 r.num, .int .i64 r.code, .bool r.yes, .string (mkB r.text)], .int .i64 0]) (by simp [results, Tryd.results18, go_sem, m0, m1, m2, m3, m4, m5, m6, m7]) rfl ?_
          exact ⟨rfl, HZ.out.2⟩
      · have hy1 : (y != 0) = true := by simp [hy0]
        rw [if_neg hy0] at hx2
        simp only [Prod.mk.injEq] at hx2
        obtain ⟨rfl, rfl⟩ := hx2
        clear hy0
        go_upto_region 21 with (go_at_call 42; (with_reducible refine (HEnd.out _).mono ?_); rintro e wu ⟨rfl, hb⟩; have HT := Lib.hid (HT.out.over hb); clear hb s0 s1)
        obtain ⟨f0, f1, f2, f3, f4, f5, f6, f7⟩ := recFz_blk HT.out.hR
        obtain ⟨n0, n1, n2, n3, n4, n5, n6, n7⟩ := noRec_cells HT.out.hR
        go_wp2
        generalize hE : ((((((((wu.setCell { block := g, off := 0 } (Value.int IntKind.u8 0)).setCell { block := g, off := 1 } (Value.int IntKind.i64 0)).setCell { block := g, off := 2 } (Value.int IntKind.u64 0)).setCell { block := g, off := 3 } (Value.int IntKind.i64 0)).setCell { block := g, off := 4 } (Value.int IntKind.i64 0)).setCell { block := g, off := 5 } (Value.int IntKind.i64 0)).setCell { block := g, off := 6 } (Value.bool false)).setCell { block := g, off := 7 } (Value.string { data := #[] })) = wv
        have HZ : Hid (wv.heap[g]? = some (recB noRec 26) ∧ Below w.heap.size w wv) := Lib.hid (by rw [← hE]; exact HT.out.setR noRec)
        clear f0 f1 f2 f3 f4 f5 f6 f7 n0 n1 n2 n3 n4 n5 n6 n7 hE
        obtain ⟨m0, m1, m2, m3, m4, m5, m6, m7⟩ := noRec_cells HZ.out.1
        refine bodyPost_ret (v := .tuple #[.agg #[.int .u8 0, .int .i64 0, .int .u64 0, .int .i64 0, .int .i64 0, .int .i64 0, .bool false, .string (mkB [])], .int .i64 y]) (by simp [results, Tryd.results18, go_sem, m0, m1, m2, m3, m4, m5, m6, m7]) rfl ?_
        exact ⟨rfl, HZ.out.2⟩
theorem rtake7_any (k : Nat) (b : List UInt8) (w : World) (hl : b.length ≤ 100000) {x : Rec} {ex : Int} (hx : takeR k b = (x, ex)) :
    Calls Tryd.prog 18 #[.int .u8 (k : Int), .string (mkB b)] w (TookR x ex w) := by
  by_cases hk : k < 17 ∨ 32 < k
  · unfold takeR at hx
    rw [if_pos hk] at hx
    simp only [Prod.mk.injEq] at hx
    obtain ⟨rfl, rfl⟩ := hx
    exact rtake7_none k b w hk
  · exact rtake7_some k b w (by omega) hl hx
end Go.Proofs.YthnkiabhfcddaaaDoor
