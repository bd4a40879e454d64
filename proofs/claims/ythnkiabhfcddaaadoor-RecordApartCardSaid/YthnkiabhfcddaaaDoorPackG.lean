/-
  Texts of the proofs, put together: RecShow, RecBox, RecTab, RecNum, RecAlw, RecEq, RefHas, PlainSeven.
-/
import Derived.Test.YthnkiabhfcddaaaDoorRecMath
import Derived.Test.YthnkiabhfcddaaaDoorDigMath
import Derived.Test.YthnkiabhfcddaaaDoorPackC
import Derived.Test.YthnkiabhfcddaaaDoorPackA
import Derived.Test.YthnkiabhfcddaaaDoorPackD
import Derived.IntWalk
import Derived.Laws.StructEq
/-
  Layer 7, plain mathematics: all records of bytes; a record as a text.
-/
namespace Go.Proofs.YthnkiabhfcddaaaDoor
set_option linter.unusedVariables false

/-! All records of items. -/
def allR : List It → List Rec → List Rec × Int
  | [], acc => (acc, 0)
  | x :: l, acc => if 0 < x.skip then ([], 11) else if (takeR x.kind.toNat x.body).2 = 0 then allR l (acc ++ [(takeR x.kind.toNat x.body).1]) else ([], (takeR x.kind.toNat x.body).2)
def frsR (rs : List Rec) : List (UInt8 × List UInt8) := (rs.filter mayR).map fun r => (UInt8.ofNat r.kind, bodyR r)
def putR (r : Rec) : List UInt8 := if mayR r then putF (UInt8.ofNat r.kind) (bodyR r) else []
theorem field_len (r : Rec) (f : Nat) (h : f ≠ 7) (hn : numR r f ≤ 18446744073709551615) : (fieldR r f).length ≤ 9 := by
  unfold fieldR
  rw [if_neg h]
  exact (enc_len _ hn).2
theorem body_len {r : Rec} (h : mayR r = true) (hin : r.In) : (bodyR r).length ≤ 249 := by
  obtain ⟨hk, _, _, _, _, t0, _⟩ := (mayR_iff r).1 h
  have hm := may_nums h hin
  have hb : ∀ fs : List Nat, (∀ f ∈ fs, f ≤ 6) → (fs.flatMap (fieldR r)).length ≤ 9 * fs.length := by
    intro fs
    induction fs with
    | nil => simp
    | cons f fs ih =>
      intro hf
      have h1 := field_len r f (by have := hf f (by simp); omega) (Nat.le_trans (hm f (hf f (by simp))) (mostR_le f))
      have h2 := ih fun g hg => hf g (by simp [hg])
      rw [List.flatMap_cons, List.length_append, List.length_cons]
      omega
  unfold bodyR
  by_cases h32 : r.kind = 32
  · rw [h32, order_32]
    have := enc_len r.text.length (by omega)
    simp [fieldR]
    omega
  · have h6 : ∀ f ∈ orderR r.kind, f ≤ 6 := fun f hf => by
      have h1 := orderR_in _ f hf
      have h2 := (orderR_has r.kind f h1).1 hf
      by_cases h7 : f = 7
      · subst h7; simp [hasR] at h2; exact absurd h2 h32
      · omega
    have hl : (orderR r.kind).length ≤ 7 := by
      unfold orderR
      split
      · simp
      · exact Nat.le_trans (List.length_filter_le _ _) (by simp)
    have := hb _ h6
    omega
theorem frsR_small (rs : List Rec) (h : ∀ r ∈ rs, r.In) : ∀ f ∈ frsR rs, f.2.length ≤ 256 := by
  intro f hf
  obtain ⟨r, hr, rfl⟩ := List.mem_map.1 hf
  obtain ⟨h1, h2⟩ := List.mem_filter.1 hr
  have := body_len h2 (h r h1)
  dsimp only
  omega
theorem flat_frsR : ∀ rs : List Rec, (rs.map putR).flatten = putsF (frsR rs)
  | [] => rfl
  | r :: rs => by
    rw [List.map_cons, List.flatten_cons, flat_frsR rs]
    cases hr : mayR r with
    | false =>
      have e : frsR (r :: rs) = frsR rs := by unfold frsR; rw [List.filter_cons_of_neg (by rw [hr]; exact Bool.false_ne_true)]
      rw [e]; unfold putR; rw [hr]; rfl
    | true =>
      have e : frsR (r :: rs) = (UInt8.ofNat r.kind, bodyR r) :: frsR rs := by unfold frsR; rw [List.filter_cons_of_pos hr]; rfl
      rw [e]; unfold putR; rw [hr]; rfl
theorem all_back : ∀ (rs acc : List Rec), (∀ r ∈ rs, mayR r = true ∧ r.In) → allR (framesI (rs.map fun r => (UInt8.ofNat r.kind, bodyR r))) acc = (acc ++ rs, 0)
  | [], acc, _ => by simp [framesI, allR]
  | r :: rs, acc, h => by
    obtain ⟨h1, h2⟩ := h r (by simp)
    have hk : (UInt8.ofNat r.kind).toNat = r.kind := by have := h2.1; simp; omega
    have ih := all_back rs (acc ++ [r]) fun x hx => h x (by simp [hx])
    show allR (⟨0, UInt8.ofNat r.kind, bodyR r⟩ :: framesI (rs.map fun r => (UInt8.ofNat r.kind, bodyR r))) acc = _
    rw [allR, if_neg (by simp)]
    dsimp only
    rw [hk, rec_back h1 h2, if_pos rfl, ih]
    simp
/-- All of the bytes of records that are put one behind the other. -/
theorem all_frsR (rs : List Rec) (h : ∀ r ∈ rs, r.In) : allR (allI (rs.map putR).flatten) [] = (rs.filter mayR, 0) := by
  rw [flat_frsR, all_puts _ (frsR_small rs h)]
  have := all_back (rs.filter mayR) [] fun r hr => ⟨(List.mem_filter.1 hr).2, h r (List.mem_filter.1 hr).1⟩
  rw [List.nil_append] at this
  exact this

/-! A record as a text. -/
/-- A kind's word. -/
def wordR (k : Nat) : List UInt8 :=
  if k = 17 then [109, 97, 108, 102, 111, 114, 109, 101, 100]
  else if k = 18 then [119, 114, 111, 110, 103]
  else if k = 19 then [114, 101, 102, 117, 115, 101, 100]
  else if k = 20 then [114, 101, 106, 101, 99, 116, 101, 100]
  else if k = 21 then [115, 104, 101, 100]
  else if k = 22 then [108, 97, 116, 101]
  else if k = 23 then [97, 99, 99, 101, 112, 116, 101, 100]
  else if k = 24 then [103, 97, 112]
  else if k = 25 then [115, 117, 115, 112, 101, 99, 116]
  else if k = 26 then [114, 101, 106, 111, 105, 110]
  else if k = 27 then [111, 118, 101, 114, 102, 108, 111, 119]
  else if k = 28 then [112, 114, 111, 118, 105, 115, 105, 111, 110, 97, 108]
  else if k = 29 then [114, 101, 116, 114, 97, 99, 116, 105, 111, 110]
  else if k = 30 then [102, 105, 110, 97, 108]
  else if k = 31 then [108, 97, 116, 101, 110, 99, 121]
  else [115, 117, 109, 109, 97, 114, 121]
/-- A field as a text. -/
def tokR (r : Rec) (f : Nat) : List UInt8 :=
  if f = 7 then r.text else if f = 6 then (if r.yes = true then [121, 101, 115] else [110, 111]) else Lib.decDigits (numR r f)
def showR (r : Rec) : List UInt8 := if mayR r then wordR r.kind ++ (orderR r.kind).flatMap (fun f => 32 :: tokR r f) else []

/-! Unlike records have unlike texts. -/
theorem word_no : ∀ k, 17 ≤ k ∧ k ≤ 32 → ∀ c ∈ wordR k, c ≠ 32 := by
  intro k hk
  rcases kinds_cases hk with rfl | rfl | rfl | rfl | rfl | rfl | rfl | rfl | rfl | rfl | rfl | rfl | rfl | rfl | rfl | rfl <;> decide
theorem word_inj {j k : Nat} (hj : 17 ≤ j ∧ j ≤ 32) (hk : 17 ≤ k ∧ k ≤ 32) (h : wordR j = wordR k) : j = k := by
  rcases kinds_cases hj with rfl | rfl | rfl | rfl | rfl | rfl | rfl | rfl | rfl | rfl | rfl | rfl | rfl | rfl | rfl | rfl <;>
  rcases kinds_cases hk with rfl | rfl | rfl | rfl | rfl | rfl | rfl | rfl | rfl | rfl | rfl | rfl | rfl | rfl | rfl | rfl <;>
  first | rfl | (exfalso; revert h; decide)
/-- Two texts that go up to a blank, or to the end. -/
theorem upto_blank : ∀ {a b x y : List UInt8}, (∀ c ∈ a, c ≠ 32) → (∀ c ∈ b, c ≠ 32) → (x = [] ∨ ∃ t, x = 32 :: t) → (y = [] ∨ ∃ t, y = 32 :: t) → a ++ x = b ++ y → a = b ∧ x = y
  | [], [], x, y, _, _, _, _, h => ⟨rfl, h⟩
  | [], d :: b, x, y, _, hb, hx, _, h => by
    exfalso
    rcases hx with rfl | ⟨t, rfl⟩
    · simp at h
    · simp at h
      exact hb d (by simp) h.1.symm
  | c :: a, [], x, y, ha, _, _, hy, h => by
    exfalso
    rcases hy with rfl | ⟨t, rfl⟩
    · simp at h
    · simp at h
      exact ha c (by simp) h.1
  | c :: a, d :: b, x, y, ha, hb, hx, hy, h => by
    simp only [List.cons_append, List.cons.injEq] at h
    obtain ⟨rfl, h⟩ := h
    obtain ⟨e1, e2⟩ := upto_blank (fun z hz => ha z (by simp [hz])) (fun z hz => hb z (by simp [hz])) hx hy h
    exact ⟨by rw [e1], e2⟩
theorem toks_head (r : Rec) (fs : List Nat) : fs.flatMap (fun f => 32 :: tokR r f) = [] ∨ ∃ t, fs.flatMap (fun f => 32 :: tokR r f) = 32 :: t := by
  cases fs with
  | nil => exact .inl rfl
  | cons f fs => exact .inr ⟨_, rfl⟩
theorem tok_no {r : Rec} (ht : r.text = []) (f : Nat) : ∀ c ∈ tokR r f, c ≠ 32 := by
  unfold tokR
  split
  · rw [ht]; simp
  · split
    · split <;> decide
    · exact dec_no _
theorem toks_inj {a b : Rec} (ha : a.text = []) (hb : b.text = []) : ∀ fs : List Nat, fs.flatMap (fun f => 32 :: tokR a f) = fs.flatMap (fun f => 32 :: tokR b f) → ∀ f ∈ fs, tokR a f = tokR b f
  | [], _ => by simp
  | f :: fs, h => by
    simp only [List.flatMap_cons, List.cons_append, List.cons.injEq, true_and] at h
    obtain ⟨h1, h2⟩ := upto_blank (tok_no ha f) (tok_no hb f) (toks_head a fs) (toks_head b fs) h
    have ih := toks_inj ha hb fs h2
    intro g hg
    rcases List.mem_cons.1 hg with rfl | hg
    · exact h1
    · exact ih g hg
theorem show_inj {a b : Rec} (ma : mayR a = true) (mb : mayR b = true) (ha : a.text = []) (hb : b.text = []) (h : showR a = showR b) : a = b := by
  unfold showR at h
  rw [if_pos ma, if_pos mb] at h
  obtain ⟨ka, ⟨sa, _⟩, aa, na, ⟨ca, _⟩, _, x1, x2, x3, x4, x5, x6, _⟩ := (mayR_iff a).1 ma
  obtain ⟨kb, ⟨sb, _⟩, ab, nb, ⟨cb, _⟩, _, y1, y2, y3, y4, y5, y6, _⟩ := (mayR_iff b).1 mb
  obtain ⟨h1, h2⟩ := upto_blank (word_no _ ka) (word_no _ kb) (toks_head a _) (toks_head b _) h
  have hk := word_inj ka kb h1
  rw [← hk] at h2 y1 y2 y3 y4 y5 y6
  have ht := toks_inj ha hb _ h2
  refine agree_ext hk fun f hf => ?_
  cases hh : hasR a.kind f with
  | true =>
    have e := ht f ((orderR_has _ f hf).2 hh)
    by_cases h7 : f = 7
    · subst h7; simp [Agree, ha, hb]
    · by_cases h6 : f = 6
      · subst h6
        simp only [tokR, Agree] at e ⊢
        cases hya : a.yes <;> cases hyb : b.yes <;> simp_all
      · unfold tokR at e
        rw [if_neg h7, if_neg h6, if_neg h7, if_neg h6] at e
        have en := dec_inj e
        rcases (show f = 1 ∨ f = 2 ∨ f = 3 ∨ f = 4 ∨ f = 5 by omega) with rfl | rfl | rfl | rfl | rfl <;> simp [numR, Agree] at en ⊢ <;> omega
  | false =>
    rcases (show f = 1 ∨ f = 2 ∨ f = 3 ∨ f = 4 ∨ f = 5 ∨ f = 6 ∨ f = 7 by omega) with rfl | rfl | rfl | rfl | rfl | rfl | rfl
    · rw [hh] at x1 y1; simp [Agree] at *; omega
    · rw [hh] at x2 y2; simp [Agree] at *; omega
    · rw [hh] at x3 y3; simp [Agree] at *; omega
    · rw [hh] at x4 y4; simp [Agree] at *; omega
    · rw [hh] at x5 y5; simp [Agree] at *; omega
    · rw [hh] at x6 y6; simp at x6 y6; simp [Agree, x6, y6]
    · simp [Agree, ha, hb]
theorem show_some {r : Rec} (h : mayR r = true) : showR r ≠ [] := by
  obtain ⟨hk, _⟩ := (mayR_iff r).1 h
  unfold showR
  rw [if_pos h]
  intro e
  have := (List.append_eq_nil_iff.1 e).1
  rcases kinds_cases hk with h | h | h | h | h | h | h | h | h | h | h | h | h | h | h | h <;> rw [h] at this <;> simp [wordR] at this
end Go.Proofs.YthnkiabhfcddaaaDoor
/-
  Layer 7: a record in memory.
-/
namespace Go.Proofs.YthnkiabhfcddaaaDoor
open Go.RowKit
set_option linter.unusedVariables false

/-- A record's cells at an address. -/
structure RecAt (w : World) (b o : Nat) (r : Rec) : Prop where
  c0 : w.cell? ⟨b, o, none⟩ = some (.int .u8 (r.kind : Int))
  c1 : w.cell? ⟨b, o + 1, none⟩ = some (.int .i64 r.src)
  c2 : w.cell? ⟨b, o + 2, none⟩ = some (.int .u64 (r.seq : Int))
  c3 : w.cell? ⟨b, o + 3, none⟩ = some (.int .i64 r.at_)
  c4 : w.cell? ⟨b, o + 4, none⟩ = some (.int .i64 r.num)
  c5 : w.cell? ⟨b, o + 5, none⟩ = some (.int .i64 r.code)
  c6 : w.cell? ⟨b, o + 6, none⟩ = some (.bool r.yes)
  c7 : w.cell? ⟨b, o + 7, none⟩ = some (.string (mkB r.text))
theorem RecAt.over {w w' : World} {b o B : Nat} {r : Rec} (h : RecAt w b o r) (hb : b < B) (hB : Below B w w') : RecAt w' b o r :=
  ⟨(hB.cell (p := ⟨b, o, none⟩) hb).trans h.c0, (hB.cell (p := ⟨b, o + 1, none⟩) hb).trans h.c1, (hB.cell (p := ⟨b, o + 2, none⟩) hb).trans h.c2, (hB.cell (p := ⟨b, o + 3, none⟩) hb).trans h.c3, (hB.cell (p := ⟨b, o + 4, none⟩) hb).trans h.c4, (hB.cell (p := ⟨b, o + 5, none⟩) hb).trans h.c5, (hB.cell (p := ⟨b, o + 6, none⟩) hb).trans h.c6, (hB.cell (p := ⟨b, o + 7, none⟩) hb).trans h.c7⟩
def recB (r : Rec) (t : TypeId) : Obj := .cells #[.int .u8 (r.kind : Int), .int .i64 r.src, .int .u64 (r.seq : Int), .int .i64 r.at_, .int .i64 r.num, .int .i64 r.code, .bool r.yes, .string (mkB r.text)] t
theorem recAt_blk {w : World} {g : Nat} {r : Rec} {t : TypeId} (h : w.heap[g]? = some (recB r t)) : RecAt w g 0 r :=
  ⟨by rw [heap_cell h]; rfl, by rw [heap_cell h]; rfl, by rw [heap_cell h]; rfl, by rw [heap_cell h]; rfl, by rw [heap_cell h]; rfl, by rw [heap_cell h]; rfl, by rw [heap_cell h]; rfl, by rw [heap_cell h]; rfl⟩
/-- A record as a value. -/
def recV (r : Rec) : Value := .agg #[.int .u8 (r.kind : Int), .int .i64 r.src, .int .u64 (r.seq : Int), .int .i64 r.at_, .int .i64 r.num, .int .i64 r.code, .bool r.yes, .string (mkB r.text)]
end Go.Proofs.YthnkiabhfcddaaaDoor
/-
  Layer 7, the landed code: the table of kinds, and shapeOf.
-/
namespace Go.Proofs.YthnkiabhfcddaaaDoor
open Go.RowKit
set_option linter.unusedVariables false

/-- A kind's j-th field; 0: it has none there. -/
def padR (k j : Nat) : Nat := (orderR k).getD j 0
/-- The table's cells of a kind. -/
def ShapAt (W : World) (k : Nat) : Prop :=
  W.cell? ⟨0, (k - 17) * 5, none⟩ = some (.string (mkB (wordR k))) ∧
  W.cell? ⟨0, (k - 17) * 5 + 1, none⟩ = some (.int .i64 (padR k 0 : Nat)) ∧ W.cell? ⟨0, (k - 17) * 5 + 2, none⟩ = some (.int .i64 (padR k 1 : Nat)) ∧
  W.cell? ⟨0, (k - 17) * 5 + 3, none⟩ = some (.int .i64 (padR k 2 : Nat)) ∧ W.cell? ⟨0, (k - 17) * 5 + 4, none⟩ = some (.int .i64 (padR k 3 : Nat))
/-- The table of kinds reads as its initialiser lays it. -/
def Shaps (W : World) : Prop := 0 < W.heap.size ∧ ∀ k, 17 ≤ k ∧ k ≤ 32 → ShapAt W k
theorem Shaps.over {W w : World} (h : Shaps W) (hW : Below W.heap.size W w) : Shaps w := by
  refine ⟨Nat.lt_of_lt_of_le h.1 hW.size, fun k hk => ?_⟩
  have c : ∀ o, w.cell? ⟨0, o, none⟩ = W.cell? ⟨0, o, none⟩ := fun o => hW.cell (p := ⟨0, o, none⟩) h.1
  unfold ShapAt
  rw [c, c, c, c, c]
  exact h.2 k hk
theorem padR_7 (k j : Nat) : padR k j ≤ 7 := by
  unfold padR
  by_cases h : j < (orderR k).length
  · rw [show (orderR k).getD j 0 = (orderR k)[j] by simp [List.getD, h]]
    exact (orderR_in k _ (List.getElem_mem h)).2
  · rw [show (orderR k).getD j 0 = 0 by simp [List.getD, Nat.not_lt.1 h]]; omega
/-- A kind's shape as a value. -/
def shapV (k : Nat) : Value := .agg #[.string (mkB (wordR k)), .int .i64 (padR k 0 : Nat), .int .i64 (padR k 1 : Nat), .int .i64 (padR k 2 : Nat), .int .i64 (padR k 3 : Nat)]
def noShap : Value := .agg #[.string (mkB []), .int .i64 0, .int .i64 0, .int .i64 0, .int .i64 0]

set_option maxRecDepth 100000 in
theorem shape_yes (k : Nat) (w : World) (hk : 17 ≤ k ∧ k ≤ 32) (hT : Shaps w) :
    Calls Tryd.prog 21 #[.int .u8 (k : Int)] w fun e w' => e = .returned (.tuple #[shapV k, .bool true]) ∧ Below w.heap.size w w' := by
  obtain ⟨hg, hk2⟩ := hT
  obtain ⟨q0, q1, q2, q3, q4⟩ := hk2 k hk
  obtain ⟨j, rfl⟩ : ∃ j, k = 17 + j := ⟨k - 17, by omega⟩
  rw [Nat.add_sub_cancel_left] at q0 q1 q2 q3 q4
  obtain ⟨t, ht⟩ : ∃ t, shapV (17 + j) = t := ⟨_, rfl⟩
  rw [ht]
  unfold shapV at ht
  generalize wordR (17 + j) = wd at q0 ht
  generalize padR (17 + j) 0 = f0 at q1 ht
  generalize padR (17 + j) 1 = f1 at q2 ht
  generalize padR (17 + j) 2 = f2 at q3 ht
  generalize padR (17 + j) 3 = f3 at q4 ht
  have HT := Lib.hid ht
  have hj : j < 16 := by omega
  have hb := bmore (bself w) (.cells #[.string ⟨#[]⟩, .int .i64 0, .int .i64 0, .int .i64 0, .int .i64 0] 52)
  have c := fun o => hb.cell (p := ⟨0, o, none⟩) hg
  have r0 := (c _).trans q0
  have r1 := (c _).trans q1
  have r2 := (c _).trans q2
  have r3 := (c _).trans q3
  have r4 := (c _).trans q4
  have HB := Lib.hid hb
  have k1 : ¬ (17 + (j : Int)) < 17 := by omega
  have k2 : ¬ (17 + (j : Int)) > 32 := by omega
  clear hb c q0 q1 q2 q3 q4 ht hk2 hk
  go_enter Tryd.func21, Tryd.ntmps21
  go_wp2
  have x := heap_alloc_new w (.cells #[.string (mkB wd), .int .i64 (f0 : Nat), .int .i64 (f1 : Nat), .int .i64 (f2 : Nat), .int .i64 (f3 : Nat)] 52)
  have x0 := heap_cell x 0
  have x1 := heap_cell x 1
  have x2 := heap_cell x 2
  have x3 := heap_cell x 3
  have x4 := heap_cell x 4
  refine bodyPost_ret (v := .tuple #[.agg #[.string (mkB wd), .int .i64 (f0 : Nat), .int .i64 (f1 : Nat), .int .i64 (f2 : Nat), .int .i64 (f3 : Nat)], .bool true]) (by simp [results, Tryd.results21, go_sem, x0, x1, x2, x3, x4]) rfl ?_
  exact ⟨by rw [HT.out], bmore (bself w) _⟩
set_option maxRecDepth 100000 in
theorem shape_no (k : Nat) (w : World) (hk : k < 17 ∨ 32 < k) :
    Calls Tryd.prog 21 #[.int .u8 (k : Int)] w fun e w' => e = .returned (.tuple #[noShap, .bool false]) ∧ Below w.heap.size w w' := by
  rcases hk with hk | hk
  · have k1 : (k : Int) < 17 := by omega
    go_enter Tryd.func21, Tryd.ntmps21
    go_wp2
    refine bodyPost_ret (v := .tuple #[noShap, .bool false]) (by simp [results, Tryd.results21, go_sem, noShap, mkB]) rfl ?_
    exact ⟨rfl, bmore (bself w) _⟩
  · have k1 : ¬ (k : Int) < 17 := by omega
    have k2 : (k : Int) > 32 := by omega
    go_enter Tryd.func21, Tryd.ntmps21
    go_wp2
    refine bodyPost_ret (v := .tuple #[noShap, .bool false]) (by simp [results, Tryd.results21, go_sem, noShap, mkB]) rfl ?_
    exact ⟨rfl, bmore (bself w) _⟩
end Go.Proofs.YthnkiabhfcddaaaDoor
/-
  Layer 7, the landed code: number, set.
-/
namespace Go.Proofs.YthnkiabhfcddaaaDoor
open Go.RowKit
set_option linter.unusedVariables false

/-- A number as 64 bits without a sign. -/
def uz (a : Int) : Nat := (a % 18446744073709551616).toNat
theorem uz_wrap (a : Int) : IntKind.u64.wrap a = (uz a : Int) := by
  rw [IntKind.wrap_u64]; unfold uz; omega
theorem uz_le (a : Int) : uz a ≤ 18446744073709551615 := by unfold uz; omega
theorem uz_of {a : Int} (h : 0 ≤ a) (h2 : a ≤ 9223372036854775807) : uz a = a.toNat := by unfold uz; omega
theorem uz_neg {a : Int} (h : a < 0) (h2 : -9223372036854775808 ≤ a) : 9223372036854775807 < uz a := by unfold uz; omega
/-- What a field is put as. -/
def numC (r : Rec) (f : Nat) : Nat :=
  if f = 1 then uz r.src else if f = 2 then r.seq else if f = 3 then uz r.at_ else if f = 4 then uz r.num else if f = 5 then uz r.code else if f = 6 then (if r.yes = true then 1 else 0) else 0

theorem numC_le (r : Rec) (f : Nat) (hq : r.seq ≤ 18446744073709551615) : numC r f ≤ 18446744073709551615 := by
  unfold numC
  repeat' split
  all_goals first | exact uz_le _ | exact hq | decide

set_option maxRecDepth 100000 in
set_option maxHeartbeats 1000000 in
theorem number_any (r : Rec) (f : Nat) (w : World) (hq : r.seq ≤ 18446744073709551615) {u : Nat} (hu : numC r f = u) :
    Calls Tryd.prog 49 #[.agg #[.int .u8 (r.kind : Int), .int .i64 r.src, .int .u64 (r.seq : Int), .int .i64 r.at_, .int .i64 r.num, .int .i64 r.code, .bool r.yes, .string (mkB r.text)], .int .i64 (f : Int)] w fun e w' => e = .returned (.int .u64 (u : Int)) ∧ Below w.heap.size w w' := by
  obtain ⟨k, s, q, a, n, c, y, t⟩ := r
  dsimp only at hq
  unfold numC at hu
  dsimp only at hu
  have hq2 : (q : Int) ≤ 18446744073709551615 := by omega
  have w1 := uz_wrap s
  have w3 := uz_wrap a
  have w4 := uz_wrap n
  have w5 := uz_wrap c
  generalize uz s = us at hu w1
  generalize uz a = ua at hu w3
  generalize uz n = un at hu w4
  generalize uz c = uc at hu w5
  by_cases h1 : f = 1
  · subst h1
    simp only [if_pos] at hu
    subst hu
    go_enter Tryd.func49, Tryd.ntmps49
    go_wp2
    go_ret
    exact ⟨rfl, bmore (bself w) _⟩
  by_cases h2 : f = 2
  · subst h2
    obtain rfl : q = u := by simpa using hu
    clear w1 w3 w4 w5 h1
    go_enter Tryd.func49, Tryd.ntmps49
    go_wp2
    go_ret
    exact ⟨rfl, bmore (bself w) _⟩
  by_cases h3 : f = 3
  · subst h3
    obtain rfl : ua = u := by simpa using hu
    clear w1 w4 w5 h1 h2
    go_enter Tryd.func49, Tryd.ntmps49
    go_wp2
    go_ret
    exact ⟨rfl, bmore (bself w) _⟩
  by_cases h4 : f = 4
  · subst h4
    obtain rfl : un = u := by simpa using hu
    clear w1 w3 w5 h1 h2 h3
    go_enter Tryd.func49, Tryd.ntmps49
    go_wp2
    go_ret
    exact ⟨rfl, bmore (bself w) _⟩
  by_cases h5 : f = 5
  · subst h5
    obtain rfl : uc = u := by simpa using hu
    clear w1 w3 w4 h1 h2 h3 h4
    go_enter Tryd.func49, Tryd.ntmps49
    go_wp2
    go_ret
    exact ⟨rfl, bmore (bself w) _⟩
  by_cases h6 : f = 6
  · subst h6
    cases y with
    | true =>
      obtain rfl : 1 = u := by simpa using hu
      clear w1 w3 w4 w5 h1 h2 h3 h4 h5
      go_enter Tryd.func49, Tryd.ntmps49
      go_wp2
      go_ret
      exact ⟨rfl, bmore (bself w) _⟩
    | false =>
      obtain rfl : 0 = u := by simpa using hu
      clear w1 w3 w4 w5 h1 h2 h3 h4 h5
      go_enter Tryd.func49, Tryd.ntmps49
      go_wp2
      go_ret
      exact ⟨rfl, bmore (bself w) _⟩
  obtain rfl : 0 = u := by rw [← hu]; simp [h1, h2, h3, h4, h5, h6]
  have e1 : ((f : Int) == 1) = false := by rw [beq_eq_false_iff_ne]; omega
  have e2 : ((f : Int) == 2) = false := by rw [beq_eq_false_iff_ne]; omega
  have e3 : ((f : Int) == 3) = false := by rw [beq_eq_false_iff_ne]; omega
  have e4 : ((f : Int) == 4) = false := by rw [beq_eq_false_iff_ne]; omega
  have e5 : ((f : Int) == 5) = false := by rw [beq_eq_false_iff_ne]; omega
  have e6 : ((f : Int) == 6) = false := by rw [beq_eq_false_iff_ne]; omega
  clear w1 w3 w4 w5 h1 h2 h3 h4 h5 h6 hu
  go_enter Tryd.func49, Tryd.ntmps49
  go_wp2
  go_ret
  exact ⟨rfl, bmore (bself w) _⟩
/-- What set leaves where a field gets its number. -/
def SetDid (g : Nat) (x : Rec) (t : TypeId) (w : World) (e : Ending) (w' : World) : Prop := e = .returned (.bool true) ∧ w'.heap[g]? = some (recB x t) ∧ w.grownBy w' (some g)

set_option maxRecDepth 100000 in
set_option maxHeartbeats 1000000 in
theorem set_1 (g : Nat) (r : Rec) (t : TypeId) (u : Nat) (w : World) (h : w.heap[g]? = some (recB r t)) (hu : u ≤ 7) :
    Calls Tryd.prog 35 #[.pointer (some ⟨g, 0, none⟩), .int .i64 1, .int .u64 (u : Int)] w (SetDid g (withR r 1 u) t w) := by
  have H := Lib.hid h
  obtain ⟨m0, m1, m2, m3, m4, m5, m6, m7⟩ := recAt_blk h
  have fz := heap_frozen h 1
  have k1 : (u : Int) < 8 := by omega
  have HE : Hid (∀ w', w' = w.setCell ⟨g, 1, none⟩ (.int .i64 (u : Int)) → SetDid g (withR r 1 u) t w (.returned (.bool true)) w') := Lib.hid (by
    rintro w' rfl
    refine ⟨rfl, ?_, turn_set (World.grownBy.refl _ _) 1 _⟩
    unfold recB at h ⊢
    
    exact (heap_set h 1 _).trans (by simp [withR]))
  clear h hu
  go_enter Tryd.func35, Tryd.ntmps35
  go_wp2
  go_ret
  exact HE.out _ rfl

set_option maxRecDepth 100000 in
set_option maxHeartbeats 1000000 in
theorem set_2 (g : Nat) (r : Rec) (t : TypeId) (u : Nat) (w : World) (h : w.heap[g]? = some (recB r t)) (hu : u ≤ 18446744073709551615) :
    Calls Tryd.prog 35 #[.pointer (some ⟨g, 0, none⟩), .int .i64 2, .int .u64 (u : Int)] w (SetDid g (withR r 2 u) t w) := by
  have H := Lib.hid h
  obtain ⟨m0, m1, m2, m3, m4, m5, m6, m7⟩ := recAt_blk h
  have fz := heap_frozen h 2
  have k1 : (u : Int) ≤ 18446744073709551615 := by omega
  have HE : Hid (∀ w', w' = w.setCell ⟨g, 2, none⟩ (.int .u64 (u : Int)) → SetDid g (withR r 2 u) t w (.returned (.bool true)) w') := Lib.hid (by
    rintro w' rfl
    refine ⟨rfl, ?_, turn_set (World.grownBy.refl _ _) 2 _⟩
    unfold recB at h ⊢
    
    exact (heap_set h 2 _).trans (by simp [withR]))
  clear h hu
  go_enter Tryd.func35, Tryd.ntmps35
  go_wp2
  go_ret
  exact HE.out _ rfl

set_option maxRecDepth 100000 in
set_option maxHeartbeats 1000000 in
theorem set_3 (g : Nat) (r : Rec) (t : TypeId) (u : Nat) (w : World) (h : w.heap[g]? = some (recB r t)) (hu : u ≤ 9223372036854775807) :
    Calls Tryd.prog 35 #[.pointer (some ⟨g, 0, none⟩), .int .i64 3, .int .u64 (u : Int)] w (SetDid g (withR r 3 u) t w) := by
  have H := Lib.hid h
  obtain ⟨m0, m1, m2, m3, m4, m5, m6, m7⟩ := recAt_blk h
  have fz := heap_frozen h 3
  have k1 : (u : Int) ≤ 9223372036854775807 := by omega
  have HE : Hid (∀ w', w' = w.setCell ⟨g, 3, none⟩ (.int .i64 (u : Int)) → SetDid g (withR r 3 u) t w (.returned (.bool true)) w') := Lib.hid (by
    rintro w' rfl
    refine ⟨rfl, ?_, turn_set (World.grownBy.refl _ _) 3 _⟩
    unfold recB at h ⊢
    
    exact (heap_set h 3 _).trans (by simp [withR]))
  clear h hu
  go_enter Tryd.func35, Tryd.ntmps35
  go_wp2
  go_ret
  exact HE.out _ rfl

set_option maxRecDepth 100000 in
set_option maxHeartbeats 1000000 in
theorem set_4 (g : Nat) (r : Rec) (t : TypeId) (u : Nat) (w : World) (h : w.heap[g]? = some (recB r t)) (hu : u ≤ 9223372036854775807) :
    Calls Tryd.prog 35 #[.pointer (some ⟨g, 0, none⟩), .int .i64 4, .int .u64 (u : Int)] w (SetDid g (withR r 4 u) t w) := by
  have H := Lib.hid h
  obtain ⟨m0, m1, m2, m3, m4, m5, m6, m7⟩ := recAt_blk h
  have fz := heap_frozen h 4
  have k1 : (u : Int) ≤ 9223372036854775807 := by omega
  have HE : Hid (∀ w', w' = w.setCell ⟨g, 4, none⟩ (.int .i64 (u : Int)) → SetDid g (withR r 4 u) t w (.returned (.bool true)) w') := Lib.hid (by
    rintro w' rfl
    refine ⟨rfl, ?_, turn_set (World.grownBy.refl _ _) 4 _⟩
    unfold recB at h ⊢
    
    exact (heap_set h 4 _).trans (by simp [withR]))
  clear h hu
  go_enter Tryd.func35, Tryd.ntmps35
  go_wp2
  go_ret
  exact HE.out _ rfl

set_option maxRecDepth 100000 in
set_option maxHeartbeats 1000000 in
theorem set_5 (g : Nat) (r : Rec) (t : TypeId) (u : Nat) (w : World) (h : w.heap[g]? = some (recB r t)) (hu : u ≤ 255) :
    Calls Tryd.prog 35 #[.pointer (some ⟨g, 0, none⟩), .int .i64 5, .int .u64 (u : Int)] w (SetDid g (withR r 5 u) t w) := by
  have H := Lib.hid h
  obtain ⟨m0, m1, m2, m3, m4, m5, m6, m7⟩ := recAt_blk h
  have fz := heap_frozen h 5
  have k1 : (u : Int) ≤ 255 := by omega
  have HE : Hid (∀ w', w' = w.setCell ⟨g, 5, none⟩ (.int .i64 (u : Int)) → SetDid g (withR r 5 u) t w (.returned (.bool true)) w') := Lib.hid (by
    rintro w' rfl
    refine ⟨rfl, ?_, turn_set (World.grownBy.refl _ _) 5 _⟩
    unfold recB at h ⊢
    
    exact (heap_set h 5 _).trans (by simp [withR]))
  clear h hu
  go_enter Tryd.func35, Tryd.ntmps35
  go_wp2
  go_ret
  exact HE.out _ rfl

set_option maxRecDepth 100000 in
set_option maxHeartbeats 1000000 in
theorem set_6 (g : Nat) (r : Rec) (t : TypeId) (u : Nat) (w : World) (h : w.heap[g]? = some (recB r t)) (hu : u ≤ 1) :
    Calls Tryd.prog 35 #[.pointer (some ⟨g, 0, none⟩), .int .i64 6, .int .u64 (u : Int)] w (SetDid g (withR r 6 u) t w) := by
  have H := Lib.hid h
  obtain ⟨m0, m1, m2, m3, m4, m5, m6, m7⟩ := recAt_blk h
  have fz := heap_frozen h 6
  have k1 : (u : Int) ≤ 1 := by omega
  have e2 : ((u : Int) == 1) = decide (u = 1) := by rw [Bool.eq_iff_iff, beq_iff_eq, decide_eq_true_eq]; omega
  generalize hd : decide (u = 1) = d at e2
  have HE : Hid (∀ w', w' = w.setCell ⟨g, 6, none⟩ (.bool d) → SetDid g (withR r 6 u) t w (.returned (.bool true)) w') := Lib.hid (by
    rintro w' rfl
    refine ⟨rfl, ?_, turn_set (World.grownBy.refl _ _) 6 _⟩
    unfold recB at h ⊢
    rw [← hd]
    exact (heap_set h 6 _).trans (by simp [withR]))
  clear h hu hd
  go_enter Tryd.func35, Tryd.ntmps35
  go_wp2
  go_ret
  exact HE.out _ rfl
set_option maxRecDepth 100000 in
set_option maxHeartbeats 1000000 in
theorem set_no (p : Value) (f u : Nat) (w : World) (hf : 1 ≤ f ∧ f ≤ 6) (hu : mostR f < u) (hu2 : u ≤ 18446744073709551615) :
    Calls Tryd.prog 35 #[p, .int .i64 (f : Int), .int .u64 (u : Int)] w fun e w' => e = .returned (.bool false) ∧ w' = w := by
  rcases (show f = 1 ∨ f = 2 ∨ f = 3 ∨ f = 4 ∨ f = 5 ∨ f = 6 by omega) with rfl | rfl | rfl | rfl | rfl | rfl <;> simp [mostR] at hu
  · have k1 : ¬ (u : Int) < 8 := by omega
    clear hu hu2 hf
    go_enter Tryd.func35, Tryd.ntmps35
    go_wp2
    go_ret
    exact ⟨rfl, rfl⟩
  · omega
  · have k1 : ¬ (u : Int) ≤ 9223372036854775807 := by omega
    clear hu hu2 hf
    go_enter Tryd.func35, Tryd.ntmps35
    go_wp2
    go_ret
    exact ⟨rfl, rfl⟩
  · have k1 : ¬ (u : Int) ≤ 9223372036854775807 := by omega
    clear hu hu2 hf
    go_enter Tryd.func35, Tryd.ntmps35
    go_wp2
    go_ret
    exact ⟨rfl, rfl⟩
  · have k1 : ¬ (u : Int) ≤ 255 := by omega
    clear hu hu2 hf
    go_enter Tryd.func35, Tryd.ntmps35
    go_wp2
    go_ret
    exact ⟨rfl, rfl⟩
  · have k1 : ¬ (u : Int) ≤ 1 := by omega
    clear hu hu2 hf
    go_enter Tryd.func35, Tryd.ntmps35
    go_wp2
    go_ret
    exact ⟨rfl, rfl⟩
/-- Whether a field may have a number. -/
def okC (f u : Nat) : Bool := decide (u ≤ mostR f)
/-- A record with a field's number, where the field may have it. -/
def setC (r : Rec) (f u : Nat) : Rec := if u ≤ mostR f then withR r f u else r
theorem set_any (g : Nat) (r : Rec) (t : TypeId) (f u : Nat) (w : World) (hf : 1 ≤ f ∧ f ≤ 6) (h : w.heap[g]? = some (recB r t)) (hu : u ≤ 18446744073709551615) {x : Rec} (hx : setC r f u = x) {y : Bool} (hy : okC f u = y) :
    Calls Tryd.prog 35 #[.pointer (some ⟨g, 0, none⟩), .int .i64 (f : Int), .int .u64 (u : Int)] w fun e w' => e = .returned (.bool y) ∧ w'.heap[g]? = some (recB x t) ∧ w.grownBy w' (some g) := by
  subst hx hy
  unfold setC okC
  by_cases hm : u ≤ mostR f
  · rw [if_pos hm, decide_eq_true hm]
    rcases (show f = 1 ∨ f = 2 ∨ f = 3 ∨ f = 4 ∨ f = 5 ∨ f = 6 by omega) with rfl | rfl | rfl | rfl | rfl | rfl <;> simp [mostR] at hm
    · exact set_1 g r t u w h hm
    · exact set_2 g r t u w h hm
    · exact set_3 g r t u w h hm
    · exact set_4 g r t u w h hm
    · exact set_5 g r t u w h hm
    · exact set_6 g r t u w h hm
  · rw [if_neg hm, decide_eq_false hm]
    refine (set_no _ f u w hf (by omega) hu).mono fun e w' he => ?_
    obtain ⟨rfl, rfl⟩ := he
    exact ⟨rfl, h, World.grownBy.refl _ _⟩
end Go.Proofs.YthnkiabhfcddaaaDoor
/-
  Layer 7, the landed code, plain mathematics: a record with those of its kind's fields alone that are as they may be.
-/
namespace Go.Proofs.YthnkiabhfcddaaaDoor
set_option linter.unusedVariables false

def alwR (r x : Rec) (f : Nat) : Rec := if f = 0 then x else if f = 7 then (if r.text.length ≤ 240 then { x with text := r.text } else x) else setC x f (numC r f)
def alwAt (r : Rec) : Nat → Rec
  | 0 => { noRec with kind := r.kind }
  | j + 1 => alwR r (alwAt r j) (padR r.kind j)
theorem pad_17 : padR 17 0 = 1 ∧ padR 17 1 = 4 ∧ padR 17 2 = 0 ∧ padR 17 3 = 0 := by decide
theorem pad_18 : padR 18 0 = 1 ∧ padR 18 1 = 5 ∧ padR 18 2 = 0 ∧ padR 18 3 = 0 := by decide
theorem pad_19 : padR 19 0 = 1 ∧ padR 19 1 = 5 ∧ padR 19 2 = 0 ∧ padR 19 3 = 0 := by decide
theorem pad_20 : padR 20 0 = 1 ∧ padR 20 1 = 2 ∧ padR 20 2 = 3 ∧ padR 20 3 = 5 := by decide
theorem pad_21 : padR 21 0 = 1 ∧ padR 21 1 = 2 ∧ padR 21 2 = 3 ∧ padR 21 3 = 0 := by decide
theorem pad_22 : padR 22 0 = 1 ∧ padR 22 1 = 2 ∧ padR 22 2 = 3 ∧ padR 22 3 = 0 := by decide
theorem pad_23 : padR 23 0 = 1 ∧ padR 23 1 = 2 ∧ padR 23 2 = 3 ∧ padR 23 3 = 0 := by decide
theorem pad_24 : padR 24 0 = 1 ∧ padR 24 1 = 2 ∧ padR 24 2 = 0 ∧ padR 24 3 = 0 := by decide
theorem pad_25 : padR 25 0 = 1 ∧ padR 25 1 = 3 ∧ padR 25 2 = 0 ∧ padR 25 3 = 0 := by decide
theorem pad_26 : padR 26 0 = 1 ∧ padR 26 1 = 0 ∧ padR 26 2 = 0 ∧ padR 26 3 = 0 := by decide
theorem pad_27 : padR 27 0 = 5 ∧ padR 27 1 = 3 ∧ padR 27 2 = 0 ∧ padR 27 3 = 0 := by decide
theorem pad_28 : padR 28 0 = 3 ∧ padR 28 1 = 6 ∧ padR 28 2 = 0 ∧ padR 28 3 = 0 := by decide
theorem pad_29 : padR 29 0 = 3 ∧ padR 29 1 = 6 ∧ padR 29 2 = 0 ∧ padR 29 3 = 0 := by decide
theorem pad_30 : padR 30 0 = 3 ∧ padR 30 1 = 6 ∧ padR 30 2 = 0 ∧ padR 30 3 = 0 := by decide
theorem pad_31 : padR 31 0 = 3 ∧ padR 31 1 = 4 ∧ padR 31 2 = 0 ∧ padR 31 3 = 0 := by decide
theorem pad_32 : padR 32 0 = 7 ∧ padR 32 1 = 0 ∧ padR 32 2 = 0 ∧ padR 32 3 = 0 := by decide
/-- A number that may be, else 0. -/
def limS (a : Int) (m : Nat) : Int := if uz a ≤ m then (uz a : Int) else 0
theorem set1_lim (x : Rec) (a : Int) : setC x 1 (uz a) = if uz a ≤ 7 then { x with src := (uz a : Int) } else x := rfl
theorem lim_src {s : Int} (h : -9223372036854775808 ≤ s ∧ s ≤ 9223372036854775807) : s = limS s 7 ↔ 0 ≤ s ∧ s ≤ 7 := by unfold limS uz; split <;> omega
theorem lim_at {s : Int} (h : -9223372036854775808 ≤ s ∧ s ≤ 9223372036854775807) : s = limS s 9223372036854775807 ↔ 0 ≤ s := by unfold limS uz; split <;> omega
theorem lim_code {s : Int} (h : -9223372036854775808 ≤ s ∧ s ≤ 9223372036854775807) : s = limS s 255 ↔ 0 ≤ s ∧ s ≤ 255 := by unfold limS uz; split <;> omega
def limT (t : List UInt8) : List UInt8 := if t.length ≤ 240 then t else []
theorem lim_text (t : List UInt8) : t = limT t ↔ t.length ≤ 240 := by
  unfold limT
  split
  · rename_i h; exact ⟨fun _ => h, fun _ => rfl⟩
  · rename_i h
    refine ⟨fun e => absurd (by rw [e]; simp) h, fun e => absurd e h⟩
/-! A step, field by field, where the field is still 0. -/
theorem alw_1 (k : Nat) (s : Int) (q : Nat) (a n c : Int) (y : Bool) (t : List UInt8) (x : Rec) (h : x.src = 0) : alwR ⟨k, s, q, a, n, c, y, t⟩ x 1 = { x with src := limS s 7 } := by
  unfold alwR setC limS
  simp only [show ¬ (1 : Nat) = 0 by decide, show ¬ (1 : Nat) = 7 by decide, if_false, numC, if_true, mostR]
  split
  · rfl
  · rw [← h]
theorem alw_2 (k : Nat) (s : Int) (q : Nat) (a n c : Int) (y : Bool) (t : List UInt8) (x : Rec) (hq : q ≤ 18446744073709551615) : alwR ⟨k, s, q, a, n, c, y, t⟩ x 2 = { x with seq := q } := by
  unfold alwR setC
  simp [numC, mostR, hq, withR]
theorem alw_3 (k : Nat) (s : Int) (q : Nat) (a n c : Int) (y : Bool) (t : List UInt8) (x : Rec) (h : x.at_ = 0) : alwR ⟨k, s, q, a, n, c, y, t⟩ x 3 = { x with at_ := limS a 9223372036854775807 } := by
  unfold alwR setC limS
  simp [numC, mostR, withR]
  split
  · rfl
  · rw [← h]
theorem alw_4 (k : Nat) (s : Int) (q : Nat) (a n c : Int) (y : Bool) (t : List UInt8) (x : Rec) (h : x.num = 0) : alwR ⟨k, s, q, a, n, c, y, t⟩ x 4 = { x with num := limS n 9223372036854775807 } := by
  unfold alwR setC limS
  simp [numC, mostR, withR]
  split
  · rfl
  · rw [← h]
theorem alw_5 (k : Nat) (s : Int) (q : Nat) (a n c : Int) (y : Bool) (t : List UInt8) (x : Rec) (h : x.code = 0) : alwR ⟨k, s, q, a, n, c, y, t⟩ x 5 = { x with code := limS c 255 } := by
  unfold alwR setC limS
  simp [numC, mostR, withR]
  split
  · rfl
  · rw [← h]
theorem alw_6 (k : Nat) (s : Int) (q : Nat) (a n c : Int) (y : Bool) (t : List UInt8) (x : Rec) : alwR ⟨k, s, q, a, n, c, y, t⟩ x 6 = { x with yes := y } := by
  unfold alwR setC
  cases y <;> simp [numC, mostR, withR]
theorem alw_7 (k : Nat) (s : Int) (q : Nat) (a n c : Int) (y : Bool) (t : List UInt8) (x : Rec) (h : x.text = []) : alwR ⟨k, s, q, a, n, c, y, t⟩ x 7 = { x with text := limT t } := by
  unfold alwR limT
  simp only [show ¬ (7 : Nat) = 0 by decide, if_false, if_true]
  split
  · rfl
  · rw [← h]
theorem alw_0 (r x : Rec) : alwR r x 0 = x := rfl
theorem may_alw (r : Rec) (hin : r.In) (hk : 17 ≤ r.kind ∧ r.kind ≤ 32) : mayR r = decide (r = alwAt r 4) := by
  rw [Bool.eq_iff_iff, mayR_iff, decide_eq_true_eq]
  obtain ⟨k, s, q, a, n, c, y, t⟩ := r
  obtain ⟨_, hs, hq, ha, hn, hc⟩ := hin
  dsimp only at *
  have l1 := lim_src hs
  have l3 := lim_at ha
  have l4 := lim_at hn
  have l5 := lim_code hc
  have l7 := lim_text t
  generalize hls : limS s 7 = ls at l1
  generalize hla : limS a 9223372036854775807 = la at l3
  generalize hln : limS n 9223372036854775807 = ln at l4
  generalize hlc : limS c 255 = lc at l5
  generalize hlt : limT t = lt at l7
  rcases kinds_cases hk with rfl | rfl | rfl | rfl | rfl | rfl | rfl | rfl | rfl | rfl | rfl | rfl | rfl | rfl | rfl | rfl
  all_goals
    simp only [alwAt, noRec, pad_17, pad_18, pad_19, pad_20, pad_21, pad_22, pad_23, pad_24, pad_25, pad_26, pad_27, pad_28, pad_29, pad_30, pad_31, pad_32, alw_0, alw_1, alw_2 _ _ _ _ _ _ _ _ _ hq, alw_3, alw_4, alw_5, alw_6, alw_7, hls, hla, hln, hlc, hlt, Rec.mk.injEq, true_and]
    simp [hasR, l1, l3, l4, l5, l7]
    cases y <;> by_cases hT : t = [] <;> simp [hT] <;> omega
end Go.Proofs.YthnkiabhfcddaaaDoor
/-
  Layer 7: equality of two records.
-/
namespace Go.Proofs.YthnkiabhfcddaaaDoor
open Go.RowKit
set_option linter.unusedVariables false

theorem rec_eq7 (a b : Rec) : ((a.kind : Int) = (b.kind : Int) ∧ a.src = b.src ∧ (a.seq : Int) = (b.seq : Int) ∧ a.at_ = b.at_ ∧ a.num = b.num ∧ a.code = b.code ∧ a.yes = b.yes ∧ a.text = b.text) ↔ a = b := by
  obtain ⟨k, s, q, x, n, c, y, t⟩ := a
  obtain ⟨k', s', q', x', n', c', y', t'⟩ := b
  dsimp only
  rw [Rec.mk.injEq]
  refine ⟨fun h => ⟨by omega, h.2.1, by omega, h.2.2.2⟩, fun h => ⟨by omega, h.2.1, by omega, h.2.2.2⟩⟩
theorem run_eq_x7 (w : World) (a b : Rec) : (binOp .eql 26 (.agg #[.int .u8 (a.kind : Int), .int .i64 a.src, .int .u64 (a.seq : Int), .int .i64 a.at_, .int .i64 a.num, .int .i64 a.code, .bool a.yes, .string (mkB a.text)]) (.agg #[.int .u8 (b.kind : Int), .int .i64 b.src, .int .u64 (b.seq : Int), .int .i64 b.at_, .int .i64 b.num, .int .i64 b.code, .bool b.yes, .string (mkB b.text)])).run Tryd.prog w = .ok (.bool (decide (a = b))) w := by
  have us := Tryd.underlying9
  have ui := Tryd.underlying2
  have u8 := Tryd.underlying5
  have u64 := Tryd.underlying22
  have un := Tryd.underlying3
  have ub := Tryd.underlying4
  have a1 := Tryd.isAgg9
  have a2 := Tryd.isAgg2
  have a3 := Tryd.isAgg5
  have a4 := Tryd.isAgg22
  have a5 := Tryd.isAgg3
  have a6 := Tryd.isAgg4
  have hS : Tryd.prog.underlying 26 = some (.struct (Tryd.prog.fieldsOf 26)) := by kernel_rfl
  have hp : Tryd.prog.stoodInHeld 26 = false := by kernel_rfl
  rw [run_eql_struct, show (10000 : Nat) = 9999 + 1 from rfl, run_equalIn_agg w 9999 26 _ _ hS hp]
  simp only [Program.fieldsOf, Tryd.underlying26]
  go_simp
  rw [mkB_toList, mkB_toList]
  by_cases he : a = b
  · subst he; simp
  · have hn := mt (rec_eq7 a b).1 he
    rw [decide_eq_false he]
    (repeat' split) <;> first | rfl | exact absurd ⟨by assumption, by assumption, by assumption, by assumption, by assumption, by assumption, by assumption, by assumption⟩ hn
theorem run_eq_r7 (w : World) (a b : Rec) : (binOp .eql 24 (.agg #[.int .u8 (a.kind : Int), .int .i64 a.src, .int .u64 (a.seq : Int), .int .i64 a.at_, .int .i64 a.num, .int .i64 a.code, .bool a.yes, .string (mkB a.text)]) (.agg #[.int .u8 (b.kind : Int), .int .i64 b.src, .int .u64 (b.seq : Int), .int .i64 b.at_, .int .i64 b.num, .int .i64 b.code, .bool b.yes, .string (mkB b.text)])).run Tryd.prog w = .ok (.bool (decide (a = b))) w := by
  have us := Tryd.underlying9
  have ui := Tryd.underlying2
  have u8 := Tryd.underlying5
  have u64 := Tryd.underlying22
  have un := Tryd.underlying3
  have ub := Tryd.underlying4
  have a1 := Tryd.isAgg9
  have a2 := Tryd.isAgg2
  have a3 := Tryd.isAgg5
  have a4 := Tryd.isAgg22
  have a5 := Tryd.isAgg3
  have a6 := Tryd.isAgg4
  have hS : Tryd.prog.underlying 24 = some (.struct (Tryd.prog.fieldsOf 24)) := by kernel_rfl
  have hp : Tryd.prog.stoodInHeld 24 = false := by kernel_rfl
  rw [run_eql_struct, show (10000 : Nat) = 9999 + 1 from rfl, run_equalIn_agg w 9999 24 _ _ hS hp]
  simp only [Program.fieldsOf, Tryd.underlying24]
  go_simp
  rw [mkB_toList, mkB_toList]
  by_cases he : a = b
  · subst he; simp
  · have hn := mt (rec_eq7 a b).1 he
    rw [decide_eq_false he]
    (repeat' split) <;> first | rfl | exact absurd ⟨by assumption, by assumption, by assumption, by assumption, by assumption, by assumption, by assumption, by assumption⟩ hn
end Go.Proofs.YthnkiabhfcddaaaDoor
/-
  Contracts of layer 7's reference: Has, word, most, order.
-/
namespace Go.Proofs.YthnkiabhfcddaaaDoor
open Go.RowKit
set_option linter.unusedVariables false

theorem eq_int (k c : Nat) : ((k : Int) == (c : Int)) = (k == c) := by rw [Bool.eq_iff_iff, beq_iff_eq, beq_iff_eq]; omega
theorem le_int (a b : Nat) : decide ((a : Int) ≤ (b : Int)) = decide (a ≤ b) := decide_eq_decide.2 (by omega)
theorem has_1 (k : Nat) : hasR k 1 = (decide ((17 : Int) ≤ (k : Int)) && decide ((k : Int) ≤ 26)) := by
  have e2 := fun c => le_int k c
  have e3 := fun c => le_int c k
  rw [show ((17 : Int)) = ((17 : Nat) : Int) from rfl, show ((26 : Int)) = ((26 : Nat) : Int) from rfl, e2, e3]; rfl
theorem has_2 (k : Nat) : hasR k 2 = (decide ((20 : Int) ≤ (k : Int)) && decide ((k : Int) ≤ 24)) := by
  have e2 := fun c => le_int k c
  have e3 := fun c => le_int c k
  rw [show ((20 : Int)) = ((20 : Nat) : Int) from rfl, show ((24 : Int)) = ((24 : Nat) : Int) from rfl]
  simp only [e2, e3]; rfl
theorem has_3 (k : Nat) : hasR k 3 = (decide ((20 : Int) ≤ (k : Int)) && decide ((k : Int) ≤ 23) || ((k : Int) == 25) || decide ((27 : Int) ≤ (k : Int)) && decide ((k : Int) ≤ 31)) := by
  have e1 := fun c => eq_int k c
  have e2 := fun c => le_int k c
  have e3 := fun c => le_int c k
  rw [show ((20 : Int)) = ((20 : Nat) : Int) from rfl, show ((23 : Int)) = ((23 : Nat) : Int) from rfl, show ((25 : Int)) = ((25 : Nat) : Int) from rfl, show ((27 : Int)) = ((27 : Nat) : Int) from rfl, show ((31 : Int)) = ((31 : Nat) : Int) from rfl]
  simp only [e1, e2, e3]; rfl
theorem has_4 (k : Nat) : hasR k 4 = (((k : Int) == 17) || ((k : Int) == 31)) := by
  have e1 := fun c => eq_int k c
  rw [show ((17 : Int)) = ((17 : Nat) : Int) from rfl, show ((31 : Int)) = ((31 : Nat) : Int) from rfl]
  simp only [e1]; rfl
theorem has_5 (k : Nat) : hasR k 5 = (decide ((18 : Int) ≤ (k : Int)) && decide ((k : Int) ≤ 20) || ((k : Int) == 27)) := by
  have e1 := fun c => eq_int k c
  have e2 := fun c => le_int k c
  have e3 := fun c => le_int c k
  rw [show ((18 : Int)) = ((18 : Nat) : Int) from rfl, show ((20 : Int)) = ((20 : Nat) : Int) from rfl, show ((27 : Int)) = ((27 : Nat) : Int) from rfl]
  simp only [e1, e2, e3]; rfl
theorem has_6 (k : Nat) : hasR k 6 = (decide ((28 : Int) ≤ (k : Int)) && decide ((k : Int) ≤ 30)) := by
  have e2 := fun c => le_int k c
  have e3 := fun c => le_int c k
  rw [show ((28 : Int)) = ((28 : Nat) : Int) from rfl, show ((30 : Int)) = ((30 : Nat) : Int) from rfl]
  simp only [e2, e3]; rfl
theorem has_7 (k : Nat) : hasR k 7 = (((k : Int) == 32)) := by
  have e1 := fun c => eq_int k c
  rw [show ((32 : Int)) = ((32 : Nat) : Int) from rfl]
  simp only [e1]; rfl
set_option maxRecDepth 100000 in
theorem rhas_any (k f : Nat) (w : World) (hf : 1 ≤ f ∧ f ≤ 7) {x : Bool} (hx : hasR k f = x) :
    Calls Tryd.prog 23 #[.int .u8 (k : Int), .int .i64 (f : Int)] w fun e w' => e = .returned (.bool x) ∧ w' = w := by
  subst hx
  rcases (show f = 1 ∨ f = 2 ∨ f = 3 ∨ f = 4 ∨ f = 5 ∨ f = 6 ∨ f = 7 by omega) with rfl | rfl | rfl | rfl | rfl | rfl | rfl
  · have HE := Lib.hid (show hasR k 1 = (decide ((17 : Int) ≤ (k : Int)) && decide ((k : Int) ≤ 26)) from has_1 k)
    by_cases h1 : (17 : Int) ≤ (k : Int) <;> by_cases h2 : ((k : Int) : Int) ≤ 26
    all_goals
      go_enter Tryd.func23, Tryd.ntmps23
      go_wp2
      go_ret
      exact ⟨by rw [HE.out]; simp [h1, h2], rfl⟩
  · have HE := Lib.hid (show hasR k 2 = (decide ((20 : Int) ≤ (k : Int)) && decide ((k : Int) ≤ 24)) from has_2 k)
    by_cases h1 : (20 : Int) ≤ (k : Int) <;> by_cases h2 : ((k : Int) : Int) ≤ 24
    all_goals
      go_enter Tryd.func23, Tryd.ntmps23
      go_wp2
      go_ret
      exact ⟨by rw [HE.out]; simp [h1, h2], rfl⟩
  · have HE := Lib.hid (show hasR k 3 = (decide ((20 : Int) ≤ (k : Int)) && decide ((k : Int) ≤ 23) || ((k : Int) == 25) || decide ((27 : Int) ≤ (k : Int)) && decide ((k : Int) ≤ 31)) from has_3 k)
    by_cases h1 : (20 : Int) ≤ (k : Int) <;> by_cases h2 : ((k : Int) : Int) ≤ 23 <;> cases h3 : ((k : Int) == 25) <;> by_cases h4 : (27 : Int) ≤ (k : Int) <;> by_cases h5 : ((k : Int) : Int) ≤ 31
    all_goals
      go_enter Tryd.func23, Tryd.ntmps23
      go_wp2
      go_ret
      exact ⟨by rw [HE.out]; simp [h1, h2, h3, h4, h5], rfl⟩
  · have HE := Lib.hid (show hasR k 4 = (((k : Int) == 17) || ((k : Int) == 31)) from has_4 k)
    cases h1 : ((k : Int) == 17) <;> cases h2 : ((k : Int) == 31)
    all_goals
      go_enter Tryd.func23, Tryd.ntmps23
      go_wp2
      go_ret
      exact ⟨by rw [HE.out]; simp [h1, h2], rfl⟩
  · have HE := Lib.hid (show hasR k 5 = (decide ((18 : Int) ≤ (k : Int)) && decide ((k : Int) ≤ 20) || ((k : Int) == 27)) from has_5 k)
    by_cases h1 : (18 : Int) ≤ (k : Int) <;> by_cases h2 : ((k : Int) : Int) ≤ 20 <;> cases h3 : ((k : Int) == 27)
    all_goals
      go_enter Tryd.func23, Tryd.ntmps23
      go_wp2
      go_ret
      exact ⟨by rw [HE.out]; simp [h1, h2, h3], rfl⟩
  · have HE := Lib.hid (show hasR k 6 = (decide ((28 : Int) ≤ (k : Int)) && decide ((k : Int) ≤ 30)) from has_6 k)
    by_cases h1 : (28 : Int) ≤ (k : Int) <;> by_cases h2 : ((k : Int) : Int) ≤ 30
    all_goals
      go_enter Tryd.func23, Tryd.ntmps23
      go_wp2
      go_ret
      exact ⟨by rw [HE.out]; simp [h1, h2], rfl⟩
  · have HE := Lib.hid (show hasR k 7 = (((k : Int) == 32)) from has_7 k)
    cases h1 : ((k : Int) == 32)
    all_goals
      go_enter Tryd.func23, Tryd.ntmps23
      go_wp2
      go_ret
      exact ⟨by rw [HE.out]; simp [h1], rfl⟩
set_option maxRecDepth 100000 in
theorem rword_any (k : Nat) (w : World) (hk : 17 ≤ k ∧ k ≤ 32) :
    Calls Tryd.prog 29 #[.int .u8 (k : Int)] w fun e w' => e = .returned (.string (mkB (wordR k))) ∧ w' = w := by
  rcases kinds_cases hk with rfl | rfl | rfl | rfl | rfl | rfl | rfl | rfl | rfl | rfl | rfl | rfl | rfl | rfl | rfl | rfl
  all_goals
    go_enter Tryd.func29, Tryd.ntmps29
    go_wp2
    go_ret
    exact ⟨rfl, rfl⟩
set_option maxRecDepth 100000 in
theorem rmost_any (f : Nat) (w : World) (hf : 1 ≤ f ∧ f ≤ 7) :
    Calls Tryd.prog 40 #[.int .i64 (f : Int)] w fun e w' => e = .returned (.int .u64 (mostR f : Nat)) ∧ w' = w := by
  rcases (show f = 1 ∨ f = 2 ∨ f = 3 ∨ f = 4 ∨ f = 5 ∨ f = 6 ∨ f = 7 by omega) with rfl | rfl | rfl | rfl | rfl | rfl | rfl
  all_goals
    go_enter Tryd.func40, Tryd.ntmps40
    go_wp2
    go_ret
    exact ⟨rfl, rfl⟩
theorem has_pat {k : Nat} (hk : 17 ≤ k ∧ k ≤ 32) : (hasR k 1 = true ∧ hasR k 2 = false ∧ hasR k 3 = false ∧ hasR k 4 = true ∧ hasR k 5 = false ∧ hasR k 6 = false ∧ hasR k 7 = false) ∨ (hasR k 1 = true ∧ hasR k 2 = false ∧ hasR k 3 = false ∧ hasR k 4 = false ∧ hasR k 5 = true ∧ hasR k 6 = false ∧ hasR k 7 = false) ∨ (hasR k 1 = true ∧ hasR k 2 = true ∧ hasR k 3 = true ∧ hasR k 4 = false ∧ hasR k 5 = true ∧ hasR k 6 = false ∧ hasR k 7 = false) ∨ (hasR k 1 = true ∧ hasR k 2 = true ∧ hasR k 3 = true ∧ hasR k 4 = false ∧ hasR k 5 = false ∧ hasR k 6 = false ∧ hasR k 7 = false) ∨ (hasR k 1 = true ∧ hasR k 2 = true ∧ hasR k 3 = false ∧ hasR k 4 = false ∧ hasR k 5 = false ∧ hasR k 6 = false ∧ hasR k 7 = false) ∨ (hasR k 1 = true ∧ hasR k 2 = false ∧ hasR k 3 = true ∧ hasR k 4 = false ∧ hasR k 5 = false ∧ hasR k 6 = false ∧ hasR k 7 = false) ∨ (hasR k 1 = true ∧ hasR k 2 = false ∧ hasR k 3 = false ∧ hasR k 4 = false ∧ hasR k 5 = false ∧ hasR k 6 = false ∧ hasR k 7 = false) ∨ (hasR k 1 = false ∧ hasR k 2 = false ∧ hasR k 3 = true ∧ hasR k 4 = false ∧ hasR k 5 = true ∧ hasR k 6 = false ∧ hasR k 7 = false) ∨ (hasR k 1 = false ∧ hasR k 2 = false ∧ hasR k 3 = true ∧ hasR k 4 = false ∧ hasR k 5 = false ∧ hasR k 6 = true ∧ hasR k 7 = false) ∨ (hasR k 1 = false ∧ hasR k 2 = false ∧ hasR k 3 = true ∧ hasR k 4 = true ∧ hasR k 5 = false ∧ hasR k 6 = false ∧ hasR k 7 = false) ∨ (hasR k 1 = false ∧ hasR k 2 = false ∧ hasR k 3 = false ∧ hasR k 4 = false ∧ hasR k 5 = false ∧ hasR k 6 = false ∧ hasR k 7 = true) := by
  rcases kinds_cases hk with rfl | rfl | rfl | rfl | rfl | rfl | rfl | rfl | rfl | rfl | rfl | rfl | rfl | rfl | rfl | rfl
  · exact .inl ⟨rfl, rfl, rfl, rfl, rfl, rfl, rfl⟩
  · exact .inr (.inl ⟨rfl, rfl, rfl, rfl, rfl, rfl, rfl⟩)
  · exact .inr (.inl ⟨rfl, rfl, rfl, rfl, rfl, rfl, rfl⟩)
  · exact .inr (.inr (.inl ⟨rfl, rfl, rfl, rfl, rfl, rfl, rfl⟩))
  · exact .inr (.inr (.inr (.inl ⟨rfl, rfl, rfl, rfl, rfl, rfl, rfl⟩)))
  · exact .inr (.inr (.inr (.inl ⟨rfl, rfl, rfl, rfl, rfl, rfl, rfl⟩)))
  · exact .inr (.inr (.inr (.inl ⟨rfl, rfl, rfl, rfl, rfl, rfl, rfl⟩)))
  · exact .inr (.inr (.inr (.inr (.inl ⟨rfl, rfl, rfl, rfl, rfl, rfl, rfl⟩))))
  · exact .inr (.inr (.inr (.inr (.inr (.inl ⟨rfl, rfl, rfl, rfl, rfl, rfl, rfl⟩)))))
  · exact .inr (.inr (.inr (.inr (.inr (.inr (.inl ⟨rfl, rfl, rfl, rfl, rfl, rfl, rfl⟩))))))
  · exact .inr (.inr (.inr (.inr (.inr (.inr (.inr (.inl ⟨rfl, rfl, rfl, rfl, rfl, rfl, rfl⟩)))))))
  · exact .inr (.inr (.inr (.inr (.inr (.inr (.inr (.inr (.inl ⟨rfl, rfl, rfl, rfl, rfl, rfl, rfl⟩))))))))
  · exact .inr (.inr (.inr (.inr (.inr (.inr (.inr (.inr (.inl ⟨rfl, rfl, rfl, rfl, rfl, rfl, rfl⟩))))))))
  · exact .inr (.inr (.inr (.inr (.inr (.inr (.inr (.inr (.inl ⟨rfl, rfl, rfl, rfl, rfl, rfl, rfl⟩))))))))
  · exact .inr (.inr (.inr (.inr (.inr (.inr (.inr (.inr (.inr (.inl ⟨rfl, rfl, rfl, rfl, rfl, rfl, rfl⟩)))))))))
  · exact .inr (.inr (.inr (.inr (.inr (.inr (.inr (.inr (.inr (.inr (⟨rfl, rfl, rfl, rfl, rfl, rfl, rfl⟩))))))))))
theorem rhas_1 (k : Nat) (x : Bool) (hx : hasR k 1 = x) (w : World) : Calls Tryd.prog 23 #[.int .u8 (k : Int), .int .i64 1] w fun e w' => e = .returned (.bool x) ∧ w' = w := rhas_any k 1 w (by omega) hx
theorem rhas_2 (k : Nat) (x : Bool) (hx : hasR k 2 = x) (w : World) : Calls Tryd.prog 23 #[.int .u8 (k : Int), .int .i64 2] w fun e w' => e = .returned (.bool x) ∧ w' = w := rhas_any k 2 w (by omega) hx
theorem rhas_3 (k : Nat) (x : Bool) (hx : hasR k 3 = x) (w : World) : Calls Tryd.prog 23 #[.int .u8 (k : Int), .int .i64 3] w fun e w' => e = .returned (.bool x) ∧ w' = w := rhas_any k 3 w (by omega) hx
theorem rhas_4 (k : Nat) (x : Bool) (hx : hasR k 4 = x) (w : World) : Calls Tryd.prog 23 #[.int .u8 (k : Int), .int .i64 4] w fun e w' => e = .returned (.bool x) ∧ w' = w := rhas_any k 4 w (by omega) hx
theorem rhas_5 (k : Nat) (x : Bool) (hx : hasR k 5 = x) (w : World) : Calls Tryd.prog 23 #[.int .u8 (k : Int), .int .i64 5] w fun e w' => e = .returned (.bool x) ∧ w' = w := rhas_any k 5 w (by omega) hx
theorem rhas_6 (k : Nat) (x : Bool) (hx : hasR k 6 = x) (w : World) : Calls Tryd.prog 23 #[.int .u8 (k : Int), .int .i64 6] w fun e w' => e = .returned (.bool x) ∧ w' = w := rhas_any k 6 w (by omega) hx
theorem rhas_7 (k : Nat) (x : Bool) (hx : hasR k 7 = x) (w : World) : Calls Tryd.prog 23 #[.int .u8 (k : Int), .int .i64 7] w fun e w' => e = .returned (.bool x) ∧ w' = w := rhas_any k 7 w (by omega) hx
end Go.Proofs.YthnkiabhfcddaaaDoor
/-
  Contract of layer 7's law's 'plain'.
-/
namespace Go.Proofs.YthnkiabhfcddaaaDoor
open Go.RowKit
set_option linter.unusedVariables false

set_option maxRecDepth 100000 in
theorem plain7_any (r : Rec) (w : World) :
    Calls Tryd.prog 10 #[.agg #[.int .u8 (r.kind : Int), .int .i64 r.src, .int .u64 (r.seq : Int), .int .i64 r.at_, .int .i64 r.num, .int .i64 r.code, .bool r.yes, .string (mkB r.text)]] w fun e w' => e = .returned (.agg #[.int .u8 (r.kind : Int), .int .i64 r.src, .int .u64 (r.seq : Int), .int .i64 r.at_, .int .i64 r.num, .int .i64 r.code, .bool r.yes, .string (mkB r.text)]) ∧ Below w.heap.size w w' := by
  have HB := Lib.hid (bmore (bself w) (recB r 24))
  obtain ⟨m0, m1, m2, m3, m4, m5, m6, m7⟩ := recAt_blk (heap_alloc_new w (recB r 24))
  unfold recB at m0 m1 m2 m3 m4 m5 m6 m7 HB
  go_enter Tryd.func10, Tryd.ntmps10
  go_wp2
  refine bodyPost_ret (v := .agg #[.int .u8 (r.kind : Int), .int .i64 r.src, .int .u64 (r.seq : Int), .int .i64 r.at_, .int .i64 r.num, .int .i64 r.code, .bool r.yes, .string (mkB r.text)]) (by simp [results, Tryd.results10, go_sem]) rfl ?_
  exact ⟨rfl, bmore HB.out _⟩
end Go.Proofs.YthnkiabhfcddaaaDoor
