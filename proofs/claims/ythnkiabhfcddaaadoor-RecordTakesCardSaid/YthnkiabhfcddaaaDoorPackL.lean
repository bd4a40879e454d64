/-
  Texts of the proofs, put together: Touch, Frames.
-/
import Derived.Test.YthnkiabhfcddaaaDoorPackC
import Derived.Test.YthnkiabhfcddaaaDoorPackI
import Derived.Test.YthnkiabhfcddaaaDoorPackA
import Derived.Test.YthnkiabhfcddaaaDoorPackF
/-
  Words for memory, of no layer: a call that writes to given blocks alone; bytes in given blocks; slices of slices of bytes.
-/
namespace Go.Proofs.YthnkiabhfcddaaaDoor
open Go.RowKit
set_option linter.unusedVariables false

/-- From w to w' no block that was there has turned but those of F. -/
structure Touch (F : Nat → Prop) (w w' : World) : Prop where
  os : w'.os = w.os
  tape : w'.tape = w.tape
  output : w'.output = w.output
  size : w.heap.size ≤ w'.heap.size
  block : ∀ k, k < w.heap.size → ¬ F k → w'.heap[k]? = w.heap[k]?
theorem Touch.refl (F : Nat → Prop) (w : World) : Touch F w w := ⟨rfl, rfl, rfl, Nat.le_refl _, fun _ _ _ => rfl⟩
/-- Two steps; the second one's blocks are the first one's, or new. -/
theorem Touch.trans {F G : Nat → Prop} {a b c : World} (h : Touch F a b) (k : Touch G b c) (hG : ∀ i, G i → F i ∨ a.heap.size ≤ i) : Touch F a c :=
  ⟨k.os.trans h.os, k.tape.trans h.tape, k.output.trans h.output, Nat.le_trans h.size k.size, fun i hi hF => (k.block i (Nat.lt_of_lt_of_le hi h.size) (fun g => (hG i g).elim hF (by omega))).trans (h.block i hi hF)⟩
theorem Touch.mono {F G : Nat → Prop} {w w' : World} (h : Touch F w w') (hF : ∀ k, F k → G k) : Touch G w w' := ⟨h.os, h.tape, h.output, h.size, fun k hk hG => h.block k hk fun f => hG (hF k f)⟩
theorem Touch.below {F : Nat → Prop} {w w' : World} {B : Nat} (h : Touch F w w') (hF : ∀ k, F k → B ≤ k) (hB : B ≤ w.heap.size) : Below B w w' :=
  ⟨h.os, h.tape, h.output, h.size, fun k hk => h.block k (by omega) fun f => by have := hF k f; omega⟩
theorem Touch.of_below {F : Nat → Prop} {w w' : World} (h : Below w.heap.size w w') : Touch F w w' := ⟨h.os, h.tape, h.output, h.size, fun k hk _ => h.block k hk⟩
theorem Touch.set {F : Nat → Prop} {a w : World} (h : Touch F a w) {p : Addr} (hp : F p.block ∨ a.heap.size ≤ p.block) (u : Value) : Touch F a (w.setCell p u) :=
  ⟨h.os, h.tape, h.output, by rw [setCell_size]; exact h.size, fun k hk hF => (heap_far_ne w p u k (fun e => by subst e; exact hp.elim hF (by omega))).trans (h.block k hk hF)⟩
where heap_far_ne (w : World) (p : Addr) (u : Value) (k : Nat) (hk : k ≠ p.block) : (w.setCell p u).heap[k]? = w.heap[k]? := Below.heap_setCell w p u k hk

/-- The value v is a slice that holds the bytes l: in a block of D, or empty, wherever it points. -/
def LiesIn (w : World) (D : Nat → Prop) (v : Value) (l : List UInt8) : Prop :=
  (l = [] ∧ ∃ A c, v = .slice A 0 c ∧ (A = none → c = 0)) ∨ ∃ b off c, v = .slice (some ⟨b, off, none⟩) l.length c ∧ l.length ≤ c ∧ D b ∧ ∀ i (h : i < l.length), w.cell? ⟨b, off + i, none⟩ = some (.int .u8 (l[i].toNat : Int))
theorem LiesIn.keep {w w' : World} {D : Nat → Prop} {v : Value} {l : List UInt8} (h : LiesIn w D v l) (hb : ∀ k, D k → w'.heap[k]? = w.heap[k]?) : LiesIn w' D v l := by
  rcases h with h | ⟨b, off, c, e, hl, hB, hc⟩
  · exact .inl h
  · exact .inr ⟨b, off, c, e, hl, hB, fun i hi => (World.cell?_of_block (w := w) (hb b hB)).trans (hc i hi)⟩
theorem LiesIn.mono {w : World} {D D' : Nat → Prop} {v : Value} {l : List UInt8} (h : LiesIn w D v l) (hD : ∀ k, D k → D' k) : LiesIn w D' v l := by
  rcases h with h | ⟨b, off, c, e, hl, hB, hc⟩
  · exact .inl h
  · exact .inr ⟨b, off, c, e, hl, hD b hB, hc⟩
theorem Lies.in_ {w : World} {B : Nat} {v : Value} {l : List UInt8} (h : Lies w B v l) : LiesIn w (fun k => k < B) v l := by
  rcases h with ⟨rfl, rfl⟩ | h
  · exact .inl ⟨rfl, none, 0, rfl, fun _ => rfl⟩
  · exact .inr h
/-- Bytes in blocks below B. -/
def LiesB (w : World) (B : Nat) (v : Value) (l : List UInt8) : Prop := LiesIn w (fun k => k < B) v l
theorem LiesB.keep {w w' : World} {B : Nat} {v : Value} {l : List UInt8} (h : LiesB w B v l) (hb : ∀ k, k < B → w'.heap[k]? = w.heap[k]?) : LiesB w' B v l := LiesIn.keep h hb
theorem LiesB.more {w : World} {B B' : Nat} {v : Value} {l : List UInt8} (h : LiesB w B v l) (hB : B ≤ B') : LiesB w B' v l := LiesIn.mono h fun k hk => Nat.lt_of_lt_of_le hk hB
theorem LiesB.over {w w' : World} {B : Nat} {v : Value} {l : List UInt8} (h : LiesB w B v l) (hB : B ≤ w.heap.size) (hb : Below w.heap.size w w') : LiesB w' w'.heap.size v l :=
  (h.keep fun k hk => hb.block k (by omega)).more (Nat.le_trans hB hb.size)
theorem LiesIn.below {w : World} {D : Nat → Prop} {v : Value} {l : List UInt8} {B : Nat} (h : LiesIn w D v l) (hD : ∀ k, D k → k < B) : LiesB w B v l := h.mono hD
theorem liesB_row {w : World} {B : Nat} {v : Value} {l : List UInt8} (h : LiesB w B v l) : ∃ A c, v = .slice A l.length c ∧ Row w B A (bc l) ∧ l.length ≤ c ∧ (A = none → c = 0) := by
  rcases h with ⟨rfl, A, c, rfl, hA⟩ | ⟨b, off, c, rfl, hl, hB, hc⟩
  · exact ⟨A, c, rfl, fun hne => absurd rfl hne, Nat.zero_le _, hA⟩
  · exact ⟨_, c, rfl, Lies.row hB hc, hl, fun h => by cases h⟩
theorem liesB_slice {w : World} {B n c : Nat} {A : Option Addr} {l : List UInt8} (h : LiesB w B (.slice A n c) l) : Row w B A (bc l) ∧ l.length ≤ c ∧ (A = none → c = 0) ∧ n = l.length := by
  obtain ⟨A', c', e, h0, h1, h2⟩ := liesB_row h
  simp only [Value.slice.injEq] at e
  obtain ⟨rfl, rfl, rfl⟩ := e
  exact ⟨h0, h1, h2, rfl⟩

/-- The value v is a slice of slices of bytes, in blocks below B. -/
def Blobs (w : World) (B : Nat) (v : Value) (ls : List (List UInt8)) : Prop :=
  ∃ vs : List Value, SeqA w B 1 v ls.length vs ∧ ∀ i (h : i < ls.length) u, vs[i]? = some u → LiesB w B u ls[i]
section
variable {w w' : World} {B : Nat} {v : Value} {ls : List (List UInt8)}
theorem Blobs.keep (h : Blobs w B v ls) (hb : ∀ k, k < B → w'.heap[k]? = w.heap[k]?) : Blobs w' B v ls := by
  obtain ⟨vs, h1, h2⟩ := h
  exact ⟨vs, h1.keep hb, fun i hi u hu => (h2 i hi u hu).keep hb⟩
theorem Blobs.more {B' : Nat} (h : Blobs w B v ls) (hB : B ≤ B') : Blobs w B' v ls := by
  obtain ⟨vs, h1, h2⟩ := h
  exact ⟨vs, h1.more hB, fun i hi u hu => (h2 i hi u hu).more hB⟩
theorem Blobs.over (h : Blobs w B v ls) (hB : B ≤ w.heap.size) (hb : Below w.heap.size w w') : Blobs w' w'.heap.size v ls := (h.keep fun k hk => hb.block k (by omega)).more (Nat.le_trans hB hb.size)
/-- The i-th of them. -/
theorem Blobs.at_ (h : Blobs w B v ls) (i : Nat) (hi : i < ls.length) : ∃ b off c A m, v = .slice (some ⟨b, off, none⟩) ls.length c ∧ b < B ∧ w.cell? ⟨b, off + i, none⟩ = some (.slice A ls[i].length m) ∧ Row w B A (bc ls[i]) ∧ ls[i].length ≤ m ∧ (A = none → m = 0) := by
  obtain ⟨vs, h1, h2⟩ := h
  rcases h1.2 with ⟨h0, _⟩ | ⟨b, off, c, e, hn, hb, hc⟩
  · omega
  · have hlen := h1.1
    have hiv : i < vs.length := by omega
    have hv : vs[i]? = some vs[i] := List.getElem?_eq_getElem hiv
    obtain ⟨A, m, e2, r1, r2, r3⟩ := liesB_row (h2 i hi _ hv)
    exact ⟨b, off, c, A, m, e, hb, by rw [hc i _ hv, e2], r1, r2, r3⟩
/-- The i-th of them, in each later world. -/
theorem Blobs.in_ (h : Blobs w w.heap.size v ls) (i : Nat) (hi : i < ls.length) : ∃ b off c A m, v = .slice (some ⟨b, off, none⟩) ls.length c ∧ ∀ w', Below w.heap.size w w' → w'.cell? ⟨b, off + i, none⟩ = some (.slice A ls[i].length m) ∧ LiesIn w' (fun k => k < w.heap.size) (.slice A ls[i].length m) ls[i] ∧ Row w' w.heap.size A (bc ls[i]) ∧ ls[i].length ≤ m ∧ (A = none → m = 0) := by
  obtain ⟨vs, h1, h2⟩ := h
  rcases h1.2 with ⟨h0, _⟩ | ⟨b, off, c, e, hn, hb, hc⟩
  · omega
  · have hlen := h1.1
    have hiv : i < vs.length := by omega
    have hv : vs[i]? = some vs[i] := List.getElem?_eq_getElem hiv
    have hL := h2 i hi _ hv
    obtain ⟨A, m, e2, r1, r2, r3⟩ := liesB_row hL
    refine ⟨b, off, c, A, m, e, fun w' hw => ⟨?_, ?_, r1.below_ hw, r2, r3⟩⟩
    · rw [(hw.cell (p := ⟨b, off + i, none⟩) hb : w'.cell? ⟨b, off + i, none⟩ = _), hc i _ hv, e2]
    · rw [← e2]; exact hL.keep fun k hk => hw.block k hk
theorem Blobs.open_ (h : Blobs w B v ls) : ∃ A c, v = .slice A ls.length c ∧ ls.length ≤ c := by
  obtain ⟨vs, h1, _⟩ := h
  exact h1.open_
end
/-- The bytes of all of them. -/
def lenB : List (List UInt8) → Nat
  | [] => 0
  | l :: ls => l.length + lenB ls
theorem lenB_append (a b : List (List UInt8)) : lenB (a ++ b) = lenB a + lenB b := by
  induction a with
  | nil => simp [lenB]
  | cons x a ih => simp only [List.cons_append, lenB, ih]; omega
theorem lenB_flatten (a : List (List UInt8)) : a.flatten.length = lenB a := by
  induction a with
  | nil => rfl
  | cons x a ih => simp only [List.flatten_cons, List.length_append, ih, lenB]
theorem lenB_take (ls : List (List UInt8)) (k : Nat) (h : k < ls.length) : lenB (ls.take (k + 1)) = lenB (ls.take k) + ls[k].length := by
  rw [List.take_succ_eq_append_getElem h, lenB_append]
  simp [lenB]
theorem lenB_le (ls : List (List UInt8)) (k : Nat) : lenB (ls.take k) ≤ lenB ls := by
  conv => rhs; rw [← List.take_append_drop k ls, lenB_append]
  omega
theorem lenB_mem (ls : List (List UInt8)) (l : List UInt8) (h : l ∈ ls) : l.length ≤ lenB ls := by
  induction ls with
  | nil => simp at h
  | cons x ls ih =>
    simp only [lenB]
    rcases List.mem_cons.1 h with rfl | h
    · omega
    · have := ih h; omega
theorem flatten_take (ls : List (List UInt8)) (k : Nat) (h : k < ls.length) : (ls.take (k + 1)).flatten = (ls.take k).flatten ++ ls[k] := by
  rw [List.take_succ_eq_append_getElem h, List.flatten_append, List.flatten_singleton]
/-- A new slice of one slice of bytes, of two. -/
theorem blobs_one {w : World} {v : Value} {l : List UInt8} (h : LiesB w w.heap.size v l) (t : TypeId) : Blobs (w.alloc (.cells #[v] t)) (w.alloc (.cells #[v] t)).heap.size (.slice (some ⟨w.heap.size, 0, none⟩) 1 1) [l] := by
  refine ⟨[v], (Seq.lit_ w [v] t).arg, fun i hi u hu => ?_⟩
  have hi0 : i = 0 := by simp at hi; omega
  subst hi0
  simp at hu
  subst hu
  exact h.over (Nat.le_refl _) (bmore (bself w) _)
theorem blobs_two {w : World} {v u : Value} {l m : List UInt8} (h : LiesB w w.heap.size v l) (k : LiesB w w.heap.size u m) (t : TypeId) : Blobs (w.alloc (.cells #[v, u] t)) (w.alloc (.cells #[v, u] t)).heap.size (.slice (some ⟨w.heap.size, 0, none⟩) 2 2) [l, m] := by
  refine ⟨[v, u], ⟨rfl, .inr ⟨w.heap.size, 0, 2, rfl, Nat.le_refl _, by simp, fun i x hx => by rw [Nat.zero_add, heap_cell (heap_alloc_new w _)]; simpa using hx⟩⟩, fun i hi x hx => ?_⟩
  have hi0 : i = 0 ∨ i = 1 := by simp at hi; omega
  rcases hi0 with rfl | rfl
  · simp at hx
    subst hx
    exact h.over (Nat.le_refl _) (bmore (bself w) _)
  · simp at hx
    subst hx
    exact k.over (Nat.le_refl _) (bmore (bself w) _)
/-- Bytes that are gathered in a slice of the call's own. -/
structure OutAt (w wr : World) (o : Value) (l : List UInt8) : Prop where
  o : Owns wr w.heap.size o l
  b : Below w.heap.size w wr
theorem OutAt.new (w : World) : OutAt w w (.slice none 0 0) [] := ⟨Owns.none_ _ _, bself w⟩
theorem OutAt.over {w wr w' : World} {o : Value} {l : List UInt8} (h : OutAt w wr o l) (hb : Below wr.heap.size wr w') : OutAt w w' o l := ⟨h.o.over hb, bstep h.b hb⟩
end Go.Proofs.YthnkiabhfcddaaaDoor
/-
  Layer 4: slices of the program's frames.
-/
namespace Go.Proofs.YthnkiabhfcddaaaDoor
open Go.RowKit
set_option linter.unusedVariables false

/-- Frames as cells; a body is a slice. -/
def cells2 : List (UInt8 × List UInt8) → List Value → List Value
  | x :: l, b :: bs => .int .u8 (x.1.toNat : Int) :: b :: cells2 l bs
  | _, _ => []
theorem cells2_length : ∀ (l : List (UInt8 × List UInt8)) (bs : List Value), bs.length = l.length → (cells2 l bs).length = l.length * 2
  | [], _, _ => rfl
  | _ :: _, [], h => by simp at h
  | x :: l, b :: bs, h => by
    simp only [cells2, List.length_cons]
    rw [cells2_length l bs (by simpa using h)]
    omega
theorem cells2_at : ∀ (l : List (UInt8 × List UInt8)) (bs : List Value) (i : Nat) (hl : bs.length = l.length) (h : i < l.length), (cells2 l bs)[i * 2]? = some (.int .u8 (l[i].1.toNat : Int)) ∧ (cells2 l bs)[i * 2 + 1]? = bs[i]?
  | [], _, _, _, h => by simp at h
  | _ :: _, [], _, h, _ => by simp at h
  | x :: l, b :: bs, 0, _, _ => by simp [cells2]
  | x :: l, b :: bs, i + 1, hl, h => by
    have ih := cells2_at l bs i (by simpa using hl) (by simpa using h)
    have e : (i + 1) * 2 = i * 2 + 2 := by omega
    simp only [cells2, e, List.getElem_cons_succ, List.getElem?_cons_succ]
    exact ih
/-- The value v is a slice of frames, in blocks below B. -/
def SeqP (w : World) (B : Nat) (v : Value) (l : List (UInt8 × List UInt8)) : Prop :=
  ∃ bs : List Value, bs.length = l.length ∧ SeqA w B 2 v l.length (cells2 l bs) ∧ ∀ i (h : i < l.length) u, bs[i]? = some u → LiesB w B u l[i].2
section
variable {w w' : World} {B : Nat} {v : Value} {l : List (UInt8 × List UInt8)}
theorem SeqP.keep (h : SeqP w B v l) (hb : ∀ k, k < B → w'.heap[k]? = w.heap[k]?) : SeqP w' B v l := by
  obtain ⟨bs, h0, h1, h2⟩ := h
  exact ⟨bs, h0, h1.keep hb, fun i hi u hu => (h2 i hi u hu).keep hb⟩
theorem SeqP.more {B' : Nat} (h : SeqP w B v l) (hB : B ≤ B') : SeqP w B' v l := by
  obtain ⟨bs, h0, h1, h2⟩ := h
  exact ⟨bs, h0, h1.more hB, fun i hi u hu => (h2 i hi u hu).more hB⟩
theorem SeqP.over (h : SeqP w B v l) (hB : B ≤ w.heap.size) (hb : Below w.heap.size w w') : SeqP w' w'.heap.size v l := (h.keep fun k hk => hb.block k (by omega)).more (Nat.le_trans hB hb.size)
theorem SeqP.open_ (h : SeqP w B v l) : ∃ A c, v = .slice A l.length c ∧ l.length ≤ c := by
  obtain ⟨bs, _, h1, _⟩ := h
  exact h1.open_
/-- The i-th of them, in each later world. -/
theorem SeqP.in_ (h : SeqP w w.heap.size v l) (i : Nat) (hi : i < l.length) : ∃ b off c A m, v = .slice (some ⟨b, off, none⟩) l.length c ∧ l[i].2.length ≤ m ∧ (A = none → m = 0) ∧ ∀ w', Below w.heap.size w w' → w'.cell? ⟨b, off + i * 2, none⟩ = some (.int .u8 (l[i].1.toNat : Int)) ∧ w'.cell? ⟨b, off + i * 2 + 1, none⟩ = some (.slice A l[i].2.length m) ∧ Row w' w'.heap.size A (bc l[i].2) := by
  obtain ⟨bs, h0, h1, h2⟩ := h
  rcases h1.2 with ⟨h3, _⟩ | ⟨b, off, c, e, hn, hb, hc⟩
  · omega
  · obtain ⟨q0, q1⟩ := cells2_at l bs i h0 hi
    have hv : bs[i]? = some (bs[i]'(by omega)) := List.getElem?_eq_getElem (by omega)
    obtain ⟨A, m, e2, r1, r2, r3⟩ := liesB_row (h2 i hi _ hv)
    refine ⟨b, off, c, A, m, e, r2, r3, fun w' hw => ⟨?_, ?_, (r1.below_ hw).more hw.size⟩⟩
    · rw [(hw.cell (p := ⟨b, off + i * 2, none⟩) hb : w'.cell? ⟨b, off + i * 2, none⟩ = _)]
      exact hc _ _ q0
    · rw [(hw.cell (p := ⟨b, off + i * 2 + 1, none⟩) hb : w'.cell? ⟨b, off + i * 2 + 1, none⟩ = _), Nat.add_assoc, hc _ _ (q1.trans hv), e2]
end
/-- The i-th of them, in each later world, and where its body lies. -/
theorem SeqP.all_ {w : World} {v : Value} {l : List (UInt8 × List UInt8)} (h : SeqP w w.heap.size v l) (i : Nat) (hi : i < l.length) : ∃ b off c A m, v = .slice (some ⟨b, off, none⟩) l.length c ∧ ∀ w', Below w.heap.size w w' → w'.cell? ⟨b, off + i * 2, none⟩ = some (.int .u8 (l[i].1.toNat : Int)) ∧ w'.cell? ⟨b, off + i * 2 + 1, none⟩ = some (.slice A l[i].2.length m) ∧ LiesIn w' (fun k => k < w.heap.size) (.slice A l[i].2.length m) l[i].2 ∧ (convert 30 9 (.slice A l[i].2.length m)).run Tryd.prog w' = .ok (.string (mkB l[i].2)) w' := by
  obtain ⟨bs, h0, h1, h2⟩ := h
  rcases h1.2 with ⟨h3, _⟩ | ⟨b, off, c, e, hn, hb, hc⟩
  · omega
  · obtain ⟨q0, q1⟩ := cells2_at l bs i h0 hi
    have hv : bs[i]? = some (bs[i]'(by omega)) := List.getElem?_eq_getElem (by omega)
    have hL := h2 i hi _ hv
    obtain ⟨A, m, e2, r1, _⟩ := liesB_row hL
    refine ⟨b, off, c, A, m, e, fun w' hw => ⟨?_, ?_, ?_, run_str_any m (r1.below_ hw)⟩⟩
    · rw [(hw.cell (p := ⟨b, off + i * 2, none⟩) hb : w'.cell? ⟨b, off + i * 2, none⟩ = _)]
      exact hc _ _ q0
    · rw [(hw.cell (p := ⟨b, off + i * 2 + 1, none⟩) hb : w'.cell? ⟨b, off + i * 2 + 1, none⟩ = _), Nat.add_assoc, hc _ _ (q1.trans hv), e2]
    · rw [← e2]; exact hL.keep fun k hk => hw.block k hk
def smallF (l : List (UInt8 × List UInt8)) : Bool := l.all fun f => decide (f.2.length ≤ 256)
theorem smallF_iff (l : List (UInt8 × List UInt8)) : smallF l = true ↔ ∀ f ∈ l, f.2.length ≤ 256 := by simp [smallF]
theorem putsF_snoc (l : List (UInt8 × List UInt8)) (f : UInt8 × List UInt8) : putsF (l ++ [f]) = putsF l ++ putF f.1 f.2 := by simp [putsF]
theorem putsF_len (l : List (UInt8 × List UInt8)) (h : ∀ f ∈ l, f.2.length ≤ 256) : (putsF l).length ≤ 263 * l.length := by
  induction l with
  | nil => simp [putsF]
  | cons x l ih =>
    have h1 := ih fun f hf => h f (by simp [hf])
    have h2 := h x (by simp)
    show (putF x.1 x.2 ++ putsF l).length ≤ _
    rw [List.length_append, putF_length, List.length_cons]
    omega
end Go.Proofs.YthnkiabhfcddaaaDoor
