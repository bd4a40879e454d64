/-
  Texts of the proofs, put together: Blob, AppG, NewB.
-/
import Derived.Test.YthnkiabhfcddaaaDoorMem
import Derived.Laws.BytesArg
import Derived.Laws.AppendOwnNone
import Derived.Laws.IdiomStrings
import Derived.Maps.AppendAt
import Derived.Laws.OwnMore
import Derived.OpenShut
import Derived.Test.YthnkiabhfcddaaaDoorPackB
import Derived.Test.YthnkiabhfcddaaaDoorPackA
/-
  Words for memory, of no layer: a slice of bytes wherever it lies, nil, empty or not; integers as bytes; a slice as a text.
-/
namespace Go.Proofs.YthnkiabhfcddaaaDoor
open Go.RowKit

theorem u8_nat (n : Nat) (h : n < 256) : (UInt8.ofNat n).toNat = n := by simp; omega

/-- The value v is a slice in blocks below B that holds the bytes l. -/
def Lies (w : World) (B : Nat) (v : Value) (l : List UInt8) : Prop :=
  (v = .slice none 0 0 ∧ l = []) ∨ ∃ b off c, v = .slice (some ⟨b, off, none⟩) l.length c ∧ l.length ≤ c ∧ b < B ∧ ∀ i (h : i < l.length), w.cell? ⟨b, off + i, none⟩ = some (.int .u8 (l[i].toNat : Int))
section
variable {w w' : World} {g : Nat} {v : Value} {l : List UInt8} {e : Int} {t : TypeId} {cs : Array Value}
theorem Lies.keep {B : Nat} (h : Lies w B v l) (hb : ∀ k, k < B → w'.heap[k]? = w.heap[k]?) : Lies w' B v l := by
  rcases h with h | ⟨b, off, c, e, hl, hB, hc⟩
  · exact .inl h
  · exact .inr ⟨b, off, c, e, hl, hB, fun i hi => (World.cell?_of_block (w := w) (hb b hB)).trans (hc i hi)⟩
end
theorem Lies.row {w : World} {B : Nat} {b off : Nat} {l : List UInt8} (hb : b < B) (hcs : ∀ i (h : i < l.length), w.cell? ⟨b, off + i, none⟩ = some (.int .u8 (l[i].toNat : Int))) : Row w B (some ⟨b, off, none⟩) (bc l) :=
  fun _ => ⟨b, off, rfl, hb, fun i u hu => by
    have hi : i < l.length := by
      have := (List.getElem?_eq_some_iff.1 hu).1
      simpa [bc] using this
    rw [bc_get l i hi] at hu
    rw [← hu]
    exact hcs i hi⟩
theorem Owns.lies {w : World} {base : Nat} {v : Value} {l : List UInt8} (h : Owns w base v l) : Lies w w.heap.size v l := by
  obtain ⟨_, h2 | ⟨g, cap, cur, rfl, hg, hh, hn, _, _, hx⟩⟩ := h
  · exact .inl ⟨h2.1, List.eq_nil_of_length_eq_zero h2.2⟩
  · refine .inr ⟨g, 0, cap, rfl, hn, heap_lt hh, fun i hi => ?_⟩
    rw [heap_cell hh]
    have e := bc_get l i hi
    rw [← hx, List.getElem?_take, if_pos (by omega)] at e
    simpa using e

theorem lit_lies (w : World) (l : List UInt8) (cs : Array Value) (h : cs = (bc l).toArray) : Lies (w.alloc (.cells cs 5)) (w.alloc (.cells cs 5)).heap.size (.slice (some ⟨w.heap.size, 0, none⟩) l.length l.length) l := by
  refine .inr ⟨w.heap.size, 0, l.length, rfl, Nat.le_refl _, by simp, fun i hi => ?_⟩
  subst h
  rw [Nat.zero_add, heap_cell (heap_alloc_new w _)]
  simpa using bc_get l i hi

/-- Integers that fit a byte, as bytes. -/
theorem ints_bc {zs : List Int} (h : ∀ n ∈ zs, (Lit.int .u8 n).wf = true) : ∃ l : List UInt8, zs.map (Value.int .u8) = bc l ∧ zs.length = l.length := by
  refine ⟨zs.map fun n => UInt8.ofNat n.toNat, ?_, by simp⟩
  unfold bc
  rw [List.map_map]
  apply List.map_congr_left
  intro n hn
  have b := bounds_u8 (h n hn)
  have e := u8_nat n.toNat (by omega)
  show Value.int .u8 n = Value.int .u8 _
  dsimp only
  rw [e, Int.toNat_of_nonneg b.1]

/-- An append of any slice of bytes: nil, empty or not. -/
theorem wp_app_any {ops : Array Oper} {rest : List Oper} {o : Oper} {a : Act} {Q : Exit → Act → World → Prop} {w : World} (hgd : o.guard = none) (s x : Operand)
    (ho : o.op = .call { callee := .builtin .append, args := #[s, x], argTypes := #[30, 30] })
    (base B : Nat) (v : Value) (l m : List UInt8) (A : Option Addr) (c : Nat) (hs : a.eval s = v) (hown : Owns w base v l) (hx : a.eval x = .slice A m.length c) (hA : A = none → c = 0)
    (hr : Row w B A (bc m)) (hf : Fits (l.length + m.length)) (hbase : base ≤ w.heap.size)
    (h : ∀ v' w', Owns w' base v' (l ++ m) → Below base w w' → wpList Tryd.prog ops Q rest (a.put o.dst v') w') : wpList Tryd.prog ops Q (o :: rest) a w := by
  cases A with
  | none =>
    obtain rfl := hA rfl
    have hm : m = [] := by
      cases m with
      | nil => rfl
      | cons y m => obtain ⟨_, _, e, _⟩ := hr (by simp [bc]); cases e
    subst hm
    obtain ⟨i0, hi0, _⟩ := info_parts info_u8
    exact wpList_append_own_none hgd s x _ ho base _ i0 1 Tryd.underlying30 hi0 v l.length (bc l) hs hown hx (h v w (by simpa using hown) (Below.refl _ _))
  | some ad =>
    refine wp_app hgd s x ho base v l m c ad hs hown hx (fun j hj => ?_) hf hbase h
    obtain ⟨b, off, e, _, hc⟩ := hr (by intro e; have := congrArg List.length e; rw [bc_length, List.length_nil] at this; omega)
    injection e with e
    subst e
    rw [Addr.add_lit]
    exact hc j _ (bc_get m j hj)

theorem Owns.over {w w' : World} {base : Nat} {v : Value} {l : List UInt8} (h : Owns w base v l) (hb : Below w.heap.size w w') : Owns w' base v l := by
  refine ⟨h.1, ?_⟩
  rcases h.2 with h2 | ⟨g, cap, cur, rfl, hg, hh, r⟩
  · exact .inl h2
  · exact .inr ⟨g, cap, cur, rfl, hg, (hb.block g (heap_lt hh)).trans hh, r⟩

/-- A slice of bytes, nil, empty or not, as a text. -/
theorem run_str_any {w : World} {B : Nat} {A : Option Addr} {l : List UInt8} (c : Nat) (hr : Row w B A (bc l)) :
    (convert 30 9 (.slice A l.length c)).run Tryd.prog w = .ok (.string (mkB l)) w := by
  cases l with
  | nil =>
    cases A with
    | none => exact run_str_nil w 0 c
    | some ad =>
      have hl : (loadCells ad 0).run Tryd.prog w = .ok (([] : List Int).map (Value.int .u8)).toArray w := by
        have := run_loadCells_list (P := Tryd.prog) w ad [] (fun j v hj => by simp at hj)
        simpa using this
      rw [List.length_nil, run_convert_bytes_string w 30 9 5 _ 0 c Tryd.underlying30 Tryd.underlying5 Tryd.underlying9, run_bytesToString w ad 0 c [] hl]
      rfl
  | cons x l =>
    obtain ⟨b, off, rfl, _, hc⟩ := hr (by simp [bc])
    have h := run_str (cap := c) (x :: l).length (Nat.le_refl _) (fun i hi => hc i _ (bc_get (x :: l) i hi))
    rw [List.take_length] at h
    exact h
theorem lies_row {w : World} {B : Nat} {v : Value} {l : List UInt8} (h : Lies w B v l) : ∃ A c, v = .slice A l.length c ∧ Row w B A (bc l) ∧ l.length ≤ c ∧ (A = none → c = 0) := by
  rcases h with ⟨rfl, rfl⟩ | ⟨b, off, c, rfl, hl, hB, hc⟩
  · exact ⟨none, 0, rfl, fun hne => absurd rfl hne, Nat.le_refl _, fun _ => rfl⟩
  · exact ⟨_, c, rfl, Lies.row hB hc, hl, fun h => by cases h⟩
theorem owns_str {w : World} {base : Nat} {v : Value} {l : List UInt8} (h : Owns w base v l) : (convert 30 9 v).run Tryd.prog w = .ok (.string (mkB l)) w := by
  obtain ⟨A, c, rfl, hr, _⟩ := lies_row h.lies
  exact run_str_any c hr
theorem ints_nat {zs : List Int} (h : ∀ n ∈ zs, (Lit.int .u64 n).wf = true) : ∃ ns : List Nat, zs.map (Value.int .u64) = ns.map (fun z : Nat => Value.int .u64 (z : Int)) ∧ zs.length = ns.length ∧ ∀ z ∈ ns, z ≤ 18446744073709551615 := by
  refine ⟨zs.map Int.toNat, ?_, by simp, ?_⟩
  · rw [List.map_map]
    apply List.map_congr_left
    intro n hn
    have b := bounds_u64 (h n hn)
    show Value.int .u64 n = Value.int .u64 _
    rw [Int.toNat_of_nonneg b.1]
  · intro z hz
    obtain ⟨n, hn, rfl⟩ := List.mem_map.1 hz
    have b := bounds_u64 (h n hn)
    omega

/-- A literal whose row bears the run-time's mark. -/
theorem lit_row_mark (w : World) (xs : List Value) (t : TypeId) (cs : Array Value) (fr : Nat × Nat) (h : cs = xs.toArray) : Row (w.alloc (.cells cs t fr)) (w.alloc (.cells cs t fr)).heap.size (some ⟨w.heap.size, 0, none⟩) xs := fun _ => by
  subst h
  refine ⟨w.heap.size, 0, rfl, by simp, fun i u hu => ?_⟩
  rw [Nat.zero_add, World.cell?_alloc_mark]
  simpa using hu
/-- A text as new bytes. -/
theorem conv_bytes (w : World) (t : ByteArray) : ∃ c w', (convert 9 30 (.string t)).run Tryd.prog w = .ok (.slice (some ⟨w.heap.size, 0, none⟩) t.size c) w' ∧ Row w' w'.heap.size (some ⟨w.heap.size, 0, none⟩) (bc t.data.toList) ∧ t.size ≤ c ∧ Below w.heap.size w w' := by
  refine ⟨_, _, run_bytes_of_string w 9 30 5 t Tryd.underlying9 Tryd.underlying30 Tryd.underlying5, fun _ => ⟨w.heap.size, 0, rfl, by simp, fun i u hu => ?_⟩, grownCap_ge _ _ _ _, (Below.refl _ _).drew.alloc (Nat.le_refl _) _⟩
  have hi : i < t.data.toList.length := by
    have := (List.getElem?_eq_some_iff.1 hu).1
    simpa [bc] using this
  rw [Nat.zero_add, show w.heap.size = w.drew.heap.size from rfl, World.cell?_alloc_mark]
  rw [bc_get _ i hi] at hu
  rw [← hu]
  unfold bytesRow
  have h2 : i < t.data.size := by simpa using hi
  have h3 : i < t.size := h2
  simp [Array.getElem?_append, h3]

/-- New bytes, all 0. -/
theorem make_zeros (w : World) (base n : Nat) (hn : n ≤ 1000000) (hb : base ≤ w.heap.size) : ∃ w', (Instr.makeSlice 30 (.int .i64 (n : Int)) (.int .i64 (n : Int))).run Tryd.prog w = .ok (.slice (some ⟨w.heap.size, 0, none⟩) n n) w' ∧ Owns w' base (.slice (some ⟨w.heap.size, 0, none⟩) n n) (List.replicate n 0) ∧ Below w.heap.size w w' := by
  obtain ⟨i0, hi0, hz0, hz1, hz2⟩ := info_parts info_u8
  obtain ⟨w', h1, h2, h3⟩ := run_makeSlice_full (P := Tryd.prog) w base 30 5 i0 _ 1 Tryd.underlying30 hi0 hz0 hz1 .i64 .i64 n (by omega) (by rw [hz2]; omega) (by unfold maxLen; omega) hb
  refine ⟨w', h1, ?_, (Below.refl _ _).grown h3 (Nat.le_refl _) (fun k hk => by cases hk)⟩
  have e : (madeCells (Value.int .u8 0).cells (n * 1)).toList = bc (List.replicate n 0) := by
    rw [Nat.mul_one, show (Value.int .u8 0).cells = #[Value.int .u8 0] from rfl, toList_madeCells_one]
    simp [bc]
  rw [e] at h2
  unfold Owns
  rw [List.length_replicate]
  exact h2

/-- Bytes of the call's own that are there: the slice's block, its cells, and what a store leaves. -/
theorem Owns.block_ {w : World} {base : Nat} {v : Value} {l : List UInt8} (h : Owns w base v l) (hl : 0 < l.length) : ∃ g cap, v = .slice (some ⟨g, 0, none⟩) l.length cap ∧ base ≤ g ∧ g < w.heap.size := by
  obtain ⟨_, h2 | ⟨g, cap, cur, rfl, hg, hh, _⟩⟩ := h
  · omega
  · exact ⟨g, cap, rfl, hg, heap_lt hh⟩
theorem Owns.cell_ {w : World} {base g cap : Nat} {l : List UInt8} {n : Nat} (h : Owns w base (.slice (some ⟨g, 0, none⟩) n cap) l) (i : Nat) (hi : i < l.length) : w.cell? ⟨g, i, none⟩ = some (.int .u8 (l[i].toNat : Int)) ∧ w.frozen? ⟨g, i, none⟩ = false := by
  obtain ⟨_, h2 | ⟨g', cap', cur, e, hg, hh, _, _, _, hx⟩⟩ := h
  · cases h2.1
  · simp only [Value.slice.injEq, Option.some.injEq, Addr.mk.injEq] at e
    obtain ⟨⟨rfl, _⟩, _, rfl⟩ := e
    refine ⟨?_, heap_frozen hh i⟩
    rw [heap_cell hh]
    have e := bc_get l i hi
    rw [← hx, List.getElem?_take, if_pos (by omega)] at e
    simpa using e
theorem Owns.set_ {w : World} {base g cap : Nat} {l : List UInt8} {n : Nat} (h : Owns w base (.slice (some ⟨g, 0, none⟩) n cap) l) (i : Nat) (hi : i < l.length) (x : UInt8) :
    Owns (w.setCell ⟨g, i, none⟩ (.int .u8 (x.toNat : Int))) base (.slice (some ⟨g, 0, none⟩) n cap) (l.set i x) := by
  obtain ⟨h1, h2 | ⟨g', cap', cur, e, hg, hh, hn, hm, hs, hx⟩⟩ := h
  · cases h2.1
  · simp only [Value.slice.injEq, Option.some.injEq, Addr.mk.injEq] at e
    obtain ⟨⟨rfl, _⟩, rfl, rfl⟩ := e
    refine ⟨by simp [bc], .inr ⟨g, cap, cur.setIfInBounds i (.int .u8 (x.toNat : Int)), by simp, hg, heap_set hh i _, by simpa using hn, hm, by simpa using hs, ?_⟩⟩
    rw [List.length_set, Array.toList_setIfInBounds]
    have e2 : (cur.toList.set i (.int .u8 (x.toNat : Int))).take (l.length * 1) = (cur.toList.take (l.length * 1)).set i (.int .u8 (x.toNat : Int)) := by
      apply List.ext_getElem?
      intro j
      rw [List.getElem?_take, List.getElem?_set, List.getElem?_set, List.getElem?_take, List.length_take]
      by_cases hj : j < l.length * 1
      · rw [if_pos hj]
        by_cases e : i = j
        · subst e
          have hcur : l.length ≤ cur.toList.length := by have e3 : cur.toList.length = cur.size := Array.length_toList; omega
          rw [if_pos rfl, if_pos rfl, if_pos (by omega), if_pos (by omega)]
        · rw [if_neg e, if_neg e, if_pos hj]
      · rw [if_neg hj]
        by_cases e : i = j
        · omega
        · rw [if_neg e, if_neg hj]
    rw [e2, hx]
    simp [bc]

/-! Several slices of the call's own, side by side. -/
/-- Two slices have no block in common. -/
def Apart (v u : Value) : Prop := ∀ k, v.ownBlock = some k → u.ownBlock ≠ some k
theorem Apart.symm {v u : Value} (h : Apart v u) : Apart u v := fun k hu hv => h k hv hu
theorem Apart.none_ (v : Value) : Apart (.slice none 0 0) v := fun k h => by simp [Value.ownBlock] at h
theorem Owns.old {w : World} {base : Nat} {v : Value} {l : List UInt8} (h : Owns w base v l) : ∀ k, v.ownBlock = some k → k < w.heap.size := by
  rcases h.2 with ⟨rfl, _⟩ | ⟨g, cap, cur, rfl, hg, hh, _⟩
  · intro k hk; simp [Value.ownBlock] at hk
  · intro k hk; simp [Value.ownBlock] at hk; rw [← hk]; exact heap_lt hh
/-- What an append of the slice v leaves: the new slice v'. -/
def Pushed (w : World) (base : Nat) (v v' : Value) (l : List UInt8) (w' : World) : Prop := Owns w' base v' l ∧ w.grownBy w' v.ownBlock ∧ (v'.ownBlock = v.ownBlock ∨ v'.ownBlock = some w.heap.size) ∧ Below base w w'
theorem Pushed.other {w w' : World} {base base2 : Nat} {v v' u : Value} {l m : List UInt8} (h : Pushed w base v v' l w') (hu : Owns w base2 u m) (ha : Apart v u) : Owns w' base2 u m ∧ Apart v' u := by
  obtain ⟨h1, h2, h3, _⟩ := h
  refine ⟨hu.below_ fun k hk => h2.block k (hu.old k hk) fun e => ha k e.symm hk, fun k hk hk2 => ?_⟩
  rcases h3 with e | e
  · exact ha k (e ▸ hk) hk2
  · rw [e] at hk
    injection hk with hk
    have := hu.old k hk2
    omega
/-- An append of one new byte, with all that it leaves, at the operation alone. -/
theorem wp_push_op {o : Oper} {a : Act} {K : Act → World → Prop} {Q : Exit → Act → World → Prop} {w : World} (s x : Operand)
    (ho : o.op = .call { callee := .builtin .append, args := #[s, x], argTypes := #[30, 30] })
    (base : Nat) (v : Value) (l : List UInt8) (c : UInt8) (n : Int) (cap g : Nat) (hs : a.eval s = v) (hown : Owns w base v l) (hx : a.eval x = .slice (some ⟨g, 0, none⟩) 1 cap)
    (hcell : w.cell? ⟨g, 0, none⟩ = some (.int .u8 n)) (hc : n = (c.toNat : Int)) (hf : Fits (l.length + 1)) (hbase : base ≤ w.heap.size)
    (h : ∀ v' w', Pushed w base v v' (l ++ [c]) w' → K (a.put o.dst v') w') : o.wp Tryd.prog a w K Q := by
  obtain ⟨i0, hi0, hz0, hz1, hz2⟩ := info_parts info_u8
  unfold Fits at hf
  obtain ⟨v', w', hr, h1, h2, h3, h4⟩ := run_append_own_at (P := Tryd.prog) w base 30 o.type 5 i0 _ 1 1 Tryd.underlying30 hi0 hz0 hz1 hz2 rfl (by omega) v l.length (bc l) hown ⟨g, 0, none⟩ 1 cap (bc [c]) (by simp [bc]) (by
    intro j u hu
    have hj : j = 0 := by
      have := (List.getElem?_eq_some_iff.1 hu).1
      simpa [bc] using this
    subst hj
    rw [bc_get [c] 0 (by simp)] at hu
    rw [← hu]
    subst hc
    simpa [Addr.add] using hcell) (bc_one [c]) (by unfold maxLen; omega) (by omega) hbase
  unfold Oper.wp execOp
  simp only [ho, resolve, invoke, builtin, Sem.run_bind, Sem.run_pure, Result.andThen_ok, List.map_toArray, List.map_cons, List.map_nil, hs, hx, hr]
  refine h v' w' ⟨?_, h2, h4, (Below.refl _ _).grown h2 hbase hown.ge⟩
  unfold Owns
  rw [bc_append, List.length_append]
  exact h1
/-- An append of one new byte, with all that it leaves. -/
theorem wp_push_at {ops : Array Oper} {rest : List Oper} {o : Oper} {a : Act} {Q : Exit → Act → World → Prop} {w : World} (hgd : o.guard = none) (s x : Operand)
    (ho : o.op = .call { callee := .builtin .append, args := #[s, x], argTypes := #[30, 30] })
    (base : Nat) (v : Value) (l : List UInt8) (c : UInt8) (n : Int) (cap g : Nat) (hs : a.eval s = v) (hown : Owns w base v l) (hx : a.eval x = .slice (some ⟨g, 0, none⟩) 1 cap)
    (hcell : w.cell? ⟨g, 0, none⟩ = some (.int .u8 n)) (hc : n = (c.toNat : Int)) (hf : Fits (l.length + 1)) (hbase : base ≤ w.heap.size)
    (h : ∀ v' w', Pushed w base v v' (l ++ [c]) w' → wpList Tryd.prog ops Q rest (a.put o.dst v') w') : wpList Tryd.prog ops Q (o :: rest) a w := by
  obtain ⟨i0, hi0, hz0, hz1, hz2⟩ := info_parts info_u8
  unfold Fits at hf
  refine wpList_append_own_at w hgd s x _ ho base _ i0 _ 1 1 Tryd.underlying30 hi0 hz0 hz1 hz2 rfl (by omega) v l.length (bc l) hs hown ⟨g, 0, none⟩ 1 cap (bc [c]) hx (by simp [bc]) ?_ (bc_one [c]) (by unfold maxLen; omega) (by omega) hbase ?_
  · intro j u hu
    have hj : j = 0 := by
      have := (List.getElem?_eq_some_iff.1 hu).1
      simpa [bc] using this
    subst hj
    rw [bc_get [c] 0 (by simp)] at hu
    rw [← hu]
    subst hc
    simpa [Addr.add] using hcell
  · intro v' w' h1 h2 _ h4
    refine h v' w' ⟨?_, h2, h4, (Below.refl _ _).grown h2 hbase hown.ge⟩
    unfold Owns
    rw [bc_append, List.length_append]
    exact h1
end Go.Proofs.YthnkiabhfcddaaaDoor
/-
  Words for memory, of no layer: an append of any slice of bytes, with all that it leaves: no block has turned but the slice's own.
-/
namespace Go.Proofs.YthnkiabhfcddaaaDoor
open Go.RowKit

set_option maxRecDepth 10000 in
theorem wp_app_g {ops : Array Oper} {rest : List Oper} {o : Oper} {a : Act} {Q : Exit → Act → World → Prop} {w : World} (hgd : o.guard = none) (s x : Operand)
    (ho : o.op = .call { callee := .builtin .append, args := #[s, x], argTypes := #[30, 30] })
    (base B : Nat) (v : Value) (l m : List UInt8) (A : Option Addr) (c : Nat) (hs : a.eval s = v) (hown : Owns w base v l) (hx : a.eval x = .slice A m.length c) (hA : A = none → c = 0)
    (hr : Row w B A (bc m)) (hf : Fits (l.length + m.length)) (hbase : base ≤ w.heap.size)
    (h : ∀ v' w', Owns w' base v' (l ++ m) → Below base w w' → w.grownBy w' v.ownBlock → wpList Tryd.prog ops Q rest (a.put o.dst v') w') : wpList Tryd.prog ops Q (o :: rest) a w := by
  obtain ⟨i0, hi0, hz0, hz1, hz2⟩ := info_parts info_u8
  cases A with
  | none =>
    obtain rfl := hA rfl
    have hm : m = [] := by
      cases m with
      | nil => rfl
      | cons y m => obtain ⟨_, _, e, _⟩ := hr (by simp [bc]); cases e
    subst hm
    exact wpList_append_own_none hgd s x _ ho base _ i0 1 Tryd.underlying30 hi0 v l.length (bc l) hs hown hx (h v w (by simpa using hown) (Below.refl _ _) (World.grownBy.refl _ _))
  | some ad =>
    unfold Fits at hf
    refine wpList_append_own w hgd s x _ ho base _ i0 _ 1 1 Tryd.underlying30 hi0 hz0 hz1 hz2 rfl (by omega) v l.length (bc l) hs hown ad m.length c (bc m) hx (by simp [bc]) ?_ (bc_one m) (by unfold maxLen; omega) (by omega) hbase ?_
    · intro j u hu
      have hne : bc m ≠ [] := fun e => by rw [e] at hu; cases hu
      obtain ⟨b, off, e, _, hc⟩ := hr hne
      injection e with e
      subst e
      rw [Addr.add_lit]
      exact hc j _ hu
    · intro v' w' h1 h2 _
      refine h v' w' ?_ ((Below.refl _ _).grown h2 hbase hown.ge) h2
      unfold Owns
      rw [bc_append, List.length_append]
      exact h1
/-- A block that isn't the slice's own stays. -/
theorem grown_block {w w' : World} {v : Value} (h : w.grownBy w' v.ownBlock) {g : Nat} {o : Obj} (hg : w.heap[g]? = some o) (hne : v.ownBlock ≠ some g) : w'.heap[g]? = some o := by
  have hlt : g < w.heap.size := by
    rcases Nat.lt_or_ge g w.heap.size with h1 | h1
    · exact h1
    · rw [Array.getElem?_eq_none h1] at hg; cases hg
  exact (h.block g hlt fun e => hne e.symm).trans hg
theorem own_ne {w : World} {base g : Nat} {v : Value} {l : List UInt8} (h : Owns w base v l) (hg : w.heap.size ≤ g) : v.ownBlock ≠ some g := fun e => by
  have := h.old g e
  omega
end Go.Proofs.YthnkiabhfcddaaaDoor
/-
  Words of no layer: octet.Put and octet.Texts of one: new bytes.
-/
namespace Go.Proofs.YthnkiabhfcddaaaDoor
open Go.RowKit
set_option linter.unusedVariables false

/-- What a call ends in that hands back new bytes: a slice, opened. -/
def NewB (l : List UInt8) (w : World) (e : Ending) (w' : World) : Prop := ∃ A c, e = .returned (.slice A l.length c) ∧ Owns w' w.heap.size (.slice A l.length c) l ∧ Row w' w'.heap.size A (bc l) ∧ (A = none → c = 0) ∧ Below w.heap.size w w'
theorem newB_of {l : List UInt8} {w w1 : World} {e : Ending} {w' : World} (h : Gets w1.heap.size l w1 e w') (hb : Below w.heap.size w w1) (hz : w.heap.size ≤ w1.heap.size) : NewB l w e w' := by
  obtain ⟨v, rfl, ho, hb2⟩ := h
  have ho2 : Owns w' w.heap.size v l := by
    refine ⟨ho.1, ?_⟩
    rcases ho.2 with h2 | ⟨g, cap, cur, rfl, hg, r⟩
    · exact .inl h2
    · exact .inr ⟨g, cap, cur, rfl, by omega, r⟩
  obtain ⟨A, c, rfl, hr, _, hA⟩ := lies_row ho.lies
  exact ⟨A, c, rfl, ho2, hr, hA, hb.trans (hb2.mono hz)⟩
theorem put_one (u : Nat) (w : World) (t : TypeId) (hu : u ≤ 18446744073709551615) : Calls Tryd.prog 51 #[.slice (some ⟨w.heap.size, 0, none⟩) 1 1] (w.alloc (.cells #[.int .u64 (u : Int)] t)) (NewB (enc u) w) :=
  (put_any [u] (some ⟨w.heap.size, 0, none⟩) 1 (w.alloc (.cells #[.int .u64 (u : Int)] t)) (by simpa using hu) (lit_row_mark w _ t _ (0, 0) rfl) (by simp)).mono fun e w' h => newB_of (by simpa [encs] using h) (bmore (bself w) _) (by simp)
theorem text_one (s : List UInt8) (w : World) (t : TypeId) (hs : s.length ≤ 1000000) : Calls Tryd.prog 50 #[.slice (some ⟨w.heap.size, 0, none⟩) 1 1] (w.alloc (.cells #[.string (mkB s)] t)) (NewB (enc s.length ++ s) w) := by
  have e : (mkB s).size = s.length := by simp [mkB, ByteArray.size]
  have e2 : encTs [mkB s] = enc s.length ++ s := by
    unfold encTs
    rw [List.flatMap_cons, List.flatMap_nil, List.append_nil, e]
    rfl
  refine (texts_any [mkB s] (some ⟨w.heap.size, 0, none⟩) 1 (w.alloc (.cells #[.string (mkB s)] t)) (fun x hx => by rw [List.mem_singleton.1 hx, e]; exact hs) (lit_row_mark w _ t _ (0, 0) rfl) (by simp)).mono fun e w' h => newB_of (by rw [← e2]; exact h) (bmore (bself w) _) (by simp)
end Go.Proofs.YthnkiabhfcddaaaDoor
