/-
  Contract of the decoder's iterator.
-/
import Derived.Test.YtpgainalimmecaaDoorGot
import Derived.Shelf.Abstract
import Derived.Shelf.RegionOpen
import Derived.TacticsInMore
import Derived.LoopIn
namespace Go.Proofs.YtpgainalimmecaaDoor
open Go.RowKit
attribute [local go_sem] Oper.semAt_some
set_option linter.unusedVariables false

/-- The function value that Items answers, with the captured values lb; its own cells are those of the blocks C. -/
def Told (p : Value) (lb : Array Value) (C : Nat → Prop) (W : World) : Prop := ∃ cb, lb = #[.pointer (some ⟨cb, 0, none⟩)] ∧ W.heap[cb]? = some (.cells #[p] 32 (0, 0)) ∧ C cb
theorem Told.keep {p : Value} {lb : Array Value} {C : Nat → Prop} {X Y : World} (h : Told p lb C X) (hb : ∀ j, C j → Y.heap[j]? = X.heap[j]?) : Told p lb C Y := by
  obtain ⟨cb, e, h1, h2⟩ := h
  exact ⟨cb, e, (hb cb h2).trans h1, h2⟩
set_option maxRecDepth 100000 in
theorem items_any (p : Value) (d : DS) (F : Nat → Prop) (w : World) (hd : Dec w p d F) : Calls Tryd.prog 22 #[p] w fun e w' => ∃ lb C, e = .returned (.func (.func 36) #[] lb) ∧ Told p lb C w' ∧ (∀ j, C j → w.heap.size ≤ j ∧ j < w'.heap.size) ∧ Below w.heap.size w w' := by
  obtain ⟨g, hv, iv, bs, rfl, hd⟩ := hd
  clear hd
  go_enter Tryd.func22, Tryd.ntmps22
  go_wp2
  go_ret
  exact ⟨_, fun j => j = w.heap.size, rfl, ⟨w.heap.size, rfl, heap_alloc_new w _, rfl⟩, fun j hj => by subst hj; simp, bmore (bself w) _⟩
/-- How many items are left. -/
def leftOf (p : Value) (w : World) : Nat := match p with
  | .pointer (some a) => match w.cell? ⟨a.block, 2, none⟩ with
    | some (.slice _ n _) => n
    | _ => 0
  | _ => 0
theorem Dec.left {w : World} {p : Value} {d : DS} {F : Nat → Prop} (h : Dec w p d F) : leftOf p w = d.items.length := by
  obtain ⟨g, hv, iv, bs, rfl, h⟩ := h
  obtain ⟨A, c, rfl, _⟩ := h.box.hi.open_
  unfold leftOf
  simp only [h.box.blk.c2]
theorem run_equalIn_func_nil (w : World) (d : Nat) (t : TypeId) (ps rs : Array TypeId) (vd : Bool) (f : Fn) (a b : Array Value) (h : Tryd.prog.underlying t = some (.func ps rs vd)) : (Op.equalIn (d + 1) t (.func f a b) .nilFunc).run Tryd.prog w = .ok false w := by
  simp [Op.equalIn, run_underlying h]
theorem run_equal_func_nil (w : World) (t : TypeId) (ps rs : Array TypeId) (vd : Bool) (f : Fn) (a b : Array Value) (h : Tryd.prog.underlying t = some (.func ps rs vd)) : (Op.equal t (.func f a b) .nilFunc).run Tryd.prog w = .ok false w := run_equalIn_func_nil w 9999 t ps rs vd f a b h
theorem run_neq_func_nil (w : World) (t : TypeId) (ps rs : Array TypeId) (vd : Bool) (f : Fn) (a b : Array Value) (h : Tryd.prog.underlying t = some (.func ps rs vd)) : (binOp .neq t (.func f a b) .nilFunc).run Tryd.prog w = .ok (.bool true) w := by
  simp [binOp, run_equal_func_nil w t ps rs vd f a b h]
theorem next_end {p : Value} {d : DS} {F : Nat → Prop} {w : World} (hd : Dec w p d F) (hi : d.items = []) : Calls Tryd.prog 17 #[p] w fun e w' => ∃ F' A c, e = .returned (.tuple #[.agg #[.int .i64 0, .int .u8 0, .slice A 0 c], .bool false]) ∧ Moved w p d F w' F' := by
  have e1 : nextS d = (d, noIt, false) := by unfold nextS; rw [hi]
  refine (next_any p d F w hd).mono fun e w' h => ?_
  obtain ⟨F', D, A, c, rfl, hm, _⟩ := h
  rw [e1] at hm
  refine ⟨F', A, c, ?_, hm⟩
  rw [e1]
  rfl
theorem next_give {p : Value} {d : DS} {F : Nat → Prop} {w : World} (hd : Dec w p d F) {x : It} {l : List It} (hi : d.items = x :: l) : Calls Tryd.prog 17 #[p] w fun e w' => ∃ F' D A c, e = .returned (.tuple #[.agg #[.int .i64 (x.skip : Int), .int .u8 (x.kind.toNat : Int), .slice A x.body.length c], .bool true]) ∧ Moved w p { d with items := l } F w' F' ∧ LiesIn w' D (.slice A x.body.length c) x.body ∧ ∀ k, D k → (F k ∨ w.heap.size ≤ k) ∧ k < w'.heap.size ∧ ¬ F' k := by
  have e1 : nextS d = ({ d with items := l }, x, true) := by unfold nextS; rw [hi]
  refine (next_any p d F w hd).mono fun e w' h => ?_
  obtain ⟨F', D, A, c, rfl, hm, hl, hD⟩ := h
  rw [e1] at hm hl
  refine ⟨F', D, A, c, ?_, hm, hl, hD⟩
  rw [e1]
theorem moved_over {w w1 w2 : World} {p : Value} {d : DS} {F F' : Nat → Prop} (h : Moved w p d F w1 F') (hb : Below w1.heap.size w1 w2) : Moved w p d F w2 F' :=
  ⟨h.1.keep fun k hk => hb.block k (h.1.old k hk), h.2.1.trans (Touch.of_below (F := fun _ => False) hb) (fun k hk => hk.elim), h.2.2⟩
theorem hand_over {w w1 : World} {p : Value} {s : DS × (Nat → Prop)} {x : It} {ls : List It} {F' D : Nat → Prop} {A : Option Addr} {c : Nat} (hi : s.1.items = x :: ls) (h : Moved w p { s.1 with items := ls } s.2 w1 F' ∧ LiesIn w1 D (.slice A x.body.length c) x.body ∧ ∀ k, D k → (s.2 k ∨ w.heap.size ≤ k) ∧ k < w1.heap.size ∧ ¬ F' k) {o : Obj} :
    HandIt p s w ({ s.1 with items := ls }, F') #[.agg #[.int .i64 (x.skip : Int), .int .u8 (x.kind.toNat : Int), .slice A x.body.length c]] (w1.alloc o) := by
  obtain ⟨h1, h2, h3⟩ := h
  have hb := bmore (bself w1) o
  exact ⟨x, ls, D, A, c, hi, rfl, rfl, moved_over h1 hb, h2.keep fun k hk => hb.block k (h3 k hk).2.1, fun k hk => ⟨(h3 k hk).1, Nat.lt_of_lt_of_le (h3 k hk).2.1 hb.size, (h3 k hk).2.2⟩⟩
set_option maxRecDepth 100000 in
theorem items_hands (p : Value) (lb : Array Value) (C : Nat → Prop) : Hands Tryd.prog 36 lb (OkIt (Told p lb C) C p) (HandIt p) (EndIt p) := by
  intro l J Je Jx hOk hY hE s W h0
  obtain ⟨cb, rfl, -, -⟩ := (hOk s W h0).2.1
  have HO := Lib.hid hOk
  have HY := Lib.hid hY
  have HE := Lib.hid hE
  clear hOk hY hE
  refine callsIn_of_wp Tryd.func36 rfl trivial ?_ rfl
  simp only [Tryd.ntmps36, List.size_toArray, List.length_cons, List.length_nil, Nat.reduceAdd, Nat.reduceSub, Array.replicate_succ, Array.replicate_zero, List.push_toArray, List.append_toArray, List.nil_append, List.cons_append]
  gi_wp2
  gi_loopw [] (fun wr => ∃ s, J s wr) (fun wr => leftOf p wr)
  case atStart => exact ⟨s, h0⟩
  case round =>
    obtain ⟨s, hJ⟩ := hrel
    obtain ⟨hd, ⟨cb2, e, hcb, -⟩, -⟩ := HO.out s wr hJ
    simp only [Array.mk.injEq, List.cons.injEq, Value.pointer.injEq, Option.some.injEq, Addr.mk.injEq, and_true] at e
    subst e
    have hb : wr.cell? ⟨cb, 0, none⟩ = some p := (heap_cell hcb 0).trans rfl
    have hq := run_neq_func_nil wr 77 _ _ _ (.yield l) #[] #[] Tryd.underlying77
    clear hcb
    cases hit : s.1.items with
    | nil =>
      have HN := Lib.hid (next_end hd hit)
      have HI := Lib.hid hit
      clear hd hit
      gi_wp2_with (refine ⟨trivial, ?_⟩; gi_at_call 17; (with_reducible refine (callsIn_wide.2 HN.out).mono ?_); rintro e w1 ⟨F', A, c, rfl, hm⟩; have HM := Lib.hid hm; clear hm)
      refine ⟨fun f h => (by cases h), ?_⟩
      gi_wp2
      refine bodyPost_ret (results_none rfl _ _ _) rfl ?_
      exact ⟨⟨_, rfl⟩, .inl (HE.out s wr _ hJ ⟨HI.out, F', moved_over HM.out (bmore (bself w1) _)⟩)⟩
    | cons x ls =>
      have HN := Lib.hid (next_give hd hit)
      have HI := Lib.hid hit
      clear hd hit
      gi_wp2_with (refine ⟨trivial, ?_⟩; gi_at_call 17; (with_reducible refine (callsIn_wide.2 HN.out).mono ?_); rintro e w1 ⟨F', D, A, c, rfl, hm, hl, hD⟩; have HM := Lib.hid (And.intro hm (And.intro hl hD)); clear hm hl hD; obtain ⟨fn, tmps, assign, body, hy, hR⟩ := HY.out s wr ({ s.1 with items := ls }, F') _ (w1.alloc (.cells #[.int .i64 (x.skip : Int), .int .u8 (x.kind.toNat : Int), .slice A x.body.length c] 42)) hJ (hand_over HI.out HM.out))
      refine hR.mono ?_
      rintro e W' (⟨rfl, hJ'⟩ | ⟨rfl, hJx⟩)
      · gi_wp2
        go_roundw
        case rel => exact ⟨_, hJ'⟩
        case measure =>
          rw [(HO.out _ _ hJ').1.left, (HO.out s wr hJ).1.left, HI.out]
          simp
      · gi_wp2
        refine bodyPost_ret (results_none rfl _ _ _) rfl ?_
        exact ⟨⟨_, rfl⟩, .inr hJx⟩
end Go.Proofs.YtpgainalimmecaaDoor
