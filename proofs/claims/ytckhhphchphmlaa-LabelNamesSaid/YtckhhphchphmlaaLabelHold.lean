/-
  Package label's contracts of stands and Holds.
-/
import Derived.Test.YtckhhphchphmlaaRefHolds
import Derived.Test.YtckhhphchphmlaaRefPut
import Derived.Deep.Cut
namespace Go.Proofs.Ytckhhphchphmlaa
open Go.RowKit
set_option linter.unusedVariables false

set_option maxRecDepth 100000 in
theorem stands_any (v op u : Int) (w : World) :
    Calls Try.prog 29 #[.int .i64 v, .int .i64 op, .int .i64 u] w fun e w' => e = .returned (.bool (meetsL v op u)) ∧ w' = w := by
  by_cases h0 : op = 0
  · subst h0
    go_enter Try.func29, Try.ntmps29
    go_wp2
    go_ret
    exact ⟨rfl, rfl⟩
  by_cases h1 : op = 1
  · subst h1
    go_enter Try.func29, Try.ntmps29
    go_wp2
    go_ret
    exact ⟨rfl, rfl⟩
  by_cases h2 : op = 2
  · subst h2
    go_enter Try.func29, Try.ntmps29
    go_wp2
    go_ret
    exact ⟨rfl, rfl⟩
  by_cases h3 : op = 3
  · subst h3
    go_enter Try.func29, Try.ntmps29
    go_wp2
    go_ret
    exact ⟨rfl, rfl⟩
  by_cases h4 : op = 4
  · subst h4
    go_enter Try.func29, Try.ntmps29
    go_wp2
    go_ret
    exact ⟨rfl, rfl⟩
  by_cases h5 : op = 5
  · subst h5
    go_enter Try.func29, Try.ntmps29
    go_wp2
    go_ret
    exact ⟨rfl, rfl⟩
  have HE : Hid (meetsL v op u = (op == 6 && decide (u ≤ v))) := Lib.hid (by unfold meetsL; rw [if_neg h0, if_neg h1, if_neg h2, if_neg h3, if_neg h4, if_neg h5])
  replace h0 : (op == 0) = false := beq_eq_false_iff_ne.2 h0
  replace h1 : (op == 1) = false := beq_eq_false_iff_ne.2 h1
  replace h2 : (op == 2) = false := beq_eq_false_iff_ne.2 h2
  replace h3 : (op == 3) = false := beq_eq_false_iff_ne.2 h3
  replace h4 : (op == 4) = false := beq_eq_false_iff_ne.2 h4
  replace h5 : (op == 5) = false := beq_eq_false_iff_ne.2 h5
  cases h6 : op == 6
  all_goals go_enter Try.func29, Try.ntmps29
  all_goals go_wp2
  all_goals go_ret
  all_goals exact ⟨by rw [HE.out, h6]; rfl, rfl⟩
theorem stands_at (v op u : Int) (x : Bool) (w : World) (h : meetsL v op u = x) :
    Calls Try.prog 29 #[.int .i64 v, .int .i64 op, .int .i64 u] w fun e w' => e = .returned (.bool x) ∧ w' = w := by
  subst h; exact stands_any v op u w
/-- Where Holds stands: the atom's box. -/
structure HoldsAt (w wr : World) (nm : List UInt8) (op u : Int) (l : List Pr) (k : Nat) : Prop where
  hp : wr.heap[w.heap.size]? = some (.cells #[.string (mkB nm), .int .i64 op, .int .i64 u] 31 (0, 0))
  hW : Below w.heap.size w wr
  hq : holdsL (l.take k) nm op u = false
theorem HoldsAt.over {w wr w' : World} {nm : List UInt8} {op u : Int} {l : List Pr} {k k' : Nat} (h : HoldsAt w wr nm op u l k) (hb : Below wr.heap.size wr w') (hq : holdsL (l.take k') nm op u = false) : HoldsAt w w' nm op u l k' :=
  ⟨(hb.block _ (heap_lt h.hp)).trans h.hp, bstep h.hW hb, hq⟩
set_option maxRecDepth 100000 in
set_option maxHeartbeats 1000000 in
theorem lholds_any (A : Option Addr) (n c : Nat) (l : List Pr) (nm : List UInt8) (op u : Int) (w : World) (hl : Props w w.heap.size (.slice A n c) l) (hm : l.length ≤ 1000) {q : Bool} (hq : holdsL l nm op u = q) :
    Calls Try.prog 20 #[.slice A n c, .agg #[.string (mkB nm), .int .i64 op, .int .i64 u]] w fun e w' => e = .returned (.bool q) ∧ Below w.heap.size w w' := by
  obtain ⟨hn, _⟩ := hl.len
  have HL := Lib.hid hl
  have HN := Lib.hid hn
  have HQ := Lib.hid hq
  have hk9 : (n : Int) ≤ 100000 := by omega
  clear hl hm hn hq
  go_enter Try.func20, Try.ntmps20
  go_wp2
  go_loopw [9] (fun i wr => ∃ (k : Nat), k ≤ n ∧ i = .int .i64 k ∧ Hid (HoldsAt w wr nm op u l k)) (fun i _ => n - (intOf i).toNat)
  case atStart =>
    exact ⟨0, Nat.zero_le _, rfl, Lib.hid ⟨heap_alloc_new w _, bmore (bself w) _, rfl⟩⟩
  case round =>
    obtain ⟨k, hk, rfl, HP⟩ := hrel
    by_cases hlt : k < n
    · have hkl : k < l.length := by have := HN.out; omega
      obtain ⟨bb, off, rfl⟩ := HL.out.some_ (by omega)
      obtain ⟨hbb, c0, c1⟩ := HL.out.cells k hkl
      have e0 := (HP.out.hW.cell (p := ⟨bb, off + k * 2, none⟩) hbb).trans c0
      have e1 := (HP.out.hW.cell (p := ⟨bb, off + k * 2 + 1, none⟩) hbb).trans c1
      have HT := Lib.hid (And.intro (holds_take l nm op u k hkl) (holds_some l nm op u k hkl))
      have hlt2 : ((k : Nat) : Int) < (n : Int) := by omega
      generalize l[k] = x at e0 e1 HT
      clear c0 c1 hbb
      have hnm : ((mkB x.name).toList == (mkB nm).toList) = (x.name == nm) := by rw [mkB_toList, mkB_toList]
      have hp0 := heap_alloc_new wr (.cells #[.string (mkB x.name), .int .i64 x.val] 38)
      have HB0 := bmore (bself wr) (.cells #[.string (mkB x.name), .int .i64 x.val] 38)
      go_upto_region 4 with (fail)
      generalize wr.alloc (.cells #[.string (mkB x.name), .int .i64 x.val] 38) = w1 at hp0 HB0 ⊢
      obtain ⟨p0, p1⟩ := put_cell hp0
      have HP1 := Lib.hid (HP.out.over HB0 HP.out.hq)
      clear e0 e1 hp0 HB0
      obtain ⟨q0, q1, q2, _, _, _⟩ := blk3 HP1.out.hp
      cases hxn : x.name == nm with
      | false =>
        rw [hxn] at hnm HT
        clear hxn
        have HP2 := Lib.hid (HP1.out.over (bself w1) (k' := k + 1) (by rw [HT.out.1, HP1.out.hq]; rfl))
        go_wp2
        go_roundw
        case rel => exact ⟨k + 1, by omega, by go_num, HP2⟩
        case measure => simp [intOf]; omega
      | true =>
        rw [hxn] at hnm HT
        clear hxn
        have HMe := fun x' h w' => stands_at x.val op u x' w' h
        cases hxm : meetsL x.val op u with
        | false =>
          rw [hxm] at HT
          have HM2 := Lib.hid (fun w' => HMe false hxm w')
          clear hxm HMe
          have HP2 := Lib.hid (HP1.out.over (bself w1) (k' := k + 1) (by rw [HT.out.1, HP1.out.hq]; rfl))
          go_wp2_with (go_at_call 29; (with_reducible refine (HM2.out _).mono ?_); rintro e w' ⟨rfl, rfl⟩)
          go_roundw
          case rel => exact ⟨k + 1, by omega, by go_num, HP2⟩
          case measure => simp [intOf]; omega
        | true =>
          rw [hxm] at HT
          have HM2 := Lib.hid (fun w' => HMe true hxm w')
          clear hxm HMe
          go_wp2_with (go_at_call 29; (with_reducible refine (HM2.out _).mono ?_); rintro e w' ⟨rfl, rfl⟩)
          go_ret
          exact ⟨by rw [← HQ.out, HT.out.2 rfl]; rfl, HP1.out.hW⟩
    · have hlt2 : ¬ ((k : Nat) : Int) < (n : Int) := by omega
      have HK := Lib.hid (show k = l.length by have := HN.out; omega)
      go_wp2
      go_ret
      have h2 := HP.out.hq
      rw [HK.out, List.take_length] at h2
      exact ⟨by rw [← HQ.out, h2]; rfl, HP.out.hW⟩
end Go.Proofs.Ytckhhphchphmlaa
