/-
  Layer 5's reference: Holds.
-/
import Derived.Test.YtckhhphchphmlaaRefSame
import Derived.Test.YtckhhphchphmlaaRefMeets
namespace Go.Proofs.Ytckhhphchphmlaa
open Go.RowKit
set_option linter.unusedVariables false

theorem holds_take (l : List Pr) (n : List UInt8) (op u : Int) (k : Nat) (hk : k < l.length) : holdsL (l.take (k + 1)) n op u = (holdsL (l.take k) n op u || (l[k].name == n && meetsL l[k].val op u)) := by
  unfold holdsL
  rw [List.take_succ_eq_append_getElem hk, List.any_append]
  simp
theorem holds_some (l : List Pr) (n : List UInt8) (op u : Int) (k : Nat) (hk : k < l.length) (h : (l[k].name == n && meetsL l[k].val op u) = true) : holdsL l n op u = true := by
  unfold holdsL
  rw [List.any_eq_true]
  exact ⟨l[k], List.getElem_mem hk, h⟩
set_option maxRecDepth 100000 in
set_option maxHeartbeats 1000000 in
theorem rholds_any (A : Option Addr) (n c : Nat) (l : List Pr) (nm : List UInt8) (op u : Int) (w : World) (hl : Props w w.heap.size (.slice A n c) l) (hm : l.length ≤ 100000) {q : Bool} (hq : holdsL l nm op u = q) :
    Calls Try.prog 21 #[.slice A n c, .agg #[.string (mkB nm), .int .i64 op, .int .i64 u]] w fun e w' => e = .returned (.bool q) ∧ Below w.heap.size w w' := by
  obtain ⟨hn, _⟩ := hl.len
  have HL := Lib.hid hl
  have HN := Lib.hid hn
  have HQ := Lib.hid hq
  have hk9 : (n : Int) ≤ 100000 := by omega
  clear hl hm hn hq
  go_enter Try.func21, Try.ntmps21
  go_wp2
  go_loopw [5] (fun i wr => ∃ (k : Nat), k ≤ n ∧ i = .int .i64 k ∧ Hid ((wr.heap[w.heap.size]? = some (.cells #[.string (mkB nm), .int .i64 op, .int .i64 u] 34 (0, 0)) ∧ w.heap.size < wr.heap.size) ∧ Below w.heap.size w wr ∧ holdsL (l.take k) nm op u = false)) (fun i _ => n - (intOf i).toNat)
  case atStart =>
    exact ⟨0, Nat.zero_le _, rfl, Lib.hid ⟨⟨heap_alloc_new w _, by simp⟩, bmore (bself w) _, rfl⟩⟩
  case round =>
    obtain ⟨k, hk, rfl, HP⟩ := hrel
    by_cases hlt : k < n
    · have hkl : k < l.length := by have := HN.out; omega
      obtain ⟨bb, off, rfl⟩ := HL.out.some_ (by omega)
      obtain ⟨hbb, c0, c1⟩ := HL.out.cells k hkl
      have e0 := (HP.out.2.1.cell (p := ⟨bb, off + k * 2, none⟩) hbb).trans c0
      have e1 := (HP.out.2.1.cell (p := ⟨bb, off + k * 2 + 1, none⟩) hbb).trans c1
      obtain ⟨q0, q1, q2, _, _, _⟩ := blk3 HP.out.1.1
      have HT := Lib.hid (And.intro hbb (And.intro (holds_take l nm op u k hkl) (holds_some l nm op u k hkl)))
      have hlt2 : ((k : Nat) : Int) < (n : Int) := by omega
      generalize l[k] = x at e0 e1 HT
      clear c0 c1 hbb
      have hnm : ((mkB x.name).toList == (mkB nm).toList) = (x.name == nm) := by rw [mkB_toList, mkB_toList]
      cases hxn : x.name == nm with
      | false =>
        rw [hxn] at hnm HT
        clear hxn
        go_wp2
        go_quiet (fail)
        have HP2 := Lib.hid (And.intro (And.intro (((below_dN wr nq).block _ HP.out.1.2).trans HP.out.1.1) (show w.heap.size < (wr.drewN nq).heap.size from HP.out.1.2)) (And.intro (bstep HP.out.2.1 (below_dN wr nq)) (show holdsL (l.take (k + 1)) nm op u = false by rw [HT.out.2.1, HP.out.2.2]; rfl)))
        generalize wr.drewN nq = wq at HP2 ⊢
        go_wp2
        go_roundw
        case rel => exact ⟨k + 1, by omega, by go_num, HP2⟩
        case measure => simp [intOf]; omega
      | true =>
        rw [hxn] at hnm HT
        clear hxn
        have HMe := fun x' h w' => rmeets_at x.val op u x' w' h
        cases hxm : meetsL x.val op u with
        | false =>
          rw [hxm] at HT
          have HM2 := Lib.hid (fun w' => HMe false hxm w')
          clear hxm HMe
          go_wp2
          go_quiet (first | (go_at_call 30; refine Calls.quiet_of_same (HM2.out _)))
          have HP2 := Lib.hid (And.intro (And.intro (((below_dN wr nq).block _ HP.out.1.2).trans HP.out.1.1) (show w.heap.size < (wr.drewN nq).heap.size from HP.out.1.2)) (And.intro (bstep HP.out.2.1 (below_dN wr nq)) (show holdsL (l.take (k + 1)) nm op u = false by rw [HT.out.2.1, HP.out.2.2]; rfl)))
          generalize wr.drewN nq = wq at HP2 ⊢
          go_wp2
          go_roundw
          case rel => exact ⟨k + 1, by omega, by go_num, HP2⟩
          case measure => simp [intOf]; omega
        | true =>
          rw [hxm] at HT
          have HM2 := Lib.hid (fun w' => HMe true hxm w')
          clear hxm HMe
          go_wp2
          go_quiet (first | (go_at_call 30; refine Calls.quiet_of_same (HM2.out _)))
          have HB := Lib.hid (bstep HP.out.2.1 (below_dN wr nq))
          go_wp2
          go_ret
          exact ⟨by rw [← HQ.out, HT.out.2.2 rfl]; rfl, HB.out⟩
    · have hlt2 : ¬ ((k : Nat) : Int) < (n : Int) := by omega
      have HK := Lib.hid (show k = l.length by have := HN.out; omega)
      go_wp2
      go_ret
      obtain ⟨_, h1, h2⟩ := HP.out
      rw [HK.out, List.take_length] at h2
      exact ⟨by rw [← HQ.out, h2]; rfl, h1⟩
end Go.Proofs.Ytckhhphchphmlaa
