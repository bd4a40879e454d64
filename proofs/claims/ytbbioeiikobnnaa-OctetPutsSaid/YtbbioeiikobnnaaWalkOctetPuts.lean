/-
  The walk of the law OctetPuts.
-/
import Derived.Test.YtbbioeiikobnnaaAwake
import Derived.Test.YtbbioeiikobnnaaMore
import Derived.Test.YtbbioeiikobnnaaRefTake
namespace Go.Proofs.Ytbbioeiikobnnaa
open Go.RowKit
set_option linter.unusedVariables false

set_option maxRecDepth 100000 in
set_option maxHeartbeats 4000000 in
theorem octetPuts_walk (A0 : Option Addr) (c0 : Nat) (z0 : List Int) (A1 : Option Addr) (c1 : Nat) (ss : List ByteArray) (A2 : Option Addr) (c2 : Nat) (z2 : List Int) (W : World)
    (hl0 : z0.length ≤ c0) (hA0 : A0 = none → c0 = 0) (hr0 : Row W W.heap.size A0 (z0.map (Value.int .u64))) (hw0 : ∀ n ∈ z0, (Lit.int .u64 n).wf = true)
    (hl1 : ss.length ≤ c1) (hA1 : A1 = none → c1 = 0) (hr1 : Row W W.heap.size A1 (ss.map Value.string)) (hw1 : ∀ s ∈ ss, s.size ≤ maxLen)
    (hl2 : z2.length ≤ c2) (hA2 : A2 = none → c2 = 0) (hr2 : Row W W.heap.size A2 (z2.map (Value.int .u8))) (hw2 : ∀ n ∈ z2, (Lit.int .u8 n).wf = true) :
    Calls Try.prog 3 #[.slice A0 z0.length c0, .slice A1 ss.length c1, .slice A2 z2.length c2] W fun e w' => e = .returned (.bool true) ∧ Below W.heap.size W w' := by
  obtain ⟨ns, e0, en0, hns⟩ := ints_nat hw0
  obtain ⟨l, e2, en2⟩ := ints_bc hw2
  rw [e0] at hr0
  rw [e2] at hr2
  rw [en0, en2]
  rw [en2] at hl2
  have R0 := Lib.hid hr0
  have R1 := Lib.hid hr1
  have R2 := Lib.hid hr2
  have HN := Lib.hid hns
  have HC2 := Lib.hid hl2
  clear hl0 hA0 hr0 hw0 hl1 hA1 hr1 hw1 hl2 hA2 hr2 hw2 e0 en0 e2 en2 hns
  go_enter Try.func3, Try.ntmps3
  go_wp2_with (go_at_call 9; refine (awake_any _).mono ?_; rintro e w1 ⟨rfl, hb1⟩; have HB1 := Lib.hid hb1; clear hb1)
  all_goals first | (go_ret; exact ⟨rfl, HB1.out⟩) | skip
  have n0 : ns.length ≤ 200 := by omega
  have n1 : ss.length ≤ 40 := by omega
  have n2 : l.length ≤ 1000 := by omega
  go_loopw [8, 9] (fun s i wr => ∃ k : Nat, k ≤ ns.length ∧ i = .int .i64 k ∧ s = .string (mkB (encs (ns.take k))) ∧ Hid (Below W.heap.size W wr)) (fun _ i _ => ns.length - (intOf i).toNat)
  case atStart => exact ⟨0, Nat.zero_le _, rfl, rfl, HB1⟩
  case round =>
    obtain ⟨k, hk, rfl, rfl, HB2⟩ := hrel
    by_cases hlt : k < ns.length
    · obtain ⟨b, off, rfl, hb, hc⟩ := (R0.out.below_ HB2.out).at_ k (by simpa using hlt)
      simp only [List.getElem_map] at hc
      have hzk := Lib.hid (HN.out ns[k] (List.getElem_mem hlt))
      have hlen := encs_len (ns.take k) (fun z hz => HN.out z (List.mem_of_mem_take hz))
      have hen := (enc_len ns[k] hzk.out).2
      have htl := List.length_take_le k ns
      have hadd : ∀ W', (Op.stringOp .add (mkB (encs (ns.take k))) (mkB (enc ns[k]))).run Try.prog W' = .ok (.string (mkB (encs (ns.take k) ++ enc ns[k]))) W' := fun W' => run_add W' _ _ (by omega)
      have HE := Lib.hid (encs_take ns k hlt)
      clear hlen hen htl hb
      go_wp2_with (go_at_call 10; refine (rnum_any _ _ hzk.out).mono ?_; rintro e w2 ⟨rfl, hb2⟩; have HB3 := Lib.hid (HB2.out.trans (hb2.mono HB2.out.size)); clear hb2)
      go_roundw
      case rel => exact ⟨k + 1, by omega, by go_num, by rw [HE.out], HB3⟩
      case measure => simp [intOf]; omega
    · have hk' : k = ns.length := by omega
      subst hk'
      rw [List.take_length]
      go_wp2
      go_loopw [10, 11] (fun s i wr => ∃ k : Nat, k ≤ ss.length ∧ i = .int .i64 k ∧ s = .string (mkB (encTs (ss.take k))) ∧ Hid (Below W.heap.size W wr) ∧ Hid (∀ x ∈ ss.take k, x.size ≤ 400)) (fun _ i _ => ss.length - (intOf i).toNat)
      case atStart => exact ⟨0, Nat.zero_le _, rfl, rfl, HB2, Lib.hid (by simp)⟩
      case round =>
        obtain ⟨k, hk, rfl, rfl, HB3, HS3⟩ := hrel
        by_cases hlt2 : k < ss.length
        · obtain ⟨b, off, rfl, hb, hc⟩ := (R1.out.below_ HB3.out).at_ k (by simpa using hlt2)
          simp only [List.getElem_map] at hc
          by_cases hsz : ss[k].size ≤ 400
          · have hlen := encTs_len (ss.take k) (fun z hz => by have := HS3.out z hz; omega)
            have hen := (enc_len ss[k].size (by omega)).2
            have hdl := data_len ss[k]
            have htl := List.length_take_le k ss
            have hadd : ∀ W', (Op.stringOp .add (mkB (encTs (ss.take k))) (mkB (enc ss[k].size ++ ss[k].data.toList))).run Try.prog W' = .ok (.string (mkB (encTs (ss.take k) ++ (enc ss[k].size ++ ss[k].data.toList)))) W' := fun W' => run_add W' _ _ (by rw [List.length_append]; omega)
            have HE := Lib.hid (encTs_take ss k hlt2)
            clear hlen hen htl hdl hb
            go_wp2_with (go_at_call 11; refine (rtext_any _ _ (by omega)).mono ?_; rintro e w2 ⟨rfl, hb2⟩; have HB4 := Lib.hid (HB3.out.trans (hb2.mono HB3.out.size)); clear hb2)
            go_roundw
            case rel =>
              refine ⟨k + 1, by omega, by go_num, by rw [HE.out, List.append_assoc], HB4, Lib.hid fun x hx => ?_⟩
              rw [List.take_succ_eq_append_getElem hlt2, List.mem_append] at hx
              rcases hx with hx | hx
              · exact HS3.out x hx
              · simp at hx; subst hx; exact hsz
            case measure => simp [intOf]; omega
          · go_wp2
            go_ret
            exact ⟨rfl, HB3.out⟩
        · have hk' : k = ss.length := by omega
          subst hk'
          rw [List.take_length] at HS3 ⊢
          have hst : ∀ W', Below W.heap.size W W' → (convert 24 9 (.slice A2 l.length c2)).run Try.prog W' = .ok (.string (mkB l)) W' := fun W' hb => run_str_any c2 (R2.out.below_ hb)
          have hst3 := hst _ HB3.out
          rcases ht : tk l with ⟨u, n, er⟩
          have HT := Lib.hid ht
          have HST := Lib.hid hst
          clear ht hst
          go_wp2_with (first
            | (go_at_call 12; refine (take_at l A2 c2 W.heap.size _ (R2.out.below_ HB3.out) HC2.out (by omega) HT.out).mono ?_; rintro e w2 ⟨rfl, rfl⟩)
            | (go_at_call 13; refine (rtake_at l _ (by omega) HT.out).mono ?_; rintro e w4 ⟨rfl, hb4⟩; have HB4 := Lib.hid (HB3.out.trans (hb4.mono HB3.out.size)); clear hb4)
            | (go_at_call 14; refine (put_any ns A0 c0 _ HN.out ((R0.out.below_ HB4.out).more HB4.out.size) (by omega)).mono ?_; rintro e w5 ⟨v5, rfl, ho5, hb5⟩; have HB5 := Lib.hid (HB4.out.trans (hb5.mono HB4.out.size)); have hcv5 := owns_str ho5; clear ho5 hb5)
            | (go_at_call 15; refine (texts_any ss A1 c1 _ (fun x hx => by have := HS3.out x hx; omega) ((R1.out.below_ HB5.out).more HB5.out.size) (by omega)).mono ?_; rintro e w6 ⟨v6, rfl, ho6, hb6⟩; have HB6 := Lib.hid (HB5.out.trans (hb6.mono HB5.out.size)); have hcv6 := owns_str ho6; clear ho6 hb6))
          go_ret
          exact ⟨rfl, HB6.out⟩
end Go.Proofs.Ytbbioeiikobnnaa
