/-
  The walk of the law OctetBack.
-/
import Derived.Test.YtbbioeiikobnnaaAwake
import Derived.Test.YtbbioeiikobnnaaCuts
import Derived.Test.YtbbioeiikobnnaaWalkOctetTexts
import Derived.Test.YtbbioeiikobnnaaRefTake
namespace Go.Proofs.Ytbbioeiikobnnaa
open Go.RowKit
set_option linter.unusedVariables false

theorem Did.below {g : Nat} {r : Value} {s : List UInt8 × Int} {w w' : World} {x : Ending} {B : Nat} {a : World} (h : Did g r s w x w') (hb : Below B a w) (hB : B ≤ a.heap.size) (hg : B ≤ g) : Below B a w' :=
  hb.grown h.2.2 (Nat.le_trans hB hb.size) (by intro k hk; cases hk; exact hg)

set_option maxRecDepth 100000 in
set_option maxHeartbeats 4000000 in
theorem octetBack_walk (A0 : Option Addr) (c0 : Nat) (z0 : List Int) (A1 : Option Addr) (c1 : Nat) (ss : List ByteArray) (cut : Int) (W : World)
    (hl0 : z0.length ≤ c0) (hA0 : A0 = none → c0 = 0) (hr0 : Row W W.heap.size A0 (z0.map (Value.int .u64))) (hw0 : ∀ n ∈ z0, (Lit.int .u64 n).wf = true)
    (hl1 : ss.length ≤ c1) (hA1 : A1 = none → c1 = 0) (hr1 : Row W W.heap.size A1 (ss.map Value.string)) (hw1 : ∀ s ∈ ss, s.size ≤ maxLen)
    (hc : (Lit.int .u16 cut).wf = true) :
    Calls Try.prog 6 #[.slice A0 z0.length c0, .slice A1 ss.length c1, .int .u16 cut] W fun e w' => e = .returned (.bool true) ∧ Below W.heap.size W w' := by
  obtain ⟨ns, e0, en0, hns⟩ := ints_nat hw0
  rw [e0] at hr0
  rw [en0]
  have hcut := bounds_u16 hc
  obtain ⟨ct, rfl⟩ : ∃ ct : Nat, cut = (ct : Int) := ⟨cut.toNat, by omega⟩
  have R0 := Lib.hid hr0
  have R1 := Lib.hid hr1
  have HN := Lib.hid hns
  clear hl0 hA0 hr0 hw0 hl1 hA1 hr1 hw1 e0 en0 hns hc
  go_enter Try.func6, Try.ntmps6
  go_wp2_with (go_at_call 9; refine (awake_any _).mono ?_; rintro e w1 ⟨rfl, hb1⟩; have HB1 := Lib.hid hb1; clear hb1)
  all_goals first | (go_ret; exact ⟨rfl, HB1.out⟩) | skip
  have n0 : ns.length ≤ 60 := by omega
  have n1 : ss.length ≤ 30 := by omega
  go_loop [8] (fun i => ∃ k : Nat, k ≤ ss.length ∧ i = .int .i64 k ∧ Hid (∀ x ∈ ss.take k, x.size ≤ 400)) (fun i => ss.length - (intOf i).toNat)
  case atStart => exact ⟨0, Nat.zero_le _, rfl, Lib.hid (by simp)⟩
  case round =>
    obtain ⟨k, hk, rfl, HS⟩ := hrel
    by_cases hlt : k < ss.length
    · obtain ⟨b, off, rfl, hb, hc⟩ := (R1.out.below_ HB1.out).at_ k (by simpa using hlt)
      simp only [List.getElem_map] at hc
      clear hb
      by_cases hsz : ss[k].size ≤ 400
      · go_wp2
        go_round
        case rel =>
          refine ⟨k + 1, by omega, by go_num, Lib.hid fun x hx => ?_⟩
          rw [List.take_succ_eq_append_getElem hlt, List.mem_append] at hx
          rcases hx with hx | hx
          · exact HS.out x hx
          · simp at hx; subst hx; exact hsz
        case measure => simp [intOf]; omega
      · go_wp2
        go_ret
        exact ⟨rfl, HB1.out⟩
    · have hk' : k = ss.length := by omega
      subst hk'
      rw [List.take_length] at HS
      have HL0 := Lib.hid (encs_len ns HN.out)
      have HL1 := Lib.hid (encTs_len ss (fun x hx => by have := HS.out x hx; omega))
      obtain ⟨L, hL⟩ : ∃ L, L = encs ns ++ encTs ss := ⟨_, rfl⟩
      have HL := Lib.hid hL
      have HLL : Hid (L.length ≤ 40000000) := Lib.hid (by have := HL0.out; have := HL1.out; rw [hL, List.length_append]; omega)
      clear hL
      go_wp2_with (first
        | (go_at_call 14; refine (put_any ns A0 c0 _ HN.out ((R0.out.below_ HB1.out).more HB1.out.size) (by omega)).mono ?_; rintro e w2 ⟨v2, rfl, ho2, hb2⟩; have HB2 := Lib.hid (HB1.out.trans (hb2.mono HB1.out.size)); have HO2 := Lib.hid ho2; have HZ2 := Lib.hid hb2.size; clear ho2 hb2)
        | (go_at_call 15; refine (texts_any ss A1 c1 _ (fun x hx => by have := HS.out x hx; omega) ((R1.out.below_ HB2.out).more HB2.out.size) (by omega)).mono ?_; rintro e w3 ⟨v3, rfl, ho3, hb3⟩; obtain ⟨A3, c3, rfl, hr3, _, hA3⟩ := lies_row ho3.lies; have HB3 := Lib.hid (HB2.out.trans (hb3.mono HB2.out.size)); have HO3 := Lib.hid (HO2.out.over hb3); have HR3 := Lib.hid hr3; have HZ3 := Lib.hid (Nat.le_trans HZ2.out hb3.size); have HA3 := Lib.hid hA3; clear ho3 hb3 hr3 hA3)
        | (at_builtin; refine wp_app_any rfl (.tmp 43) (.tmp 45) rfl w1.heap.size w3.heap.size v2 _ _ A3 c3 rfl HO3.out rfl HA3.out HR3.out (Fits.of (by have := HL0.out; have := HL1.out; omega)) HZ3.out ?_; rw [← HL.out]; intro v4 w4 ho4 hb4; obtain ⟨A4, c4, rfl, hr4, hl4, hA4⟩ := lies_row ho4.lies; have HB4 := Lib.hid (HB3.out.trans (hb4.mono HB1.out.size)); have HO4 := Lib.hid ho4; have HR4 := Lib.hid hr4; have HC4 := Lib.hid hl4; clear ho4 hb4 hr4 hl4 hA4))
      refine (open_any _ L _ HO4.out.lies (Fits.of (by have := HLL.out; omega))).mono ?_
      rintro e w5 ⟨g, rfl, hg, hr5, hb5⟩
      have HR5 := Lib.hid hr5
      have HB5 := Lib.hid hb5
      have HG := Lib.hid hg
      clear hr5 hb5 hg
      go_wp2
      go_loopw [11] (fun i wr => ∃ k : Nat, k ≤ ns.length ∧ i = .int .i64 k ∧ Hid (Rdr wr g (encs (ns.drop k) ++ encTs ss) 0) ∧ Hid (Below w4.heap.size w4 wr)) (fun i _ => ns.length - (intOf i).toNat)
      case atStart => exact ⟨0, Nat.zero_le _, rfl, Lib.hid (by rw [List.drop_zero, ← HL.out]; exact HR5.out), HB5⟩
      case round =>
        obtain ⟨k, hk, rfl, HR6, HB6⟩ := hrel
        by_cases hlt : k < ns.length
        · have HD := Lib.hid (rdNum_enc ns[k] (encs (ns.drop (k + 1)) ++ encTs ss) (HN.out ns[k] (List.getElem_mem hlt)))
          have HE := Lib.hid (encs_drop ns k hlt)
          have HR7 : Hid (Rdr wr g (enc ns[k] ++ (encs (ns.drop (k + 1)) ++ encTs ss)) 0) := Lib.hid (by rw [← List.append_assoc, ← HE.out]; exact HR6.out)
          go_wp2_with (go_at_call 21; refine (num_at g _ _ _ HR7.out HD.out).mono ?_; rintro e w7 hd; have HB7 := Lib.hid (hd.below HB6.out (Nat.le_refl _) HG.out); obtain ⟨rfl, hr7, _⟩ := hd; have HR8 := Lib.hid hr7; clear hr7; obtain ⟨b, off, rfl, hb, hc⟩ := (R0.out.below_ (HB4.out.trans (HB7.out.mono HB4.out.size))).at_ k (by simpa using hlt); simp only [List.getElem_map] at hc; clear hb)
          go_roundw
          case rel => exact ⟨k + 1, by omega, by go_num, HR8, HB7⟩
          case measure => simp [intOf]; omega
        · have hk' : k = ns.length := by omega
          subst hk'
          have HR7 : Hid (Rdr wr g (encTs ss) 0) := Lib.hid (by have := HR6.out; rwa [List.drop_length] at this)
          clear HR6
          go_wp2
          go_loopw [13] (fun i wr => ∃ k : Nat, k ≤ ss.length ∧ i = .int .i64 k ∧ Hid (Rdr wr g (encTs (ss.drop k)) 0) ∧ Hid (Below w4.heap.size w4 wr)) (fun i _ => ss.length - (intOf i).toNat)
          case atStart => exact ⟨0, Nat.zero_le _, rfl, HR7, HB6⟩
          case round =>
            obtain ⟨k, hk, rfl, HR8, HB8⟩ := hrel
            by_cases hlt2 : k < ss.length
            · have HD := Lib.hid (rdText_enc ss[k].data.toList (encTs (ss.drop (k + 1))) 400 (by have := HS.out ss[k] (List.getElem_mem hlt2); rw [data_len]; omega) (by have := HS.out ss[k] (List.getElem_mem hlt2); rw [data_len, Int.max_eq_left (by omega)]; omega))
              have HR9 : Hid (Rdr wr g (enc ss[k].data.toList.length ++ ss[k].data.toList ++ encTs (ss.drop (k + 1))) 0) := Lib.hid (by rw [← encTs_drop ss k hlt2]; exact HR8.out)
              go_wp2_with (go_at_call 26; refine (text_at g _ 0 400 _ HR9.out (by omega) (by omega) HD.out).mono ?_; rw [mkB_data]; rintro e w9 hd; have HB9 := Lib.hid (hd.below HB8.out (Nat.le_refl _) HG.out); obtain ⟨rfl, hr9, _⟩ := hd; have HR10 := Lib.hid hr9; clear hr9; obtain ⟨b, off, rfl, hb, hc⟩ := (R1.out.below_ (HB4.out.trans (HB9.out.mono HB4.out.size))).at_ k (by simpa using hlt2); simp only [List.getElem_map] at hc; clear hb)
              go_roundw
              case rel => exact ⟨k + 1, by omega, by go_num, HR10, HB9⟩
              case measure => simp [intOf]; omega
            · have hk' : k = ss.length := by omega
              subst hk'
              have HR9 : Hid (Rdr wr g [] 0) := Lib.hid (by have := HR8.out; rwa [List.drop_length] at this)
              clear HR8
              by_cases hz : L.length = 0
              · have hp0 := encs_pos ns HN.out
                have hp1 := encTs_pos ss (fun x hx => by have := HS.out x hx; omega)
                have hll : L.length = (encs ns).length + (encTs ss).length := by rw [HL.out, List.length_append]
                have hn0 : ns.length = 0 := by omega
                have hs0 : ss.length = 0 := by omega
                have hn1 : ((ns.length : Int) == 0) = true := by rw [hn0]; rfl
                have hs1 : ((ss.length : Int) == 0) = true := by rw [hs0]; rfl
                have hl1 : ((L.length : Int) == 0) = true := by rw [hz]; rfl
                clear hp0 hp1 hll hn0 hs0 hz
                go_wp2_with (first
                  | (go_at_call 30; refine (end_any g _ _ _ HR9.out).mono ?_; rw [show rdEnd [] 0 = 0 by decide]; rintro e w' ⟨rfl, rfl⟩)
                  | (go_at_call 28; refine (left_any g _ _ _ HR9.out).mono ?_; rintro e w' ⟨rfl, rfl⟩))
                go_ret
                exact ⟨rfl, HB4.out.trans (HB8.out.mono HB4.out.size)⟩
              · obtain ⟨b4, off4, rfl, hb4, hc4⟩ := HR4.out (by intro e; have := congrArg List.length e; rw [bc_length, List.length_nil] at this; omega)
                obtain ⟨m, hm⟩ : ∃ m, m = ct % L.length := ⟨_, rfl⟩
                have hmlt : m < L.length := by rw [hm]; exact Nat.mod_lt _ (by omega)
                have hrem : (ct : Int) % (L.length : Int) = (m : Int) := by rw [hm]; simp
                have hl1 : ((L.length : Int) == 0) = false := beq_false_of_ne (by omega)
                have hc4' := HC4.out
                have HC := Lib.hid hc4
                have HX := Lib.hid hb4
                clear hm hc4 hb4 hz
                go_wp2_with (first
                  | (go_at_call 30; refine (end_any g _ _ _ HR9.out).mono ?_; rw [show rdEnd [] 0 = 0 by decide]; rintro e w' ⟨rfl, rfl⟩)
                  | (go_at_call 28; refine (left_any g _ _ _ HR9.out).mono ?_; rintro e w' ⟨rfl, rfl⟩))
                have hlies : Lies wr wr.heap.size (.slice (some ⟨b4, off4, none⟩) m c4) (L.take m) := by
                  have hlen : (L.take m).length = m := by rw [List.length_take]; omega
                  refine .inr ⟨b4, off4, c4, by rw [hlen], by omega, Nat.lt_of_lt_of_le HX.out HB8.out.size, fun i hi => ?_⟩
                  rw [HB8.out.cell HX.out]
                  have hi2 : i < L.length := by omega
                  rw [HC.out i _ (bc_get L i hi2)]
                  simp
                refine (open_any _ _ _ hlies (Fits.of (by have := HLL.out; rw [List.length_take]; omega))).mono ?_
                rintro e w10 ⟨q, rfl, hq, hr10, hb10⟩
                have HR10 := Lib.hid hr10
                have HB10 := Lib.hid (HB8.out.trans (hb10.mono HB8.out.size))
                have HQ := Lib.hid (Nat.le_trans HB8.out.size hq)
                clear hr10 hb10 hq hlies
                go_wp2
                go_loopw [16] (fun i wr => ∃ k : Nat, k ≤ ns.length ∧ i = .int .i64 k ∧ Hid (Rdr wr q (St L m (encs (ns.take k)).length).1 (St L m (encs (ns.take k)).length).2) ∧ Hid (Below w4.heap.size w4 wr)) (fun i _ => ns.length - (intOf i).toNat)
                case atStart => exact ⟨0, Nat.zero_le _, rfl, Lib.hid (by rw [show (encs (ns.take 0)).length = 0 from rfl, St_zero]; exact HR10.out), HB10⟩
                case round =>
                  obtain ⟨k, hk, rfl, HR11, HB11⟩ := hrel
                  by_cases hlt3 : k < ns.length
                  · have HD := Lib.hid (by have := St_encs ns (encTs ss) m k hlt3 HN.out; rwa [← HL.out] at this)
                    go_wp2_with (go_at_call 21; refine (num_any q _ _ _ HR11.out).mono ?_; rintro e w12 hd; have HB12 := Lib.hid (hd.below HB11.out (Nat.le_refl _) HQ.out); obtain ⟨rfl, hr12, _⟩ := hd; have HR12 := Lib.hid hr12; clear hr12)
                    go_roundw
                    case rel => exact ⟨k + 1, by omega, by go_num, Lib.hid (by rw [← HD.out]; exact HR12.out), HB12⟩
                    case measure => simp [intOf]; omega
                  · have hk' : k = ns.length := by omega
                    subst hk'
                    have HR12 : Hid (Rdr wr q (St L m (encs ns).length).1 (St L m (encs ns).length).2) := Lib.hid (by have := HR11.out; rwa [List.take_length] at this)
                    clear HR11
                    go_wp2
                    go_loopw [17] (fun i wr => ∃ k : Nat, k ≤ ss.length ∧ i = .int .i64 k ∧ Hid (Rdr wr q (St L m (encs ns ++ encTs (ss.take k)).length).1 (St L m (encs ns ++ encTs (ss.take k)).length).2) ∧ Hid (Below w4.heap.size w4 wr)) (fun i _ => ss.length - (intOf i).toNat)
                    case atStart => exact ⟨0, Nat.zero_le _, rfl, Lib.hid (by rw [show encTs (ss.take 0) = [] from rfl, List.append_nil]; exact HR12.out), HB11⟩
                    case round =>
                      obtain ⟨k, hk, rfl, HR13, HB13⟩ := hrel
                      by_cases hlt4 : k < ss.length
                      · have HD := Lib.hid (by have := St_encTs (encs ns) ss m k hlt4 HS.out; rwa [← HL.out] at this)
                        go_wp2_with (go_at_call 26; refine (text_any q _ _ 400 _ HR13.out (by omega) (by omega)).mono ?_; rintro e w14 hd; have HB14 := Lib.hid (hd.below HB13.out (Nat.le_refl _) HQ.out); obtain ⟨rfl, hr14, _⟩ := hd; have HR14 := Lib.hid hr14; clear hr14)
                        go_roundw
                        case rel => exact ⟨k + 1, by omega, by go_num, Lib.hid (by rw [← HD.out]; exact HR14.out), HB14⟩
                        case measure => simp [intOf]; omega
                      · have hk' : k = ss.length := by omega
                        subst hk'
                        have HR14 : Hid (Rdr wr q [] 10) := Lib.hid (by have := HR13.out; rwa [List.take_length, ← HL.out, St_end L m hmlt] at this)
                        obtain ⟨v14, hh14, _, _⟩ := HR14.out
                        have HH14 := Lib.hid hh14
                        clear HR13 hh14
                        go_wp2_with (first
                          | (go_at_call 29; refine (err_any q _ _ _ HH14.out).mono ?_; rintro e w' ⟨rfl, rfl⟩)
                          | (go_at_call 28; refine (left_any q _ _ _ HR14.out).mono ?_; rintro e w' ⟨rfl, rfl⟩))
                        go_ret
                        exact ⟨rfl, HB4.out.trans (HB13.out.mono HB4.out.size)⟩
end Go.Proofs.Ytbbioeiikobnnaa
