/-
  The walk of the law MessageFrames.
-/
import Derived.Test.YtiflpjdiokloaaaDoorPackQ
import Derived.Test.YtiflpjdiokloaaaDoorMsgFrames
namespace Go.Proofs.YtiflpjdiokloaaaDoor
open Go.RowKit
set_option linter.unusedVariables false

/-- What the last test of a round reads. -/
def FrmS (W : World) (xg h bb o mk mq : Nat) (ma : Int) (v2 v3 : Value) (mp : List Pr) (p : Value) (d : DS) (F : Nat → Prop) (w' : World) : Prop :=
  w'.cell? ⟨xg, 0, none⟩ = some (.int .i64 0) ∧ w'.cell? ⟨h, 0, none⟩ = some (.int .u8 (mk : Int)) ∧ w'.cell? ⟨h, 1, none⟩ = some (.int .u64 (mq : Int)) ∧ w'.cell? ⟨h, 2, none⟩ = some (.int .i64 ma) ∧ w'.cell? ⟨h, 3, none⟩ = some v2 ∧ w'.cell? ⟨bb, o, none⟩ = some (.int .u8 (mk : Int)) ∧ w'.cell? ⟨bb, o + 1, none⟩ = some (.int .u64 (mq : Int)) ∧ w'.cell? ⟨bb, o + 2, none⟩ = some (.int .i64 ma) ∧ w'.cell? ⟨bb, o + 3, none⟩ = some v3 ∧ Hid (xg < w'.heap.size ∧ h < w'.heap.size ∧ bb < w'.heap.size ∧ FgAt W w' p d F ∧ Props w' w'.heap.size v2 mp ∧ Props w' w'.heap.size v3 mp)
section
variable {W w1 w2 : World} {xg h bb o mk mq : Nat} {ma : Int} {v2 v3 : Value} {mp : List Pr} {p : Value} {d : DS} {F : Nat → Prop}
theorem frmS_over (k : FrmS W xg h bb o mk mq ma v2 v3 mp p d F w1) (hb : Below w1.heap.size w1 w2) : FrmS W xg h bb o mk mq ma v2 v3 mp p d F w2 := by
  obtain ⟨x0, a0, a1, a2, a3, b0, b1, b2, b3, k⟩ := k
  have hx := k.out.1
  have hh := k.out.2.1
  have hbb := k.out.2.2.1
  exact ⟨(hb.cell (p := ⟨xg, 0, none⟩) hx).trans x0, (hb.cell (p := ⟨h, 0, none⟩) hh).trans a0, (hb.cell (p := ⟨h, 1, none⟩) hh).trans a1, (hb.cell (p := ⟨h, 2, none⟩) hh).trans a2, (hb.cell (p := ⟨h, 3, none⟩) hh).trans a3,
    (hb.cell (p := ⟨bb, o, none⟩) hbb).trans b0, (hb.cell (p := ⟨bb, o + 1, none⟩) hbb).trans b1, (hb.cell (p := ⟨bb, o + 2, none⟩) hbb).trans b2, (hb.cell (p := ⟨bb, o + 3, none⟩) hbb).trans b3,
    Lib.hid ⟨Nat.lt_of_lt_of_le hx hb.size, Nat.lt_of_lt_of_le hh hb.size, Nat.lt_of_lt_of_le hbb hb.size, k.out.2.2.2.1.over hb, k.out.2.2.2.2.1.over (Nat.le_refl _) hb, k.out.2.2.2.2.2.over (Nat.le_refl _) hb⟩⟩
theorem frmS_drew (k : FrmS W xg h bb o mk mq ma v2 v3 mp p d F w1) : FrmS W xg h bb o mk mq ma v2 v3 mp p d F w1.drew := frmS_over k (bself w1).drew
theorem FrmS.hid (k : FrmS W xg h bb o mk mq ma v2 v3 mp p d F w1) : FgAt W w1 p d F ∧ Props w1 w1.heap.size v2 mp ∧ Props w1 w1.heap.size v3 mp := k.2.2.2.2.2.2.2.2.2.out.2.2.2
end

set_option maxRecDepth 100000 in
set_option maxHeartbeats 2000000 in
theorem messageFrames_any (v : Value) (ms : List Msg) (W : World) (hT : Tabs W) (hv : MsgsIn W W.heap.size v ms) (hin : ∀ m ∈ ms, m.In) :
    Calls Tryd.prog 6 #[v] W fun e w' => e = .returned (.bool true) ∧ Below W.heap.size W w' := by
  obtain ⟨A, c, rfl, hx⟩ := hv
  have HX := Lib.hid hx
  have HIN := Lib.hid hin
  have HT := Lib.hid hT
  have HA := Lib.hid (awake6_any W hT)
  obtain ⟨n, hn⟩ : ∃ n, ms.length = n := ⟨_, rfl⟩
  rw [hn]
  by_cases h20 : n ≤ 20
  · have q20 : ¬ (20 : Int) < (n : Int) := by omega
    have HN := Lib.hid hn
    clear hx hin hT hn
    have hn9 : (n : Int) ≤ 20 := by omega
    clear h20
    go_enter Tryd.func6, Tryd.ntmps6
    go_wp2_with (first
      | (go_at_call 8; (with_reducible refine HA.out.mono ?_); rintro e w1 ⟨rfl, hb⟩; have HB1 := Lib.hid hb; clear hb)
      | (go_at_call 20; (with_reducible refine (new_any _).mono ?_); rintro e w2 ⟨p, F0, rfl, hd, hF, hb⟩; have HG0 := Lib.hid (show FgAt W w2 p newS F0 from ⟨hd, fun k hk => Nat.le_trans HB1.out.size (hF k hk), bstep HB1.out hb⟩); clear hd hF hb))
    go_loopw [5] (fun i wr => ∃ (k : Nat) (F : Nat → Prop), k ≤ n ∧ i = .int .i64 k ∧ Hid (FgAt W wr p (giveAll ((ms.take k).map frameM)) F) ∧ Hid (∀ m ∈ ms.take k, m.props.length ≤ 21)) (fun i _ => n - (intOf i).toNat)
    case atStart => exact ⟨0, F0, Nat.zero_le _, rfl, HG0, Lib.hid (by simp)⟩
    case round =>
      clear q20
      obtain ⟨k, F, hk, rfl, HG, HS1⟩ := hrel
      by_cases hkn : k < n
      · have hlt : k < ms.length := by have := HN.out; omega
        have hlt2 : ((k : Nat) : Int) < (n : Int) := by omega
        obtain ⟨bb, off, u, hA, hl⟩ := HX.out k hlt
        subst hA
        obtain ⟨A1, c1, hu, hcc⟩ := (MsgLies4.pr hl).open_
        subst hu
        clear hcc
        have hin := HIN.out _ (List.getElem_mem hlt)
        have HTK := Lib.hid (show (ms.take (k + 1)).map frameM = (ms.take k).map frameM ++ [frameM ms[k]] by rw [List.take_succ_eq_append_getElem hlt, List.map_append]; rfl)
        obtain ⟨fb, hfb⟩ : ∃ fb, frameM ms[k] = fb := ⟨_, rfl⟩
        rw [hfb] at HTK
        have HZ : Hid ((giveAll ((ms.take k).map frameM)).wait.length + fb.length ≤ 100000 ∧ (giveAll ((ms.take k).map frameM)).skip ≤ 100000 ∧ (giveAll ((ms.take k).map frameM)).items.length ≤ 100000) := Lib.hid (by
          have h1 := giveAll_small ((ms.take k).map frameM)
          have h2 := lenB_frames (ms.take k) (fun m hm => HIN.out m (List.mem_of_mem_take hm))
          have h3 := frameM_len hin
          rw [hfb] at h3
          rw [List.length_take] at h2
          omega)
        rcases hm : ms[k] with ⟨mk, mq, ma, mp⟩
        rw [hm] at hl hin hfb
        dsimp only at hl hin hfb
        obtain ⟨f, hff⟩ : ∃ f, few6L mp = f := ⟨_, rfl⟩
        have HFW := Lib.hid (fun w (h : Props w w.heap.size (.slice A1 mp.length c1) mp) => few6_any mk mq ma A1 mp.length c1 mp w h hff)
        have HE : Hid (MsgLies4 W W.heap.size bb (off + k * 4) mk mq ma mp (.slice A1 mp.length c1)) := Lib.hid hl
        have e0 := (HG.out.b.cell (p := ⟨bb, off + k * 4, none⟩) HE.out.hb).trans HE.out.c0
        have e1 := (HG.out.b.cell (p := ⟨bb, off + k * 4 + 1, none⟩) HE.out.hb).trans HE.out.c1
        have e2 := (HG.out.b.cell (p := ⟨bb, off + k * 4 + 2, none⟩) HE.out.hb).trans HE.out.c2
        have e3 := (HG.out.b.cell (p := ⟨bb, off + k * 4 + 3, none⟩) HE.out.hb).trans HE.out.c3
        cases f with
        | false =>
          clear hl hin hff hm hlt hfb
          go_wp2_with (go_at_call 9; (with_reducible refine (HFW.out _ (HE.out.pr.over (Nat.le_refl _) HG.out.b)).mono ?_); rintro e w3 ⟨rfl, hb⟩; have HG3 := Lib.hid (HG.out.over hb); clear hb e0 e1 e2 e3; have e0 := (HG3.out.b.cell (p := ⟨bb, off + k * 4, none⟩) HE.out.hb).trans HE.out.c0; have e1 := (HG3.out.b.cell (p := ⟨bb, off + k * 4 + 1, none⟩) HE.out.hb).trans HE.out.c1; have e2 := (HG3.out.b.cell (p := ⟨bb, off + k * 4 + 2, none⟩) HE.out.hb).trans HE.out.c2; have e3 := (HG3.out.b.cell (p := ⟨bb, off + k * 4 + 3, none⟩) HE.out.hb).trans HE.out.c3)
          go_ret
          exact ⟨rfl, HG3.out.b⟩
        | true =>
          obtain ⟨f1, f2⟩ := few6_len hff
          have hfit : FitsL mp := fun p hp => ⟨by have := f2 p hp; omega, hin.2.2.2 p hp⟩
          have HFR := Lib.hid (fun w (hW : Below W.heap.size W w) (h : Props w w.heap.size (.slice A1 mp.length c1) mp) => mframe_new W HT.out mk mq ma A1 mp.length c1 mp w hW hin.2.1 hin.2.2.1.2 h (by omega) hfit hfb)
          have HS2 : Hid (∀ m ∈ ms.take (k + 1), m.props.length ≤ 21) := Lib.hid (by
            intro m hmm
            rw [List.take_succ_eq_append_getElem hlt, List.mem_append, List.mem_singleton] at hmm
            rcases hmm with h | h
            · exact HS1.out m h
            · rw [h, hm]; exact f1)
          clear hl hin hff hm hlt hfb f1 f2 hfit
          go_wp2_with (first
            | (go_at_call 9; (with_reducible refine (HFW.out _ (HE.out.pr.over (Nat.le_refl _) HG.out.b)).mono ?_); rintro e w3 ⟨rfl, hb⟩; have HG3 := Lib.hid (HG.out.over hb); clear hb e0 e1 e2 e3; have e0 := (HG3.out.b.cell (p := ⟨bb, off + k * 4, none⟩) HE.out.hb).trans HE.out.c0; have e1 := (HG3.out.b.cell (p := ⟨bb, off + k * 4 + 1, none⟩) HE.out.hb).trans HE.out.c1; have e2 := (HG3.out.b.cell (p := ⟨bb, off + k * 4 + 2, none⟩) HE.out.hb).trans HE.out.c2; have e3 := (HG3.out.b.cell (p := ⟨bb, off + k * 4 + 3, none⟩) HE.out.hb).trans HE.out.c3)
            | (go_at_call 14; (with_reducible refine (HFR.out _ HG3.out.b (HE.out.pr.over (Nat.le_refl _) HG3.out.b)).mono ?_); rintro e w4 ⟨G4, z4, rfl, hlb, hb⟩; have HG4 := Lib.hid (HG3.out.over hb); have HC4 := Lib.hid (give_any W HT.out p (giveAll ((ms.take k).map frameM)) F G4 z4 fb w4 HG4.out.b HG4.out.f HG4.out.d _ hlb (fun j hj => ⟨hj.2, fun f => by have h1 := HG3.out.d.old j f; have h2 := hj.1; omega⟩) HZ.out); clear hb hlb e0 e1 e2 e3)
            | (go_at_call 21; (with_reducible refine HC4.out.mono ?_); rintro e w5 ⟨F5, rfl, hm⟩; have HG5 := Lib.hid (HG4.out.moved hm); clear hm))
          go_roundw
          case rel => exact ⟨k + 1, F5, by omega, by go_num, by rw [HTK.out, giveAll_snoc]; exact HG5, HS2⟩
          case measure => simp [intOf]; omega
      · have hlt2 : ¬ ((k : Nat) : Int) < (n : Int) := by omega
        obtain rfl : k = ms.length := by have := HN.out; omega
        rw [List.take_length] at HG HS1
        have HC := Lib.hid (fend_any W HT.out p (giveAll (ms.map frameM)) F wr HG.out.b HG.out.f HG.out.d (by
          have h1 := giveAll_small (ms.map frameM)
          have h2 := lenB_frames ms HIN.out
          have := HN.out
          omega))
        have HI := Lib.hid (items_frsM ms HIN.out)
        have HD0 := Lib.hid (show frsM (ms.drop 0) = frsM ms by rw [List.drop_zero])
        generalize endS (giveAll (ms.map frameM)) = d0 at HC HI
        go_wp2_with (go_at_call 22; (with_reducible refine HC.out.mono ?_); rintro e w6 ⟨F6, rfl, hm⟩; have HG6 := Lib.hid (HG.out.moved hm); clear hm)
        go_loopw [7] (fun i wr => ∃ (k : Nat) (d : DS) (F : Nat → Prop), k ≤ n ∧ i = .int .i64 k ∧ Hid (FgAt W wr p d F) ∧ Hid (d.items = framesI (frsM (ms.drop k)))) (fun i _ => n - (intOf i).toNat)
        case atStart => exact ⟨0, d0, F6, Nat.zero_le _, rfl, HG6, Lib.hid (by rw [HD0.out]; exact HI.out)⟩
        case round =>
          clear HC HI HD0 HG HG6
          obtain ⟨k, d, F, hk, rfl, HG, HI⟩ := hrel
          by_cases hkn : k < n
          · have hlt : k < ms.length := by have := HN.out; omega
            have hlt2 : ((k : Nat) : Int) < (n : Int) := by omega
            obtain ⟨bb, off, u, hA, hl⟩ := HX.out k hlt
            subst hA
            obtain ⟨A1, c1, hu, hcc⟩ := (MsgLies4.pr hl).open_
            subst hu
            clear hcc
            have hin := HIN.out _ (List.getElem_mem hlt)
            have h21 := HS1.out _ (List.getElem_mem hlt)
            rcases hm : ms[k] with ⟨mk, mq, ma, mp⟩
            cases hr : mayL ms[k] with
            | false =>
              have HNX := Lib.hid (show d.items = framesI (frsM (ms.drop (k + 1))) by rw [HI.out, frsM_no hlt hr])
              rw [hm] at hl hin hr h21
              dsimp only at hl hin hr h21
              have HE : Hid (MsgLies4 W W.heap.size bb (off + k * 4) mk mq ma mp (.slice A1 mp.length c1)) := Lib.hid hl
              have e0 := (HG.out.b.cell (p := ⟨bb, off + k * 4, none⟩) HE.out.hb).trans HE.out.c0
              have e1 := (HG.out.b.cell (p := ⟨bb, off + k * 4 + 1, none⟩) HE.out.hb).trans HE.out.c1
              have e2 := (HG.out.b.cell (p := ⟨bb, off + k * 4 + 2, none⟩) HE.out.hb).trans HE.out.c2
              have e3 := (HG.out.b.cell (p := ⟨bb, off + k * 4 + 3, none⟩) HE.out.hb).trans HE.out.c3
              have HMA := Lib.hid (fun w (h : Props w w.heap.size (.slice A1 mp.length c1) mp) => mmay_any mk mq ma A1 mp.length c1 mp w h (by omega) hr)
              clear hl hin hm hlt hr h21
              go_wp2_with (go_at_call 13; (with_reducible refine (HMA.out _ (HE.out.pr.over (Nat.le_refl _) HG.out.b)).mono ?_); rintro e w3 ⟨rfl, hb⟩; have HG3 := Lib.hid (HG.out.over hb); clear hb e0 e1 e2 e3; have e0 := (HG3.out.b.cell (p := ⟨bb, off + k * 4, none⟩) HE.out.hb).trans HE.out.c0; have e1 := (HG3.out.b.cell (p := ⟨bb, off + k * 4 + 1, none⟩) HE.out.hb).trans HE.out.c1; have e2 := (HG3.out.b.cell (p := ⟨bb, off + k * 4 + 2, none⟩) HE.out.hb).trans HE.out.c2; have e3 := (HG3.out.b.cell (p := ⟨bb, off + k * 4 + 3, none⟩) HE.out.hb).trans HE.out.c3)
              go_roundw
              case rel => exact ⟨k + 1, d, F, by omega, by go_num, HG3, HNX⟩
              case measure => simp [intOf]; omega
            | true =>
              have HI2 := Lib.hid (HI.out.trans (frsM_yes hlt hr))
              rw [hm] at hl hin hr h21 HI2
              dsimp only at hl hin hr h21 HI2
              have HE : Hid (MsgLies4 W W.heap.size bb (off + k * 4) mk mq ma mp (.slice A1 mp.length c1)) := Lib.hid hl
              have e0 := (HG.out.b.cell (p := ⟨bb, off + k * 4, none⟩) HE.out.hb).trans HE.out.c0
              have e1 := (HG.out.b.cell (p := ⟨bb, off + k * 4 + 1, none⟩) HE.out.hb).trans HE.out.c1
              have e2 := (HG.out.b.cell (p := ⟨bb, off + k * 4 + 2, none⟩) HE.out.hb).trans HE.out.c2
              have e3 := (HG.out.b.cell (p := ⟨bb, off + k * 4 + 3, none⟩) HE.out.hb).trans HE.out.c3
              have HMA := Lib.hid (fun w (h : Props w w.heap.size (.slice A1 mp.length c1) mp) => mmay_any mk mq ma A1 mp.length c1 mp w h (by omega) hr)
              have HK := Lib.hid hin.1
              have HLEN := Lib.hid h21
              obtain ⟨pb, hpb⟩ : ∃ pb, putM ⟨mk, mq, ma, mp⟩ = pb := ⟨_, rfl⟩
              have htk : takeM mk pb = (⟨mk, mq, ma, mp⟩, 0) := by rw [← hpb]; exact put_take (m := ⟨mk, mq, ma, mp⟩) hin.wf hr
              have hplen : pb.length ≤ 203 := by rw [← hpb]; exact put_len6 (m := ⟨mk, mq, ma, mp⟩) hin.wf hr
              have HTKm := Lib.hid (fun v w (h : LiesB w w.heap.size v pb) => mtake_any mk v pb w hin.1 h (by omega))
              rw [htk] at HTKm
              rw [hpb] at HI2
              clear hl hin hm hlt hr h21 hpb htk hplen
              go_upto_region 20 with (first
                | (go_at_call 13; (with_reducible refine (HMA.out _ (HE.out.pr.over (Nat.le_refl _) HG.out.b)).mono ?_); rintro e w3 ⟨rfl, hb⟩; have HG3 := Lib.hid (HG.out.over hb); clear hb e0 e1 e2 e3; have e0 := (HG3.out.b.cell (p := ⟨bb, off + k * 4, none⟩) HE.out.hb).trans HE.out.c0; have e1 := (HG3.out.b.cell (p := ⟨bb, off + k * 4 + 1, none⟩) HE.out.hb).trans HE.out.c1; have e2 := (HG3.out.b.cell (p := ⟨bb, off + k * 4 + 2, none⟩) HE.out.hb).trans HE.out.c2; have e3 := (HG3.out.b.cell (p := ⟨bb, off + k * 4 + 3, none⟩) HE.out.hb).trans HE.out.c3)
                | (go_at_call 23; (with_reducible refine (next_msg p d F _ mk pb _ HG3.out.d HK.out HI2.out).mono ?_); rintro e w4 ⟨F4, A4, c4, rfl, hm, hlb⟩; have HG4 := Lib.hid (HG3.out.moved hm); have HL4 := Lib.hid hlb; clear hm hlb e0 e1 e2 e3))
              obtain ⟨d2, hd2⟩ : ∃ d2 : DS, { d with items := framesI (frsM (ms.drop (k + 1))) } = d2 := ⟨_, rfl⟩
              have HNX : Hid (d2.items = framesI (frsM (ms.drop (k + 1)))) := Lib.hid (by rw [← hd2])
              rw [hd2] at HG4
              clear hd2 HI2
              generalize hpn : pb.length = pn at HL4 ⊢
              have hb5 := bmore (bself w4) (.cells #[.int .i64 0, .int .u8 (mk : Int), .slice A4 pn c4] 51)
              have HG5 := Lib.hid (HG4.out.over hb5)
              have HL5 := Lib.hid (HL4.out.over (Nat.le_refl _) hb5)
              obtain ⟨x0, x1, x2, _, _, _⟩ := blk3 (heap_alloc_new w4 (.cells #[.int .i64 0, .int .u8 (mk : Int), .slice A4 pn c4] 51))
              have HGX := Lib.hid (show w4.heap.size < (w4.alloc (.cells #[.int .i64 0, .int .u8 (mk : Int), .slice A4 pn c4] 51)).heap.size by simp)
              obtain ⟨xg, hxg⟩ : ∃ xg, xg = w4.heap.size := ⟨_, rfl⟩
              rw [← hxg] at x0 x1 x2 HGX ⊢
              generalize w4.alloc (Obj.cells #[Value.int IntKind.i64 0, Value.int IntKind.u8 (mk : Int), Value.slice A4 pn c4] 51) = w5 at x0 x1 x2 HG5 HL5 HGX ⊢
              clear hxg hb5 HG4 HL4 hpn HG3
              go_upto_region 21 with (go_at_call 17; (with_reducible refine (HTKm.out _ _ HL5.out).mono ?_); rintro e w6 ⟨A6, n6, c6, rfl, hp, hb⟩; have x0 := (hb.cell HGX.out).trans x0; have HG6 := Lib.hid (HG5.out.over hb); have HP6 := Lib.hid hp; have HGX := Lib.hid (Nat.lt_of_lt_of_le HGX.out hb.size); clear hb hp)
              have hb7 := bmore (bself w6) (.cells #[.int .u8 (mk : Int), .int .u64 (mq : Int), .int .i64 ma, .slice A6 n6 c6] 25)
              obtain ⟨h, hh⟩ : ∃ h, h = w6.heap.size := ⟨_, rfl⟩
              have hS : FrmS W xg h bb (off + k * 4) mk mq ma (.slice A6 n6 c6) (.slice A1 mp.length c1) mp p d2 F4 (w6.alloc (.cells #[.int .u8 (mk : Int), .int .u64 (mq : Int), .int .i64 ma, .slice A6 n6 c6] 25)) := by
                obtain ⟨r0, r1, r2, r3, _, _, _, _⟩ := blk4 (heap_alloc_new w6 (.cells #[.int .u8 (mk : Int), .int .u64 (mq : Int), .int .i64 ma, .slice A6 n6 c6] 25))
                have HG7 := HG6.out.over hb7
                rw [hh]
                exact ⟨(hb7.cell HGX.out).trans x0, r0, r1, r2, r3, (HG7.b.cell (p := ⟨bb, off + k * 4, none⟩) HE.out.hb).trans HE.out.c0, (HG7.b.cell (p := ⟨bb, off + k * 4 + 1, none⟩) HE.out.hb).trans HE.out.c1, (HG7.b.cell (p := ⟨bb, off + k * 4 + 2, none⟩) HE.out.hb).trans HE.out.c2, (HG7.b.cell (p := ⟨bb, off + k * 4 + 3, none⟩) HE.out.hb).trans HE.out.c3,
                  Lib.hid ⟨Nat.lt_of_lt_of_le HGX.out hb7.size, by simp, Nat.lt_of_lt_of_le HE.out.hb HG7.b.size, HG7, HP6.out.over (Nat.le_refl _) hb7, HE.out.pr.over (Nat.le_refl _) HG7.b⟩⟩
              rw [← hh]
              generalize w6.alloc (Obj.cells #[Value.int IntKind.u8 (mk : Int), Value.int IntKind.u64 (mq : Int), Value.int IntKind.i64 ma, Value.slice A6 n6 c6] 25) = w7 at hS ⊢
              clear hh hb7 HP6 HG6 HG5 HL5 HGX x0
              unfold FrmS at hS
              go_region_held3 (fun w' => w'.cell? ⟨xg, 0, none⟩ = some (.int .i64 0) ∧ w'.cell? ⟨h, 0, none⟩ = some (.int .u8 (mk : Int)) ∧ w'.cell? ⟨h, 1, none⟩ = some (.int .u64 (mq : Int)) ∧ w'.cell? ⟨h, 2, none⟩ = some (.int .i64 ma) ∧ w'.cell? ⟨h, 3, none⟩ = some (.slice A6 n6 c6) ∧ w'.cell? ⟨bb, off + k * 4, none⟩ = some (.int .u8 (mk : Int)) ∧ w'.cell? ⟨bb, off + k * 4 + 1, none⟩ = some (.int .u64 (mq : Int)) ∧ w'.cell? ⟨bb, off + k * 4 + 2, none⟩ = some (.int .i64 ma) ∧ w'.cell? ⟨bb, off + k * 4 + 3, none⟩ = some (.slice A1 mp.length c1) ∧ Hid (xg < w'.heap.size ∧ h < w'.heap.size ∧ bb < w'.heap.size ∧ FgAt W w' p d2 F4 ∧ Props w' w'.heap.size (.slice A6 n6 c6) mp ∧ Props w' w'.heap.size (.slice A1 mp.length c1) mp))
                (first | assumption | exact frmS_drew (by assumption))
                (first
                  | (go_at_call 10; ((with_reducible refine Calls.mono (plain6_any mk mq ma _ _ _ _) ?_); rintro e w8 ⟨rfl, hb⟩; have hs1 := frmS_over (by assumption) hb; clear hb))
                  | (go_at_call 19; ((with_reducible refine Calls.mono (rsamem_any mk mq ma A6 n6 c6 mp mk mq ma A1 mp.length c1 mp _ ?_ ?_ (by have := HLEN.out; omega) (same_refl6 _)) ?_); (exact (FrmS.hid (W := W) (xg := xg) (h := h) (bb := bb) (o := off + k * 4) (mk := mk) (mq := mq) (ma := ma) (v2 := .slice A6 n6 c6) (v3 := .slice A1 mp.length c1) (mp := mp) (p := p) (d := d2) (F := F4) (by assumption)).2.1); (exact (FrmS.hid (W := W) (xg := xg) (h := h) (bb := bb) (o := off + k * 4) (mk := mk) (mq := mq) (ma := ma) (v2 := .slice A6 n6 c6) (v3 := .slice A1 mp.length c1) (mp := mp) (p := p) (d := d2) (F := F4) (by assumption)).2.2); rintro e w9 ⟨rfl, hb⟩; have hs1 := frmS_over (by assumption) hb; clear hb)))
              have HG9 := Lib.hid (FrmS.hid (W := W) (xg := xg) (h := h) (bb := bb) (o := off + k * 4) (mk := mk) (mq := mq) (ma := ma) (v2 := .slice A6 n6 c6) (v3 := .slice A1 mp.length c1) (mp := mp) (p := p) (d := d2) (F := F4) hs1).1
              clear hs1
              go_wp2
              go_roundw
              case rel => exact ⟨k + 1, d2, F4, by omega, by go_num, HG9, HNX⟩
              case measure => simp [intOf]; omega
          · have hlt2 : ¬ ((k : Nat) : Int) < (n : Int) := by omega
            obtain rfl : k = ms.length := by have := HN.out; omega
            have HI2 : Hid (d.items = []) := Lib.hid (by rw [HI.out, List.drop_length]; rfl)
            go_wp2_with (go_at_call 23; (with_reducible refine (next_no p d F _ HG.out.d HI2.out).mono ?_); rintro e w4 ⟨F4, A4, c4, rfl, hm⟩; have HG4 := Lib.hid (HG.out.moved hm); clear hm)
            go_ret
            exact ⟨rfl, bmore HG4.out.b _⟩
  · have q20 : (20 : Int) < (n : Int) := by omega
    clear hx hin hT hn h20
    go_enter Tryd.func6, Tryd.ntmps6
    go_wp2_with (go_at_call 8; (with_reducible refine HA.out.mono ?_); rintro e w1 ⟨rfl, hb⟩; have HB1 := Lib.hid hb; clear hb)
    go_ret
    exact ⟨rfl, HB1.out⟩
theorem messageFrames_row (v : Value) (ms : List Msg) (W : World) (hT : Tabs W) (hv : MsgsIn W W.heap.size v ms) (hin : ∀ m ∈ ms, m.In) :
    Calls Tryd.prog 6 #[v] W fun e w' => e = .returned (.bool true) ∧ Below W.heap.size W w' := messageFrames_any v ms W hT hv hin
end Go.Proofs.YtiflpjdiokloaaaDoor
