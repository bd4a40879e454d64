/-
  The walk of the law FrameItems.
-/
import Derived.Test.YtpgainalimmecaaDoorAwakeFour
import Derived.Test.YtpgainalimmecaaDoorItems
import Derived.Deep.RegionHeld3
import Derived.Deep.Cut
import Derived.Shelf.Abstract
import Derived.Shelf.RegionOpen
import Derived.WalkKit
import Derived.OwnWalkIn
import Derived.TacticsInMore
import Derived.LoopNIn
import Derived.LoopIn
namespace Go.Proofs.YtpgainalimmecaaDoor
open Go.RowKit Go.Shelf
attribute [local go_sem] Oper.semAt_some
set_option linter.unusedVariables false

set_option maxRecDepth 100000 in
set_option maxHeartbeats 40000000 in
theorem frameItems_core (A : Option Addr) (c : Nat) (b : List UInt8) (t : UInt8) (W : World) (hT : Tabs W) (hb : LiesB W W.heap.size (.slice A b.length c) b) (hl : b.length ≤ 1000) :
    Calls Tryd.prog 5 #[.slice A b.length c, .int .u8 (t.toNat : Int)] W fun e w' => e = .returned (.bool true) ∧ Below W.heap.size W w' := by
  have HT := Lib.hid hT
  have HBY := Lib.hid hb
  have HL := Lib.hid hl
  have hl1 : ¬ (1000 : Int) < (b.length : Int) := by omega
  have HCA := Lib.hid (awake4_any W hT)
  clear hT hb hl
  refine (callsIn_wide (n := 3)).1 (callsIn_of_wp_marks Tryd.func5 rfl trivial ((wpIn_wide (n := 3)).2 ?_))
  simp only [Tryd.ntmps5, List.size_toArray, List.length_cons, List.length_nil, Nat.reduceAdd, Nat.reduceSub, Array.replicate_succ, Array.replicate_zero, List.push_toArray, List.append_toArray, List.nil_append, List.cons_append]
  go_wp2_with fail
  refine HCA.out.mono ?_
  rintro e w1 ⟨rfl, hb1⟩
  have HB := Lib.hid hb1
  have HBY1 := Lib.hid (HBY.out.over (Nat.le_refl _) hb1)
  clear hb1 HCA
  go_wp2_with fail
  refine (new_any w1).mono ?_
  rintro e w2 ⟨p, F0, rfl, hd, hF, hb2⟩
  have HP2 := Lib.hid (show Dec w2 p newS F0 ∧ (∀ k, F0 k → w1.heap.size ≤ k) ∧ Below w1.heap.size w1 w2 from ⟨hd, hF, hb2⟩)
  clear hd hF hb2
  have HC2 := Lib.hid (give_any W HT.out p newS F0 A c b w2 (bstep HB.out HP2.out.2.2) (fun k hk => Nat.le_trans HB.out.size (HP2.out.2.1 k hk)) HP2.out.1 (fun k => k < w1.heap.size) ((HBY1.out.keep fun k hk => HP2.out.2.2.block k hk)) (fun k hk => ⟨Nat.lt_of_lt_of_le hk HP2.out.2.2.size, fun f => Nat.lt_irrefl _ (Nat.lt_of_lt_of_le hk (HP2.out.2.1 k f))⟩) ⟨by have := HL.out; have e : newS.wait.length = 0 := rfl; omega, by decide, by decide⟩)
  obtain ⟨d1, hd1⟩ : ∃ d1, giveS newS b = d1 := ⟨_, rfl⟩
  have HD1 := Lib.hid hd1
  have HM1 := Lib.hid (show d1.wait.length ≤ 100000 ∧ d1.skip ≤ 100000 ∧ d1.items.length ≤ 100000 by have h := giveS_small newS b 0 (by decide); rw [hd1] at h; have := HL.out; omega)
  obtain ⟨d2, hd2⟩ : ∃ d2, endS d1 = d2 := ⟨_, rfl⟩
  have HD2 := Lib.hid hd2
  have HM2 := Lib.hid (show d2.items.length ≤ 100000 by have h := giveS_small newS b 0 (by decide); rw [hd1] at h; have h2 := endS_small d1 _ h; rw [hd2] at h2; have := HL.out; omega)
  rw [hd1] at HC2
  clear hd1 hd2
  go_wp2_with fail
  refine HC2.out.mono ?_
  rintro e w3 ⟨F1, rfl, hm⟩
  have HP3 := Lib.hid (show Dec w3 p d1 F1 ∧ (∀ k, F1 k → w1.heap.size ≤ k) ∧ Below w1.heap.size w1 w3 from ⟨hm.1, fun k hk => (hm.2.2 k hk).elim (HP2.out.2.1 k) (fun q => Nat.le_trans HP2.out.2.2.size q), HP2.out.2.2.trans (hm.2.1.below HP2.out.2.1 HP2.out.2.2.size)⟩)
  clear hm HC2
  have HC3 := Lib.hid (fend_any W HT.out p d1 F1 w3 (bstep HB.out HP3.out.2.2) (fun k hk => Nat.le_trans HB.out.size (HP3.out.2.1 k hk)) HP3.out.1 HM1.out)
  rw [HD2.out] at HC3
  go_wp2_with fail
  refine HC3.out.mono ?_
  rintro e w4 ⟨F, rfl, hm⟩
  have HP4 := Lib.hid (show Dec w4 p d2 F ∧ (∀ k, F k → w1.heap.size ≤ k) ∧ Below w1.heap.size w1 w4 from ⟨hm.1, fun k hk => (hm.2.2 k hk).elim (HP3.out.2.1 k) (fun q => Nat.le_trans HP3.out.2.2.size q), HP3.out.2.2.trans (hm.2.1.below HP3.out.2.1 HP3.out.2.2.size)⟩)
  clear hm HC3 HP2 HP3
  have HC4 := Lib.hid (show Calls Tryd.prog 16 #[.agg #[.string ⟨#[]⟩, .int .i64 0, .slice none 0 0, .bool false], .string (mkB b)] w4 (DDid d1 (.slice none 0 0) w4) from rgive_any newS none 0 0 b w4 ⟨by have := HL.out; have e : newS.wait.length = 0 := rfl; omega, by decide, by decide⟩ (Seq.nil_ _ _ _) d1 HD1.out)
  have s1 := run_str_any c ((liesB_slice HBY1.out).1.below_ HP4.out.2.2)
  go_wp2_with fail
  refine HC4.out.mono ?_
  rintro e w5 ⟨A5, n5, c5, rfl, hs5, hf5, hb5⟩
  clear s1
  have HS5 := Lib.hid hs5
  have HB5 := Lib.hid hb5
  have HV5 := Lib.hid (show ∀ j, (Value.slice A5 n5 c5).ownBlock = some j → w4.heap.size ≤ j from fun j hj => (hf5 j hj).elim (fun e => by simp [Value.ownBlock] at e) id)
  have HC5 := Lib.hid (rend_any d1 A5 n5 c5 w5 HM1.out HS5.out d2 HD2.out)
  clear hs5 hf5 hb5 HC4
  go_wp2_with fail
  refine HC5.out.mono ?_
  rintro e w6 ⟨A6, n6, c6, rfl, hs6, hf6, hb6⟩
  have HG := Lib.hid (GotAt.first (w := w1) (t.toNat : Int) HP4.out.1 HP4.out.2.1 HP4.out.2.2 (bstep HB5.out hb6) hs6 (fun j hj => (hf6 j hj).elim (HV5.out j) (fun q => Nat.le_trans HB5.out.size q)))
  clear hs6 hf6 hb6 HC5 HS5 HB5 HV5
  have hwr : wrap64 (t.toNat : Int) = (t.toNat : Int) := IntWalk.wrap64_in _ (by have := t.toNat_lt; omega)
  go_upto_region 12 with (fail)
  rw [hwr]
  generalize ((w6.alloc (.cells #[.string (mkB d2.wait), .int .i64 (d2.skip : Int), .slice A6 n6 c6, .bool d2.over] 36)).alloc (.cells #[.slice none 0 0] 52)).alloc (.cells #[.int .i64 (t.toNat : Int)] 3) = w7 at HG ⊢
  have HC7 := Lib.hid (items_any p d2 F w7 HG.out.hp.hd)
  obtain ⟨g, hg⟩ : ∃ g, w6.heap.size = g := ⟨_, rfl⟩
  rw [hg] at HG ⊢
  clear hg
  go_wp2_with fail
  refine HC7.out.mono ?_
  rintro e w8 ⟨lb, C, rfl, hto, hC, hb8⟩
  have HG8 := Lib.hid (HG.out.over hb8)
  have HI := Lib.hid (show ∀ r, ItI (Told p lb C) C w8.heap.size w1 p d2 g (.slice A6 n6 c6) (g + 1) (g + 1 + 1) t.toNat (d2, F) ((w8.alloc (.deferred (some []))).alloc (.loop r)) from by
    intro r
    have hbl := bmore (bmore (bself w8) (.deferred (some []))) (.loop r)
    have hsz : ((w8.alloc (.deferred (some []))).alloc (.loop r)).heap.size = w8.heap.size + 2 := by simp
    have hG := HG8.out.over hbl
    refine ⟨0, fun _ => False, [], .slice none 0 0, rfl, Nat.zero_le _, .inl rfl, by simpa using hG, hto.keep fun j hj => hbl.block j (hC j hj).2, fun j hj => ⟨by have := (hC j hj).2; omega, fun f => ?_⟩, fun j hj => ?_, by omega, HG8.out.hp.hB.size⟩
    · have := HG.out.lt f
      have := (hC j hj).1
      omega
    · have : j < w8.heap.size := hj.elim HG8.out.lt fun c => (hC j c).2
      omega)
  clear hto hC hb8 HG HC7
  go_wp2_with fail
  refine' wp_rangeFunc_break (w := w8) (gf := 36) (lb := lb) rfl (enters_of Tryd.func36 (by kernel_rfl) rfl) (items_hands p lb C)
    (ItI (Told p lb C) C w8.heap.size w1 p d2 g (.slice A6 n6 c6) (g + 1) (g + 1 + 1) t.toNat) (ItH _ (Told p lb C) C w8.heap.size w1 p d2 g (.slice A6 n6 c6) (g + 1) (g + 1 + 1) t.toNat)
    (ItE (Told p lb C) C w8.heap.size w1 p d2 g (.slice A6 n6 c6) (g + 1) (g + 1 + 1) t.toNat) (d2, F) HI.out
    (fun s W' q h => h.put (@Told.keep p lb C) q) (fun s xs a' W' q h => h.put (@Told.keep p lb C) q) (fun W' q h => h.put (@Told.keep p lb C) q) (fun s W' h => h.ok) (fun s W' s' xs W1 h hh => ?hand) (fun s W' W1 h hh => h.ended (@Told.keep p lb C) hh) ?assign ?body ?rest
  case hand =>
    obtain ⟨x, l, D, A9, c9, _, _, rfl, hm, _⟩ := hh
    exact ⟨rfl, h.two hm⟩
  case assign =>
    intro l s W0 s' xs W1 hI hH hbig
    obtain ⟨k, D, bs, o, x, A9, c9, rfl, h1, h2, h3, h4, h5, h6⟩ := hI.handed (@Told.keep p lb C) hH
    obtain ⟨bx, hbx⟩ : ∃ bx, W1.heap.size = bx := ⟨_, rfl⟩
    obtain ⟨W2, hW2⟩ : ∃ W2, W1.alloc (.cells #[.int .i64 (x.skip : Int), .int .u8 (x.kind.toNat : Int), .slice A9 x.body.length c9] 42) = W2 := ⟨_, rfl⟩
    have hb := bmore (bself W1) (.cells #[.int .i64 (x.skip : Int), .int .u8 (x.kind.toNat : Int), .slice A9 x.body.length c9] 42)
    have hx := heap_alloc_new W1 (.cells #[.int .i64 (x.skip : Int), .int .u8 (x.kind.toNat : Int), .slice A9 x.body.length c9] 42)
    rw [hW2] at hb hx
    rw [hbx] at hx
    have HH := Lib.hid (And.intro (show Keep2 w8.heap.size W1 W2 from fun j hj => hb.block j (by omega)) (And.intro (h5.over (@Told.keep p lb C) hb) (And.intro hx (And.intro (show ¬ FootG s'.2 D g (.slice A6 n6 c6) o (g + 1) (g + 1 + 1) bx from fun f => by have := h5.got.lt f; omega) (h6.keep fun j hj => hb.block j (h5.got.lt (.inr (.inl hj))))))))
    have HBX := Lib.hid (show bx ≠ w8.heap.size + 1 by omega)
    clear hb hx h5 h6 hI hH hbig
    gi_wp2
    exact ⟨HH.out.1, k, D, bs, o, x, A9, c9, bx, h1, h2, h3, h4, HH.out.2.1, HH.out.2.2.1, HH.out.2.2.2.1, HBX.out, HH.out.2.2.2.2, rfl⟩
  case body =>
    rintro l s' xs a' W2 ⟨r, hr⟩ ⟨k, D, bs, o, x, A9, c9, bx, h1, h2, h3, h4, h5, h6, h7, h8, h9, rfl⟩ hbig
    have HA := Lib.hid (And.intro h5 (And.intro h6 (And.intro h9 hbig)))
    have HX := Lib.hid (And.intro h1 (And.intro h2 (And.intro h3 (And.intro h4 (And.intro h7 h8)))))
    have HLN := Lib.hid (show (d2.items.take k).length = k by rw [List.length_take]; omega)
    have hg0 : W2.cell? ⟨g + 1, 0, none⟩ = some o := by rw [heap_cell h5.got.hg]; rfl
    have hl0 : W2.cell? ⟨g + 1 + 1, 0, none⟩ = some (.int .i64 ((t.toNat : Int) - (k : Int))) := by rw [heap_cell h5.got.hl]; rfl
    have hg1 := heap_frozen h5.got.hg 0
    have hl1' := heap_frozen h5.got.hl 0
    obtain ⟨a0, a1, a2, _, _, _⟩ := blk3 h6
    obtain ⟨A3, n3, c3, rfl⟩ := own_slice h5.got.ho
    clear hr h1 h2 h3 h4 h5 h6 h7 h8 h9 hbig
    have hkn : (k : Int) ≤ 100000 := by have := HM2.out; have := HX.out.2.2.1; omega
    have htn : (t.toNat : Int) ≤ 255 := by have := t.toNat_lt; omega
    have hwl : wrap64 ((t.toNat : Int) - (k : Int) - 1) = (t.toNat : Int) - (k : Int) - 1 := IntWalk.wrap64_in _ (by omega)
    have HKN := Lib.hid hkn
    have HTN := Lib.hid htn
    clear hkn htn
    obtain ⟨m, hm⟩ : ∃ m : Int, (t.toNat : Int) - (k : Int) - 1 = m := ⟨_, rfl⟩
    rw [hm] at hwl
    have HMM := Lib.hid hm
    by_cases hle : m ≤ 0
    · gi_wp2_with (gi_at_builtin; refine wpListIn_app_seq rfl (.tmp 40) (.tmp 42) 52 42 _ 3 40 Tryd.underlying52 info_F rfl (by omega) rfl w1.heap.size (.slice A3 n3 c3) (.slice (some ⟨W2.heap.size, 0, none⟩) 1 1) (d2.items.take k).length 1 (cellsF (d2.items.take k) bs) (cellsF [x] [.slice A9 x.body.length c9]) rfl rfl (ownsRow_over HA.out.1.got.ho (bmore (bself W2) _)) (Seq.lit_ W2 [.int .i64 (x.skip : Int), .int .u8 (x.kind.toNat : Int), .slice A9 x.body.length c9] _) (item_lit _ _ _ _) (by have := HKN.out; have := HLN.out; omega) (Nat.le_trans HA.out.1.got.hp.hB.size (by simp)) ?_; intro o1 w3 hg; obtain ⟨A4, n4, c4, rfl⟩ := own_slice hg.1; have HGR := Lib.hid hg; clear hg hg0 hl0 hg1 hl1' a0 a1 a2; have hw3 := (HGR.out.2.1.block (g + 1) (by have := heap_lt HA.out.1.got.hg; simp; omega) (fun e => (HA.out.1.got.hob _ e.symm).2.2.1 rfl)).trans ((Below.heap_alloc W2 _ _ (heap_lt HA.out.1.got.hg)).trans HA.out.1.got.hg); have hw4 := (HGR.out.2.1.block (g + 1 + 1) (by have := heap_lt HA.out.1.got.hl; simp; omega) (fun e => (HA.out.1.got.hob _ e.symm).2.2.2.1 rfl)).trans ((Below.heap_alloc W2 _ _ (heap_lt HA.out.1.got.hl)).trans HA.out.1.got.hl); have b0 : w3.cell? ⟨g + 1, 0, none⟩ = some (.slice A3 n3 c3) := by { rw [heap_cell hw3]; rfl }; have b1 := heap_frozen hw3 0; have b2 : w3.cell? ⟨g + 1 + 1, 0, none⟩ = some (.int .i64 ((t.toNat : Int) - (k : Int))) := by { rw [heap_cell hw4]; rfl }; have b3 := heap_frozen hw4 0; clear hw3 hw4)
      have HR := HA.out.1.round (@Told.keep p lb C) HA.out.2.2.1 HX.out.2.1 HGR.out m
      clear b0 b1 b2 b3
      have hm2 : m = (t.toNat : Int) - ((k + 1 : Nat) : Int) := by have := HMM.out; omega
      rw [hm2] at HR hle ⊢
      have hx3 := HX.out.2.2.1
      have hx4 := HX.out.2.2.2.1
      exact ⟨HR.1, rfl, k + 1, s'.2, D, _, _, by omega, HR.2⟩
    · gi_wp2_with (gi_at_builtin; refine wpListIn_app_seq rfl (.tmp 40) (.tmp 42) 52 42 _ 3 40 Tryd.underlying52 info_F rfl (by omega) rfl w1.heap.size (.slice A3 n3 c3) (.slice (some ⟨W2.heap.size, 0, none⟩) 1 1) (d2.items.take k).length 1 (cellsF (d2.items.take k) bs) (cellsF [x] [.slice A9 x.body.length c9]) rfl rfl (ownsRow_over HA.out.1.got.ho (bmore (bself W2) _)) (Seq.lit_ W2 [.int .i64 (x.skip : Int), .int .u8 (x.kind.toNat : Int), .slice A9 x.body.length c9] _) (item_lit _ _ _ _) (by have := HKN.out; have := HLN.out; omega) (Nat.le_trans HA.out.1.got.hp.hB.size (by simp)) ?_; intro o1 w3 hg; obtain ⟨A4, n4, c4, rfl⟩ := own_slice hg.1; have HGR := Lib.hid hg; clear hg hg0 hl0 hg1 hl1' a0 a1 a2; have hw3 := (HGR.out.2.1.block (g + 1) (by have := heap_lt HA.out.1.got.hg; simp; omega) (fun e => (HA.out.1.got.hob _ e.symm).2.2.1 rfl)).trans ((Below.heap_alloc W2 _ _ (heap_lt HA.out.1.got.hg)).trans HA.out.1.got.hg); have hw4 := (HGR.out.2.1.block (g + 1 + 1) (by have := heap_lt HA.out.1.got.hl; simp; omega) (fun e => (HA.out.1.got.hob _ e.symm).2.2.2.1 rfl)).trans ((Below.heap_alloc W2 _ _ (heap_lt HA.out.1.got.hl)).trans HA.out.1.got.hl); have b0 : w3.cell? ⟨g + 1, 0, none⟩ = some (.slice A3 n3 c3) := by { rw [heap_cell hw3]; rfl }; have b1 := heap_frozen hw3 0; have b2 : w3.cell? ⟨g + 1 + 1, 0, none⟩ = some (.int .i64 ((t.toNat : Int) - (k : Int))) := by { rw [heap_cell hw4]; rfl }; have b3 := heap_frozen hw4 0; clear hw3 hw4)
      have HR := HA.out.1.round (@Told.keep p lb C) HA.out.2.2.1 HX.out.2.1 HGR.out m
      clear b0 b1 b2 b3
      have hm2 : m = (t.toNat : Int) - ((k + 1 : Nat) : Int) := by have := HMM.out; omega
      rw [hm2] at HR hle ⊢
      have hx3 := HX.out.2.2.1
      have hx4 := HX.out.2.2.2.1
      exact ⟨HR.1, k + 1, D, _, _, HX.out.1, hx3, .inr (by omega), HR.2⟩
  case rest =>
    rintro W' ⟨k, F', D, bs, o, hk, hat⟩ hdef
    dsimp only
    have hkL : k ≤ d2.items.length := by omega
    have hsF : SeqF W' W'.heap.size o (d2.items.take k) := ⟨bs, hat.got.hbl, Seq.own hat.got.ho, fun i hi u hu => (hat.got.hbs i hi u hu).below fun j hj => (hat.got.hD j hj).1⟩
    obtain ⟨A9, c9, rfl, hc9⟩ := hsF.open_
    rw [List.length_take, Nat.min_eq_left hkL] at hat hc9
    obtain ⟨A6', c6', e6, _⟩ := hat.got.hp.hs.open_
    simp only [Value.slice.injEq] at e6
    obtain ⟨rfl, rfl, rfl⟩ := e6
    have HA := Lib.hid (And.intro hat hdef)
    have hg0 : W'.cell? ⟨g + 1, 0, none⟩ = some (.slice A9 k c9) := by rw [heap_cell hat.got.hg]; rfl
    obtain ⟨_, _, a2, _, _, _, _, _⟩ := blk4 hat.got.hp.hg
    have HKL := Lib.hid hkL
    obtain ⟨L, hL⟩ : ∃ L, d2.items.length = L := ⟨_, rfl⟩
    rw [hL] at a2 hk
    have HLL := Lib.hid hL
    have HK := Lib.hid hk
    have hLi : (L : Int) ≤ 100000 := by have := HM2.out; omega
    have htn : (t.toNat : Int) ≤ 255 := by have := t.toNat_lt; omega
    clear hat hdef hsF hc9 hkL hL HI HG8
    by_cases ht0 : t.toNat = 0
    · have q0 : ((t.toNat : Int) == 0) = true := by rw [beq_iff_eq]; omega
      by_cases hL0 : L = 0
      · obtain rfl : k = 0 := by omega
        subst hL0
        clear hk ht0
        go_wp2
        go_loopw [12] (fun i wr => ∃ (j : Nat) (F D : Nat → Prop), j ≤ 0 ∧ i = .int .i64 j ∧ Hid (FinAt (Told p lb C) C w8.heap.size w1 wr p (max j 0) d2 F D g (.slice A6 d2.items.length c6) 0 bs (g + 1) (g + 1 + 1) (.slice A9 0 c9) ((t.toNat : Int) - ((0 : Nat) : Int)))) (fun i _ => 0 - (intOf i).toNat)
        case atStart => exact ⟨0, F', D, Nat.zero_le _, rfl, by rw [Nat.zero_max]; exact Lib.hid ⟨HA.out.1, HA.out.2⟩⟩
        case round =>
          obtain ⟨j, F, D, hj, rfl, HJ⟩ := hrel
          clear a2 hg0
          have hji : (j : Int) ≤ 100000 := by omega
          by_cases hjL : j < 0
          · exact absurd hjL (Nat.not_lt_zero _)
          · have hjj : j = 0 := by omega
            have hjn : ¬ (j : Int) < (d2.items.length : Int) := by have := HLL.out; omega
            rw [HLL.out] at hjn
            clear hjL
            have hn : nextS { d2 with items := d2.items.drop (max j 0) } = ({ d2 with items := d2.items.drop (max j 0) }, noIt, false) := by
              unfold nextS
              dsimp only
              rw [List.drop_eq_nil_of_le (by have := HLL.out; omega)]
            have HC := Lib.hid (next_at p _ _ noIt false F wr HJ.out.it.got.hp.hd hn)
            rw [HLL.out] at HJ
            have a2 := (blk4 HJ.out.it.got.hp.hg).c2
            clear hn
            go_wp2_with fail
            refine HC.out.mono ?_
            rintro e v3 ⟨F4, D4, A4, c4, rfl, hm, _, hD4⟩
            have HJ3 := Lib.hid (HJ.out.hand (@Told.keep p lb C) hm hD4)
            have HB4 := Lib.hid (bmore (bself v3) (.cells #[.int .i64 (noIt.skip : Int), .int .u8 (noIt.kind.toNat : Int), .slice A4 noIt.body.length c4] 42))
            clear hm hD4 HC a2
            go_wp2
            generalize v3.alloc (.cells #[.int .i64 (noIt.skip : Int), .int .u8 (noIt.kind.toNat : Int), .slice A4 noIt.body.length c4] 42) = v4 at HB4 ⊢
            have hlow := HB.out.size
            have hlow2 := HJ3.out.it.low
            refine ⟨by simp, .inl ⟨_, _, rfl, run_takeDeferred ((HB4.out.block w8.heap.size (by have := HJ3.out.it.big; omega)).trans HJ3.out.df), ?_⟩⟩
            exact ⟨_, results_tmp rfl _ _ _, rfl, below_put (bstep (bstep HB.out HJ3.out.it.got.hp.hB) HB4.out) (by omega) _⟩
      · obtain rfl : k = 1 := by omega
        have q1 : ¬ (L : Int) < 1 := by omega
        clear hk ht0 hL0
        go_wp2
        go_loopw [12] (fun i wr => ∃ (j : Nat) (F D : Nat → Prop), j ≤ L ∧ i = .int .i64 j ∧ Hid (FinAt (Told p lb C) C w8.heap.size w1 wr p (max j 1) d2 F D g (.slice A6 d2.items.length c6) 1 bs (g + 1) (g + 1 + 1) (.slice A9 1 c9) ((t.toNat : Int) - ((1 : Nat) : Int)))) (fun i _ => L - (intOf i).toNat)
        case atStart => exact ⟨0, F', D, Nat.zero_le _, rfl, by rw [Nat.zero_max]; exact Lib.hid ⟨HA.out.1, HA.out.2⟩⟩
        case round =>
          obtain ⟨j, F, D, hj, rfl, HJ⟩ := hrel
          clear a2 hg0
          have hji : (j : Int) ≤ 100000 := by omega
          by_cases hjL : j < L
          · obtain ⟨hn1, hn2, b6, off6, rfl⟩ := SeqI.some_ HJ.out.it.got.hp.hs (by have := HLL.out; omega)
            have hjd : j < d2.items.length := by have := HLL.out; omega
            obtain ⟨x, hx⟩ : ∃ x, d2.items[j] = x := ⟨_, rfl⟩
            have HX := Lib.hid (show ∃ h : j < d2.items.length, d2.items[j] = x from ⟨hjd, hx⟩)
            have hLc : (L : Int) ≤ (c6 : Int) := by have := HLL.out; omega
            rw [HLL.out] at HJ
            by_cases hjk : j < 1
            · obtain ⟨bq, offq, cq, Aq, mq, eq, hbq, z0, z1, z2, rq⟩ := HJ.out.seq.at_ j (by rw [List.length_take, Nat.min_eq_left HKL.out]; exact hjk)
              rw [List.length_take, Nat.min_eq_left HKL.out] at eq
              simp only [List.getElem_take, hx] at z0 z1 z2 rq
              simp only [Value.slice.injEq] at eq
              obtain ⟨rfl, _, rfl⟩ := eq
              have hg0 : wr.cell? ⟨g + 1, 0, none⟩ = some (.slice (some ⟨bq, offq, none⟩) 1 c9) := by rw [heap_cell HJ.out.it.got.hg]; rfl
              have HZ := Lib.hid (And.intro z0 (And.intro z1 (And.intro z2 (And.intro rq hbq))))
              have a2 := (blk4 HJ.out.it.got.hp.hg).c2
              clear hn1 hn2 hx hjd z0 z1 z2 rq hbq
              go_upto_region 28 with (fail)
              obtain ⟨bx, hbx⟩ : ∃ n, wr.heap.size = n := ⟨_, rfl⟩
              have hb := bmore (bself wr) (.cells #[.int .i64 0, .int .u8 0, .slice none 0 0] 42)
              have hq := heap_alloc_new wr (.cells #[.int .i64 0, .int .u8 0, .slice none 0 0] 42)
              have HBW := Lib.hid hb
              have HQ := Lib.hid hq
              rw [hbx] at HQ ⊢
              have HBX := Lib.hid hbx
              clear hb hq hg0 a2 hbx
              generalize wr.alloc (.cells #[.int .i64 0, .int .u8 0, .slice none 0 0] 42) = v2 at HBW HQ ⊢
              have HJ2 := Lib.hid (HJ.out.over (@Told.keep p lb C) HBW.out)
              have hg0 : v2.cell? ⟨g + 1, 0, none⟩ = some (.slice (some ⟨bq, offq, none⟩) 1 c9) := by rw [heap_cell HJ2.out.it.got.hg]; rfl
              have z0 := (HBW.out.cell (p := ⟨bq, offq + j * 3, none⟩) HZ.out.2.2.2.2 : _ = _).trans HZ.out.1
              have z1 := (HBW.out.cell (p := ⟨bq, offq + j * 3 + 1, none⟩) HZ.out.2.2.2.2 : _ = _).trans HZ.out.2.1
              have z2 := (HBW.out.cell (p := ⟨bq, offq + j * 3 + 2, none⟩) HZ.out.2.2.2.2 : _ = _).trans HZ.out.2.2.1
              obtain ⟨x0, x1, x2, f0, f1, f2⟩ := blk3 HQ.out
              go_upto_region 34 with (fail)
              have hb3 := set3_below HBW.out (by have := HBX.out; omega : wr.heap.size ≤ bx) (.int .i64 (x.skip : Int)) (.int .u8 (x.kind.toNat : Int)) (.slice Aq x.body.length mq)
              have hq3 := set3_heap (a' := .int .i64 (x.skip : Int)) (b' := .int .u8 (x.kind.toNat : Int)) (c' := .slice Aq x.body.length mq) HQ.out
              unfold set3 at hb3 hq3
              have HB3 := Lib.hid hb3
              have HQ3 := Lib.hid hq3
              clear hb3 hq3 hg0 z0 z1 z2 x0 x1 x2 f0 f1 f2
              generalize ((v2.setCell { block := bx, off := 0 } (Value.int IntKind.i64 (x.skip : Int))).setCell { block := bx, off := 1 } (Value.int IntKind.u8 (x.kind.toNat : Int))).setCell { block := bx, off := 2 } (Value.slice Aq x.body.length mq) = v3 at HB3 HQ3 ⊢
              have HJ3 := Lib.hid (HJ.out.over (@Told.keep p lb C) HB3.out)
              obtain ⟨x0, x1, x2, _, _, _⟩ := blk3 HQ3.out
              have a2 := (blk4 HJ3.out.it.got.hp.hg).c2
              have hy := SeqI.cells_ (by have := HJ3.out.it.got.hp.hs; exact this) j HX.out.1
              rw [HX.out.2] at hy
              obtain ⟨y0, y1, y2⟩ := hy
              have HS := Lib.hid (And.intro (And.intro x0 (And.intro x1 x2)) (And.intro a2 (And.intro y0 (And.intro y1 (And.intro y2 (run_str_any mq (HZ.out.2.2.2.1.below_ HB3.out.drew)))))))
              clear x0 x1 x2 a2 y0 y1 y2
              refine wp_region_noPanic ?_
              refine wp_region_held_drew (S := fun w' => (w'.cell? ⟨bx, 0, none⟩ = some (.int .i64 (x.skip : Int)) ∧ w'.cell? ⟨bx, 1, none⟩ = some (.int .u8 (x.kind.toNat : Int)) ∧ w'.cell? ⟨bx, 2, none⟩ = some (.slice Aq x.body.length mq)) ∧ w'.cell? ⟨g, 2, none⟩ = some (.slice (some ⟨b6, off6, none⟩) L c6) ∧ w'.cell? ⟨b6, off6 + j * 3, none⟩ = some (.int .i64 (x.skip : Int)) ∧ w'.cell? ⟨b6, off6 + j * 3 + 1, none⟩ = some (.int .u8 (x.kind.toNat : Int)) ∧ w'.cell? ⟨b6, off6 + j * 3 + 2, none⟩ = some (.string (mkB x.body)) ∧ (convert 22 9 (.slice Aq x.body.length mq)).run Tryd.prog w' = .ok (.string (mkB x.body)) w') (by kernel_rfl) ?_ (fun hHeld => ?_)
              · (try dsimp only)
                exact HS.out
              refine wpAnyH_take (i := 0) (v := ?_) rfl (by kernel_rfl) (by kernel_rfl) (by kernel_rfl) (fun _ _ _ h => h) (Or.inl ⟨by rfl, ?_⟩) (by assumption) ?_
              rotate_left
              · intro w hSw
                (try dsimp only at hSw)
                go_simp
                try with_reducible rfl
              (try simp only [Act.put, List.getElem_toArray, List.getElem_cons_zero, List.setIfInBounds_toArray, List.set_cons_zero, List.set_cons_succ])
              refine wpAnyH_take (i := 1) (v := ?_) rfl (by kernel_rfl) (by kernel_rfl) (by kernel_rfl) (fun _ _ _ h => h) (Or.inl ⟨by rfl, ?_⟩) (by assumption) ?_
              rotate_left
              · intro w hSw
                (try dsimp only at hSw)
                go_simp
                try with_reducible rfl
              (try simp only [Act.put, List.getElem_toArray, List.getElem_cons_succ, List.getElem_cons_zero, List.setIfInBounds_toArray, List.set_cons_zero, List.set_cons_succ])
              refine wpAnyH_take (i := 2) (v := ?_) rfl (by kernel_rfl) (by kernel_rfl) (by kernel_rfl) (fun _ _ _ h => h) (Or.inl ⟨by rfl, ?_⟩) (by assumption) ?_
              rotate_left
              · intro w hSw
                (try dsimp only at hSw)
                go_simp
                try with_reducible rfl
              (try simp only [Act.put, List.getElem_toArray, List.getElem_cons_succ, List.getElem_cons_zero, List.setIfInBounds_toArray, List.set_cons_zero, List.set_cons_succ])
              refine wpAnyH_take (i := 3) (v := ?_) rfl (by kernel_rfl) (by kernel_rfl) (by kernel_rfl) (fun _ _ _ h => h) (Or.inl ⟨by rfl, ?_⟩) (by assumption) ?_
              rotate_left
              · intro w hSw
                (try dsimp only at hSw)
                go_simp
                try with_reducible rfl
              (try simp only [Act.put, List.getElem_toArray, List.getElem_cons_succ, List.getElem_cons_zero, List.setIfInBounds_toArray, List.set_cons_zero, List.set_cons_succ])
              refine wpAnyH_take (i := 4) (v := ?_) rfl (by kernel_rfl) (by kernel_rfl) (by kernel_rfl) (fun _ _ _ h => h) (Or.inl ⟨by rfl, ?_⟩) (by assumption) ?_
              rotate_left
              · intro w hSw
                (try dsimp only at hSw)
                go_simp
                try with_reducible rfl
              (try simp only [Act.put, List.getElem_toArray, List.getElem_cons_succ, List.getElem_cons_zero, List.setIfInBounds_toArray, List.set_cons_zero, List.set_cons_succ])
              refine wpAnyH_take (i := 5) (v := ?_) rfl (by kernel_rfl) (by kernel_rfl) (by kernel_rfl) (fun _ _ _ h => h) (Or.inl ⟨by rfl, ?_⟩) (by assumption) ?_
              rotate_left
              · intro w hSw
                (try dsimp only at hSw)
                go_simp
                try with_reducible rfl
              (try simp only [Act.put, List.getElem_toArray, List.getElem_cons_succ, List.getElem_cons_zero, List.setIfInBounds_toArray, List.set_cons_zero, List.set_cons_succ])
              refine wpAnyH_take (i := 6) (v := ?_) rfl (by kernel_rfl) (by kernel_rfl) (by kernel_rfl) (fun _ _ _ h => h) (Or.inl ⟨by rfl, ?_⟩) (by assumption) ?_
              rotate_left
              · intro w hSw
                (try dsimp only at hSw)
                go_simp
                try with_reducible rfl
              (try simp only [Act.put, List.getElem_toArray, List.getElem_cons_succ, List.getElem_cons_zero, List.setIfInBounds_toArray, List.set_cons_zero, List.set_cons_succ])
              refine wpAnyH_take (i := 7) (v := ?_) rfl (by kernel_rfl) (by kernel_rfl) (by kernel_rfl) (fun _ _ _ h => h) (Or.inl ⟨by rfl, ?_⟩) (by assumption) ?_
              rotate_left
              · intro w hSw
                (try dsimp only at hSw)
                go_simp
                try with_reducible rfl
              (try simp only [Act.put, List.getElem_toArray, List.getElem_cons_succ, List.getElem_cons_zero, List.setIfInBounds_toArray, List.set_cons_zero, List.set_cons_succ])
              refine wpAnyH_take (i := 8) (v := ?_) rfl (by kernel_rfl) (by kernel_rfl) (by kernel_rfl) (fun _ _ _ h => h) (Or.inl ⟨by rfl, ?_⟩) (by assumption) ?_
              rotate_left
              · intro w hSw
                (try dsimp only at hSw)
                go_simp
                try with_reducible rfl
              (try simp only [Act.put, List.getElem_toArray, List.getElem_cons_succ, List.getElem_cons_zero, List.setIfInBounds_toArray, List.set_cons_zero, List.set_cons_succ])
              refine wpAnyH_take (i := 9) (v := ?_) rfl (by kernel_rfl) (by kernel_rfl) (by kernel_rfl) (fun _ _ _ h => h) (Or.inl ⟨by rfl, ?_⟩) (by assumption) ?_
              rotate_left
              · intro w hSw
                (try dsimp only at hSw)
                go_simp
                try with_reducible rfl
              (try simp only [Act.put, List.getElem_toArray, List.getElem_cons_succ, List.getElem_cons_zero, List.setIfInBounds_toArray, List.set_cons_zero, List.set_cons_succ])
              refine wpAnyH_take (i := 10) (v := ?_) rfl (by kernel_rfl) (by kernel_rfl) (by kernel_rfl) (fun _ _ _ h => h) (Or.inl ⟨by rfl, ?_⟩) (by assumption) ?_
              rotate_left
              · intro w hSw
                (try dsimp only at hSw)
                go_simp
                try with_reducible rfl
              (try simp only [Act.put, List.getElem_toArray, List.getElem_cons_succ, List.getElem_cons_zero, List.setIfInBounds_toArray, List.set_cons_zero, List.set_cons_succ])
              refine wpAnyH_take (i := 11) (v := ?_) rfl (by kernel_rfl) (by kernel_rfl) (by kernel_rfl) (fun _ _ _ h => h) (Or.inl ⟨by rfl, ?_⟩) (by assumption) ?_
              rotate_left
              · intro w hSw
                (try dsimp only at hSw)
                go_simp
                try with_reducible rfl
              (try simp only [Act.put, List.getElem_toArray, List.getElem_cons_succ, List.getElem_cons_zero, List.setIfInBounds_toArray, List.set_cons_zero, List.set_cons_succ])
              refine wpAnyH_take (i := 12) (v := ?_) rfl (by kernel_rfl) (by kernel_rfl) (by kernel_rfl) (fun _ _ _ h => h) (Or.inl ⟨by rfl, ?_⟩) (by assumption) ?_
              rotate_left
              · intro w hSw
                (try dsimp only at hSw)
                go_simp
                try with_reducible rfl
              (try simp only [Act.put, List.getElem_toArray, List.getElem_cons_succ, List.getElem_cons_zero, List.setIfInBounds_toArray, List.set_cons_zero, List.set_cons_succ])
              refine wpAnyH_take (i := 13) (v := ?_) rfl (by kernel_rfl) (by kernel_rfl) (by kernel_rfl) (fun _ _ _ h => h) (Or.inl ⟨by rfl, ?_⟩) (by assumption) ?_
              rotate_left
              · intro w hSw
                (try dsimp only at hSw)
                go_simp
                try with_reducible rfl
              (try simp only [Act.put, List.getElem_toArray, List.getElem_cons_succ, List.getElem_cons_zero, List.setIfInBounds_toArray, List.set_cons_zero, List.set_cons_succ])
              refine wpAnyH_take (i := 14) (v := ?_) rfl (by kernel_rfl) (by kernel_rfl) (by kernel_rfl) (fun _ _ _ h => h) (Or.inl ⟨by rfl, ?_⟩) (by assumption) ?_
              rotate_left
              · intro w hSw
                (try dsimp only at hSw)
                go_simp
                try with_reducible rfl
              (try simp only [Act.put, List.getElem_toArray, List.getElem_cons_succ, List.getElem_cons_zero, List.setIfInBounds_toArray, List.set_cons_zero, List.set_cons_succ])
              refine wpAnyH_take (i := 15) (v := ?_) rfl (by kernel_rfl) (by kernel_rfl) (by kernel_rfl) (fun _ _ _ h => h) (Or.inl ⟨by rfl, ?_⟩) (by assumption) ?_
              rotate_left
              · intro w hSw
                (try dsimp only at hSw)
                go_simp
                try with_reducible rfl
              (try simp only [Act.put, List.getElem_toArray, List.getElem_cons_succ, List.getElem_cons_zero, List.setIfInBounds_toArray, List.set_cons_zero, List.set_cons_succ])
              refine wpAnyH_take (i := 16) (v := ?_) rfl (by kernel_rfl) (by kernel_rfl) (by kernel_rfl) (fun _ _ _ h => h) (Or.inl ⟨by rfl, ?_⟩) (by assumption) ?_
              rotate_left
              · intro w hSw
                (try dsimp only at hSw)
                go_simp
                try with_reducible rfl
              (try simp only [Act.put, List.getElem_toArray, List.getElem_cons_succ, List.getElem_cons_zero, List.setIfInBounds_toArray, List.set_cons_zero, List.set_cons_succ])
              refine wpAnyH_take (i := 17) (v := ?_) rfl (by kernel_rfl) (by kernel_rfl) (by kernel_rfl) (fun _ _ _ h => h) (Or.inl ⟨by rfl, ?_⟩) (by assumption) ?_
              rotate_left
              · intro w hSw
                (try dsimp only at hSw)
                go_simp
                try with_reducible rfl
              (try simp only [Act.put, List.getElem_toArray, List.getElem_cons_succ, List.getElem_cons_zero, List.setIfInBounds_toArray, List.set_cons_zero, List.set_cons_succ])
              refine wpAnyH_take (i := 18) (v := ?_) rfl (by kernel_rfl) (by kernel_rfl) (by kernel_rfl) (fun _ _ _ h => h) (Or.inl ⟨by rfl, ?_⟩) (by assumption) ?_
              rotate_left
              · intro w hSw
                (try dsimp only at hSw)
                go_simp
                try with_reducible rfl
              (try simp only [Act.put, List.getElem_toArray, List.getElem_cons_succ, List.getElem_cons_zero, List.setIfInBounds_toArray, List.set_cons_zero, List.set_cons_succ])
              refine wpAnyH_take (i := 19) (v := ?_) rfl (by kernel_rfl) (by kernel_rfl) (by kernel_rfl) (fun _ _ _ h => h) (Or.inl ⟨by rfl, ?_⟩) (by assumption) ?_
              rotate_left
              · intro w hSw
                (try dsimp only at hSw)
                go_simp
                try with_reducible rfl
              (try simp only [Act.put, List.getElem_toArray, List.getElem_cons_succ, List.getElem_cons_zero, List.setIfInBounds_toArray, List.set_cons_zero, List.set_cons_succ])
              refine wpAnyH_take (i := 20) (v := ?_) rfl (by kernel_rfl) (by kernel_rfl) (by kernel_rfl) (fun _ _ _ h => h) (Or.inl ⟨by rfl, ?_⟩) (by assumption) ?_
              rotate_left
              · intro w hSw
                (try dsimp only at hSw)
                go_simp
                try with_reducible rfl
              (try simp only [Act.put, List.getElem_toArray, List.getElem_cons_succ, List.getElem_cons_zero, List.setIfInBounds_toArray, List.set_cons_zero, List.set_cons_succ])
              refine wpAnyH_take (i := 21) (v := ?_) rfl (by kernel_rfl) (by kernel_rfl) (by kernel_rfl) (fun _ _ _ h => h) (Or.inl ⟨by rfl, ?_⟩) (by assumption) ?_
              rotate_left
              · intro w hSw
                (try dsimp only at hSw)
                go_simp
                try with_reducible rfl
              (try simp only [Act.put, List.getElem_toArray, List.getElem_cons_succ, List.getElem_cons_zero, List.setIfInBounds_toArray, List.set_cons_zero, List.set_cons_succ])
              refine wpAnyH_take (i := 22) (v := ?_) rfl (by kernel_rfl) (by kernel_rfl) (by kernel_rfl) (fun _ _ _ h => h) (Or.inl ⟨by rfl, ?_⟩) (by assumption) ?_
              rotate_left
              · intro w hSw
                (try dsimp only at hSw)
                go_simp
                try with_reducible rfl
              (try simp only [Act.put, List.getElem_toArray, List.getElem_cons_succ, List.getElem_cons_zero, List.setIfInBounds_toArray, List.set_cons_zero, List.set_cons_succ])
              refine wpAnyH_take (i := 23) (v := ?_) rfl (by kernel_rfl) (by kernel_rfl) (by kernel_rfl) (fun _ _ _ h => h) (Or.inl ⟨by rfl, ?_⟩) (by assumption) ?_
              rotate_left
              · intro w hSw
                (try dsimp only at hSw)
                go_simp
                try with_reducible rfl
              (try simp only [Act.put, List.getElem_toArray, List.getElem_cons_succ, List.getElem_cons_zero, List.setIfInBounds_toArray, List.set_cons_zero, List.set_cons_succ])
              refine wpAnyH_take (i := 24) (v := ?_) rfl (by kernel_rfl) (by kernel_rfl) (by kernel_rfl) (fun _ _ _ h => h) (Or.inl ⟨by rfl, ?_⟩) (by assumption) ?_
              rotate_left
              · intro w hSw
                (try dsimp only at hSw)
                go_simp
                try with_reducible rfl
              (try simp only [Act.put, List.getElem_toArray, List.getElem_cons_succ, List.getElem_cons_zero, List.setIfInBounds_toArray, List.set_cons_zero, List.set_cons_succ])
              refine wpAnyH_take (i := 25) (v := ?_) rfl (by kernel_rfl) (by kernel_rfl) (by kernel_rfl) (fun _ _ _ h => h) (Or.inl ⟨by rfl, ?_⟩) (by assumption) ?_
              rotate_left
              · intro w hSw
                (try dsimp only at hSw)
                go_simp
                try with_reducible rfl
              (try simp only [Act.put, List.getElem_toArray, List.getElem_cons_succ, List.getElem_cons_zero, List.setIfInBounds_toArray, List.set_cons_zero, List.set_cons_succ])
              refine wpAnyH_take (i := 26) (v := ?_) rfl (by kernel_rfl) (by kernel_rfl) (by kernel_rfl) (fun _ _ _ h => h) (Or.inl ⟨by rfl, ?_⟩) (by assumption) ?_
              rotate_left
              · intro w hSw
                (try dsimp only at hSw)
                go_simp
                try with_reducible rfl
              (try simp only [Act.put, List.getElem_toArray, List.getElem_cons_succ, List.getElem_cons_zero, List.setIfInBounds_toArray, List.set_cons_zero, List.set_cons_succ])
              refine wpAnyH_take (i := 27) (v := ?_) rfl (by kernel_rfl) (by kernel_rfl) (by kernel_rfl) (fun _ _ _ h => h) (Or.inl ⟨by rfl, ?_⟩) (by assumption) ?_
              rotate_left
              · intro w hSw
                (try dsimp only at hSw)
                go_simp
                try with_reducible rfl
              (try simp only [Act.put, List.getElem_toArray, List.getElem_cons_succ, List.getElem_cons_zero, List.setIfInBounds_toArray, List.set_cons_zero, List.set_cons_succ])
              refine wpAnyH_take (i := 28) (v := ?_) rfl (by kernel_rfl) (by kernel_rfl) (by kernel_rfl) (fun _ _ _ h => h) (Or.inl ⟨by rfl, ?_⟩) (by assumption) ?_
              rotate_left
              · intro w hSw
                (try dsimp only at hSw)
                go_simp
                try with_reducible rfl
              (try simp only [Act.put, List.getElem_toArray, List.getElem_cons_succ, List.getElem_cons_zero, List.setIfInBounds_toArray, List.set_cons_zero, List.set_cons_succ])
              refine wpAnyH_take (i := 29) (v := ?_) rfl (by kernel_rfl) (by kernel_rfl) (by kernel_rfl) (fun _ _ _ h => h) (Or.inl ⟨by rfl, ?_⟩) (by assumption) ?_
              rotate_left
              · intro w hSw
                (try dsimp only at hSw)
                go_simp
                try with_reducible rfl
              (try simp only [Act.put, List.getElem_toArray, List.getElem_cons_succ, List.getElem_cons_zero, List.setIfInBounds_toArray, List.set_cons_zero, List.set_cons_succ])
              refine wpAnyH_take (i := 30) (v := ?_) rfl (by kernel_rfl) (by kernel_rfl) (by kernel_rfl) (fun _ _ _ h => h) (Or.inl ⟨by rfl, ?_⟩) (by assumption) ?_
              rotate_left
              · intro w hSw
                (try dsimp only at hSw)
                go_simp
                try with_reducible rfl
              (try simp only [Act.put, List.getElem_toArray, List.getElem_cons_succ, List.getElem_cons_zero, List.setIfInBounds_toArray, List.set_cons_zero, List.set_cons_succ])
              refine wpAnyH_take (i := 31) (v := ?_) rfl (by kernel_rfl) (by kernel_rfl) (by kernel_rfl) (fun _ _ _ h => h) (Or.inl ⟨by rfl, ?_⟩) (by assumption) ?_
              rotate_left
              · intro w hSw
                (try dsimp only at hSw)
                go_simp
                try with_reducible rfl
              (try simp only [Act.put, List.getElem_toArray, List.getElem_cons_succ, List.getElem_cons_zero, List.setIfInBounds_toArray, List.set_cons_zero, List.set_cons_succ])
              refine wpAnyH_take (i := 32) (v := ?_) rfl (by kernel_rfl) (by kernel_rfl) (by kernel_rfl) (fun _ _ _ h => h) (Or.inl ⟨by rfl, ?_⟩) (by assumption) ?_
              rotate_left
              · intro w hSw
                (try dsimp only at hSw)
                go_simp
                try with_reducible rfl
              (try simp only [Act.put, List.getElem_toArray, List.getElem_cons_succ, List.getElem_cons_zero, List.setIfInBounds_toArray, List.set_cons_zero, List.set_cons_succ])
              refine wpAnyH_take (i := 33) (v := ?_) rfl (by kernel_rfl) (by kernel_rfl) (by kernel_rfl) (fun _ _ _ h => h) (Or.inl ⟨by rfl, ?_⟩) (by assumption) ?_
              rotate_left
              · intro w hSw
                (try dsimp only at hSw)
                go_simp
                try with_reducible rfl
              (try simp only [Act.put, List.getElem_toArray, List.getElem_cons_succ, List.getElem_cons_zero, List.setIfInBounds_toArray, List.set_cons_zero, List.set_cons_succ])
              refine wpAnyH_done (by kernel_rfl) ?_ _
              refine NoPanic.normal ?_
              go_wp2
              go_roundw
              case rel => exact ⟨j + 1, F, D, by omega, by go_num, by rw [show max (j + 1) 1 = max j 1 by omega, HLL.out]; exact Lib.hid (HJ3.out.over (@Told.keep p lb C) (bself v3).drew)⟩
              case measure => simp [intOf]; omega
            · have hmax : max j 1 = j := by omega
              rw [hmax] at HJ
              have hn : nextS { d2 with items := d2.items.drop j } = ({ d2 with items := d2.items.drop (j + 1) }, x, true) := by
                obtain ⟨h1, h2⟩ := HX.out
                unfold nextS
                dsimp only
                rw [List.drop_eq_getElem_cons h1, h2]
              have HN := Lib.hid hn
              have hg0 : wr.cell? ⟨g + 1, 0, none⟩ = some (.slice A9 1 c9) := by rw [heap_cell HJ.out.it.got.hg]; rfl
              have a2 := (blk4 HJ.out.it.got.hp.hg).c2
              clear hn1 hn2 hx hjd hn hmax
              go_upto_region 28 with (fail)
              obtain ⟨bx, hbx⟩ : ∃ n, wr.heap.size = n := ⟨_, rfl⟩
              have hb := bmore (bself wr) (.cells #[.int .i64 0, .int .u8 0, .slice none 0 0] 42)
              have hq := heap_alloc_new wr (.cells #[.int .i64 0, .int .u8 0, .slice none 0 0] 42)
              have HBW := Lib.hid hb
              have HQ := Lib.hid hq
              rw [hbx] at HQ ⊢
              have HBX := Lib.hid hbx
              clear hb hq hg0 a2 hbx
              generalize wr.alloc (.cells #[.int .i64 0, .int .u8 0, .slice none 0 0] 42) = v2 at HBW HQ ⊢
              have HJ2 := Lib.hid (HJ.out.over (@Told.keep p lb C) HBW.out)
              have HC := Lib.hid (next_at p _ _ x true F v2 HJ2.out.it.got.hp.hd HN.out)
              go_wp2_with fail
              refine HC.out.mono ?_
              rintro e v3 ⟨F4, D4, A4, c4, rfl, hm, hl4, hD4⟩
              have HJ3 := Lib.hid (HJ2.out.hand (@Told.keep p lb C) hm hD4)
              have HAP := Lib.hid (HJ.out.apart (bx := bx) (by have := HBX.out; omega) (heap_lt HQ.out) hm.2.2 fun q hq => (hD4 q hq).1)
              have HL3 := Lib.hid hl4
              have HD3 := Lib.hid (show ∀ q, D4 q → q < v3.heap.size from fun q hq => (hD4 q hq).2.1)
              have HQ3 := Lib.hid ((hm.2.1.block bx (heap_lt HQ.out) (fun f => by have h1 := HJ.out.it.got.lt (.inl f); have h2 := HBX.out; omega)).trans HQ.out)
              clear hm hl4 hD4 HC
              go_upto_region 31 with (fail)
              have HB4 := Lib.hid (bmore (bself v3) (.cells #[.int .i64 (x.skip : Int), .int .u8 (x.kind.toNat : Int), .slice A4 x.body.length c4] 42))
              have HY4 := Lib.hid (heap_alloc_new v3 (.cells #[.int .i64 (x.skip : Int), .int .u8 (x.kind.toNat : Int), .slice A4 x.body.length c4] 42))
              generalize v3.alloc (.cells #[.int .i64 (x.skip : Int), .int .u8 (x.kind.toNat : Int), .slice A4 x.body.length c4] 42) = v4 at HB4 HY4 ⊢
              have HJ4 := Lib.hid (HJ3.out.over (@Told.keep p lb C) HB4.out)
              have HL4 := Lib.hid (HL3.out.keep fun q hq => HB4.out.block q (HD3.out q hq))
              have HQ4 := Lib.hid ((HB4.out.block bx (heap_lt HQ3.out)).trans HQ3.out)
              obtain ⟨x0, x1, x2, f0, f1, f2⟩ := blk3 HQ4.out
              obtain ⟨u0, u1, u2, _, _, _⟩ := blk3 HY4.out
              go_upto_region 34 with (fail)
              have hj5 := HJ4.out.set_ (@Told.keep p lb C) HAP.out (.int .i64 (x.skip : Int)) (.int .u8 (x.kind.toNat : Int)) (.slice A4 x.body.length c4)
              have hq5 := set3_heap (a' := .int .i64 (x.skip : Int)) (b' := .int .u8 (x.kind.toNat : Int)) (c' := .slice A4 x.body.length c4) HQ4.out
              have hl5 := HL4.out.keep (w' := set3 v4 bx (.int .i64 (x.skip : Int)) (.int .u8 (x.kind.toNat : Int)) (.slice A4 x.body.length c4)) fun q hq => set3_far _ _ _ _ _ q fun e => HAP.out.1 (.inr (.inl (.inr (e ▸ hq))))
              unfold set3 at hj5 hq5 hl5
              have HJ5 := Lib.hid hj5
              have HQ5 := Lib.hid hq5
              have HL5 := Lib.hid hl5
              clear hj5 hq5 hl5 x0 x1 x2 f0 f1 f2 u0 u1 u2
              generalize ((v4.setCell { block := bx, off := 0 } (Value.int IntKind.i64 (x.skip : Int))).setCell { block := bx, off := 1 } (Value.int IntKind.u8 (x.kind.toNat : Int))).setCell { block := bx, off := 2 } (Value.slice A4 x.body.length c4) = v5 at HJ5 HQ5 HL5 ⊢
              obtain ⟨x0, x1, x2, _, _, _⟩ := blk3 HQ5.out
              have a2 := (blk4 HJ5.out.it.got.hp.hg).c2
              have hy := SeqI.cells_ (by have := HJ5.out.it.got.hp.hs; exact this) j HX.out.1
              rw [HX.out.2] at hy
              obtain ⟨y0, y1, y2⟩ := hy
              have HS := Lib.hid (And.intro (And.intro x0 (And.intro x1 x2)) (And.intro a2 (And.intro y0 (And.intro y1 (And.intro y2 (show (convert 22 9 (.slice A4 x.body.length c4)).run Tryd.prog v5.drew = .ok (.string (mkB x.body)) v5.drew from by
                obtain ⟨A8, m8, e8, r8, _⟩ := liesB_row (HL5.out.below (B := v3.heap.size) fun q hq => HD3.out q hq)
                simp only [Value.slice.injEq] at e8
                obtain ⟨rfl, _, rfl⟩ := e8
                exact run_str_any c4 (r8.below_ (Below.refl _ _).drew)))))))
              clear x0 x1 x2 a2 y0 y1 y2
              refine wp_region_noPanic ?_
              refine wp_region_held_drew (S := fun w' => (w'.cell? ⟨bx, 0, none⟩ = some (.int .i64 (x.skip : Int)) ∧ w'.cell? ⟨bx, 1, none⟩ = some (.int .u8 (x.kind.toNat : Int)) ∧ w'.cell? ⟨bx, 2, none⟩ = some (.slice A4 x.body.length c4)) ∧ w'.cell? ⟨g, 2, none⟩ = some (.slice (some ⟨b6, off6, none⟩) L c6) ∧ w'.cell? ⟨b6, off6 + j * 3, none⟩ = some (.int .i64 (x.skip : Int)) ∧ w'.cell? ⟨b6, off6 + j * 3 + 1, none⟩ = some (.int .u8 (x.kind.toNat : Int)) ∧ w'.cell? ⟨b6, off6 + j * 3 + 2, none⟩ = some (.string (mkB x.body)) ∧ (convert 22 9 (.slice A4 x.body.length c4)).run Tryd.prog w' = .ok (.string (mkB x.body)) w') (by kernel_rfl) ?_ (fun hHeld => ?_)
              · (try dsimp only)
                exact HS.out
              refine wpAnyH_take (i := 0) (v := ?_) rfl (by kernel_rfl) (by kernel_rfl) (by kernel_rfl) (fun _ _ _ h => h) (Or.inl ⟨by rfl, ?_⟩) (by assumption) ?_
              rotate_left
              · intro w hSw
                (try dsimp only at hSw)
                go_simp
                try with_reducible rfl
              (try simp only [Act.put, List.getElem_toArray, List.getElem_cons_zero, List.setIfInBounds_toArray, List.set_cons_zero, List.set_cons_succ])
              refine wpAnyH_take (i := 1) (v := ?_) rfl (by kernel_rfl) (by kernel_rfl) (by kernel_rfl) (fun _ _ _ h => h) (Or.inl ⟨by rfl, ?_⟩) (by assumption) ?_
              rotate_left
              · intro w hSw
                (try dsimp only at hSw)
                go_simp
                try with_reducible rfl
              (try simp only [Act.put, List.getElem_toArray, List.getElem_cons_succ, List.getElem_cons_zero, List.setIfInBounds_toArray, List.set_cons_zero, List.set_cons_succ])
              refine wpAnyH_take (i := 2) (v := ?_) rfl (by kernel_rfl) (by kernel_rfl) (by kernel_rfl) (fun _ _ _ h => h) (Or.inl ⟨by rfl, ?_⟩) (by assumption) ?_
              rotate_left
              · intro w hSw
                (try dsimp only at hSw)
                go_simp
                try with_reducible rfl
              (try simp only [Act.put, List.getElem_toArray, List.getElem_cons_succ, List.getElem_cons_zero, List.setIfInBounds_toArray, List.set_cons_zero, List.set_cons_succ])
              refine wpAnyH_take (i := 3) (v := ?_) rfl (by kernel_rfl) (by kernel_rfl) (by kernel_rfl) (fun _ _ _ h => h) (Or.inl ⟨by rfl, ?_⟩) (by assumption) ?_
              rotate_left
              · intro w hSw
                (try dsimp only at hSw)
                go_simp
                try with_reducible rfl
              (try simp only [Act.put, List.getElem_toArray, List.getElem_cons_succ, List.getElem_cons_zero, List.setIfInBounds_toArray, List.set_cons_zero, List.set_cons_succ])
              refine wpAnyH_take (i := 4) (v := ?_) rfl (by kernel_rfl) (by kernel_rfl) (by kernel_rfl) (fun _ _ _ h => h) (Or.inl ⟨by rfl, ?_⟩) (by assumption) ?_
              rotate_left
              · intro w hSw
                (try dsimp only at hSw)
                go_simp
                try with_reducible rfl
              (try simp only [Act.put, List.getElem_toArray, List.getElem_cons_succ, List.getElem_cons_zero, List.setIfInBounds_toArray, List.set_cons_zero, List.set_cons_succ])
              refine wpAnyH_take (i := 5) (v := ?_) rfl (by kernel_rfl) (by kernel_rfl) (by kernel_rfl) (fun _ _ _ h => h) (Or.inl ⟨by rfl, ?_⟩) (by assumption) ?_
              rotate_left
              · intro w hSw
                (try dsimp only at hSw)
                go_simp
                try with_reducible rfl
              (try simp only [Act.put, List.getElem_toArray, List.getElem_cons_succ, List.getElem_cons_zero, List.setIfInBounds_toArray, List.set_cons_zero, List.set_cons_succ])
              refine wpAnyH_take (i := 6) (v := ?_) rfl (by kernel_rfl) (by kernel_rfl) (by kernel_rfl) (fun _ _ _ h => h) (Or.inl ⟨by rfl, ?_⟩) (by assumption) ?_
              rotate_left
              · intro w hSw
                (try dsimp only at hSw)
                go_simp
                try with_reducible rfl
              (try simp only [Act.put, List.getElem_toArray, List.getElem_cons_succ, List.getElem_cons_zero, List.setIfInBounds_toArray, List.set_cons_zero, List.set_cons_succ])
              refine wpAnyH_take (i := 7) (v := ?_) rfl (by kernel_rfl) (by kernel_rfl) (by kernel_rfl) (fun _ _ _ h => h) (Or.inl ⟨by rfl, ?_⟩) (by assumption) ?_
              rotate_left
              · intro w hSw
                (try dsimp only at hSw)
                go_simp
                try with_reducible rfl
              (try simp only [Act.put, List.getElem_toArray, List.getElem_cons_succ, List.getElem_cons_zero, List.setIfInBounds_toArray, List.set_cons_zero, List.set_cons_succ])
              refine wpAnyH_take (i := 8) (v := ?_) rfl (by kernel_rfl) (by kernel_rfl) (by kernel_rfl) (fun _ _ _ h => h) (Or.inl ⟨by rfl, ?_⟩) (by assumption) ?_
              rotate_left
              · intro w hSw
                (try dsimp only at hSw)
                go_simp
                try with_reducible rfl
              (try simp only [Act.put, List.getElem_toArray, List.getElem_cons_succ, List.getElem_cons_zero, List.setIfInBounds_toArray, List.set_cons_zero, List.set_cons_succ])
              refine wpAnyH_take (i := 9) (v := ?_) rfl (by kernel_rfl) (by kernel_rfl) (by kernel_rfl) (fun _ _ _ h => h) (Or.inl ⟨by rfl, ?_⟩) (by assumption) ?_
              rotate_left
              · intro w hSw
                (try dsimp only at hSw)
                go_simp
                try with_reducible rfl
              (try simp only [Act.put, List.getElem_toArray, List.getElem_cons_succ, List.getElem_cons_zero, List.setIfInBounds_toArray, List.set_cons_zero, List.set_cons_succ])
              refine wpAnyH_take (i := 10) (v := ?_) rfl (by kernel_rfl) (by kernel_rfl) (by kernel_rfl) (fun _ _ _ h => h) (Or.inl ⟨by rfl, ?_⟩) (by assumption) ?_
              rotate_left
              · intro w hSw
                (try dsimp only at hSw)
                go_simp
                try with_reducible rfl
              (try simp only [Act.put, List.getElem_toArray, List.getElem_cons_succ, List.getElem_cons_zero, List.setIfInBounds_toArray, List.set_cons_zero, List.set_cons_succ])
              refine wpAnyH_take (i := 11) (v := ?_) rfl (by kernel_rfl) (by kernel_rfl) (by kernel_rfl) (fun _ _ _ h => h) (Or.inl ⟨by rfl, ?_⟩) (by assumption) ?_
              rotate_left
              · intro w hSw
                (try dsimp only at hSw)
                go_simp
                try with_reducible rfl
              (try simp only [Act.put, List.getElem_toArray, List.getElem_cons_succ, List.getElem_cons_zero, List.setIfInBounds_toArray, List.set_cons_zero, List.set_cons_succ])
              refine wpAnyH_take (i := 12) (v := ?_) rfl (by kernel_rfl) (by kernel_rfl) (by kernel_rfl) (fun _ _ _ h => h) (Or.inl ⟨by rfl, ?_⟩) (by assumption) ?_
              rotate_left
              · intro w hSw
                (try dsimp only at hSw)
                go_simp
                try with_reducible rfl
              (try simp only [Act.put, List.getElem_toArray, List.getElem_cons_succ, List.getElem_cons_zero, List.setIfInBounds_toArray, List.set_cons_zero, List.set_cons_succ])
              refine wpAnyH_take (i := 13) (v := ?_) rfl (by kernel_rfl) (by kernel_rfl) (by kernel_rfl) (fun _ _ _ h => h) (Or.inl ⟨by rfl, ?_⟩) (by assumption) ?_
              rotate_left
              · intro w hSw
                (try dsimp only at hSw)
                go_simp
                try with_reducible rfl
              (try simp only [Act.put, List.getElem_toArray, List.getElem_cons_succ, List.getElem_cons_zero, List.setIfInBounds_toArray, List.set_cons_zero, List.set_cons_succ])
              refine wpAnyH_take (i := 14) (v := ?_) rfl (by kernel_rfl) (by kernel_rfl) (by kernel_rfl) (fun _ _ _ h => h) (Or.inl ⟨by rfl, ?_⟩) (by assumption) ?_
              rotate_left
              · intro w hSw
                (try dsimp only at hSw)
                go_simp
                try with_reducible rfl
              (try simp only [Act.put, List.getElem_toArray, List.getElem_cons_succ, List.getElem_cons_zero, List.setIfInBounds_toArray, List.set_cons_zero, List.set_cons_succ])
              refine wpAnyH_take (i := 15) (v := ?_) rfl (by kernel_rfl) (by kernel_rfl) (by kernel_rfl) (fun _ _ _ h => h) (Or.inl ⟨by rfl, ?_⟩) (by assumption) ?_
              rotate_left
              · intro w hSw
                (try dsimp only at hSw)
                go_simp
                try with_reducible rfl
              (try simp only [Act.put, List.getElem_toArray, List.getElem_cons_succ, List.getElem_cons_zero, List.setIfInBounds_toArray, List.set_cons_zero, List.set_cons_succ])
              refine wpAnyH_take (i := 16) (v := ?_) rfl (by kernel_rfl) (by kernel_rfl) (by kernel_rfl) (fun _ _ _ h => h) (Or.inl ⟨by rfl, ?_⟩) (by assumption) ?_
              rotate_left
              · intro w hSw
                (try dsimp only at hSw)
                go_simp
                try with_reducible rfl
              (try simp only [Act.put, List.getElem_toArray, List.getElem_cons_succ, List.getElem_cons_zero, List.setIfInBounds_toArray, List.set_cons_zero, List.set_cons_succ])
              refine wpAnyH_take (i := 17) (v := ?_) rfl (by kernel_rfl) (by kernel_rfl) (by kernel_rfl) (fun _ _ _ h => h) (Or.inl ⟨by rfl, ?_⟩) (by assumption) ?_
              rotate_left
              · intro w hSw
                (try dsimp only at hSw)
                go_simp
                try with_reducible rfl
              (try simp only [Act.put, List.getElem_toArray, List.getElem_cons_succ, List.getElem_cons_zero, List.setIfInBounds_toArray, List.set_cons_zero, List.set_cons_succ])
              refine wpAnyH_take (i := 18) (v := ?_) rfl (by kernel_rfl) (by kernel_rfl) (by kernel_rfl) (fun _ _ _ h => h) (Or.inl ⟨by rfl, ?_⟩) (by assumption) ?_
              rotate_left
              · intro w hSw
                (try dsimp only at hSw)
                go_simp
                try with_reducible rfl
              (try simp only [Act.put, List.getElem_toArray, List.getElem_cons_succ, List.getElem_cons_zero, List.setIfInBounds_toArray, List.set_cons_zero, List.set_cons_succ])
              refine wpAnyH_take (i := 19) (v := ?_) rfl (by kernel_rfl) (by kernel_rfl) (by kernel_rfl) (fun _ _ _ h => h) (Or.inl ⟨by rfl, ?_⟩) (by assumption) ?_
              rotate_left
              · intro w hSw
                (try dsimp only at hSw)
                go_simp
                try with_reducible rfl
              (try simp only [Act.put, List.getElem_toArray, List.getElem_cons_succ, List.getElem_cons_zero, List.setIfInBounds_toArray, List.set_cons_zero, List.set_cons_succ])
              refine wpAnyH_take (i := 20) (v := ?_) rfl (by kernel_rfl) (by kernel_rfl) (by kernel_rfl) (fun _ _ _ h => h) (Or.inl ⟨by rfl, ?_⟩) (by assumption) ?_
              rotate_left
              · intro w hSw
                (try dsimp only at hSw)
                go_simp
                try with_reducible rfl
              (try simp only [Act.put, List.getElem_toArray, List.getElem_cons_succ, List.getElem_cons_zero, List.setIfInBounds_toArray, List.set_cons_zero, List.set_cons_succ])
              refine wpAnyH_take (i := 21) (v := ?_) rfl (by kernel_rfl) (by kernel_rfl) (by kernel_rfl) (fun _ _ _ h => h) (Or.inl ⟨by rfl, ?_⟩) (by assumption) ?_
              rotate_left
              · intro w hSw
                (try dsimp only at hSw)
                go_simp
                try with_reducible rfl
              (try simp only [Act.put, List.getElem_toArray, List.getElem_cons_succ, List.getElem_cons_zero, List.setIfInBounds_toArray, List.set_cons_zero, List.set_cons_succ])
              refine wpAnyH_take (i := 22) (v := ?_) rfl (by kernel_rfl) (by kernel_rfl) (by kernel_rfl) (fun _ _ _ h => h) (Or.inl ⟨by rfl, ?_⟩) (by assumption) ?_
              rotate_left
              · intro w hSw
                (try dsimp only at hSw)
                go_simp
                try with_reducible rfl
              (try simp only [Act.put, List.getElem_toArray, List.getElem_cons_succ, List.getElem_cons_zero, List.setIfInBounds_toArray, List.set_cons_zero, List.set_cons_succ])
              refine wpAnyH_take (i := 23) (v := ?_) rfl (by kernel_rfl) (by kernel_rfl) (by kernel_rfl) (fun _ _ _ h => h) (Or.inl ⟨by rfl, ?_⟩) (by assumption) ?_
              rotate_left
              · intro w hSw
                (try dsimp only at hSw)
                go_simp
                try with_reducible rfl
              (try simp only [Act.put, List.getElem_toArray, List.getElem_cons_succ, List.getElem_cons_zero, List.setIfInBounds_toArray, List.set_cons_zero, List.set_cons_succ])
              refine wpAnyH_take (i := 24) (v := ?_) rfl (by kernel_rfl) (by kernel_rfl) (by kernel_rfl) (fun _ _ _ h => h) (Or.inl ⟨by rfl, ?_⟩) (by assumption) ?_
              rotate_left
              · intro w hSw
                (try dsimp only at hSw)
                go_simp
                try with_reducible rfl
              (try simp only [Act.put, List.getElem_toArray, List.getElem_cons_succ, List.getElem_cons_zero, List.setIfInBounds_toArray, List.set_cons_zero, List.set_cons_succ])
              refine wpAnyH_take (i := 25) (v := ?_) rfl (by kernel_rfl) (by kernel_rfl) (by kernel_rfl) (fun _ _ _ h => h) (Or.inl ⟨by rfl, ?_⟩) (by assumption) ?_
              rotate_left
              · intro w hSw
                (try dsimp only at hSw)
                go_simp
                try with_reducible rfl
              (try simp only [Act.put, List.getElem_toArray, List.getElem_cons_succ, List.getElem_cons_zero, List.setIfInBounds_toArray, List.set_cons_zero, List.set_cons_succ])
              refine wpAnyH_take (i := 26) (v := ?_) rfl (by kernel_rfl) (by kernel_rfl) (by kernel_rfl) (fun _ _ _ h => h) (Or.inl ⟨by rfl, ?_⟩) (by assumption) ?_
              rotate_left
              · intro w hSw
                (try dsimp only at hSw)
                go_simp
                try with_reducible rfl
              (try simp only [Act.put, List.getElem_toArray, List.getElem_cons_succ, List.getElem_cons_zero, List.setIfInBounds_toArray, List.set_cons_zero, List.set_cons_succ])
              refine wpAnyH_take (i := 27) (v := ?_) rfl (by kernel_rfl) (by kernel_rfl) (by kernel_rfl) (fun _ _ _ h => h) (Or.inl ⟨by rfl, ?_⟩) (by assumption) ?_
              rotate_left
              · intro w hSw
                (try dsimp only at hSw)
                go_simp
                try with_reducible rfl
              (try simp only [Act.put, List.getElem_toArray, List.getElem_cons_succ, List.getElem_cons_zero, List.setIfInBounds_toArray, List.set_cons_zero, List.set_cons_succ])
              refine wpAnyH_take (i := 28) (v := ?_) rfl (by kernel_rfl) (by kernel_rfl) (by kernel_rfl) (fun _ _ _ h => h) (Or.inl ⟨by rfl, ?_⟩) (by assumption) ?_
              rotate_left
              · intro w hSw
                (try dsimp only at hSw)
                go_simp
                try with_reducible rfl
              (try simp only [Act.put, List.getElem_toArray, List.getElem_cons_succ, List.getElem_cons_zero, List.setIfInBounds_toArray, List.set_cons_zero, List.set_cons_succ])
              refine wpAnyH_take (i := 29) (v := ?_) rfl (by kernel_rfl) (by kernel_rfl) (by kernel_rfl) (fun _ _ _ h => h) (Or.inl ⟨by rfl, ?_⟩) (by assumption) ?_
              rotate_left
              · intro w hSw
                (try dsimp only at hSw)
                go_simp
                try with_reducible rfl
              (try simp only [Act.put, List.getElem_toArray, List.getElem_cons_succ, List.getElem_cons_zero, List.setIfInBounds_toArray, List.set_cons_zero, List.set_cons_succ])
              refine wpAnyH_take (i := 30) (v := ?_) rfl (by kernel_rfl) (by kernel_rfl) (by kernel_rfl) (fun _ _ _ h => h) (Or.inl ⟨by rfl, ?_⟩) (by assumption) ?_
              rotate_left
              · intro w hSw
                (try dsimp only at hSw)
                go_simp
                try with_reducible rfl
              (try simp only [Act.put, List.getElem_toArray, List.getElem_cons_succ, List.getElem_cons_zero, List.setIfInBounds_toArray, List.set_cons_zero, List.set_cons_succ])
              refine wpAnyH_take (i := 31) (v := ?_) rfl (by kernel_rfl) (by kernel_rfl) (by kernel_rfl) (fun _ _ _ h => h) (Or.inl ⟨by rfl, ?_⟩) (by assumption) ?_
              rotate_left
              · intro w hSw
                (try dsimp only at hSw)
                go_simp
                try with_reducible rfl
              (try simp only [Act.put, List.getElem_toArray, List.getElem_cons_succ, List.getElem_cons_zero, List.setIfInBounds_toArray, List.set_cons_zero, List.set_cons_succ])
              refine wpAnyH_take (i := 32) (v := ?_) rfl (by kernel_rfl) (by kernel_rfl) (by kernel_rfl) (fun _ _ _ h => h) (Or.inl ⟨by rfl, ?_⟩) (by assumption) ?_
              rotate_left
              · intro w hSw
                (try dsimp only at hSw)
                go_simp
                try with_reducible rfl
              (try simp only [Act.put, List.getElem_toArray, List.getElem_cons_succ, List.getElem_cons_zero, List.setIfInBounds_toArray, List.set_cons_zero, List.set_cons_succ])
              refine wpAnyH_take (i := 33) (v := ?_) rfl (by kernel_rfl) (by kernel_rfl) (by kernel_rfl) (fun _ _ _ h => h) (Or.inl ⟨by rfl, ?_⟩) (by assumption) ?_
              rotate_left
              · intro w hSw
                (try dsimp only at hSw)
                go_simp
                try with_reducible rfl
              (try simp only [Act.put, List.getElem_toArray, List.getElem_cons_succ, List.getElem_cons_zero, List.setIfInBounds_toArray, List.set_cons_zero, List.set_cons_succ])
              refine wpAnyH_done (by kernel_rfl) ?_ _
              refine NoPanic.normal ?_
              go_wp2
              go_roundw
              case rel => exact ⟨j + 1, F4, (fun q => D q ∨ D4 q), by omega, by go_num, by rw [show max (j + 1) 1 = j + 1 by omega, HLL.out]; exact Lib.hid (HJ5.out.over (@Told.keep p lb C) (bself v5).drew)⟩
              case measure => simp [intOf]; omega
          · have hjj : j = L := by omega
            have hjn : ¬ (j : Int) < (d2.items.length : Int) := by have := HLL.out; omega
            rw [HLL.out] at hjn
            clear hjL
            have hn : nextS { d2 with items := d2.items.drop (max j 1) } = ({ d2 with items := d2.items.drop (max j 1) }, noIt, false) := by
              unfold nextS
              dsimp only
              rw [List.drop_eq_nil_of_le (by have := HLL.out; omega)]
            have HC := Lib.hid (next_at p _ _ noIt false F wr HJ.out.it.got.hp.hd hn)
            rw [HLL.out] at HJ
            have a2 := (blk4 HJ.out.it.got.hp.hg).c2
            clear hn
            go_wp2_with fail
            refine HC.out.mono ?_
            rintro e v3 ⟨F4, D4, A4, c4, rfl, hm, _, hD4⟩
            have HJ3 := Lib.hid (HJ.out.hand (@Told.keep p lb C) hm hD4)
            have HB4 := Lib.hid (bmore (bself v3) (.cells #[.int .i64 (noIt.skip : Int), .int .u8 (noIt.kind.toNat : Int), .slice A4 noIt.body.length c4] 42))
            clear hm hD4 HC a2
            go_wp2
            generalize v3.alloc (.cells #[.int .i64 (noIt.skip : Int), .int .u8 (noIt.kind.toNat : Int), .slice A4 noIt.body.length c4] 42) = v4 at HB4 ⊢
            have hlow := HB.out.size
            have hlow2 := HJ3.out.it.low
            refine ⟨by simp, .inl ⟨_, _, rfl, run_takeDeferred ((HB4.out.block w8.heap.size (by have := HJ3.out.it.big; omega)).trans HJ3.out.df), ?_⟩⟩
            exact ⟨_, results_tmp rfl _ _ _, rfl, below_put (bstep (bstep HB.out HJ3.out.it.got.hp.hB) HB4.out) (by omega) _⟩
    · have q0 : ((t.toNat : Int) == 0) = false := by rw [beq_eq_false_iff_ne]; omega
      by_cases htL : L < t.toNat
      · obtain rfl : k = L := by omega
        have q1 : (k : Int) < (t.toNat : Int) := by omega
        clear hk ht0 htL
        go_wp2
        go_loopw [12] (fun i wr => ∃ (j : Nat) (F D : Nat → Prop), j ≤ k ∧ i = .int .i64 j ∧ Hid (FinAt (Told p lb C) C w8.heap.size w1 wr p (max j k) d2 F D g (.slice A6 d2.items.length c6) k bs (g + 1) (g + 1 + 1) (.slice A9 k c9) ((t.toNat : Int) - ((k : Nat) : Int)))) (fun i _ => k - (intOf i).toNat)
        case atStart => exact ⟨0, F', D, Nat.zero_le _, rfl, by rw [Nat.zero_max]; exact Lib.hid ⟨HA.out.1, HA.out.2⟩⟩
        case round =>
          obtain ⟨j, F, D, hj, rfl, HJ⟩ := hrel
          clear a2 hg0
          have hji : (j : Int) ≤ 100000 := by omega
          by_cases hjL : j < k
          · obtain ⟨hn1, hn2, b6, off6, rfl⟩ := SeqI.some_ HJ.out.it.got.hp.hs (by have := HLL.out; omega)
            have hjd : j < d2.items.length := by have := HLL.out; omega
            obtain ⟨x, hx⟩ : ∃ x, d2.items[j] = x := ⟨_, rfl⟩
            have HX := Lib.hid (show ∃ h : j < d2.items.length, d2.items[j] = x from ⟨hjd, hx⟩)
            have hLc : (k : Int) ≤ (c6 : Int) := by have := HLL.out; omega
            rw [HLL.out] at HJ
            by_cases hjk : j < k
            · obtain ⟨bq, offq, cq, Aq, mq, eq, hbq, z0, z1, z2, rq⟩ := HJ.out.seq.at_ j (by rw [List.length_take, Nat.min_eq_left HKL.out]; exact hjk)
              rw [List.length_take, Nat.min_eq_left HKL.out] at eq
              simp only [List.getElem_take, hx] at z0 z1 z2 rq
              simp only [Value.slice.injEq] at eq
              obtain ⟨rfl, _, rfl⟩ := eq
              have hg0 : wr.cell? ⟨g + 1, 0, none⟩ = some (.slice (some ⟨bq, offq, none⟩) k c9) := by rw [heap_cell HJ.out.it.got.hg]; rfl
              have HZ := Lib.hid (And.intro z0 (And.intro z1 (And.intro z2 (And.intro rq hbq))))
              have a2 := (blk4 HJ.out.it.got.hp.hg).c2
              clear hn1 hn2 hx hjd z0 z1 z2 rq hbq
              go_upto_region 28 with (fail)
              obtain ⟨bx, hbx⟩ : ∃ n, wr.heap.size = n := ⟨_, rfl⟩
              have hb := bmore (bself wr) (.cells #[.int .i64 0, .int .u8 0, .slice none 0 0] 42)
              have hq := heap_alloc_new wr (.cells #[.int .i64 0, .int .u8 0, .slice none 0 0] 42)
              have HBW := Lib.hid hb
              have HQ := Lib.hid hq
              rw [hbx] at HQ ⊢
              have HBX := Lib.hid hbx
              clear hb hq hg0 a2 hbx
              generalize wr.alloc (.cells #[.int .i64 0, .int .u8 0, .slice none 0 0] 42) = v2 at HBW HQ ⊢
              have HJ2 := Lib.hid (HJ.out.over (@Told.keep p lb C) HBW.out)
              have hg0 : v2.cell? ⟨g + 1, 0, none⟩ = some (.slice (some ⟨bq, offq, none⟩) k c9) := by rw [heap_cell HJ2.out.it.got.hg]; rfl
              have z0 := (HBW.out.cell (p := ⟨bq, offq + j * 3, none⟩) HZ.out.2.2.2.2 : _ = _).trans HZ.out.1
              have z1 := (HBW.out.cell (p := ⟨bq, offq + j * 3 + 1, none⟩) HZ.out.2.2.2.2 : _ = _).trans HZ.out.2.1
              have z2 := (HBW.out.cell (p := ⟨bq, offq + j * 3 + 2, none⟩) HZ.out.2.2.2.2 : _ = _).trans HZ.out.2.2.1
              obtain ⟨x0, x1, x2, f0, f1, f2⟩ := blk3 HQ.out
              go_upto_region 34 with (fail)
              have hb3 := set3_below HBW.out (by have := HBX.out; omega : wr.heap.size ≤ bx) (.int .i64 (x.skip : Int)) (.int .u8 (x.kind.toNat : Int)) (.slice Aq x.body.length mq)
              have hq3 := set3_heap (a' := .int .i64 (x.skip : Int)) (b' := .int .u8 (x.kind.toNat : Int)) (c' := .slice Aq x.body.length mq) HQ.out
              unfold set3 at hb3 hq3
              have HB3 := Lib.hid hb3
              have HQ3 := Lib.hid hq3
              clear hb3 hq3 hg0 z0 z1 z2 x0 x1 x2 f0 f1 f2
              generalize ((v2.setCell { block := bx, off := 0 } (Value.int IntKind.i64 (x.skip : Int))).setCell { block := bx, off := 1 } (Value.int IntKind.u8 (x.kind.toNat : Int))).setCell { block := bx, off := 2 } (Value.slice Aq x.body.length mq) = v3 at HB3 HQ3 ⊢
              have HJ3 := Lib.hid (HJ.out.over (@Told.keep p lb C) HB3.out)
              obtain ⟨x0, x1, x2, _, _, _⟩ := blk3 HQ3.out
              have a2 := (blk4 HJ3.out.it.got.hp.hg).c2
              have hy := SeqI.cells_ (by have := HJ3.out.it.got.hp.hs; exact this) j HX.out.1
              rw [HX.out.2] at hy
              obtain ⟨y0, y1, y2⟩ := hy
              have HS := Lib.hid (And.intro (And.intro x0 (And.intro x1 x2)) (And.intro a2 (And.intro y0 (And.intro y1 (And.intro y2 (run_str_any mq (HZ.out.2.2.2.1.below_ HB3.out.drew)))))))
              clear x0 x1 x2 a2 y0 y1 y2
              refine wp_region_noPanic ?_
              refine wp_region_held_drew (S := fun w' => (w'.cell? ⟨bx, 0, none⟩ = some (.int .i64 (x.skip : Int)) ∧ w'.cell? ⟨bx, 1, none⟩ = some (.int .u8 (x.kind.toNat : Int)) ∧ w'.cell? ⟨bx, 2, none⟩ = some (.slice Aq x.body.length mq)) ∧ w'.cell? ⟨g, 2, none⟩ = some (.slice (some ⟨b6, off6, none⟩) k c6) ∧ w'.cell? ⟨b6, off6 + j * 3, none⟩ = some (.int .i64 (x.skip : Int)) ∧ w'.cell? ⟨b6, off6 + j * 3 + 1, none⟩ = some (.int .u8 (x.kind.toNat : Int)) ∧ w'.cell? ⟨b6, off6 + j * 3 + 2, none⟩ = some (.string (mkB x.body)) ∧ (convert 22 9 (.slice Aq x.body.length mq)).run Tryd.prog w' = .ok (.string (mkB x.body)) w') (by kernel_rfl) ?_ (fun hHeld => ?_)
              · (try dsimp only)
                exact HS.out
              refine wpAnyH_take (i := 0) (v := ?_) rfl (by kernel_rfl) (by kernel_rfl) (by kernel_rfl) (fun _ _ _ h => h) (Or.inl ⟨by rfl, ?_⟩) (by assumption) ?_
              rotate_left
              · intro w hSw
                (try dsimp only at hSw)
                go_simp
                try with_reducible rfl
              (try simp only [Act.put, List.getElem_toArray, List.getElem_cons_zero, List.setIfInBounds_toArray, List.set_cons_zero, List.set_cons_succ])
              refine wpAnyH_take (i := 1) (v := ?_) rfl (by kernel_rfl) (by kernel_rfl) (by kernel_rfl) (fun _ _ _ h => h) (Or.inl ⟨by rfl, ?_⟩) (by assumption) ?_
              rotate_left
              · intro w hSw
                (try dsimp only at hSw)
                go_simp
                try with_reducible rfl
              (try simp only [Act.put, List.getElem_toArray, List.getElem_cons_succ, List.getElem_cons_zero, List.setIfInBounds_toArray, List.set_cons_zero, List.set_cons_succ])
              refine wpAnyH_take (i := 2) (v := ?_) rfl (by kernel_rfl) (by kernel_rfl) (by kernel_rfl) (fun _ _ _ h => h) (Or.inl ⟨by rfl, ?_⟩) (by assumption) ?_
              rotate_left
              · intro w hSw
                (try dsimp only at hSw)
                go_simp
                try with_reducible rfl
              (try simp only [Act.put, List.getElem_toArray, List.getElem_cons_succ, List.getElem_cons_zero, List.setIfInBounds_toArray, List.set_cons_zero, List.set_cons_succ])
              refine wpAnyH_take (i := 3) (v := ?_) rfl (by kernel_rfl) (by kernel_rfl) (by kernel_rfl) (fun _ _ _ h => h) (Or.inl ⟨by rfl, ?_⟩) (by assumption) ?_
              rotate_left
              · intro w hSw
                (try dsimp only at hSw)
                go_simp
                try with_reducible rfl
              (try simp only [Act.put, List.getElem_toArray, List.getElem_cons_succ, List.getElem_cons_zero, List.setIfInBounds_toArray, List.set_cons_zero, List.set_cons_succ])
              refine wpAnyH_take (i := 4) (v := ?_) rfl (by kernel_rfl) (by kernel_rfl) (by kernel_rfl) (fun _ _ _ h => h) (Or.inl ⟨by rfl, ?_⟩) (by assumption) ?_
              rotate_left
              · intro w hSw
                (try dsimp only at hSw)
                go_simp
                try with_reducible rfl
              (try simp only [Act.put, List.getElem_toArray, List.getElem_cons_succ, List.getElem_cons_zero, List.setIfInBounds_toArray, List.set_cons_zero, List.set_cons_succ])
              refine wpAnyH_take (i := 5) (v := ?_) rfl (by kernel_rfl) (by kernel_rfl) (by kernel_rfl) (fun _ _ _ h => h) (Or.inl ⟨by rfl, ?_⟩) (by assumption) ?_
              rotate_left
              · intro w hSw
                (try dsimp only at hSw)
                go_simp
                try with_reducible rfl
              (try simp only [Act.put, List.getElem_toArray, List.getElem_cons_succ, List.getElem_cons_zero, List.setIfInBounds_toArray, List.set_cons_zero, List.set_cons_succ])
              refine wpAnyH_take (i := 6) (v := ?_) rfl (by kernel_rfl) (by kernel_rfl) (by kernel_rfl) (fun _ _ _ h => h) (Or.inl ⟨by rfl, ?_⟩) (by assumption) ?_
              rotate_left
              · intro w hSw
                (try dsimp only at hSw)
                go_simp
                try with_reducible rfl
              (try simp only [Act.put, List.getElem_toArray, List.getElem_cons_succ, List.getElem_cons_zero, List.setIfInBounds_toArray, List.set_cons_zero, List.set_cons_succ])
              refine wpAnyH_take (i := 7) (v := ?_) rfl (by kernel_rfl) (by kernel_rfl) (by kernel_rfl) (fun _ _ _ h => h) (Or.inl ⟨by rfl, ?_⟩) (by assumption) ?_
              rotate_left
              · intro w hSw
                (try dsimp only at hSw)
                go_simp
                try with_reducible rfl
              (try simp only [Act.put, List.getElem_toArray, List.getElem_cons_succ, List.getElem_cons_zero, List.setIfInBounds_toArray, List.set_cons_zero, List.set_cons_succ])
              refine wpAnyH_take (i := 8) (v := ?_) rfl (by kernel_rfl) (by kernel_rfl) (by kernel_rfl) (fun _ _ _ h => h) (Or.inl ⟨by rfl, ?_⟩) (by assumption) ?_
              rotate_left
              · intro w hSw
                (try dsimp only at hSw)
                go_simp
                try with_reducible rfl
              (try simp only [Act.put, List.getElem_toArray, List.getElem_cons_succ, List.getElem_cons_zero, List.setIfInBounds_toArray, List.set_cons_zero, List.set_cons_succ])
              refine wpAnyH_take (i := 9) (v := ?_) rfl (by kernel_rfl) (by kernel_rfl) (by kernel_rfl) (fun _ _ _ h => h) (Or.inl ⟨by rfl, ?_⟩) (by assumption) ?_
              rotate_left
              · intro w hSw
                (try dsimp only at hSw)
                go_simp
                try with_reducible rfl
              (try simp only [Act.put, List.getElem_toArray, List.getElem_cons_succ, List.getElem_cons_zero, List.setIfInBounds_toArray, List.set_cons_zero, List.set_cons_succ])
              refine wpAnyH_take (i := 10) (v := ?_) rfl (by kernel_rfl) (by kernel_rfl) (by kernel_rfl) (fun _ _ _ h => h) (Or.inl ⟨by rfl, ?_⟩) (by assumption) ?_
              rotate_left
              · intro w hSw
                (try dsimp only at hSw)
                go_simp
                try with_reducible rfl
              (try simp only [Act.put, List.getElem_toArray, List.getElem_cons_succ, List.getElem_cons_zero, List.setIfInBounds_toArray, List.set_cons_zero, List.set_cons_succ])
              refine wpAnyH_take (i := 11) (v := ?_) rfl (by kernel_rfl) (by kernel_rfl) (by kernel_rfl) (fun _ _ _ h => h) (Or.inl ⟨by rfl, ?_⟩) (by assumption) ?_
              rotate_left
              · intro w hSw
                (try dsimp only at hSw)
                go_simp
                try with_reducible rfl
              (try simp only [Act.put, List.getElem_toArray, List.getElem_cons_succ, List.getElem_cons_zero, List.setIfInBounds_toArray, List.set_cons_zero, List.set_cons_succ])
              refine wpAnyH_take (i := 12) (v := ?_) rfl (by kernel_rfl) (by kernel_rfl) (by kernel_rfl) (fun _ _ _ h => h) (Or.inl ⟨by rfl, ?_⟩) (by assumption) ?_
              rotate_left
              · intro w hSw
                (try dsimp only at hSw)
                go_simp
                try with_reducible rfl
              (try simp only [Act.put, List.getElem_toArray, List.getElem_cons_succ, List.getElem_cons_zero, List.setIfInBounds_toArray, List.set_cons_zero, List.set_cons_succ])
              refine wpAnyH_take (i := 13) (v := ?_) rfl (by kernel_rfl) (by kernel_rfl) (by kernel_rfl) (fun _ _ _ h => h) (Or.inl ⟨by rfl, ?_⟩) (by assumption) ?_
              rotate_left
              · intro w hSw
                (try dsimp only at hSw)
                go_simp
                try with_reducible rfl
              (try simp only [Act.put, List.getElem_toArray, List.getElem_cons_succ, List.getElem_cons_zero, List.setIfInBounds_toArray, List.set_cons_zero, List.set_cons_succ])
              refine wpAnyH_take (i := 14) (v := ?_) rfl (by kernel_rfl) (by kernel_rfl) (by kernel_rfl) (fun _ _ _ h => h) (Or.inl ⟨by rfl, ?_⟩) (by assumption) ?_
              rotate_left
              · intro w hSw
                (try dsimp only at hSw)
                go_simp
                try with_reducible rfl
              (try simp only [Act.put, List.getElem_toArray, List.getElem_cons_succ, List.getElem_cons_zero, List.setIfInBounds_toArray, List.set_cons_zero, List.set_cons_succ])
              refine wpAnyH_take (i := 15) (v := ?_) rfl (by kernel_rfl) (by kernel_rfl) (by kernel_rfl) (fun _ _ _ h => h) (Or.inl ⟨by rfl, ?_⟩) (by assumption) ?_
              rotate_left
              · intro w hSw
                (try dsimp only at hSw)
                go_simp
                try with_reducible rfl
              (try simp only [Act.put, List.getElem_toArray, List.getElem_cons_succ, List.getElem_cons_zero, List.setIfInBounds_toArray, List.set_cons_zero, List.set_cons_succ])
              refine wpAnyH_take (i := 16) (v := ?_) rfl (by kernel_rfl) (by kernel_rfl) (by kernel_rfl) (fun _ _ _ h => h) (Or.inl ⟨by rfl, ?_⟩) (by assumption) ?_
              rotate_left
              · intro w hSw
                (try dsimp only at hSw)
                go_simp
                try with_reducible rfl
              (try simp only [Act.put, List.getElem_toArray, List.getElem_cons_succ, List.getElem_cons_zero, List.setIfInBounds_toArray, List.set_cons_zero, List.set_cons_succ])
              refine wpAnyH_take (i := 17) (v := ?_) rfl (by kernel_rfl) (by kernel_rfl) (by kernel_rfl) (fun _ _ _ h => h) (Or.inl ⟨by rfl, ?_⟩) (by assumption) ?_
              rotate_left
              · intro w hSw
                (try dsimp only at hSw)
                go_simp
                try with_reducible rfl
              (try simp only [Act.put, List.getElem_toArray, List.getElem_cons_succ, List.getElem_cons_zero, List.setIfInBounds_toArray, List.set_cons_zero, List.set_cons_succ])
              refine wpAnyH_take (i := 18) (v := ?_) rfl (by kernel_rfl) (by kernel_rfl) (by kernel_rfl) (fun _ _ _ h => h) (Or.inl ⟨by rfl, ?_⟩) (by assumption) ?_
              rotate_left
              · intro w hSw
                (try dsimp only at hSw)
                go_simp
                try with_reducible rfl
              (try simp only [Act.put, List.getElem_toArray, List.getElem_cons_succ, List.getElem_cons_zero, List.setIfInBounds_toArray, List.set_cons_zero, List.set_cons_succ])
              refine wpAnyH_take (i := 19) (v := ?_) rfl (by kernel_rfl) (by kernel_rfl) (by kernel_rfl) (fun _ _ _ h => h) (Or.inl ⟨by rfl, ?_⟩) (by assumption) ?_
              rotate_left
              · intro w hSw
                (try dsimp only at hSw)
                go_simp
                try with_reducible rfl
              (try simp only [Act.put, List.getElem_toArray, List.getElem_cons_succ, List.getElem_cons_zero, List.setIfInBounds_toArray, List.set_cons_zero, List.set_cons_succ])
              refine wpAnyH_take (i := 20) (v := ?_) rfl (by kernel_rfl) (by kernel_rfl) (by kernel_rfl) (fun _ _ _ h => h) (Or.inl ⟨by rfl, ?_⟩) (by assumption) ?_
              rotate_left
              · intro w hSw
                (try dsimp only at hSw)
                go_simp
                try with_reducible rfl
              (try simp only [Act.put, List.getElem_toArray, List.getElem_cons_succ, List.getElem_cons_zero, List.setIfInBounds_toArray, List.set_cons_zero, List.set_cons_succ])
              refine wpAnyH_take (i := 21) (v := ?_) rfl (by kernel_rfl) (by kernel_rfl) (by kernel_rfl) (fun _ _ _ h => h) (Or.inl ⟨by rfl, ?_⟩) (by assumption) ?_
              rotate_left
              · intro w hSw
                (try dsimp only at hSw)
                go_simp
                try with_reducible rfl
              (try simp only [Act.put, List.getElem_toArray, List.getElem_cons_succ, List.getElem_cons_zero, List.setIfInBounds_toArray, List.set_cons_zero, List.set_cons_succ])
              refine wpAnyH_take (i := 22) (v := ?_) rfl (by kernel_rfl) (by kernel_rfl) (by kernel_rfl) (fun _ _ _ h => h) (Or.inl ⟨by rfl, ?_⟩) (by assumption) ?_
              rotate_left
              · intro w hSw
                (try dsimp only at hSw)
                go_simp
                try with_reducible rfl
              (try simp only [Act.put, List.getElem_toArray, List.getElem_cons_succ, List.getElem_cons_zero, List.setIfInBounds_toArray, List.set_cons_zero, List.set_cons_succ])
              refine wpAnyH_take (i := 23) (v := ?_) rfl (by kernel_rfl) (by kernel_rfl) (by kernel_rfl) (fun _ _ _ h => h) (Or.inl ⟨by rfl, ?_⟩) (by assumption) ?_
              rotate_left
              · intro w hSw
                (try dsimp only at hSw)
                go_simp
                try with_reducible rfl
              (try simp only [Act.put, List.getElem_toArray, List.getElem_cons_succ, List.getElem_cons_zero, List.setIfInBounds_toArray, List.set_cons_zero, List.set_cons_succ])
              refine wpAnyH_take (i := 24) (v := ?_) rfl (by kernel_rfl) (by kernel_rfl) (by kernel_rfl) (fun _ _ _ h => h) (Or.inl ⟨by rfl, ?_⟩) (by assumption) ?_
              rotate_left
              · intro w hSw
                (try dsimp only at hSw)
                go_simp
                try with_reducible rfl
              (try simp only [Act.put, List.getElem_toArray, List.getElem_cons_succ, List.getElem_cons_zero, List.setIfInBounds_toArray, List.set_cons_zero, List.set_cons_succ])
              refine wpAnyH_take (i := 25) (v := ?_) rfl (by kernel_rfl) (by kernel_rfl) (by kernel_rfl) (fun _ _ _ h => h) (Or.inl ⟨by rfl, ?_⟩) (by assumption) ?_
              rotate_left
              · intro w hSw
                (try dsimp only at hSw)
                go_simp
                try with_reducible rfl
              (try simp only [Act.put, List.getElem_toArray, List.getElem_cons_succ, List.getElem_cons_zero, List.setIfInBounds_toArray, List.set_cons_zero, List.set_cons_succ])
              refine wpAnyH_take (i := 26) (v := ?_) rfl (by kernel_rfl) (by kernel_rfl) (by kernel_rfl) (fun _ _ _ h => h) (Or.inl ⟨by rfl, ?_⟩) (by assumption) ?_
              rotate_left
              · intro w hSw
                (try dsimp only at hSw)
                go_simp
                try with_reducible rfl
              (try simp only [Act.put, List.getElem_toArray, List.getElem_cons_succ, List.getElem_cons_zero, List.setIfInBounds_toArray, List.set_cons_zero, List.set_cons_succ])
              refine wpAnyH_take (i := 27) (v := ?_) rfl (by kernel_rfl) (by kernel_rfl) (by kernel_rfl) (fun _ _ _ h => h) (Or.inl ⟨by rfl, ?_⟩) (by assumption) ?_
              rotate_left
              · intro w hSw
                (try dsimp only at hSw)
                go_simp
                try with_reducible rfl
              (try simp only [Act.put, List.getElem_toArray, List.getElem_cons_succ, List.getElem_cons_zero, List.setIfInBounds_toArray, List.set_cons_zero, List.set_cons_succ])
              refine wpAnyH_take (i := 28) (v := ?_) rfl (by kernel_rfl) (by kernel_rfl) (by kernel_rfl) (fun _ _ _ h => h) (Or.inl ⟨by rfl, ?_⟩) (by assumption) ?_
              rotate_left
              · intro w hSw
                (try dsimp only at hSw)
                go_simp
                try with_reducible rfl
              (try simp only [Act.put, List.getElem_toArray, List.getElem_cons_succ, List.getElem_cons_zero, List.setIfInBounds_toArray, List.set_cons_zero, List.set_cons_succ])
              refine wpAnyH_take (i := 29) (v := ?_) rfl (by kernel_rfl) (by kernel_rfl) (by kernel_rfl) (fun _ _ _ h => h) (Or.inl ⟨by rfl, ?_⟩) (by assumption) ?_
              rotate_left
              · intro w hSw
                (try dsimp only at hSw)
                go_simp
                try with_reducible rfl
              (try simp only [Act.put, List.getElem_toArray, List.getElem_cons_succ, List.getElem_cons_zero, List.setIfInBounds_toArray, List.set_cons_zero, List.set_cons_succ])
              refine wpAnyH_take (i := 30) (v := ?_) rfl (by kernel_rfl) (by kernel_rfl) (by kernel_rfl) (fun _ _ _ h => h) (Or.inl ⟨by rfl, ?_⟩) (by assumption) ?_
              rotate_left
              · intro w hSw
                (try dsimp only at hSw)
                go_simp
                try with_reducible rfl
              (try simp only [Act.put, List.getElem_toArray, List.getElem_cons_succ, List.getElem_cons_zero, List.setIfInBounds_toArray, List.set_cons_zero, List.set_cons_succ])
              refine wpAnyH_take (i := 31) (v := ?_) rfl (by kernel_rfl) (by kernel_rfl) (by kernel_rfl) (fun _ _ _ h => h) (Or.inl ⟨by rfl, ?_⟩) (by assumption) ?_
              rotate_left
              · intro w hSw
                (try dsimp only at hSw)
                go_simp
                try with_reducible rfl
              (try simp only [Act.put, List.getElem_toArray, List.getElem_cons_succ, List.getElem_cons_zero, List.setIfInBounds_toArray, List.set_cons_zero, List.set_cons_succ])
              refine wpAnyH_take (i := 32) (v := ?_) rfl (by kernel_rfl) (by kernel_rfl) (by kernel_rfl) (fun _ _ _ h => h) (Or.inl ⟨by rfl, ?_⟩) (by assumption) ?_
              rotate_left
              · intro w hSw
                (try dsimp only at hSw)
                go_simp
                try with_reducible rfl
              (try simp only [Act.put, List.getElem_toArray, List.getElem_cons_succ, List.getElem_cons_zero, List.setIfInBounds_toArray, List.set_cons_zero, List.set_cons_succ])
              refine wpAnyH_take (i := 33) (v := ?_) rfl (by kernel_rfl) (by kernel_rfl) (by kernel_rfl) (fun _ _ _ h => h) (Or.inl ⟨by rfl, ?_⟩) (by assumption) ?_
              rotate_left
              · intro w hSw
                (try dsimp only at hSw)
                go_simp
                try with_reducible rfl
              (try simp only [Act.put, List.getElem_toArray, List.getElem_cons_succ, List.getElem_cons_zero, List.setIfInBounds_toArray, List.set_cons_zero, List.set_cons_succ])
              refine wpAnyH_done (by kernel_rfl) ?_ _
              refine NoPanic.normal ?_
              go_wp2
              go_roundw
              case rel => exact ⟨j + 1, F, D, by omega, by go_num, by rw [show max (j + 1) k = max j k by omega, HLL.out]; exact Lib.hid (HJ3.out.over (@Told.keep p lb C) (bself v3).drew)⟩
              case measure => simp [intOf]; omega
            · exact absurd hjL hjk
          · have hjj : j = k := by omega
            have hjn : ¬ (j : Int) < (d2.items.length : Int) := by have := HLL.out; omega
            rw [HLL.out] at hjn
            clear hjL
            have hn : nextS { d2 with items := d2.items.drop (max j k) } = ({ d2 with items := d2.items.drop (max j k) }, noIt, false) := by
              unfold nextS
              dsimp only
              rw [List.drop_eq_nil_of_le (by have := HLL.out; omega)]
            have HC := Lib.hid (next_at p _ _ noIt false F wr HJ.out.it.got.hp.hd hn)
            rw [HLL.out] at HJ
            have a2 := (blk4 HJ.out.it.got.hp.hg).c2
            clear hn
            go_wp2_with fail
            refine HC.out.mono ?_
            rintro e v3 ⟨F4, D4, A4, c4, rfl, hm, _, hD4⟩
            have HJ3 := Lib.hid (HJ.out.hand (@Told.keep p lb C) hm hD4)
            have HB4 := Lib.hid (bmore (bself v3) (.cells #[.int .i64 (noIt.skip : Int), .int .u8 (noIt.kind.toNat : Int), .slice A4 noIt.body.length c4] 42))
            clear hm hD4 HC a2
            go_wp2
            generalize v3.alloc (.cells #[.int .i64 (noIt.skip : Int), .int .u8 (noIt.kind.toNat : Int), .slice A4 noIt.body.length c4] 42) = v4 at HB4 ⊢
            have hlow := HB.out.size
            have hlow2 := HJ3.out.it.low
            refine ⟨by simp, .inl ⟨_, _, rfl, run_takeDeferred ((HB4.out.block w8.heap.size (by have := HJ3.out.it.big; omega)).trans HJ3.out.df), ?_⟩⟩
            exact ⟨_, results_tmp rfl _ _ _, rfl, below_put (bstep (bstep HB.out HJ3.out.it.got.hp.hB) HB4.out) (by omega) _⟩
      · obtain rfl : k = t.toNat := by omega
        have q1 : ¬ (L : Int) < (t.toNat : Int) := by omega
        clear hk ht0 htL
        go_wp2
        go_loopw [12] (fun i wr => ∃ (j : Nat) (F D : Nat → Prop), j ≤ L ∧ i = .int .i64 j ∧ Hid (FinAt (Told p lb C) C w8.heap.size w1 wr p (max j t.toNat) d2 F D g (.slice A6 d2.items.length c6) t.toNat bs (g + 1) (g + 1 + 1) (.slice A9 t.toNat c9) ((t.toNat : Int) - (t.toNat : Int)))) (fun i _ => L - (intOf i).toNat)
        case atStart => exact ⟨0, F', D, Nat.zero_le _, rfl, by rw [Nat.zero_max]; exact Lib.hid ⟨HA.out.1, HA.out.2⟩⟩
        case round =>
          obtain ⟨j, F, D, hj, rfl, HJ⟩ := hrel
          clear a2 hg0
          have hji : (j : Int) ≤ 100000 := by omega
          by_cases hjL : j < L
          · obtain ⟨hn1, hn2, b6, off6, rfl⟩ := SeqI.some_ HJ.out.it.got.hp.hs (by have := HLL.out; omega)
            have hjd : j < d2.items.length := by have := HLL.out; omega
            obtain ⟨x, hx⟩ : ∃ x, d2.items[j] = x := ⟨_, rfl⟩
            have HX := Lib.hid (show ∃ h : j < d2.items.length, d2.items[j] = x from ⟨hjd, hx⟩)
            have hLc : (L : Int) ≤ (c6 : Int) := by have := HLL.out; omega
            rw [HLL.out] at HJ
            by_cases hjk : j < t.toNat
            · obtain ⟨bq, offq, cq, Aq, mq, eq, hbq, z0, z1, z2, rq⟩ := HJ.out.seq.at_ j (by rw [List.length_take, Nat.min_eq_left HKL.out]; exact hjk)
              rw [List.length_take, Nat.min_eq_left HKL.out] at eq
              simp only [List.getElem_take, hx] at z0 z1 z2 rq
              simp only [Value.slice.injEq] at eq
              obtain ⟨rfl, _, rfl⟩ := eq
              have hg0 : wr.cell? ⟨g + 1, 0, none⟩ = some (.slice (some ⟨bq, offq, none⟩) t.toNat c9) := by rw [heap_cell HJ.out.it.got.hg]; rfl
              have HZ := Lib.hid (And.intro z0 (And.intro z1 (And.intro z2 (And.intro rq hbq))))
              have a2 := (blk4 HJ.out.it.got.hp.hg).c2
              clear hn1 hn2 hx hjd z0 z1 z2 rq hbq
              go_upto_region 28 with (fail)
              obtain ⟨bx, hbx⟩ : ∃ n, wr.heap.size = n := ⟨_, rfl⟩
              have hb := bmore (bself wr) (.cells #[.int .i64 0, .int .u8 0, .slice none 0 0] 42)
              have hq := heap_alloc_new wr (.cells #[.int .i64 0, .int .u8 0, .slice none 0 0] 42)
              have HBW := Lib.hid hb
              have HQ := Lib.hid hq
              rw [hbx] at HQ ⊢
              have HBX := Lib.hid hbx
              clear hb hq hg0 a2 hbx
              generalize wr.alloc (.cells #[.int .i64 0, .int .u8 0, .slice none 0 0] 42) = v2 at HBW HQ ⊢
              have HJ2 := Lib.hid (HJ.out.over (@Told.keep p lb C) HBW.out)
              have hg0 : v2.cell? ⟨g + 1, 0, none⟩ = some (.slice (some ⟨bq, offq, none⟩) t.toNat c9) := by rw [heap_cell HJ2.out.it.got.hg]; rfl
              have z0 := (HBW.out.cell (p := ⟨bq, offq + j * 3, none⟩) HZ.out.2.2.2.2 : _ = _).trans HZ.out.1
              have z1 := (HBW.out.cell (p := ⟨bq, offq + j * 3 + 1, none⟩) HZ.out.2.2.2.2 : _ = _).trans HZ.out.2.1
              have z2 := (HBW.out.cell (p := ⟨bq, offq + j * 3 + 2, none⟩) HZ.out.2.2.2.2 : _ = _).trans HZ.out.2.2.1
              obtain ⟨x0, x1, x2, f0, f1, f2⟩ := blk3 HQ.out
              go_upto_region 34 with (fail)
              have hb3 := set3_below HBW.out (by have := HBX.out; omega : wr.heap.size ≤ bx) (.int .i64 (x.skip : Int)) (.int .u8 (x.kind.toNat : Int)) (.slice Aq x.body.length mq)
              have hq3 := set3_heap (a' := .int .i64 (x.skip : Int)) (b' := .int .u8 (x.kind.toNat : Int)) (c' := .slice Aq x.body.length mq) HQ.out
              unfold set3 at hb3 hq3
              have HB3 := Lib.hid hb3
              have HQ3 := Lib.hid hq3
              clear hb3 hq3 hg0 z0 z1 z2 x0 x1 x2 f0 f1 f2
              generalize ((v2.setCell { block := bx, off := 0 } (Value.int IntKind.i64 (x.skip : Int))).setCell { block := bx, off := 1 } (Value.int IntKind.u8 (x.kind.toNat : Int))).setCell { block := bx, off := 2 } (Value.slice Aq x.body.length mq) = v3 at HB3 HQ3 ⊢
              have HJ3 := Lib.hid (HJ.out.over (@Told.keep p lb C) HB3.out)
              obtain ⟨x0, x1, x2, _, _, _⟩ := blk3 HQ3.out
              have a2 := (blk4 HJ3.out.it.got.hp.hg).c2
              have hy := SeqI.cells_ (by have := HJ3.out.it.got.hp.hs; exact this) j HX.out.1
              rw [HX.out.2] at hy
              obtain ⟨y0, y1, y2⟩ := hy
              have HS := Lib.hid (And.intro (And.intro x0 (And.intro x1 x2)) (And.intro a2 (And.intro y0 (And.intro y1 (And.intro y2 (run_str_any mq (HZ.out.2.2.2.1.below_ HB3.out.drew)))))))
              clear x0 x1 x2 a2 y0 y1 y2
              refine wp_region_noPanic ?_
              refine wp_region_held_drew (S := fun w' => (w'.cell? ⟨bx, 0, none⟩ = some (.int .i64 (x.skip : Int)) ∧ w'.cell? ⟨bx, 1, none⟩ = some (.int .u8 (x.kind.toNat : Int)) ∧ w'.cell? ⟨bx, 2, none⟩ = some (.slice Aq x.body.length mq)) ∧ w'.cell? ⟨g, 2, none⟩ = some (.slice (some ⟨b6, off6, none⟩) L c6) ∧ w'.cell? ⟨b6, off6 + j * 3, none⟩ = some (.int .i64 (x.skip : Int)) ∧ w'.cell? ⟨b6, off6 + j * 3 + 1, none⟩ = some (.int .u8 (x.kind.toNat : Int)) ∧ w'.cell? ⟨b6, off6 + j * 3 + 2, none⟩ = some (.string (mkB x.body)) ∧ (convert 22 9 (.slice Aq x.body.length mq)).run Tryd.prog w' = .ok (.string (mkB x.body)) w') (by kernel_rfl) ?_ (fun hHeld => ?_)
              · (try dsimp only)
                exact HS.out
              refine wpAnyH_take (i := 0) (v := ?_) rfl (by kernel_rfl) (by kernel_rfl) (by kernel_rfl) (fun _ _ _ h => h) (Or.inl ⟨by rfl, ?_⟩) (by assumption) ?_
              rotate_left
              · intro w hSw
                (try dsimp only at hSw)
                go_simp
                try with_reducible rfl
              (try simp only [Act.put, List.getElem_toArray, List.getElem_cons_zero, List.setIfInBounds_toArray, List.set_cons_zero, List.set_cons_succ])
              refine wpAnyH_take (i := 1) (v := ?_) rfl (by kernel_rfl) (by kernel_rfl) (by kernel_rfl) (fun _ _ _ h => h) (Or.inl ⟨by rfl, ?_⟩) (by assumption) ?_
              rotate_left
              · intro w hSw
                (try dsimp only at hSw)
                go_simp
                try with_reducible rfl
              (try simp only [Act.put, List.getElem_toArray, List.getElem_cons_succ, List.getElem_cons_zero, List.setIfInBounds_toArray, List.set_cons_zero, List.set_cons_succ])
              refine wpAnyH_take (i := 2) (v := ?_) rfl (by kernel_rfl) (by kernel_rfl) (by kernel_rfl) (fun _ _ _ h => h) (Or.inl ⟨by rfl, ?_⟩) (by assumption) ?_
              rotate_left
              · intro w hSw
                (try dsimp only at hSw)
                go_simp
                try with_reducible rfl
              (try simp only [Act.put, List.getElem_toArray, List.getElem_cons_succ, List.getElem_cons_zero, List.setIfInBounds_toArray, List.set_cons_zero, List.set_cons_succ])
              refine wpAnyH_take (i := 3) (v := ?_) rfl (by kernel_rfl) (by kernel_rfl) (by kernel_rfl) (fun _ _ _ h => h) (Or.inl ⟨by rfl, ?_⟩) (by assumption) ?_
              rotate_left
              · intro w hSw
                (try dsimp only at hSw)
                go_simp
                try with_reducible rfl
              (try simp only [Act.put, List.getElem_toArray, List.getElem_cons_succ, List.getElem_cons_zero, List.setIfInBounds_toArray, List.set_cons_zero, List.set_cons_succ])
              refine wpAnyH_take (i := 4) (v := ?_) rfl (by kernel_rfl) (by kernel_rfl) (by kernel_rfl) (fun _ _ _ h => h) (Or.inl ⟨by rfl, ?_⟩) (by assumption) ?_
              rotate_left
              · intro w hSw
                (try dsimp only at hSw)
                go_simp
                try with_reducible rfl
              (try simp only [Act.put, List.getElem_toArray, List.getElem_cons_succ, List.getElem_cons_zero, List.setIfInBounds_toArray, List.set_cons_zero, List.set_cons_succ])
              refine wpAnyH_take (i := 5) (v := ?_) rfl (by kernel_rfl) (by kernel_rfl) (by kernel_rfl) (fun _ _ _ h => h) (Or.inl ⟨by rfl, ?_⟩) (by assumption) ?_
              rotate_left
              · intro w hSw
                (try dsimp only at hSw)
                go_simp
                try with_reducible rfl
              (try simp only [Act.put, List.getElem_toArray, List.getElem_cons_succ, List.getElem_cons_zero, List.setIfInBounds_toArray, List.set_cons_zero, List.set_cons_succ])
              refine wpAnyH_take (i := 6) (v := ?_) rfl (by kernel_rfl) (by kernel_rfl) (by kernel_rfl) (fun _ _ _ h => h) (Or.inl ⟨by rfl, ?_⟩) (by assumption) ?_
              rotate_left
              · intro w hSw
                (try dsimp only at hSw)
                go_simp
                try with_reducible rfl
              (try simp only [Act.put, List.getElem_toArray, List.getElem_cons_succ, List.getElem_cons_zero, List.setIfInBounds_toArray, List.set_cons_zero, List.set_cons_succ])
              refine wpAnyH_take (i := 7) (v := ?_) rfl (by kernel_rfl) (by kernel_rfl) (by kernel_rfl) (fun _ _ _ h => h) (Or.inl ⟨by rfl, ?_⟩) (by assumption) ?_
              rotate_left
              · intro w hSw
                (try dsimp only at hSw)
                go_simp
                try with_reducible rfl
              (try simp only [Act.put, List.getElem_toArray, List.getElem_cons_succ, List.getElem_cons_zero, List.setIfInBounds_toArray, List.set_cons_zero, List.set_cons_succ])
              refine wpAnyH_take (i := 8) (v := ?_) rfl (by kernel_rfl) (by kernel_rfl) (by kernel_rfl) (fun _ _ _ h => h) (Or.inl ⟨by rfl, ?_⟩) (by assumption) ?_
              rotate_left
              · intro w hSw
                (try dsimp only at hSw)
                go_simp
                try with_reducible rfl
              (try simp only [Act.put, List.getElem_toArray, List.getElem_cons_succ, List.getElem_cons_zero, List.setIfInBounds_toArray, List.set_cons_zero, List.set_cons_succ])
              refine wpAnyH_take (i := 9) (v := ?_) rfl (by kernel_rfl) (by kernel_rfl) (by kernel_rfl) (fun _ _ _ h => h) (Or.inl ⟨by rfl, ?_⟩) (by assumption) ?_
              rotate_left
              · intro w hSw
                (try dsimp only at hSw)
                go_simp
                try with_reducible rfl
              (try simp only [Act.put, List.getElem_toArray, List.getElem_cons_succ, List.getElem_cons_zero, List.setIfInBounds_toArray, List.set_cons_zero, List.set_cons_succ])
              refine wpAnyH_take (i := 10) (v := ?_) rfl (by kernel_rfl) (by kernel_rfl) (by kernel_rfl) (fun _ _ _ h => h) (Or.inl ⟨by rfl, ?_⟩) (by assumption) ?_
              rotate_left
              · intro w hSw
                (try dsimp only at hSw)
                go_simp
                try with_reducible rfl
              (try simp only [Act.put, List.getElem_toArray, List.getElem_cons_succ, List.getElem_cons_zero, List.setIfInBounds_toArray, List.set_cons_zero, List.set_cons_succ])
              refine wpAnyH_take (i := 11) (v := ?_) rfl (by kernel_rfl) (by kernel_rfl) (by kernel_rfl) (fun _ _ _ h => h) (Or.inl ⟨by rfl, ?_⟩) (by assumption) ?_
              rotate_left
              · intro w hSw
                (try dsimp only at hSw)
                go_simp
                try with_reducible rfl
              (try simp only [Act.put, List.getElem_toArray, List.getElem_cons_succ, List.getElem_cons_zero, List.setIfInBounds_toArray, List.set_cons_zero, List.set_cons_succ])
              refine wpAnyH_take (i := 12) (v := ?_) rfl (by kernel_rfl) (by kernel_rfl) (by kernel_rfl) (fun _ _ _ h => h) (Or.inl ⟨by rfl, ?_⟩) (by assumption) ?_
              rotate_left
              · intro w hSw
                (try dsimp only at hSw)
                go_simp
                try with_reducible rfl
              (try simp only [Act.put, List.getElem_toArray, List.getElem_cons_succ, List.getElem_cons_zero, List.setIfInBounds_toArray, List.set_cons_zero, List.set_cons_succ])
              refine wpAnyH_take (i := 13) (v := ?_) rfl (by kernel_rfl) (by kernel_rfl) (by kernel_rfl) (fun _ _ _ h => h) (Or.inl ⟨by rfl, ?_⟩) (by assumption) ?_
              rotate_left
              · intro w hSw
                (try dsimp only at hSw)
                go_simp
                try with_reducible rfl
              (try simp only [Act.put, List.getElem_toArray, List.getElem_cons_succ, List.getElem_cons_zero, List.setIfInBounds_toArray, List.set_cons_zero, List.set_cons_succ])
              refine wpAnyH_take (i := 14) (v := ?_) rfl (by kernel_rfl) (by kernel_rfl) (by kernel_rfl) (fun _ _ _ h => h) (Or.inl ⟨by rfl, ?_⟩) (by assumption) ?_
              rotate_left
              · intro w hSw
                (try dsimp only at hSw)
                go_simp
                try with_reducible rfl
              (try simp only [Act.put, List.getElem_toArray, List.getElem_cons_succ, List.getElem_cons_zero, List.setIfInBounds_toArray, List.set_cons_zero, List.set_cons_succ])
              refine wpAnyH_take (i := 15) (v := ?_) rfl (by kernel_rfl) (by kernel_rfl) (by kernel_rfl) (fun _ _ _ h => h) (Or.inl ⟨by rfl, ?_⟩) (by assumption) ?_
              rotate_left
              · intro w hSw
                (try dsimp only at hSw)
                go_simp
                try with_reducible rfl
              (try simp only [Act.put, List.getElem_toArray, List.getElem_cons_succ, List.getElem_cons_zero, List.setIfInBounds_toArray, List.set_cons_zero, List.set_cons_succ])
              refine wpAnyH_take (i := 16) (v := ?_) rfl (by kernel_rfl) (by kernel_rfl) (by kernel_rfl) (fun _ _ _ h => h) (Or.inl ⟨by rfl, ?_⟩) (by assumption) ?_
              rotate_left
              · intro w hSw
                (try dsimp only at hSw)
                go_simp
                try with_reducible rfl
              (try simp only [Act.put, List.getElem_toArray, List.getElem_cons_succ, List.getElem_cons_zero, List.setIfInBounds_toArray, List.set_cons_zero, List.set_cons_succ])
              refine wpAnyH_take (i := 17) (v := ?_) rfl (by kernel_rfl) (by kernel_rfl) (by kernel_rfl) (fun _ _ _ h => h) (Or.inl ⟨by rfl, ?_⟩) (by assumption) ?_
              rotate_left
              · intro w hSw
                (try dsimp only at hSw)
                go_simp
                try with_reducible rfl
              (try simp only [Act.put, List.getElem_toArray, List.getElem_cons_succ, List.getElem_cons_zero, List.setIfInBounds_toArray, List.set_cons_zero, List.set_cons_succ])
              refine wpAnyH_take (i := 18) (v := ?_) rfl (by kernel_rfl) (by kernel_rfl) (by kernel_rfl) (fun _ _ _ h => h) (Or.inl ⟨by rfl, ?_⟩) (by assumption) ?_
              rotate_left
              · intro w hSw
                (try dsimp only at hSw)
                go_simp
                try with_reducible rfl
              (try simp only [Act.put, List.getElem_toArray, List.getElem_cons_succ, List.getElem_cons_zero, List.setIfInBounds_toArray, List.set_cons_zero, List.set_cons_succ])
              refine wpAnyH_take (i := 19) (v := ?_) rfl (by kernel_rfl) (by kernel_rfl) (by kernel_rfl) (fun _ _ _ h => h) (Or.inl ⟨by rfl, ?_⟩) (by assumption) ?_
              rotate_left
              · intro w hSw
                (try dsimp only at hSw)
                go_simp
                try with_reducible rfl
              (try simp only [Act.put, List.getElem_toArray, List.getElem_cons_succ, List.getElem_cons_zero, List.setIfInBounds_toArray, List.set_cons_zero, List.set_cons_succ])
              refine wpAnyH_take (i := 20) (v := ?_) rfl (by kernel_rfl) (by kernel_rfl) (by kernel_rfl) (fun _ _ _ h => h) (Or.inl ⟨by rfl, ?_⟩) (by assumption) ?_
              rotate_left
              · intro w hSw
                (try dsimp only at hSw)
                go_simp
                try with_reducible rfl
              (try simp only [Act.put, List.getElem_toArray, List.getElem_cons_succ, List.getElem_cons_zero, List.setIfInBounds_toArray, List.set_cons_zero, List.set_cons_succ])
              refine wpAnyH_take (i := 21) (v := ?_) rfl (by kernel_rfl) (by kernel_rfl) (by kernel_rfl) (fun _ _ _ h => h) (Or.inl ⟨by rfl, ?_⟩) (by assumption) ?_
              rotate_left
              · intro w hSw
                (try dsimp only at hSw)
                go_simp
                try with_reducible rfl
              (try simp only [Act.put, List.getElem_toArray, List.getElem_cons_succ, List.getElem_cons_zero, List.setIfInBounds_toArray, List.set_cons_zero, List.set_cons_succ])
              refine wpAnyH_take (i := 22) (v := ?_) rfl (by kernel_rfl) (by kernel_rfl) (by kernel_rfl) (fun _ _ _ h => h) (Or.inl ⟨by rfl, ?_⟩) (by assumption) ?_
              rotate_left
              · intro w hSw
                (try dsimp only at hSw)
                go_simp
                try with_reducible rfl
              (try simp only [Act.put, List.getElem_toArray, List.getElem_cons_succ, List.getElem_cons_zero, List.setIfInBounds_toArray, List.set_cons_zero, List.set_cons_succ])
              refine wpAnyH_take (i := 23) (v := ?_) rfl (by kernel_rfl) (by kernel_rfl) (by kernel_rfl) (fun _ _ _ h => h) (Or.inl ⟨by rfl, ?_⟩) (by assumption) ?_
              rotate_left
              · intro w hSw
                (try dsimp only at hSw)
                go_simp
                try with_reducible rfl
              (try simp only [Act.put, List.getElem_toArray, List.getElem_cons_succ, List.getElem_cons_zero, List.setIfInBounds_toArray, List.set_cons_zero, List.set_cons_succ])
              refine wpAnyH_take (i := 24) (v := ?_) rfl (by kernel_rfl) (by kernel_rfl) (by kernel_rfl) (fun _ _ _ h => h) (Or.inl ⟨by rfl, ?_⟩) (by assumption) ?_
              rotate_left
              · intro w hSw
                (try dsimp only at hSw)
                go_simp
                try with_reducible rfl
              (try simp only [Act.put, List.getElem_toArray, List.getElem_cons_succ, List.getElem_cons_zero, List.setIfInBounds_toArray, List.set_cons_zero, List.set_cons_succ])
              refine wpAnyH_take (i := 25) (v := ?_) rfl (by kernel_rfl) (by kernel_rfl) (by kernel_rfl) (fun _ _ _ h => h) (Or.inl ⟨by rfl, ?_⟩) (by assumption) ?_
              rotate_left
              · intro w hSw
                (try dsimp only at hSw)
                go_simp
                try with_reducible rfl
              (try simp only [Act.put, List.getElem_toArray, List.getElem_cons_succ, List.getElem_cons_zero, List.setIfInBounds_toArray, List.set_cons_zero, List.set_cons_succ])
              refine wpAnyH_take (i := 26) (v := ?_) rfl (by kernel_rfl) (by kernel_rfl) (by kernel_rfl) (fun _ _ _ h => h) (Or.inl ⟨by rfl, ?_⟩) (by assumption) ?_
              rotate_left
              · intro w hSw
                (try dsimp only at hSw)
                go_simp
                try with_reducible rfl
              (try simp only [Act.put, List.getElem_toArray, List.getElem_cons_succ, List.getElem_cons_zero, List.setIfInBounds_toArray, List.set_cons_zero, List.set_cons_succ])
              refine wpAnyH_take (i := 27) (v := ?_) rfl (by kernel_rfl) (by kernel_rfl) (by kernel_rfl) (fun _ _ _ h => h) (Or.inl ⟨by rfl, ?_⟩) (by assumption) ?_
              rotate_left
              · intro w hSw
                (try dsimp only at hSw)
                go_simp
                try with_reducible rfl
              (try simp only [Act.put, List.getElem_toArray, List.getElem_cons_succ, List.getElem_cons_zero, List.setIfInBounds_toArray, List.set_cons_zero, List.set_cons_succ])
              refine wpAnyH_take (i := 28) (v := ?_) rfl (by kernel_rfl) (by kernel_rfl) (by kernel_rfl) (fun _ _ _ h => h) (Or.inl ⟨by rfl, ?_⟩) (by assumption) ?_
              rotate_left
              · intro w hSw
                (try dsimp only at hSw)
                go_simp
                try with_reducible rfl
              (try simp only [Act.put, List.getElem_toArray, List.getElem_cons_succ, List.getElem_cons_zero, List.setIfInBounds_toArray, List.set_cons_zero, List.set_cons_succ])
              refine wpAnyH_take (i := 29) (v := ?_) rfl (by kernel_rfl) (by kernel_rfl) (by kernel_rfl) (fun _ _ _ h => h) (Or.inl ⟨by rfl, ?_⟩) (by assumption) ?_
              rotate_left
              · intro w hSw
                (try dsimp only at hSw)
                go_simp
                try with_reducible rfl
              (try simp only [Act.put, List.getElem_toArray, List.getElem_cons_succ, List.getElem_cons_zero, List.setIfInBounds_toArray, List.set_cons_zero, List.set_cons_succ])
              refine wpAnyH_take (i := 30) (v := ?_) rfl (by kernel_rfl) (by kernel_rfl) (by kernel_rfl) (fun _ _ _ h => h) (Or.inl ⟨by rfl, ?_⟩) (by assumption) ?_
              rotate_left
              · intro w hSw
                (try dsimp only at hSw)
                go_simp
                try with_reducible rfl
              (try simp only [Act.put, List.getElem_toArray, List.getElem_cons_succ, List.getElem_cons_zero, List.setIfInBounds_toArray, List.set_cons_zero, List.set_cons_succ])
              refine wpAnyH_take (i := 31) (v := ?_) rfl (by kernel_rfl) (by kernel_rfl) (by kernel_rfl) (fun _ _ _ h => h) (Or.inl ⟨by rfl, ?_⟩) (by assumption) ?_
              rotate_left
              · intro w hSw
                (try dsimp only at hSw)
                go_simp
                try with_reducible rfl
              (try simp only [Act.put, List.getElem_toArray, List.getElem_cons_succ, List.getElem_cons_zero, List.setIfInBounds_toArray, List.set_cons_zero, List.set_cons_succ])
              refine wpAnyH_take (i := 32) (v := ?_) rfl (by kernel_rfl) (by kernel_rfl) (by kernel_rfl) (fun _ _ _ h => h) (Or.inl ⟨by rfl, ?_⟩) (by assumption) ?_
              rotate_left
              · intro w hSw
                (try dsimp only at hSw)
                go_simp
                try with_reducible rfl
              (try simp only [Act.put, List.getElem_toArray, List.getElem_cons_succ, List.getElem_cons_zero, List.setIfInBounds_toArray, List.set_cons_zero, List.set_cons_succ])
              refine wpAnyH_take (i := 33) (v := ?_) rfl (by kernel_rfl) (by kernel_rfl) (by kernel_rfl) (fun _ _ _ h => h) (Or.inl ⟨by rfl, ?_⟩) (by assumption) ?_
              rotate_left
              · intro w hSw
                (try dsimp only at hSw)
                go_simp
                try with_reducible rfl
              (try simp only [Act.put, List.getElem_toArray, List.getElem_cons_succ, List.getElem_cons_zero, List.setIfInBounds_toArray, List.set_cons_zero, List.set_cons_succ])
              refine wpAnyH_done (by kernel_rfl) ?_ _
              refine NoPanic.normal ?_
              go_wp2
              go_roundw
              case rel => exact ⟨j + 1, F, D, by omega, by go_num, by rw [show max (j + 1) t.toNat = max j t.toNat by omega, HLL.out]; exact Lib.hid (HJ3.out.over (@Told.keep p lb C) (bself v3).drew)⟩
              case measure => simp [intOf]; omega
            · have hmax : max j t.toNat = j := by omega
              rw [hmax] at HJ
              have hn : nextS { d2 with items := d2.items.drop j } = ({ d2 with items := d2.items.drop (j + 1) }, x, true) := by
                obtain ⟨h1, h2⟩ := HX.out
                unfold nextS
                dsimp only
                rw [List.drop_eq_getElem_cons h1, h2]
              have HN := Lib.hid hn
              have hg0 : wr.cell? ⟨g + 1, 0, none⟩ = some (.slice A9 t.toNat c9) := by rw [heap_cell HJ.out.it.got.hg]; rfl
              have a2 := (blk4 HJ.out.it.got.hp.hg).c2
              clear hn1 hn2 hx hjd hn hmax
              go_upto_region 28 with (fail)
              obtain ⟨bx, hbx⟩ : ∃ n, wr.heap.size = n := ⟨_, rfl⟩
              have hb := bmore (bself wr) (.cells #[.int .i64 0, .int .u8 0, .slice none 0 0] 42)
              have hq := heap_alloc_new wr (.cells #[.int .i64 0, .int .u8 0, .slice none 0 0] 42)
              have HBW := Lib.hid hb
              have HQ := Lib.hid hq
              rw [hbx] at HQ ⊢
              have HBX := Lib.hid hbx
              clear hb hq hg0 a2 hbx
              generalize wr.alloc (.cells #[.int .i64 0, .int .u8 0, .slice none 0 0] 42) = v2 at HBW HQ ⊢
              have HJ2 := Lib.hid (HJ.out.over (@Told.keep p lb C) HBW.out)
              have HC := Lib.hid (next_at p _ _ x true F v2 HJ2.out.it.got.hp.hd HN.out)
              go_wp2_with fail
              refine HC.out.mono ?_
              rintro e v3 ⟨F4, D4, A4, c4, rfl, hm, hl4, hD4⟩
              have HJ3 := Lib.hid (HJ2.out.hand (@Told.keep p lb C) hm hD4)
              have HAP := Lib.hid (HJ.out.apart (bx := bx) (by have := HBX.out; omega) (heap_lt HQ.out) hm.2.2 fun q hq => (hD4 q hq).1)
              have HL3 := Lib.hid hl4
              have HD3 := Lib.hid (show ∀ q, D4 q → q < v3.heap.size from fun q hq => (hD4 q hq).2.1)
              have HQ3 := Lib.hid ((hm.2.1.block bx (heap_lt HQ.out) (fun f => by have h1 := HJ.out.it.got.lt (.inl f); have h2 := HBX.out; omega)).trans HQ.out)
              clear hm hl4 hD4 HC
              go_upto_region 31 with (fail)
              have HB4 := Lib.hid (bmore (bself v3) (.cells #[.int .i64 (x.skip : Int), .int .u8 (x.kind.toNat : Int), .slice A4 x.body.length c4] 42))
              have HY4 := Lib.hid (heap_alloc_new v3 (.cells #[.int .i64 (x.skip : Int), .int .u8 (x.kind.toNat : Int), .slice A4 x.body.length c4] 42))
              generalize v3.alloc (.cells #[.int .i64 (x.skip : Int), .int .u8 (x.kind.toNat : Int), .slice A4 x.body.length c4] 42) = v4 at HB4 HY4 ⊢
              have HJ4 := Lib.hid (HJ3.out.over (@Told.keep p lb C) HB4.out)
              have HL4 := Lib.hid (HL3.out.keep fun q hq => HB4.out.block q (HD3.out q hq))
              have HQ4 := Lib.hid ((HB4.out.block bx (heap_lt HQ3.out)).trans HQ3.out)
              obtain ⟨x0, x1, x2, f0, f1, f2⟩ := blk3 HQ4.out
              obtain ⟨u0, u1, u2, _, _, _⟩ := blk3 HY4.out
              go_upto_region 34 with (fail)
              have hj5 := HJ4.out.set_ (@Told.keep p lb C) HAP.out (.int .i64 (x.skip : Int)) (.int .u8 (x.kind.toNat : Int)) (.slice A4 x.body.length c4)
              have hq5 := set3_heap (a' := .int .i64 (x.skip : Int)) (b' := .int .u8 (x.kind.toNat : Int)) (c' := .slice A4 x.body.length c4) HQ4.out
              have hl5 := HL4.out.keep (w' := set3 v4 bx (.int .i64 (x.skip : Int)) (.int .u8 (x.kind.toNat : Int)) (.slice A4 x.body.length c4)) fun q hq => set3_far _ _ _ _ _ q fun e => HAP.out.1 (.inr (.inl (.inr (e ▸ hq))))
              unfold set3 at hj5 hq5 hl5
              have HJ5 := Lib.hid hj5
              have HQ5 := Lib.hid hq5
              have HL5 := Lib.hid hl5
              clear hj5 hq5 hl5 x0 x1 x2 f0 f1 f2 u0 u1 u2
              generalize ((v4.setCell { block := bx, off := 0 } (Value.int IntKind.i64 (x.skip : Int))).setCell { block := bx, off := 1 } (Value.int IntKind.u8 (x.kind.toNat : Int))).setCell { block := bx, off := 2 } (Value.slice A4 x.body.length c4) = v5 at HJ5 HQ5 HL5 ⊢
              obtain ⟨x0, x1, x2, _, _, _⟩ := blk3 HQ5.out
              have a2 := (blk4 HJ5.out.it.got.hp.hg).c2
              have hy := SeqI.cells_ (by have := HJ5.out.it.got.hp.hs; exact this) j HX.out.1
              rw [HX.out.2] at hy
              obtain ⟨y0, y1, y2⟩ := hy
              have HS := Lib.hid (And.intro (And.intro x0 (And.intro x1 x2)) (And.intro a2 (And.intro y0 (And.intro y1 (And.intro y2 (show (convert 22 9 (.slice A4 x.body.length c4)).run Tryd.prog v5.drew = .ok (.string (mkB x.body)) v5.drew from by
                obtain ⟨A8, m8, e8, r8, _⟩ := liesB_row (HL5.out.below (B := v3.heap.size) fun q hq => HD3.out q hq)
                simp only [Value.slice.injEq] at e8
                obtain ⟨rfl, _, rfl⟩ := e8
                exact run_str_any c4 (r8.below_ (Below.refl _ _).drew)))))))
              clear x0 x1 x2 a2 y0 y1 y2
              refine wp_region_noPanic ?_
              refine wp_region_held_drew (S := fun w' => (w'.cell? ⟨bx, 0, none⟩ = some (.int .i64 (x.skip : Int)) ∧ w'.cell? ⟨bx, 1, none⟩ = some (.int .u8 (x.kind.toNat : Int)) ∧ w'.cell? ⟨bx, 2, none⟩ = some (.slice A4 x.body.length c4)) ∧ w'.cell? ⟨g, 2, none⟩ = some (.slice (some ⟨b6, off6, none⟩) L c6) ∧ w'.cell? ⟨b6, off6 + j * 3, none⟩ = some (.int .i64 (x.skip : Int)) ∧ w'.cell? ⟨b6, off6 + j * 3 + 1, none⟩ = some (.int .u8 (x.kind.toNat : Int)) ∧ w'.cell? ⟨b6, off6 + j * 3 + 2, none⟩ = some (.string (mkB x.body)) ∧ (convert 22 9 (.slice A4 x.body.length c4)).run Tryd.prog w' = .ok (.string (mkB x.body)) w') (by kernel_rfl) ?_ (fun hHeld => ?_)
              · (try dsimp only)
                exact HS.out
              refine wpAnyH_take (i := 0) (v := ?_) rfl (by kernel_rfl) (by kernel_rfl) (by kernel_rfl) (fun _ _ _ h => h) (Or.inl ⟨by rfl, ?_⟩) (by assumption) ?_
              rotate_left
              · intro w hSw
                (try dsimp only at hSw)
                go_simp
                try with_reducible rfl
              (try simp only [Act.put, List.getElem_toArray, List.getElem_cons_zero, List.setIfInBounds_toArray, List.set_cons_zero, List.set_cons_succ])
              refine wpAnyH_take (i := 1) (v := ?_) rfl (by kernel_rfl) (by kernel_rfl) (by kernel_rfl) (fun _ _ _ h => h) (Or.inl ⟨by rfl, ?_⟩) (by assumption) ?_
              rotate_left
              · intro w hSw
                (try dsimp only at hSw)
                go_simp
                try with_reducible rfl
              (try simp only [Act.put, List.getElem_toArray, List.getElem_cons_succ, List.getElem_cons_zero, List.setIfInBounds_toArray, List.set_cons_zero, List.set_cons_succ])
              refine wpAnyH_take (i := 2) (v := ?_) rfl (by kernel_rfl) (by kernel_rfl) (by kernel_rfl) (fun _ _ _ h => h) (Or.inl ⟨by rfl, ?_⟩) (by assumption) ?_
              rotate_left
              · intro w hSw
                (try dsimp only at hSw)
                go_simp
                try with_reducible rfl
              (try simp only [Act.put, List.getElem_toArray, List.getElem_cons_succ, List.getElem_cons_zero, List.setIfInBounds_toArray, List.set_cons_zero, List.set_cons_succ])
              refine wpAnyH_take (i := 3) (v := ?_) rfl (by kernel_rfl) (by kernel_rfl) (by kernel_rfl) (fun _ _ _ h => h) (Or.inl ⟨by rfl, ?_⟩) (by assumption) ?_
              rotate_left
              · intro w hSw
                (try dsimp only at hSw)
                go_simp
                try with_reducible rfl
              (try simp only [Act.put, List.getElem_toArray, List.getElem_cons_succ, List.getElem_cons_zero, List.setIfInBounds_toArray, List.set_cons_zero, List.set_cons_succ])
              refine wpAnyH_take (i := 4) (v := ?_) rfl (by kernel_rfl) (by kernel_rfl) (by kernel_rfl) (fun _ _ _ h => h) (Or.inl ⟨by rfl, ?_⟩) (by assumption) ?_
              rotate_left
              · intro w hSw
                (try dsimp only at hSw)
                go_simp
                try with_reducible rfl
              (try simp only [Act.put, List.getElem_toArray, List.getElem_cons_succ, List.getElem_cons_zero, List.setIfInBounds_toArray, List.set_cons_zero, List.set_cons_succ])
              refine wpAnyH_take (i := 5) (v := ?_) rfl (by kernel_rfl) (by kernel_rfl) (by kernel_rfl) (fun _ _ _ h => h) (Or.inl ⟨by rfl, ?_⟩) (by assumption) ?_
              rotate_left
              · intro w hSw
                (try dsimp only at hSw)
                go_simp
                try with_reducible rfl
              (try simp only [Act.put, List.getElem_toArray, List.getElem_cons_succ, List.getElem_cons_zero, List.setIfInBounds_toArray, List.set_cons_zero, List.set_cons_succ])
              refine wpAnyH_take (i := 6) (v := ?_) rfl (by kernel_rfl) (by kernel_rfl) (by kernel_rfl) (fun _ _ _ h => h) (Or.inl ⟨by rfl, ?_⟩) (by assumption) ?_
              rotate_left
              · intro w hSw
                (try dsimp only at hSw)
                go_simp
                try with_reducible rfl
              (try simp only [Act.put, List.getElem_toArray, List.getElem_cons_succ, List.getElem_cons_zero, List.setIfInBounds_toArray, List.set_cons_zero, List.set_cons_succ])
              refine wpAnyH_take (i := 7) (v := ?_) rfl (by kernel_rfl) (by kernel_rfl) (by kernel_rfl) (fun _ _ _ h => h) (Or.inl ⟨by rfl, ?_⟩) (by assumption) ?_
              rotate_left
              · intro w hSw
                (try dsimp only at hSw)
                go_simp
                try with_reducible rfl
              (try simp only [Act.put, List.getElem_toArray, List.getElem_cons_succ, List.getElem_cons_zero, List.setIfInBounds_toArray, List.set_cons_zero, List.set_cons_succ])
              refine wpAnyH_take (i := 8) (v := ?_) rfl (by kernel_rfl) (by kernel_rfl) (by kernel_rfl) (fun _ _ _ h => h) (Or.inl ⟨by rfl, ?_⟩) (by assumption) ?_
              rotate_left
              · intro w hSw
                (try dsimp only at hSw)
                go_simp
                try with_reducible rfl
              (try simp only [Act.put, List.getElem_toArray, List.getElem_cons_succ, List.getElem_cons_zero, List.setIfInBounds_toArray, List.set_cons_zero, List.set_cons_succ])
              refine wpAnyH_take (i := 9) (v := ?_) rfl (by kernel_rfl) (by kernel_rfl) (by kernel_rfl) (fun _ _ _ h => h) (Or.inl ⟨by rfl, ?_⟩) (by assumption) ?_
              rotate_left
              · intro w hSw
                (try dsimp only at hSw)
                go_simp
                try with_reducible rfl
              (try simp only [Act.put, List.getElem_toArray, List.getElem_cons_succ, List.getElem_cons_zero, List.setIfInBounds_toArray, List.set_cons_zero, List.set_cons_succ])
              refine wpAnyH_take (i := 10) (v := ?_) rfl (by kernel_rfl) (by kernel_rfl) (by kernel_rfl) (fun _ _ _ h => h) (Or.inl ⟨by rfl, ?_⟩) (by assumption) ?_
              rotate_left
              · intro w hSw
                (try dsimp only at hSw)
                go_simp
                try with_reducible rfl
              (try simp only [Act.put, List.getElem_toArray, List.getElem_cons_succ, List.getElem_cons_zero, List.setIfInBounds_toArray, List.set_cons_zero, List.set_cons_succ])
              refine wpAnyH_take (i := 11) (v := ?_) rfl (by kernel_rfl) (by kernel_rfl) (by kernel_rfl) (fun _ _ _ h => h) (Or.inl ⟨by rfl, ?_⟩) (by assumption) ?_
              rotate_left
              · intro w hSw
                (try dsimp only at hSw)
                go_simp
                try with_reducible rfl
              (try simp only [Act.put, List.getElem_toArray, List.getElem_cons_succ, List.getElem_cons_zero, List.setIfInBounds_toArray, List.set_cons_zero, List.set_cons_succ])
              refine wpAnyH_take (i := 12) (v := ?_) rfl (by kernel_rfl) (by kernel_rfl) (by kernel_rfl) (fun _ _ _ h => h) (Or.inl ⟨by rfl, ?_⟩) (by assumption) ?_
              rotate_left
              · intro w hSw
                (try dsimp only at hSw)
                go_simp
                try with_reducible rfl
              (try simp only [Act.put, List.getElem_toArray, List.getElem_cons_succ, List.getElem_cons_zero, List.setIfInBounds_toArray, List.set_cons_zero, List.set_cons_succ])
              refine wpAnyH_take (i := 13) (v := ?_) rfl (by kernel_rfl) (by kernel_rfl) (by kernel_rfl) (fun _ _ _ h => h) (Or.inl ⟨by rfl, ?_⟩) (by assumption) ?_
              rotate_left
              · intro w hSw
                (try dsimp only at hSw)
                go_simp
                try with_reducible rfl
              (try simp only [Act.put, List.getElem_toArray, List.getElem_cons_succ, List.getElem_cons_zero, List.setIfInBounds_toArray, List.set_cons_zero, List.set_cons_succ])
              refine wpAnyH_take (i := 14) (v := ?_) rfl (by kernel_rfl) (by kernel_rfl) (by kernel_rfl) (fun _ _ _ h => h) (Or.inl ⟨by rfl, ?_⟩) (by assumption) ?_
              rotate_left
              · intro w hSw
                (try dsimp only at hSw)
                go_simp
                try with_reducible rfl
              (try simp only [Act.put, List.getElem_toArray, List.getElem_cons_succ, List.getElem_cons_zero, List.setIfInBounds_toArray, List.set_cons_zero, List.set_cons_succ])
              refine wpAnyH_take (i := 15) (v := ?_) rfl (by kernel_rfl) (by kernel_rfl) (by kernel_rfl) (fun _ _ _ h => h) (Or.inl ⟨by rfl, ?_⟩) (by assumption) ?_
              rotate_left
              · intro w hSw
                (try dsimp only at hSw)
                go_simp
                try with_reducible rfl
              (try simp only [Act.put, List.getElem_toArray, List.getElem_cons_succ, List.getElem_cons_zero, List.setIfInBounds_toArray, List.set_cons_zero, List.set_cons_succ])
              refine wpAnyH_take (i := 16) (v := ?_) rfl (by kernel_rfl) (by kernel_rfl) (by kernel_rfl) (fun _ _ _ h => h) (Or.inl ⟨by rfl, ?_⟩) (by assumption) ?_
              rotate_left
              · intro w hSw
                (try dsimp only at hSw)
                go_simp
                try with_reducible rfl
              (try simp only [Act.put, List.getElem_toArray, List.getElem_cons_succ, List.getElem_cons_zero, List.setIfInBounds_toArray, List.set_cons_zero, List.set_cons_succ])
              refine wpAnyH_take (i := 17) (v := ?_) rfl (by kernel_rfl) (by kernel_rfl) (by kernel_rfl) (fun _ _ _ h => h) (Or.inl ⟨by rfl, ?_⟩) (by assumption) ?_
              rotate_left
              · intro w hSw
                (try dsimp only at hSw)
                go_simp
                try with_reducible rfl
              (try simp only [Act.put, List.getElem_toArray, List.getElem_cons_succ, List.getElem_cons_zero, List.setIfInBounds_toArray, List.set_cons_zero, List.set_cons_succ])
              refine wpAnyH_take (i := 18) (v := ?_) rfl (by kernel_rfl) (by kernel_rfl) (by kernel_rfl) (fun _ _ _ h => h) (Or.inl ⟨by rfl, ?_⟩) (by assumption) ?_
              rotate_left
              · intro w hSw
                (try dsimp only at hSw)
                go_simp
                try with_reducible rfl
              (try simp only [Act.put, List.getElem_toArray, List.getElem_cons_succ, List.getElem_cons_zero, List.setIfInBounds_toArray, List.set_cons_zero, List.set_cons_succ])
              refine wpAnyH_take (i := 19) (v := ?_) rfl (by kernel_rfl) (by kernel_rfl) (by kernel_rfl) (fun _ _ _ h => h) (Or.inl ⟨by rfl, ?_⟩) (by assumption) ?_
              rotate_left
              · intro w hSw
                (try dsimp only at hSw)
                go_simp
                try with_reducible rfl
              (try simp only [Act.put, List.getElem_toArray, List.getElem_cons_succ, List.getElem_cons_zero, List.setIfInBounds_toArray, List.set_cons_zero, List.set_cons_succ])
              refine wpAnyH_take (i := 20) (v := ?_) rfl (by kernel_rfl) (by kernel_rfl) (by kernel_rfl) (fun _ _ _ h => h) (Or.inl ⟨by rfl, ?_⟩) (by assumption) ?_
              rotate_left
              · intro w hSw
                (try dsimp only at hSw)
                go_simp
                try with_reducible rfl
              (try simp only [Act.put, List.getElem_toArray, List.getElem_cons_succ, List.getElem_cons_zero, List.setIfInBounds_toArray, List.set_cons_zero, List.set_cons_succ])
              refine wpAnyH_take (i := 21) (v := ?_) rfl (by kernel_rfl) (by kernel_rfl) (by kernel_rfl) (fun _ _ _ h => h) (Or.inl ⟨by rfl, ?_⟩) (by assumption) ?_
              rotate_left
              · intro w hSw
                (try dsimp only at hSw)
                go_simp
                try with_reducible rfl
              (try simp only [Act.put, List.getElem_toArray, List.getElem_cons_succ, List.getElem_cons_zero, List.setIfInBounds_toArray, List.set_cons_zero, List.set_cons_succ])
              refine wpAnyH_take (i := 22) (v := ?_) rfl (by kernel_rfl) (by kernel_rfl) (by kernel_rfl) (fun _ _ _ h => h) (Or.inl ⟨by rfl, ?_⟩) (by assumption) ?_
              rotate_left
              · intro w hSw
                (try dsimp only at hSw)
                go_simp
                try with_reducible rfl
              (try simp only [Act.put, List.getElem_toArray, List.getElem_cons_succ, List.getElem_cons_zero, List.setIfInBounds_toArray, List.set_cons_zero, List.set_cons_succ])
              refine wpAnyH_take (i := 23) (v := ?_) rfl (by kernel_rfl) (by kernel_rfl) (by kernel_rfl) (fun _ _ _ h => h) (Or.inl ⟨by rfl, ?_⟩) (by assumption) ?_
              rotate_left
              · intro w hSw
                (try dsimp only at hSw)
                go_simp
                try with_reducible rfl
              (try simp only [Act.put, List.getElem_toArray, List.getElem_cons_succ, List.getElem_cons_zero, List.setIfInBounds_toArray, List.set_cons_zero, List.set_cons_succ])
              refine wpAnyH_take (i := 24) (v := ?_) rfl (by kernel_rfl) (by kernel_rfl) (by kernel_rfl) (fun _ _ _ h => h) (Or.inl ⟨by rfl, ?_⟩) (by assumption) ?_
              rotate_left
              · intro w hSw
                (try dsimp only at hSw)
                go_simp
                try with_reducible rfl
              (try simp only [Act.put, List.getElem_toArray, List.getElem_cons_succ, List.getElem_cons_zero, List.setIfInBounds_toArray, List.set_cons_zero, List.set_cons_succ])
              refine wpAnyH_take (i := 25) (v := ?_) rfl (by kernel_rfl) (by kernel_rfl) (by kernel_rfl) (fun _ _ _ h => h) (Or.inl ⟨by rfl, ?_⟩) (by assumption) ?_
              rotate_left
              · intro w hSw
                (try dsimp only at hSw)
                go_simp
                try with_reducible rfl
              (try simp only [Act.put, List.getElem_toArray, List.getElem_cons_succ, List.getElem_cons_zero, List.setIfInBounds_toArray, List.set_cons_zero, List.set_cons_succ])
              refine wpAnyH_take (i := 26) (v := ?_) rfl (by kernel_rfl) (by kernel_rfl) (by kernel_rfl) (fun _ _ _ h => h) (Or.inl ⟨by rfl, ?_⟩) (by assumption) ?_
              rotate_left
              · intro w hSw
                (try dsimp only at hSw)
                go_simp
                try with_reducible rfl
              (try simp only [Act.put, List.getElem_toArray, List.getElem_cons_succ, List.getElem_cons_zero, List.setIfInBounds_toArray, List.set_cons_zero, List.set_cons_succ])
              refine wpAnyH_take (i := 27) (v := ?_) rfl (by kernel_rfl) (by kernel_rfl) (by kernel_rfl) (fun _ _ _ h => h) (Or.inl ⟨by rfl, ?_⟩) (by assumption) ?_
              rotate_left
              · intro w hSw
                (try dsimp only at hSw)
                go_simp
                try with_reducible rfl
              (try simp only [Act.put, List.getElem_toArray, List.getElem_cons_succ, List.getElem_cons_zero, List.setIfInBounds_toArray, List.set_cons_zero, List.set_cons_succ])
              refine wpAnyH_take (i := 28) (v := ?_) rfl (by kernel_rfl) (by kernel_rfl) (by kernel_rfl) (fun _ _ _ h => h) (Or.inl ⟨by rfl, ?_⟩) (by assumption) ?_
              rotate_left
              · intro w hSw
                (try dsimp only at hSw)
                go_simp
                try with_reducible rfl
              (try simp only [Act.put, List.getElem_toArray, List.getElem_cons_succ, List.getElem_cons_zero, List.setIfInBounds_toArray, List.set_cons_zero, List.set_cons_succ])
              refine wpAnyH_take (i := 29) (v := ?_) rfl (by kernel_rfl) (by kernel_rfl) (by kernel_rfl) (fun _ _ _ h => h) (Or.inl ⟨by rfl, ?_⟩) (by assumption) ?_
              rotate_left
              · intro w hSw
                (try dsimp only at hSw)
                go_simp
                try with_reducible rfl
              (try simp only [Act.put, List.getElem_toArray, List.getElem_cons_succ, List.getElem_cons_zero, List.setIfInBounds_toArray, List.set_cons_zero, List.set_cons_succ])
              refine wpAnyH_take (i := 30) (v := ?_) rfl (by kernel_rfl) (by kernel_rfl) (by kernel_rfl) (fun _ _ _ h => h) (Or.inl ⟨by rfl, ?_⟩) (by assumption) ?_
              rotate_left
              · intro w hSw
                (try dsimp only at hSw)
                go_simp
                try with_reducible rfl
              (try simp only [Act.put, List.getElem_toArray, List.getElem_cons_succ, List.getElem_cons_zero, List.setIfInBounds_toArray, List.set_cons_zero, List.set_cons_succ])
              refine wpAnyH_take (i := 31) (v := ?_) rfl (by kernel_rfl) (by kernel_rfl) (by kernel_rfl) (fun _ _ _ h => h) (Or.inl ⟨by rfl, ?_⟩) (by assumption) ?_
              rotate_left
              · intro w hSw
                (try dsimp only at hSw)
                go_simp
                try with_reducible rfl
              (try simp only [Act.put, List.getElem_toArray, List.getElem_cons_succ, List.getElem_cons_zero, List.setIfInBounds_toArray, List.set_cons_zero, List.set_cons_succ])
              refine wpAnyH_take (i := 32) (v := ?_) rfl (by kernel_rfl) (by kernel_rfl) (by kernel_rfl) (fun _ _ _ h => h) (Or.inl ⟨by rfl, ?_⟩) (by assumption) ?_
              rotate_left
              · intro w hSw
                (try dsimp only at hSw)
                go_simp
                try with_reducible rfl
              (try simp only [Act.put, List.getElem_toArray, List.getElem_cons_succ, List.getElem_cons_zero, List.setIfInBounds_toArray, List.set_cons_zero, List.set_cons_succ])
              refine wpAnyH_take (i := 33) (v := ?_) rfl (by kernel_rfl) (by kernel_rfl) (by kernel_rfl) (fun _ _ _ h => h) (Or.inl ⟨by rfl, ?_⟩) (by assumption) ?_
              rotate_left
              · intro w hSw
                (try dsimp only at hSw)
                go_simp
                try with_reducible rfl
              (try simp only [Act.put, List.getElem_toArray, List.getElem_cons_succ, List.getElem_cons_zero, List.setIfInBounds_toArray, List.set_cons_zero, List.set_cons_succ])
              refine wpAnyH_done (by kernel_rfl) ?_ _
              refine NoPanic.normal ?_
              go_wp2
              go_roundw
              case rel => exact ⟨j + 1, F4, (fun q => D q ∨ D4 q), by omega, by go_num, by rw [show max (j + 1) t.toNat = j + 1 by omega, HLL.out]; exact Lib.hid (HJ5.out.over (@Told.keep p lb C) (bself v5).drew)⟩
              case measure => simp [intOf]; omega
          · have hjj : j = L := by omega
            have hjn : ¬ (j : Int) < (d2.items.length : Int) := by have := HLL.out; omega
            rw [HLL.out] at hjn
            clear hjL
            have hn : nextS { d2 with items := d2.items.drop (max j t.toNat) } = ({ d2 with items := d2.items.drop (max j t.toNat) }, noIt, false) := by
              unfold nextS
              dsimp only
              rw [List.drop_eq_nil_of_le (by have := HLL.out; omega)]
            have HC := Lib.hid (next_at p _ _ noIt false F wr HJ.out.it.got.hp.hd hn)
            rw [HLL.out] at HJ
            have a2 := (blk4 HJ.out.it.got.hp.hg).c2
            clear hn
            go_wp2_with fail
            refine HC.out.mono ?_
            rintro e v3 ⟨F4, D4, A4, c4, rfl, hm, _, hD4⟩
            have HJ3 := Lib.hid (HJ.out.hand (@Told.keep p lb C) hm hD4)
            have HB4 := Lib.hid (bmore (bself v3) (.cells #[.int .i64 (noIt.skip : Int), .int .u8 (noIt.kind.toNat : Int), .slice A4 noIt.body.length c4] 42))
            clear hm hD4 HC a2
            go_wp2
            generalize v3.alloc (.cells #[.int .i64 (noIt.skip : Int), .int .u8 (noIt.kind.toNat : Int), .slice A4 noIt.body.length c4] 42) = v4 at HB4 ⊢
            have hlow := HB.out.size
            have hlow2 := HJ3.out.it.low
            refine ⟨by simp, .inl ⟨_, _, rfl, run_takeDeferred ((HB4.out.block w8.heap.size (by have := HJ3.out.it.big; omega)).trans HJ3.out.df), ?_⟩⟩
            exact ⟨_, results_tmp rfl _ _ _, rfl, below_put (bstep (bstep HB.out HJ3.out.it.got.hp.hB) HB4.out) (by omega) _⟩
end Go.Proofs.YtpgainalimmecaaDoor
