/-
  The walk of layer 4's law's 'all'.
-/
import Derived.Test.YtpgainalimmecaaDoorAll
namespace Go.Proofs.YtpgainalimmecaaDoor
open Go.RowKit
set_option linter.unusedVariables false

/-- Where all's first loop stands. -/
structure GaveAt (w wr : World) (p : Value) (ls : List (List UInt8)) (F : Nat → Prop) : Prop where
  d : Dec wr p (giveAll ls) F
  f : ∀ k, F k → w.heap.size ≤ k
  b : Below w.heap.size w wr
theorem GaveAt.step {w wr w1 : World} {p : Value} {ls : List (List UInt8)} {F F' : Nat → Prop} {b : List UInt8} {ls' : List (List UInt8)} (h : GaveAt w wr p ls F) (hm : Moved wr p (giveS (giveAll ls) b) F w1 F') (he : ls' = ls ++ [b]) : GaveAt w w1 p ls' F' := by
  subst he
  obtain ⟨h1, h2, h3⟩ := h
  refine ⟨(giveAll_snoc ls b).symm ▸ hm.1, fun k hk => (hm.2.2 k hk).elim (h2 k) (fun q => Nat.le_trans h3.size q), h3.trans (hm.2.1.below h2 h3.size)⟩
/-- How the second loop goes on. -/
def Rest (L done : List It) (d : DS) (ok : Bool) (x : It) : Prop := L = done ++ (if ok = true then x :: d.items else []) ∧ (ok = false → d.items = [])
theorem Rest.first {L : List It} {d : DS} (h : d.items = L) : Rest L [] (nextS d).1 (nextS d).2.2 (nextS d).2.1 := by
  subst h
  unfold nextS Rest
  cases hi : d.items <;> simp_all
theorem Rest.step {L done : List It} {d : DS} {x : It} (h : Rest L done d true x) : Rest L (done ++ [x]) (nextS d).1 (nextS d).2.2 (nextS d).2.1 := by
  obtain ⟨h1, _⟩ := h
  subst h1
  unfold nextS Rest
  cases hi : d.items <;> simp_all

set_option maxRecDepth 100000 in
set_option maxHeartbeats 2000000 in
theorem all_any (W : World) (hT : Tabs W) (v : Value) (ls : List (List UInt8)) (w : World) (hW : Below W.heap.size W w) (hv : Blobs w w.heap.size v ls) (hn : lenB ls ≤ 20000) (hl : ls.length ≤ 100000) :
    Calls Tryd.prog 25 #[v] w (AllDid (allI ls.flatten) w) := by
  obtain ⟨A, c, rfl, _⟩ := hv.open_
  have HT := Lib.hid hT
  have HW := Lib.hid hW
  have HV := Lib.hid hv
  have HN := Lib.hid hn
  have HL := Lib.hid hl
  clear hT hW hv hn hl
  go_enter Tryd.func25, Tryd.ntmps25
  go_wp2_with (go_at_call 14; ((with_reducible refine (new_any _).mono ?_); rintro e w0 ⟨p, F, rfl, hd, hF, hb⟩; have HG := Lib.hid (show GaveAt w w0 p [] F from ⟨hd, hF, hb⟩); clear hd hF hb))
  go_loopw [4, 5] (fun n i wr => ∃ k : Nat, k ≤ ls.length ∧ i = .int .i64 k ∧ n = .int .i64 (2 + (lenB (ls.take k) : Nat)) ∧ ∃ F, Hid (GaveAt w wr p (ls.take k) F)) (fun _ i _ => ls.length - (intOf i).toNat)
  case atStart => exact ⟨0, Nat.zero_le _, rfl, rfl, F, HG⟩
  case round =>
    obtain ⟨k, hk, rfl, rfl, F, HG⟩ := hrel
    have hkl : (k : Int) ≤ 100000 := by have := HL.out; omega
    have hlen : (lenB (ls.take k) : Int) ≤ 20000 := by have := HN.out; have := lenB_le ls k; omega
    by_cases hlt : k < ls.length
    · obtain ⟨b, off, c', A', m, e, hS⟩ := HV.out.in_ k hlt
      simp only [Value.slice.injEq] at e
      obtain ⟨rfl, _, rfl⟩ := e
      have HS := Lib.hid hS
      have HX := Lib.hid (lenB_take ls k hlt)
      have HY := Lib.hid (show ls.take (k + 1) = ls.take k ++ [ls[k]] from List.take_succ_eq_append_getElem hlt)
      have HZ := Lib.hid (show (giveAll (ls.take k)).wait.length + ls[k].length ≤ 100000 ∧ (giveAll (ls.take k)).skip ≤ 100000 ∧ (giveAll (ls.take k)).items.length ≤ 100000 by have := giveAll_small (ls.take k); have := lenB_mem ls ls[k] (List.getElem_mem hlt); have := HN.out; omega)
      have HM := Lib.hid (lenB_mem ls ls[k] (List.getElem_mem hlt))
      generalize ls[k] = x at HS HX HY HZ HM
      clear hS
      have hx : (x.length : Int) ≤ 20000 := by have := HM.out; have := HN.out; omega
      obtain ⟨s0, _⟩ := HS.out wr HG.out.b
      have HC := Lib.hid (give_any W HT.out p (giveAll (ls.take k)) F A' m x wr (bstep HW.out HG.out.b) (fun k hk => Nat.le_trans HW.out.size (HG.out.f k hk)) HG.out.d (fun k => k < w.heap.size) (HS.out wr HG.out.b).2.1 (fun k hk => ⟨Nat.lt_of_lt_of_le hk HG.out.b.size, fun f => Nat.lt_irrefl _ (Nat.lt_of_lt_of_le hk (HG.out.f k f))⟩) HZ.out)
      go_wp2_with (go_at_call 15; ((with_reducible refine HC.out.mono ?_); rintro e w1 ⟨F1, rfl, hm⟩; have HG1 := Lib.hid (HG.out.step hm HY.out); clear hm s0; obtain ⟨s0, _⟩ := HS.out w1 HG1.out.b))
      go_roundw
      case rel => exact ⟨k + 1, by omega, by go_num, by rw [HX.out]; go_num, F1, HG1⟩
      case measure => simp [intOf]; omega
    · obtain rfl : k = ls.length := by omega
      rw [List.take_length] at HG hlen
      have HZ := Lib.hid (show (giveAll ls).wait.length ≤ 100000 ∧ (giveAll ls).skip ≤ 100000 ∧ (giveAll ls).items.length ≤ 100000 by have := giveAll_small ls; have := HN.out; omega)
      have HC := Lib.hid (fend_any W HT.out p (giveAll ls) F wr (bstep HW.out HG.out.b) (fun k hk => Nat.le_trans HW.out.size (HG.out.f k hk)) HG.out.d HZ.out)
      have HI := Lib.hid (end_all ls)
      have HJ := Lib.hid (show (allI ls.flatten).length ≤ lenB ls by rw [← lenB_flatten]; exact all_len _)
      obtain ⟨L, HLL⟩ : ∃ L, Hid (allI ls.flatten = L) := ⟨_, Lib.hid rfl⟩
      rw [HLL.out] at HI HJ
      generalize endS (giveAll ls) = d0 at HC HI
      obtain ⟨d1, x1, ok1, hn1⟩ : ∃ d' x ok, nextS d0 = (d', x, ok) := ⟨_, _, _, rfl⟩
      have HR := Lib.hid (Rest.first HI.out)
      rw [hn1] at HR
      have HN1 := Lib.hid hn1
      clear hn1
      go_wp2_with (first
        | (go_at_call 19; ((with_reducible refine HC.out.mono ?_); rintro e w1 ⟨F1, rfl, hm⟩; have HD1 := Lib.hid hm.1; have HF1 := Lib.hid (show ∀ k, F1 k → w.heap.size ≤ k from fun k hk => (hm.2.2 k hk).elim (HG.out.f k) (fun q => Nat.le_trans HG.out.b.size q)); have HB1 := Lib.hid (HG.out.b.trans (hm.2.1.below HG.out.f HG.out.b.size)); have HC1 := Lib.hid (next_at p d0 d1 x1 ok1 F1 w1 HD1.out HN1.out); clear hm))
        | (go_at_call 17; ((with_reducible refine HC1.out.mono ?_); rintro e w2 ⟨F2, D2, A2, c2, rfl, hm, hl, hD⟩; have HA := Lib.hid (AllAt.first HF1.out HB1.out hm hl hD); clear hm hl hD)))
      go_loopw [6, 8, 9] (fun o s i wr => ∃ (k : Nat) (ok : Bool) (d : DS) (F D : Nat → Prop) (done : List It) (bs : List Value) (x : It) (A : Option Addr) (c : Nat), i = .int .i64 k ∧ s = .bool ok ∧ done.length = k ∧ Hid (AllAt w wr p d F D o done bs w2.heap.size x (.slice A x.body.length c)) ∧ Hid (Rest L done d ok x)) (fun _ _ i _ => L.length - (intOf i).toNat)
      case atStart => exact ⟨0, ok1, d1, F2, D2, [], [], x1, A2, c2, rfl, rfl, rfl, HA, HR⟩
      case round =>
        obtain ⟨k, ok, d, F, D, done, bs, x, A3, c3, rfl, rfl, hk, HA, HR⟩ := hrel
        have hkl : done.length ≤ L.length := by rw [HR.out.1]; simp
        have hk1 : (k : Int) < 2 + (lenB ls : Nat) := by have := HJ.out; omega
        have hk2 : (k : Int) ≤ 100000 := by have := HJ.out; omega
        cases ok with
        | true =>
          have hk3 : k < L.length := by rw [HR.out.1, ← hk]; simp
          have HK := Lib.hid hk
          clear hk
          obtain ⟨d2, x2, ok2, hn2⟩ : ∃ d' x ok, nextS d = (d', x, ok) := ⟨_, _, _, rfl⟩
          have HR2 := Lib.hid HR.out.step
          rw [hn2] at HR2
          have HN2 := Lib.hid hn2
          clear hn2
          obtain ⟨a0, a1, a2, _, _, _⟩ := blk3 HA.out.hx
          go_wp2_with (first
            | (at_builtin; refine wp_app_seq rfl (.tmp 45) (.tmp 47) 52 42 _ 3 40 Tryd.underlying52 info_F rfl (by omega) rfl w.heap.size u6 (.slice (some ⟨wr.heap.size, 0, none⟩) 1 1) done.length 1 (cellsF done bs) (cellsF [x] [.slice A3 x.body.length c3]) rfl rfl (ownsRow_over HA.out.ho (bmore (bself wr) _)) (Seq.lit_ wr [.int .i64 (x.skip : Int), .int .u8 (x.kind.toNat : Int), .slice A3 x.body.length c3] _) (item_lit _ _ _ _) (by have := HJ.out; omega) (Nat.le_trans HA.out.hB.size (by simp)) ?_; intro o1 w3 hg; have HP := Lib.hid (HA.out.push hg); clear hg a0 a1 a2; obtain ⟨a0, a1, a2, f0, f1, f2⟩ := blk3 HP.out.hx; have HC2 := Lib.hid (next_at p d d2 x2 ok2 F w3 HP.out.hd HN2.out))
            | (go_at_call 17; ((with_reducible refine HC2.out.mono ?_); rintro e w4 ⟨F4, D4, A4, c4, rfl, hm, hl, hD⟩; have hx0 := HP.out.next hm hl hD; unfold set3 at hx0; have HX := Lib.hid hx0; clear hx0; clear a0 a1 a2 f0 f1 f2; obtain ⟨a0, a1, a2, f0, f1, f2⟩ := blk3 ((hm.2.1.block _ HP.out.lt HP.out.hxg.2.1).trans HP.out.hx); clear hm hl hD)))
          go_roundw
          case rel => exact ⟨k + 1, ok2, d2, F4, (fun k => D k ∨ D4 k), done ++ [x], (bs ++ [Value.slice A3 x.body.length c3] : List Value), x2, A4, c4, by go_num, rfl, by rw [List.length_append, HK.out]; rfl, Lib.hid HX.out, HR2⟩
          case measure => simp [intOf]; omega
        | false =>
          have hd : L = done := by rw [HR.out.1]; simp
          obtain ⟨A5, c5, e5, hc5, hs5, hb5⟩ := HA.out.done_
          subst e5
          have HS := Lib.hid (show AllDid (allI ls.flatten) w (.returned (.slice A5 done.length c5)) wr by rw [HLL.out, hd]; exact ⟨A5, c5, rfl, hs5, hc5, hb5⟩)
          clear hd hc5 hs5 hb5 hk
          go_wp2
          go_ret
          exact HS.out
end Go.Proofs.YtpgainalimmecaaDoor
