/-
  Layer 4: contract of the program's pass.
-/
import Derived.Test.YthnkiabhfcddaaaDoorPackP
import Derived.Test.YthnkiabhfcddaaaDoorFrSize
import Derived.WalkMore
namespace Go.Proofs.YthnkiabhfcddaaaDoor
open Go.RowKit
set_option linter.unusedVariables false

/-- A slice holds the bytes s, in a block of bytes. -/
structure TextAt (w : World) (A : Option Addr) (n c : Nat) (s : List UInt8) : Prop where
  hlen : s.length = n
  hc : n ≤ c
  hn : A = none → c = 0
  hs : 0 < n → ∃ X off cur fr, A = some ⟨X, off, none⟩ ∧ w.heap[X]? = some (Obj.cells cur 5 fr) ∧ ∀ i (h : i < s.length), w.cell? ⟨X, off + i, none⟩ = some (.int .u8 (s[i].toNat : Int))
theorem TextAt.keep {w w' : World} {A : Option Addr} {n c : Nat} {s : List UInt8} (h : TextAt w A n c s) (hb : ∀ (X : Nat) (cur : Array Value) (fr : Nat × Nat), w.heap[X]? = some (Obj.cells cur 5 fr) → w'.heap[X]? = w.heap[X]?) : TextAt w' A n c s := by
  refine ⟨h.hlen, h.hc, h.hn, fun h0 => ?_⟩
  obtain ⟨X, off, cur, fr, e, hX, hcs⟩ := h.hs h0
  have hk := hb X cur fr hX
  exact ⟨X, off, cur, fr, e, hk.trans hX, fun i hi => (World.cell?_of_block (w := w) hk).trans (hcs i hi)⟩
theorem TextAt.over {w w' : World} {A : Option Addr} {n c : Nat} {s : List UInt8} (h : TextAt w A n c s) (hb : Below w.heap.size w w') : TextAt w' A n c s :=
  h.keep fun X cur fr hX => hb.block X (Array.getElem?_eq_some_iff.1 hX).1
theorem TextAt.step {w w' : World} {A : Option Addr} {n c g k k' : Nat} {s : List UInt8} {hv iv iv' : Value} {l l' : List It} {bs bs' : List Value} {ov : Bool} (h : TextAt w A n c s) (hB : Box w g hv k iv l bs ov) (hs : Stepped w g hv iv bs k' l' ov w' iv' bs') : TextAt w' A n c s :=
  h.keep fun X cur fr hX => hs.touch.block X (Array.getElem?_eq_some_iff.1 hX).1 fun e => e.elim (hB.u8_ne hX).1 (hB.u8_ne hX).2
/-- What is behind the first m bytes. -/
theorem TextAt.drop {w : World} {X off n c m : Nat} {s : List UInt8} (h : TextAt w (some ⟨X, off, none⟩) n c s) (hm : m ≤ n) (A' : Option Addr) (hA : A' = some ⟨X, off + m, none⟩ ∨ c = m ∧ A' = some ⟨X, off, none⟩) : TextAt w A' (n - m) (c - m) (s.drop m) := by
  refine ⟨by rw [List.length_drop, h.hlen], by have := h.hc; omega, fun e => ?_, fun h0 => ?_⟩
  · rcases hA with rfl | ⟨_, rfl⟩ <;> cases e
  · obtain ⟨X2, off2, cur, fr, e, hX, hcs⟩ := h.hs (by omega)
    simp only [Option.some.injEq, Addr.mk.injEq] at e
    obtain ⟨rfl, rfl, _⟩ := e
    rcases hA with rfl | ⟨h1, _⟩
    · refine ⟨X, off + m, cur, fr, rfl, hX, fun i hi => ?_⟩
      rw [List.length_drop] at hi
      rw [Nat.add_assoc, hcs (m + i) (by omega), List.getElem_drop]
    · have := h.hc
      omega
def slLen (v : Value) : Nat := match v with | .slice _ n _ => n | _ => 0
/-- Where pass stands. -/
structure PassP (W w wr : World) (g : Nat) (hv iv0 : Value) (bs0 : List Value) (ov : Bool) (s0 : List UInt8) (k0 : Nat) (l0 : List It) (A : Option Addr) (n c : Nat) (s : List UInt8) (k : Nat) (l : List It) (iv : Value) (bs : List Value) : Prop where
  text : TextAt wr A n c s
  step : Stepped w g hv iv0 bs0 k l ov wr iv bs
  hW : Below W.heap.size W wr
  hg : W.heap.size ≤ g
  hi : ∀ j, iv.ownBlock = some j → W.heap.size ≤ j
  hQ : (passF ov s0 k0).1 = (passF ov s k).1 ∧ (passF ov s0 k0).2.1 = (passF ov s k).2.1 ∧ l0 ++ (passF ov s0 k0).2.2 = l ++ (passF ov s k).2.2
  hn : k + s.length ≤ k0 + s0.length ∧ l.length + 2 * s.length ≤ l0.length + 2 * s0.length ∧ s.length ≤ s0.length
  hm : s0.length ≤ 100000 ∧ k0 ≤ 100000 ∧ l0.length ≤ 100000
section
variable {W w wr : World} {g : Nat} {hv iv0 iv : Value} {bs0 bs : List Value} {ov : Bool} {s0 s : List UInt8} {k0 k : Nat} {l0 l : List It} {A : Option Addr} {n c : Nat}
theorem PassP.over (h : PassP W w wr g hv iv0 bs0 ov s0 k0 l0 A n c s k l iv bs) {w' : World} (hb : Below wr.heap.size wr w') : PassP W w w' g hv iv0 bs0 ov s0 k0 l0 A n c s k l iv bs :=
  ⟨h.text.over hb, ⟨h.step.box.over hb, h.step.touch.trans (Touch.of_below (F := fun _ => False) hb) (fun j hj => hj.elim), h.step.at_, h.step.new_⟩, bstep h.hW hb, h.hg, h.hi, h.hQ, h.hn, h.hm⟩
/-- A byte is skipped. -/
theorem PassP.skip {X off : Nat} {ch : UInt8} {r : List UInt8} (h : PassP W w wr g hv iv0 bs0 ov s0 k0 l0 (some ⟨X, off, none⟩) n c (ch :: r) k l iv bs) (hst : passF ov (ch :: r) k = passF ov r (k + 1)) (z : Int) (hz : z = ((k + 1 : Nat) : Int)) (A' : Option Addr) (hA : A' = some ⟨X, off + 1, none⟩ ∨ c = 1 ∧ A' = some ⟨X, off, none⟩) :
    PassP W w (wr.setCell ⟨g, 1, none⟩ (.int .i64 z)) g hv iv0 bs0 ov s0 k0 l0 A' (n - 1) (c - 1) r (k + 1) l iv bs := by
  subst hz
  have hq := h.hQ
  rw [hst] at hq
  have hn := h.hn
  simp only [List.length_cons] at hn
  have hnn : n = r.length + 1 := h.text.hlen.symm
  have hT : Touch (fun j => j = g) wr (wr.setCell ⟨g, 1, none⟩ (.int .i64 ((k + 1 : Nat) : Int))) := (Touch.refl (fun j => j = g) wr).set (p := ⟨g, 1, none⟩) (.inl rfl) _
  refine ⟨?_, ⟨h.step.box.set_ 1 _ hv (k + 1) iv ov rfl h.step.box.hi, h.step.touch.trans hT (fun j hj => .inl (.inl hj)), h.step.at_, h.step.new_⟩, h.hW.setCell h.hg _, h.hg, h.hi, hq, by omega, h.hm⟩
  exact (h.text.drop (m := 1) (by omega) A' hA).keep fun X cur fr hX => hT.block X (Array.getElem?_eq_some_iff.1 hX).1 (h.step.box.u8_ne hX).1
/-- A frame is found. -/
theorem PassP.framed {X off m : Nat} {ch : UInt8} {r : List UInt8} {w2 : World} {iv2 : Value} {bs2 : List Value} (h : PassP W w wr g hv iv0 bs0 ov s0 k0 l0 (some ⟨X, off, none⟩) n c (ch :: r) k l iv bs)
    (hst : passF ov (ch :: r) k = ((passF ov (r.drop (m + 6)) 0).1, (passF ov (r.drop (m + 6)) 0).2.1, skipI k ++ ⟨0, kindF (ch :: r), bodyF (ch :: r) m⟩ :: (passF ov (r.drop (m + 6)) 0).2.2)) (hr : m + 6 ≤ r.length)
    {lm : List It} (hlm : l ++ skipI k = lm) (hs : Stepped wr g hv iv bs 0 (lm ++ [⟨0, kindF (ch :: r), bodyF (ch :: r) m⟩]) ov w2 iv2 bs2) (A' : Option Addr) (hA : A' = some ⟨X, off + (m + 7), none⟩ ∨ c = m + 7 ∧ A' = some ⟨X, off, none⟩) :
    PassP W w w2 g hv iv0 bs0 ov s0 k0 l0 A' (n - (m + 7)) (c - (m + 7)) (r.drop (m + 6)) 0 (l ++ skipI k ++ [⟨0, kindF (ch :: r), bodyF (ch :: r) m⟩]) iv2 bs2 := by
  subst hlm
  have hq := h.hQ
  rw [hst] at hq
  dsimp only at hq
  have hn := h.hn
  have hsl := skipI_length k
  simp only [List.length_cons] at hn
  have hnn : n = r.length + 1 := h.text.hlen.symm
  have ht := (h.text.drop (m := m + 7) (by omega) A' hA).step h.step.box hs
  rw [show (ch :: r).drop (m + 7) = r.drop (m + 6) from rfl] at ht
  refine ⟨ht, h.step.trans hs, h.hW.trans (hs.touch.below (fun j hj => hj.elim (fun e => e ▸ h.hg) (h.hi j)) h.hW.size), h.hg, fun j hj => (hs.at_ j hj).elim (h.hi j) fun q => Nat.le_trans h.hW.size q, ⟨hq.1, hq.2.1, ?_⟩, ?_, h.hm⟩
  · rw [hq.2.2]; simp
  · simp only [List.length_append, List.length_drop, List.length_cons, List.length_nil]
    omega
/-- What pass leaves. -/
def PassPDid (g : Nat) (hv iv0 : Value) (bs0 : List Value) (ov : Bool) (s0 : List UInt8) (k0 : Nat) (l0 : List It) (w : World) (e : Ending) (w' : World) : Prop := ∃ A n c iv bs, e = .returned (.slice A n c) ∧ TextAt w' A n c (passF ov s0 k0).1 ∧ Stepped w g hv iv0 bs0 (passF ov s0 k0).2.1 (l0 ++ (passF ov s0 k0).2.2) ov w' iv bs
theorem PassP.ends (h : PassP W w wr g hv iv0 bs0 ov s0 k0 l0 A n c s k l iv bs) (hst : passF ov s k = (s, k, [])) : PassPDid g hv iv0 bs0 ov s0 k0 l0 w (.returned (.slice A n c)) wr := by
  obtain ⟨q1, q2, q3⟩ := h.hQ
  rw [hst] at q1 q2 q3
  dsimp only at q1 q2 q3
  rw [List.append_nil] at q3
  refine ⟨A, n, c, iv, bs, rfl, by rw [q1]; exact h.text, ?_⟩
  rw [q2, q3]
  exact h.step
end

theorem if_addr (c m : Nat) (a b : Option Addr) : (if c = m then a else b) = b ∨ c = m ∧ (if c = m then a else b) = a := by
  by_cases h : c = m
  · exact .inr ⟨h, if_pos h⟩
  · exact .inl (if_neg h)
theorem body_get (s : List UInt8) (m i : Nat) (h : i < (bodyF s m).length) (h2 : 4 + i < s.length) (h3 : i < m) : (bodyF s m)[i]'h = s[4 + i]'h2 := by
  have e : (bodyF s m)[i]? = s[4 + i]? := by
    unfold bodyF
    rw [List.getElem?_take, if_pos h3, List.getElem?_drop]
  rw [List.getElem?_eq_getElem h, List.getElem?_eq_getElem h2] at e
  injection e
theorem PassP.found {W w wr : World} {g : Nat} {hv iv0 iv : Value} {bs0 bs : List Value} {ov : Bool} {s0 r : List UInt8} {ch : UInt8} {k0 k X off n c m : Nat} {l0 l lm : List It} (h : PassP W w wr g hv iv0 bs0 ov s0 k0 l0 (some ⟨X, off, none⟩) n c (ch :: r) k l iv bs)
    (hf : ch = 165 ∧ m = lenF r ∧ m ≤ 256 ∧ m + 6 ≤ r.length ∧ fitsC (r.take (m + 6)) = true) (hl : l.length ≤ 1000000) (hlm : l ++ skipI k = lm) :
    Calls Tryd.prog 77 #[.pointer (some ⟨g, 0, none⟩), .slice (some ⟨X, off, none⟩) (m + 7) c] wr (FoundDid g hv iv bs ov lm (kindF (ch :: r)) (bodyF (ch :: r) m) wr) := by
  have hr := hf.2.2.2.1
  have hn : r.length + 1 = n := h.text.hlen
  obtain ⟨X2, off2, cur, fr, e, hX, hcs⟩ := h.text.hs (by omega)
  simp only [Option.some.injEq, Addr.mk.injEq] at e
  obtain ⟨rfl, rfl, _⟩ := e
  have hb : (bodyF (ch :: r) m).length = m := by unfold bodyF; rw [List.length_take, List.length_drop, List.length_cons]; omega
  have hk : kindF (ch :: r) = (ch :: r)[1]'(by rw [List.length_cons]; omega) := by
    unfold kindF
    rw [List.getD, List.getElem?_eq_getElem (show 1 < (ch :: r).length by rw [List.length_cons]; omega)]
    rfl
  refine found_any g k X off c m hv iv l bs ov _ _ wr h.step.box hl lm hlm ⟨cur, fr, hX⟩ hb (by omega) (by have := h.text.hc; omega) ?_ fun i hi => ?_
  · rw [hk]
    exact hcs 1 (by rw [List.length_cons]; omega)
  · have hi2 : i < m := by rw [← hb]; exact hi
    rw [Nat.add_assoc, hcs (4 + i) (by rw [List.length_cons]; omega)]
    rw [body_get (ch :: r) m i hi (by rw [List.length_cons]; omega) hi2]

theorem fsize_n (W : World) (hT : Tabs W) (X off n c : Nat) (s : List UInt8) (w : World) (hW : Below W.heap.size W w) (hX : X < w.heap.size) (hc : ∀ i (h : i < s.length), w.cell? ⟨X, off + i, none⟩ = some (.int .u8 (s[i].toNat : Int))) (hn : s.length = n) (hs : 0 < n) (hlc : n ≤ c) (hl : s.length ≤ 900000) :
    Calls Tryd.prog 76 #[.slice (some ⟨X, off, none⟩) n c] w fun e w' => ∃ z, e = .returned (.int .i64 z) ∧ SzDid s z ∧ Below w.heap.size w w' := by
  subst hn
  exact fsize_any W hT X off c s w hW hX hc hs hlc hl

set_option maxRecDepth 100000 in
set_option maxHeartbeats 1000000 in
theorem pass_any (W : World) (hT : Tabs W) (g : Nat) (hv iv0 : Value) (bs0 : List Value) (ov : Bool) (A0 : Option Addr) (n0 c0 : Nat) (s0 : List UInt8) (k0 : Nat) (l0 : List It) (w : World) (hW : Below W.heap.size W w) (hg : W.heap.size ≤ g) (hi : ∀ j, iv0.ownBlock = some j → W.heap.size ≤ j)
    (hB : Box w g hv k0 iv0 l0 bs0 ov) (ht : TextAt w A0 n0 c0 s0) (hm : s0.length ≤ 100000 ∧ k0 ≤ 100000 ∧ l0.length ≤ 100000) :
    Calls Tryd.prog 65 #[.pointer (some ⟨g, 0, none⟩), .slice A0 n0 c0] w (PassPDid g hv iv0 bs0 ov s0 k0 l0 w) := by
  have HP0 : Hid (PassP W w w g hv iv0 bs0 ov s0 k0 l0 A0 n0 c0 s0 k0 l0 iv0 bs0) := Lib.hid ⟨ht, Stepped.refl hB, hW, hg, hi, ⟨rfl, rfl, rfl⟩, ⟨Nat.le_refl _, Nat.le_refl _, Nat.le_refl _⟩, hm⟩
  have HT := Lib.hid hT
  clear hT hW hg hi hB ht hm
  go_enter Tryd.func65, Tryd.ntmps65
  go_wp2; go_step3; go_wp2; go_step3; go_wp2
  go_loopw [1] (fun b wr => ∃ A n c s k l iv bs, b = .slice A n c ∧ Hid (PassP W w wr g hv iv0 bs0 ov s0 k0 l0 A n c s k l iv bs)) (fun b _ => slLen b)
  case atStart => exact ⟨A0, n0, c0, s0, k0, l0, iv0, bs0, rfl, HP0⟩
  case round =>
    obtain ⟨A, n, c, s, k, l, iv, bs, rfl, HP⟩ := hrel
    cases s with
    | nil =>
      obtain rfl : n = 0 := HP.out.text.hlen.symm
      go_wp2
      go_ret
      exact HP.out.ends (pass_nil ov k)
    | cons ch r =>
      have hn0 : 0 < n := by rw [← HP.out.text.hlen]; simp
      obtain ⟨X, off, cur, fr, rfl, hX, hcs⟩ := HP.out.text.hs hn0
      have hnc := HP.out.text.hc
      have hsm : (ch :: r).length ≤ 100000 := Nat.le_trans HP.out.hn.2.2 HP.out.hm.1
      have HSZ := Lib.hid (fsize_n W HT.out X off n c (ch :: r) wr HP.out.hW (Array.getElem?_eq_some_iff.1 hX).1 hcs HP.out.text.hlen hn0 hnc (by omega))
      have h0 : (0 : Int) < (n : Int) := by omega
      have hk : (k : Int) ≤ 200000 := by have := HP.out.hn; have := HP.out.hm; omega
      have HL := Lib.hid (show l.length ≤ 1000000 by have := HP.out.hn; have := HP.out.hm; omega)
      obtain ⟨a0, a1, a2, a3, f0, f1, f2, f3⟩ := HP.out.step.box.blk
      unfold SzDid at HSZ
      have k5 : IntKind.i64.wrap ((k : Int) + 1) = (k : Int) + 1 := IntWalk.i64_in _ (by omega)
      have h1 : (1 : Int) ≤ (n : Int) := by omega
      have h2 : (n : Int) ≤ (c : Int) := by omega
      have h3 : 1 ≤ n := by omega
      cases hz : szF (ch :: r) with
      | no =>
        rw [hz] at HSZ
        have HE := Lib.hid (pass_no (ov := ov) (k := k) hz)
        clear hz hsm hcs hX
        go_wp2_with (go_at_call 76; (with_reducible refine HSZ.out.mono ?_); rintro e w1 ⟨z, rfl, rfl, hb⟩; have HP1 := Lib.hid (HP.out.over hb); clear hb a0 a1 a2 a3 f0 f1 f2 f3; obtain ⟨a0, a1, a2, a3, f0, f1, f2, f3⟩ := HP1.out.step.box.blk)
        go_roundw
        case rel => exact ⟨_, _, _, _, _, _, _, _, rfl, Lib.hid (HP1.out.skip HE.out _ (by omega) _ (if_addr c 1 _ _))⟩
        case measure => simp [slLen]; omega
      | wait =>
        rw [hz] at HSZ
        have HN := Lib.hid HP.out.text.hlen
        cases ov with
        | false =>
          have HE := Lib.hid (pass_wait (k := k) hz)
          clear hz hsm hcs hX
          go_wp2_with (go_at_call 76; (with_reducible refine HSZ.out.mono ?_); rintro e w1 ⟨z, rfl, hzz, hb⟩; have HP1 := Lib.hid (HP.out.over hb); have hz1 : (n : Int) < z := by { have := HN.out; omega }; clear hb hzz a0 a1 a2 a3 f0 f1 f2 f3; obtain ⟨a0, a1, a2, a3, f0, f1, f2, f3⟩ := HP1.out.step.box.blk)
          go_ret
          exact HP1.out.ends HE.out
        | true =>
          have HE := Lib.hid (pass_over (k := k) hz)
          clear hz hsm hcs hX
          go_wp2_with (go_at_call 76; (with_reducible refine HSZ.out.mono ?_); rintro e w1 ⟨z, rfl, hzz, hb⟩; have HP1 := Lib.hid (HP.out.over hb); have hz1 : (n : Int) < z := by { have := HN.out; omega }; have hz2 : (z == 0) = false := by { rw [beq_eq_false_iff_ne]; omega }; clear hb hzz a0 a1 a2 a3 f0 f1 f2 f3; obtain ⟨a0, a1, a2, a3, f0, f1, f2, f3⟩ := HP1.out.step.box.blk)
          go_roundw
          case rel => exact ⟨_, _, _, _, _, _, _, _, rfl, Lib.hid (HP1.out.skip HE.out _ (by omega) _ (if_addr c 1 _ _))⟩
          case measure => simp [slLen]; omega
      | frame m =>
        rw [hz] at HSZ
        have hf := sz_frame hz
        have HF := Lib.hid hf
        have HE := Lib.hid (pass_frame (ov := ov) (k := k) hz)
        obtain ⟨lm, hlm⟩ : ∃ lm, l ++ skipI k = lm := ⟨_, rfl⟩
        have HLM := Lib.hid hlm
        have hmn : m + 7 ≤ n := by have q := HP.out.text.hlen; rw [List.length_cons] at q; have := hf.2.2.2.1; omega
        have m1 : ¬ ((m : Int) + 7 > (n : Int)) := by omega
        have m2 : ((m : Int) + 7 == 0) = false := by rw [beq_eq_false_iff_ne]; omega
        have m3 : (0 : Int) ≤ (m : Int) + 7 := by omega
        have m4 : (m : Int) + 7 ≤ (c : Int) := by omega
        have m5 : ((m : Int) + 7).toNat = m + 7 := by omega
        have m6 : (m : Int) + 7 ≤ (n : Int) := by omega
        have m7 : m + 7 ≤ c := by omega
        clear hz hsm hcs hX hf hlm
        go_wp2_with (first
          | (go_at_call 76; (with_reducible refine HSZ.out.mono ?_); rintro e w1 ⟨z, rfl, rfl, hb⟩; have HP1 := Lib.hid (HP.out.over hb); clear hb a0 a1 a2 a3 f0 f1 f2 f3; obtain ⟨a0, a1, a2, a3, f0, f1, f2, f3⟩ := HP1.out.step.box.blk; have HFD := Lib.hid (HP1.out.found HF.out HL.out HLM.out))
          | (go_at_call 77; (with_reducible refine HFD.out.mono ?_); rintro e w2 ⟨iv2, bs2, rfl, hs⟩; have HS := Lib.hid hs; clear hs))
        go_roundw
        case rel => exact ⟨_, _, _, _, _, _, _, _, rfl, Lib.hid (HP1.out.framed HE.out HF.out.2.2.2.1 HLM.out HS.out _ (if_addr c (m + 7) _ _))⟩
        case measure => simp [slLen]; omega
end Go.Proofs.YthnkiabhfcddaaaDoor
