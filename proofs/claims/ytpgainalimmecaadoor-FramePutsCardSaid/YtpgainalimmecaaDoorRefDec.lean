/-
  Contracts of layer 4's reference: Give, End, Next; a decoder's state.
-/
import Derived.Test.YtpgainalimmecaaDoorRefPass
import Derived.Test.YtpgainalimmecaaDoorFrameLaws
namespace Go.Proofs.YtpgainalimmecaaDoor
open Go.RowKit
set_option linter.unusedVariables false

/-- A decoder's state: what waits, how many were skipped since the last frame, the items that weren't told, whether no more comes. -/
structure DS where
  wait : List UInt8
  skip : Nat
  items : List It
  over : Bool
def newS : DS := ⟨[], 0, [], false⟩
def giveS (d : DS) (b : List UInt8) : DS := if d.over = true then d else ⟨(passF false (d.wait ++ b) d.skip).1, (passF false (d.wait ++ b) d.skip).2.1, d.items ++ (passF false (d.wait ++ b) d.skip).2.2, false⟩
def endS (d : DS) : DS := if d.over = true then d else ⟨(passF true d.wait d.skip).1, 0, d.items ++ (passF true d.wait d.skip).2.2 ++ skipI (passF true d.wait d.skip).2.1, true⟩
def noIt : It := ⟨0, 0, []⟩
def nextS (d : DS) : DS × It × Bool := match d.items with | [] => (d, noIt, false) | x :: l => ({ d with items := l }, x, true)
/-- How large a state is at most. -/
def DS.small (d : DS) (n : Nat) : Prop := d.wait.length ≤ n ∧ d.skip ≤ n ∧ d.items.length ≤ n
/-- The value v is a reference's decoder in state d. -/
def DVal (w : World) (B : Nat) (v : Value) (d : DS) : Prop := ∃ A n c, v = .agg #[.string (mkB d.wait), .int .i64 (d.skip : Int), .slice A n c, .bool d.over] ∧ SeqI w B (.slice A n c) d.items
/-- A call's answer is a reference's decoder in state d. -/
def DDid (d : DS) (v0 : Value) (w : World) (e : Ending) (w' : World) : Prop := ∃ A n c, e = .returned (.agg #[.string (mkB d.wait), .int .i64 (d.skip : Int), .slice A n c, .bool d.over]) ∧ SeqI w' w'.heap.size (.slice A n c) d.items ∧ From v0 (.slice A n c) w.heap.size ∧ Below w.heap.size w w'

theorem rpass_at (s0 : List UInt8) (k0 : Nat) (v0 : Value) (l0 : List It) (ov : Bool) (w : World) (hm : s0.length ≤ 100000 ∧ k0 ≤ 100000 ∧ l0.length ≤ 100000) (hv : SeqI w w.heap.size v0 l0) (d : DS) (hd : d = ⟨(passF ov s0 k0).1, (passF ov s0 k0).2.1, l0 ++ (passF ov s0 k0).2.2, ov⟩) :
    Calls Tryd.prog 33 #[.agg #[.string (mkB s0), .int .i64 (k0 : Int), v0, .bool ov]] w (DDid d v0 w) := by
  subst hd
  refine (rpass_any (mkB s0) s0 k0 v0 l0 ov w rfl hm hv).mono fun e w' h => ?_
  obtain ⟨v', rfl, h1, h2, h3⟩ := h
  obtain ⟨A, n, c, rfl⟩ := seq_slice h1
  exact ⟨A, n, c, rfl, h1, h2, h3⟩

theorem give_end {w w1 w2 : World} {v : Value} {l : List It} {A : Option Addr} {n c : Nat} {d : DS} (hv : SeqI w w.heap.size v l) (hs : SeqI w1 w1.heap.size (.slice A n c) d.items) (hf : From v (.slice A n c) w2.heap.size) (hW : Below w.heap.size w w1) (hz : w2.heap.size = w.heap.size + 2) {a0 a1 a2 a3 : Value} :
    DDid d v w (.returned (.agg #[.string (mkB d.wait), .int .i64 (d.skip : Int), .slice A n c, .bool d.over])) (set4 w1 (w.heap.size + 1) a0 a1 a2 a3) := by
  have hx : ∀ b, (Value.slice A n c).ownBlock = some b → v.ownBlock = some b ∧ b < w.heap.size ∨ w.heap.size + 2 ≤ b := fun b hb => (hf b hb).elim (fun x => .inl ⟨x, hv.old b x⟩) (fun x => .inr (by omega))
  refine ⟨A, n, c, rfl, ?_, fun b hb => (hx b hb).elim (fun x => .inl x.1) (fun x => .inr (by omega)), set4_below hW (by omega) _ _ _ _⟩
  rw [set4_size]
  exact hs.keep_ fun b hb => set4_far _ _ _ _ _ _ _ (by have := hx b hb; omega)

set_option maxRecDepth 100000 in
theorem rgive_over (a b : List UInt8) (k : Nat) (A : Option Addr) (n c : Nat) (l : List It) (w : World) (hv : SeqI w w.heap.size (.slice A n c) l) :
    Calls Tryd.prog 16 #[.agg #[.string (mkB a), .int .i64 (k : Int), .slice A n c, .bool true], .string (mkB b)] w (DDid ⟨a, k, l, true⟩ (.slice A n c) w) := by
  have HV := Lib.hid hv
  clear hv
  go_enter Tryd.func16, Tryd.ntmps16
  go_wp2
  refine bodyPost_ret (v := .agg #[.string (mkB a), .int .i64 (k : Int), .slice A n c, .bool true]) (by simp [results, Tryd.results16, go_sem]) rfl ?_
  have hb := bmore (bmore (bself w) (.cells #[.string (mkB a), .int .i64 (k : Int), .slice A n c, .bool true] 36)) (.cells #[.string (mkB a), .int .i64 (k : Int), .slice A n c, .bool true] 36)
  exact ⟨A, n, c, rfl, HV.out.over (Nat.le_refl _) hb, fun b h => .inl h, hb⟩

set_option maxRecDepth 100000 in
theorem rgive_open (a b : List UInt8) (k : Nat) (A : Option Addr) (n c : Nat) (l : List It) (w : World) (hm : a.length + b.length ≤ 100000 ∧ k ≤ 100000 ∧ l.length ≤ 100000) (hv : SeqI w w.heap.size (.slice A n c) l) (d : DS) (hd : giveS ⟨a, k, l, false⟩ b = d) :
    Calls Tryd.prog 16 #[.agg #[.string (mkB a), .int .i64 (k : Int), .slice A n c, .bool false], .string (mkB b)] w (DDid d (.slice A n c) w) := by
  have HV := Lib.hid hv
  have HM := Lib.hid (show (a ++ b).length ≤ 100000 ∧ k ≤ 100000 ∧ l.length ≤ 100000 by rw [List.length_append]; exact hm)
  have HD := Lib.hid (show d = ⟨(passF false (a ++ b) k).1, (passF false (a ++ b) k).2.1, l ++ (passF false (a ++ b) k).2.2, false⟩ from hd.symm.trans rfl)
  have hadd : ∀ w : World, (Op.stringOp .add (mkB a) (mkB b)).run Tryd.prog w = .ok (.string (mkB (a ++ b))) w := fun w => run_add w a b (by omega)
  clear hv hm hd
  go_enter Tryd.func16, Tryd.ntmps16
  go_wp2_with (go_at_call 33; ((with_reducible refine Calls.mono (rpass_at (a ++ b) k _ l false _ HM.out ?_ d HD.out) ?_); (exact HV.out.over (Nat.le_refl _) (bmore (bmore (bself w) _) _)); rintro e w1 ⟨A2, n2, c2, rfl, hs, hfr, hb⟩; obtain ⟨hA, hB, hW, hz⟩ := two_blocks hb; have HS := Lib.hid hs; have HF := Lib.hid hfr; have HW := Lib.hid hW; obtain ⟨b0, b1, b2, b3, f0, f1, f2, f3⟩ := blk4 hB; clear hA hB hW hb hs hfr))
  refine bodyPost_ret (v := .agg #[.string (mkB d.wait), .int .i64 (d.skip : Int), .slice A2 n2 c2, .bool d.over]) (by simp [results, Tryd.results16, go_sem, b0, b1, b2, b3]) rfl ?_
  exact give_end HV.out HS.out HF.out HW.out (by simp)

set_option maxRecDepth 100000 in
theorem rend_over (a : List UInt8) (k : Nat) (A : Option Addr) (n c : Nat) (l : List It) (w : World) (hv : SeqI w w.heap.size (.slice A n c) l) :
    Calls Tryd.prog 20 #[.agg #[.string (mkB a), .int .i64 (k : Int), .slice A n c, .bool true]] w (DDid ⟨a, k, l, true⟩ (.slice A n c) w) := by
  have HV := Lib.hid hv
  clear hv
  go_enter Tryd.func20, Tryd.ntmps20
  go_wp2
  refine bodyPost_ret (v := .agg #[.string (mkB a), .int .i64 (k : Int), .slice A n c, .bool true]) (by simp [results, Tryd.results20, go_sem]) rfl ?_
  have hb := bmore (bmore (bself w) (.cells #[.string (mkB a), .int .i64 (k : Int), .slice A n c, .bool true] 36)) (.cells #[.string (mkB a), .int .i64 (k : Int), .slice A n c, .bool true] 36)
  exact ⟨A, n, c, rfl, HV.out.over (Nat.le_refl _) hb, fun b h => .inl h, hb⟩

set_option maxRecDepth 100000 in
theorem rend_open (a : List UInt8) (k : Nat) (A : Option Addr) (n c : Nat) (l : List It) (w : World) (hm : a.length ≤ 100000 ∧ k ≤ 100000 ∧ l.length ≤ 100000) (hv : SeqI w w.heap.size (.slice A n c) l) (p d : DS) (hp : p = ⟨(passF true a k).1, (passF true a k).2.1, l ++ (passF true a k).2.2, true⟩) (hd : endS ⟨a, k, l, false⟩ = d) (hpm : p.skip ≤ 1000000 ∧ p.items.length ≤ 1000000) :
    Calls Tryd.prog 20 #[.agg #[.string (mkB a), .int .i64 (k : Int), .slice A n c, .bool false]] w (DDid d (.slice A n c) w) := by
  have HV := Lib.hid hv
  have HM := Lib.hid hm
  have HP := Lib.hid hp
  have HPM := Lib.hid hpm
  have hq : p.over = true := by rw [hp]
  have HD := Lib.hid (show d = ⟨p.wait, 0, p.items ++ skipI p.skip, p.over⟩ by rw [← hd, hp]; rfl)
  clear hv hm hd hp hpm hq
  go_enter Tryd.func20, Tryd.ntmps20
  go_wp2_with (first
    | (go_at_call 33; ((with_reducible refine Calls.mono (rpass_at a k _ l true _ HM.out ?_ p HP.out) ?_); (exact HV.out.over (Nat.le_refl _) (bmore (bmore (bself w) _) _)); rintro e w1 ⟨A2, n2, c2, rfl, hs, hfr, hb⟩; have HS := Lib.hid hs; have HF := Lib.hid hfr; have HB := Lib.hid hb; clear hb hs hfr))
    | (go_at_call 35; ((with_reducible refine (told_any (mkB p.wait) p.skip _ p.items p.over w1 HPM.out.1 HPM.out.2 HS.out rfl).mono ?_); rintro e w2 ⟨A3, n3, c3, rfl, ho, hb⟩; obtain ⟨hA, hB, hW, hz⟩ := two_blocks (HB.out.trans (hb.mono HB.out.size)); have HO := Lib.hid ho; have HW := Lib.hid hW; obtain ⟨b0, b1, b2, b3, f0, f1, f2, f3⟩ := blk4 hB; clear hA hB hW hb ho)))
  refine bodyPost_ret (v := .agg #[.string (mkB p.wait), .int .i64 0, .slice A3 n3 c3, .bool p.over]) (by simp [results, Tryd.results20, go_sem, b0, b1, b2, b3]) rfl ?_
  rw [HD.out]
  have hz1 := HB.out.size
  simp only [World.size_alloc] at hz1
  exact give_end (d := ⟨p.wait, 0, p.items ++ skipI p.skip, p.over⟩) (w2 := (w.alloc (.cells #[] 0)).alloc (.cells #[] 0)) HV.out (Seq.own HO.out) (fun b hb => .inr (by have := (ownsRow_old HO.out b hb).1; simp only [World.size_alloc]; omega)) HW.out (by simp)

/-- What Next leaves. -/
def NDid (d : DS) (v0 : Value) (w : World) (e : Ending) (w' : World) : Prop := ∃ A n c, e = .returned (.tuple #[.agg #[.string (mkB (nextS d).1.wait), .int .i64 ((nextS d).1.skip : Int), .slice A n c, .bool (nextS d).1.over], .agg #[.int .i64 ((nextS d).2.1.skip : Int), .int .u8 ((nextS d).2.1.kind.toNat : Int), .string (mkB (nextS d).2.1.body)], .bool (nextS d).2.2]) ∧ SeqI w' w'.heap.size (.slice A n c) (nextS d).1.items ∧ From v0 (.slice A n c) w.heap.size ∧ Below w.heap.size w w'

set_option maxRecDepth 100000 in
theorem rnext_none (a : List UInt8) (k : Nat) (A : Option Addr) (c : Nat) (ov : Bool) (w : World) (hv : SeqI w w.heap.size (.slice A 0 c) []) :
    Calls Tryd.prog 18 #[.agg #[.string (mkB a), .int .i64 (k : Int), .slice A 0 c, .bool ov]] w (NDid ⟨a, k, [], ov⟩ (.slice A 0 c) w) := by
  have HV := Lib.hid hv
  clear hv
  go_enter Tryd.func18, Tryd.ntmps18
  go_wp2
  refine bodyPost_ret (v := .tuple #[.agg #[.string (mkB a), .int .i64 (k : Int), .slice A 0 c, .bool ov], .agg #[.int .i64 0, .int .u8 0, .string ⟨#[]⟩], .bool false]) (by simp [results, Tryd.results18, go_sem]) rfl ?_
  have hb := bmore (bmore (bmore (bself w) (.cells #[.string (mkB a), .int .i64 (k : Int), .slice A 0 c, .bool ov] 36)) (.cells #[.string (mkB a), .int .i64 (k : Int), .slice A 0 c, .bool ov] 36)) (.cells #[.int .i64 0, .int .u8 0, .string ⟨#[]⟩] 46)
  exact ⟨A, 0, c, rfl, HV.out.over (Nat.le_refl _) hb, fun b h => .inl h, hb⟩

theorem four_blocks {w w1 : World} {o1 o2 o3 o4 : Obj} (hb : Below ((((w.alloc o1).alloc o2).alloc o3).alloc o4).heap.size ((((w.alloc o1).alloc o2).alloc o3).alloc o4) w1) :
    w1.heap[w.heap.size]? = some o1 ∧ w1.heap[w.heap.size + 1]? = some o2 ∧ w1.heap[w.heap.size + 1 + 1]? = some o3 ∧ w1.heap[w.heap.size + 1 + 1 + 1]? = some o4 ∧ Below w.heap.size w w1 ∧ w.heap.size + 4 ≤ w1.heap.size := by
  have h := one_block (w := ((w.alloc o1).alloc o2).alloc o3) (o1 := o4) hb
  have h0 := three_blocks (w := w) h.2.1
  have e : (((w.alloc o1).alloc o2).alloc o3).heap.size = w.heap.size + 3 := by simp
  rw [e] at h
  exact ⟨h0.1, h0.2.1, h0.2.2.1, h.1, h0.2.2.2.1, h.2.2⟩
theorem tail_seq {w : World} {b off n c : Nat} {x : It} {l : List It} (hn : n = l.length + 1) (hv : SeqI w w.heap.size (.slice (some ⟨b, off, none⟩) n c) (x :: l)) (o2 : Nat) (ho : o2 = off + 3 ∨ c = 1 ∧ o2 = off) :
    Seq w w.heap.size 3 (.slice (some ⟨b, o2, none⟩) (n - 1) (c - 1)) (n - 1) (itC l) := by
  obtain ⟨h1, h2⟩ := hv
  rcases h2 with ⟨h, _⟩ | ⟨b', off', c', e, hnc, hb, hc⟩
  · cases h
  · simp only [Value.slice.injEq, Option.some.injEq, Addr.mk.injEq] at e
    obtain ⟨⟨rfl, rfl, _⟩, hl, rfl⟩ := e
    refine ⟨by rw [itC_length]; omega, .inr ⟨b, o2, c - 1, rfl, by omega, hb, fun i u hu => ?_⟩⟩
    have hi : i < l.length * 3 := by rw [← itC_length]; exact (List.getElem?_eq_some_iff.1 hu).1
    rcases ho with rfl | ⟨h1, rfl⟩
    · have := hc (i + 3) u (by show (itc x ++ itC l)[i + 3]? = _; rw [List.getElem?_append_right (by simp [itc])]; simpa [itc] using hu)
      rw [show off + 3 + i = off + (i + 3) by omega]
      exact this
    · simp only [List.length_cons] at hnc
      omega

set_option maxRecDepth 100000 in
theorem rnext_some (a : List UInt8) (k : Nat) (b off n c : Nat) (x : It) (l : List It) (ov : Bool) (w : World) (hn : n = l.length + 1) (hnc : n ≤ c) (hl : l.length ≤ 1000000) (hv : SeqI w w.heap.size (.slice (some ⟨b, off, none⟩) n c) (x :: l)) (o2 : Nat) (ho : ¬ c = 1 ∧ o2 = off + 3 ∨ c = 1 ∧ o2 = off)
    (hif : (if c = 1 then (some ⟨b, off, none⟩ : Option Addr) else some ⟨b, off + 3, none⟩) = some ⟨b, o2, none⟩) :
    Calls Tryd.prog 18 #[.agg #[.string (mkB a), .int .i64 (k : Int), .slice (some ⟨b, off, none⟩) n c, .bool ov]] w (NDid ⟨a, k, x :: l, ov⟩ (.slice (some ⟨b, off, none⟩) n c) w) := by
  have HT := Lib.hid (tail_seq hn hv o2 (by omega))
  have h1 : ((n : Int) == 0) = false := by rw [beq_eq_false_iff_ne]; omega
  have h2 : (1 : Int) ≤ (n : Int) := by omega
  have h3 : 0 < n := by omega
  have h4 : (n : Int) ≤ (c : Int) := by omega
  have h5 : 1 ≤ n := by omega
  have HN := Lib.hid (show n - 1 = l.length ∧ l.length ≤ 1000000 by omega)
  obtain ⟨hbs, c0, c1, c2⟩ : b < w.heap.size ∧ w.cell? ⟨b, off, none⟩ = some (.int .i64 (x.skip : Int)) ∧ w.cell? ⟨b, off + 1, none⟩ = some (.int .u8 (x.kind.toNat : Int)) ∧ w.cell? ⟨b, off + 2, none⟩ = some (.string (mkB x.body)) := by
    rcases hv.2 with ⟨h, _⟩ | ⟨b', off', c', e, _, hb, hc⟩
    · cases h
    · simp only [Value.slice.injEq, Option.some.injEq, Addr.mk.injEq] at e
      obtain ⟨⟨rfl, rfl, _⟩, _, _⟩ := e
      exact ⟨hb, hc 0 _ rfl, hc 1 _ rfl, hc 2 _ rfl⟩
  have al : ∀ (p : Addr) (o1 o2 o3 : Obj), p.block < w.heap.size → (((w.alloc o1).alloc o2).alloc o3).cell? p = w.cell? p := fun p o1 o2 o3 hp => (bmore (bmore (bmore (bself w) o1) o2) o3).cell hp
  have d0 := fun o1 o2 o3 => (al ⟨b, off, none⟩ o1 o2 o3 hbs).trans c0
  have d1 := fun o1 o2 o3 => (al ⟨b, off + 1, none⟩ o1 o2 o3 hbs).trans c1
  have d2 := fun o1 o2 o3 => (al ⟨b, off + 2, none⟩ o1 o2 o3 hbs).trans c2
  clear hv hn ho al c0 c1 c2
  go_enter Tryd.func18, Tryd.ntmps18
  go_wp2_with (at_builtin; refine wp_app_seq rfl (.tmp 17) (.tmp 20) 34 46 _ 3 32 Tryd.underlying34 info_I rfl (by omega) rfl _ (.slice none 0 0) _ 0 (n - 1) [] (itC l) rfl rfl (OwnI.nil_ _ _) (HT.out.over (Nat.le_refl _) (bmore (bmore (bmore (bmore (bself w) _) _) _) _)) (itC_one l) (by have := HN.out; omega) (Nat.le_refl _) ?_; intro v1 w1 hg1; obtain ⟨hA, hB, hC, hD, hW, hz⟩ := four_blocks hg1.2.2.2; obtain ⟨a0, a1, a2, a3, f0, f1, f2, f3⟩ := blk4 hA; obtain ⟨b0, b1, b2, b3, g0, g1, g2, g3⟩ := blk4 hB; obtain ⟨i0, i1, i2, j0, j1, j2⟩ := blk3 hC; obtain ⟨e0, e1, e2, _, _, _⟩ := blk3 hD; have HW := Lib.hid hW; have HO := Lib.hid (OwnI.join (l := []) (j := l) hg1.1 rfl HN.out.1); obtain ⟨A2, n2, c2, rfl⟩ := own_slice HO.out; clear hA hB hC hD hW hg1 d0 d1 d2)
  go_region
  go_wp2
  refine bodyPost_ret (v := .tuple #[.agg #[.string (mkB a), .int .i64 (k : Int), .slice A2 n2 c2, .bool ov], .agg #[.int .i64 (x.skip : Int), .int .u8 (x.kind.toNat : Int), .string (mkB x.body)], .bool true]) (by simp [results, Tryd.results18, go_sem, b0, b1, b2, b3, i0, i1, i2]) rfl ?_
  have HO2 := HO.out
  rw [show ∀ o1 o2 o3 o4, ((((w.alloc o1).alloc o2).alloc o3).alloc o4).heap.size = w.heap.size + 4 from fun o1 o2 o3 o4 => by simp] at HO2
  refine ⟨A2, n2, c2, rfl, ?_, fun b hb => .inr (by have := (ownsRow_old HO2 b hb).1; omega), ?_⟩
  · refine Seq.own (base := w.heap.size + 4) (e := 46) (World.ownsRow.drew ?_)
    repeat (refine ownsRow_setCell_below ?_ (by dsimp only; omega) _)
    exact HO2
  · refine Below.drew ?_
    repeat (first | (with_reducible exact HW.out) | refine Below.setCell ?_ (by dsimp only; omega) _)

theorem rnext_any (d : DS) (v : Value) (w : World) (hd : d.items.length ≤ 1000000) (hv : DVal w w.heap.size v d) :
    ∃ v0, v = .agg #[.string (mkB d.wait), .int .i64 (d.skip : Int), v0, .bool d.over] ∧ Calls Tryd.prog 18 #[v] w (NDid d v0 w) := by
  obtain ⟨A, n, c, rfl, hs⟩ := hv
  refine ⟨_, rfl, ?_⟩
  obtain ⟨a, k, l, ov⟩ := d
  dsimp only at hs hd ⊢
  cases l with
  | nil =>
    obtain rfl : n = 0 := by
      rcases hs.2 with ⟨h, _⟩ | ⟨b', off', c', e, _⟩
      · simp only [Value.slice.injEq] at h; exact h.2.1
      · simp only [Value.slice.injEq] at e; exact e.2.1
    exact rnext_none a k A c ov w hs
  | cons x l =>
    rcases hs.2 with ⟨_, h⟩ | ⟨b, off, c', e, hnc, hb, hc⟩
    · simp at h
    · simp only [Value.slice.injEq] at e
      obtain ⟨rfl, rfl, rfl⟩ := e
      by_cases h1 : c = 1
      · exact rnext_some a k b off _ c x l ov w (by simp) hnc (by simp at hd; omega) hs off (.inr ⟨h1, rfl⟩) (if_pos h1)
      · exact rnext_some a k b off _ c x l ov w (by simp) hnc (by simp at hd; omega) hs (off + 3) (.inl ⟨h1, rfl⟩) (if_neg h1)
theorem rgive_any (d : DS) (A : Option Addr) (n c : Nat) (b : List UInt8) (w : World) (hm : d.wait.length + b.length ≤ 100000 ∧ d.skip ≤ 100000 ∧ d.items.length ≤ 100000) (hv : SeqI w w.heap.size (.slice A n c) d.items) (d' : DS) (hd : giveS d b = d') :
    Calls Tryd.prog 16 #[.agg #[.string (mkB d.wait), .int .i64 (d.skip : Int), .slice A n c, .bool d.over], .string (mkB b)] w (DDid d' (.slice A n c) w) := by
  obtain ⟨a, k, l, ov⟩ := d
  cases ov
  · exact rgive_open a b k A n c l w hm hv d' hd
  · subst hd
    exact rgive_over a b k A n c l w hv
theorem sumI_len (l : List It) : l.length ≤ sumI l := by
  induction l with
  | nil => exact Nat.le_refl _
  | cons x l ih =>
    have : 1 ≤ wtI x := by unfold wtI; split <;> omega
    simp only [List.length_cons, sumI]
    omega
theorem pass_small (ov : Bool) (s : List UInt8) (k : Nat) : (passF ov s k).1.length ≤ s.length + k ∧ (passF ov s k).2.1 ≤ s.length + k ∧ (passF ov s k).2.2.length ≤ s.length + k := by
  have h := pass_sum ov _ s k (Nat.le_refl _)
  have := sumI_len (passF ov s k).2.2
  omega
theorem rend_any (d : DS) (A : Option Addr) (n c : Nat) (w : World) (hm : d.wait.length ≤ 100000 ∧ d.skip ≤ 100000 ∧ d.items.length ≤ 100000) (hv : SeqI w w.heap.size (.slice A n c) d.items) (d' : DS) (hd : endS d = d') :
    Calls Tryd.prog 20 #[.agg #[.string (mkB d.wait), .int .i64 (d.skip : Int), .slice A n c, .bool d.over]] w (DDid d' (.slice A n c) w) := by
  obtain ⟨a, k, l, ov⟩ := d
  cases ov
  · have := pass_small true a k
    dsimp only at hm
    exact rend_open a k A n c l w hm hv _ d' rfl hd (by dsimp only; rw [List.length_append]; omega)
  · subst hd
    exact rend_over a k A n c l w hv
end Go.Proofs.YtpgainalimmecaaDoor
