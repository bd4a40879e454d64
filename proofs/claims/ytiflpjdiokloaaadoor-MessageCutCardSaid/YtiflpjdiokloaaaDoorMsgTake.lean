/-
  Package message's contract of Take.
-/
import Derived.Test.YtiflpjdiokloaaaDoorPackI
import Derived.Test.YtiflpjdiokloaaaDoorMsgNumber
import Derived.Test.YtiflpjdiokloaaaDoorPackE
import Derived.Deep.RegionHeld3
import Derived.IntWalk
namespace Go.Proofs.YtiflpjdiokloaaaDoor
open Go.RowKit
set_option linter.unusedVariables false

/-- What Take ends in. -/
def TookC (r : Msg × Int) (w : World) (e : Ending) (w' : World) : Prop := ∃ A n c, e = .returned (.tuple #[.agg #[.int .u8 (r.1.kind : Int), .int .u64 (r.1.seq : Int), .int .i64 r.1.at_, .slice A n c], .int .i64 r.2]) ∧ Props w' w'.heap.size (.slice A n c) r.1.props ∧ Below w.heap.size w w'
/-- A number, if it is named. -/
def optN (s : Bool) (l : List UInt8) (e : Int) : Nat × List UInt8 × Int := if s = true then rdNum l e else (0, l, e)
def optA (s : Bool) (l : List UInt8) (e : Int) : Int × List UInt8 × Int := if s = true then rdMoment l e else (0, l, e)
theorem numU_at (s : Bool) (g : Nat) (l : List UInt8) (e : Int) (w : World) (h : Rdr w g l e) {u : Nat} {l' : List UInt8} {e' : Int} (hd : optN s l e = (u, l', e')) :
    Calls Tryd.prog 35 #[.bool s, .func (.func 36) #[.pointer (some ⟨g, 0, none⟩)] #[]] w (Did g (.int .u64 (u : Int)) (l', e') w) := by
  cases s with
  | true =>
    have k := numU_yes g l e w h
    rw [show rdNum l e = (u, l', e') from hd] at k
    exact k
  | false =>
    have k := numU_no g l e w h
    simp only [optN, Bool.false_eq_true, if_false, Prod.mk.injEq] at hd
    obtain ⟨rfl, rfl, rfl⟩ := hd
    exact k
theorem numI_at (s : Bool) (g : Nat) (l : List UInt8) (e : Int) (w : World) (h : Rdr w g l e) {u : Int} {l' : List UInt8} {e' : Int} (hd : optA s l e = (u, l', e')) :
    Calls Tryd.prog 37 #[.bool s, .func (.func 38) #[.pointer (some ⟨g, 0, none⟩)] #[]] w (Did g (.int .i64 u) (l', e') w) := by
  cases s with
  | true =>
    have k := numI_yes g l e w h
    rw [show rdMoment l e = (u, l', e') from hd] at k
    exact k
  | false =>
    have k := numI_no g l e w h
    simp only [optA, Bool.false_eq_true, if_false, Prod.mk.injEq] at hd
    obtain ⟨rfl, rfl, rfl⟩ := hd
    exact k
/-- What is taken, by what the kind names. -/
theorem take_opt {k : Nat} (h1 : 1 ≤ k) (h4 : k ≤ 4) {b : List UInt8} {q : Nat} {l1 : List UInt8} {e1 : Int} {a : Int} {l2 : List UInt8} {e2 : Int} {n : Nat} {l3 : List UInt8} {e3 : Int} {ps : List Pr} {l4 : List UInt8} {e4 : Int}
    (hs : optN (nmS k) b 0 = (q, l1, e1)) (ha : optA (nmA k) l1 e1 = (a, l2, e2)) (hn : optN (nmP k) l2 e2 = (n, l3, e3)) (hp : rdProps n l3 e3 = (ps, l4, e4)) :
    takeM k b = if 8 < n then (noMsg, 13) else finM ⟨k, q, a, ps⟩ l4 e4 := by
  obtain rfl | rfl | rfl | rfl : k = 1 ∨ k = 2 ∨ k = 3 ∨ k = 4 := by omega
  · simp [optA, nmA] at ha
    obtain ⟨rfl, rfl, rfl⟩ := ha
    simp [optN, nmP] at hn
    obtain ⟨rfl, rfl, rfl⟩ := hn
    simp [rdProps] at hp
    obtain ⟨rfl, rfl, rfl⟩ := hp
    rw [if_neg (by omega)]
    exact take_hello hs
  · exact take_event hs ha hn hp
  · simp [optN, nmS] at hs
    obtain ⟨rfl, rfl, rfl⟩ := hs
    simp [optN, nmP] at hn
    obtain ⟨rfl, rfl, rfl⟩ := hn
    simp [rdProps] at hp
    obtain ⟨rfl, rfl, rfl⟩ := hp
    rw [if_neg (by omega)]
    exact take_beat ha
  · simp [optN, nmS] at hs
    obtain ⟨rfl, rfl, rfl⟩ := hs
    simp [optA, nmA] at ha
    obtain ⟨rfl, rfl, rfl⟩ := ha
    simp [optN, nmP] at hn
    obtain ⟨rfl, rfl, rfl⟩ := hn
    simp [rdProps] at hp
    obtain ⟨rfl, rfl, rfl⟩ := hp
    rw [if_neg (by omega)]
    exact take_bye b

/-- What the drawn region reads. -/
abbrev TkS (w' : World) (gf : Nat) (s t : Bool) : Prop := w'.cell? ⟨gf, 0, none⟩ = some (.bool s) ∧ w'.cell? ⟨gf, 1, none⟩ = some (.bool t)
/-- Where Take stands: the answer's box, that of what the kind names, the reader. -/
structure TkG (w w' : World) (gR gf g : Nat) (s t p : Bool) (l : List UInt8) (e : Int) : Prop where
  hW : Below w.heap.size w w'
  hR : w'.heap[gR]? = some (.cells #[.int .u8 0, .int .u64 0, .int .i64 0, .slice none 0 0] 25 (0, 0))
  hF : w'.heap[gf]? = some (.cells #[.bool s, .bool t, .bool p] 61 (0, 0))
  hr : Rdr w' g l e
  l0 : w.heap.size ≤ gR
  l1 : gR < gf
  l2 : gf < g
/-- A message's box. -/
def TkM (w' : World) (gm : Nat) (c0 c1 c2 c3 : Value) : Prop := w'.heap[gm]? = some (.cells #[c0, c1, c2, c3] 25 (0, 0))
section
variable {w w1 w2 : World} {gR gf g gm : Nat} {s t p : Bool} {l l' : List UInt8} {e e' : Int} {c0 c1 c2 c3 d0 d1 d2 d3 : Value}
theorem TkG.S (h : TkG w w1 gR gf g s t p l e) : TkS w1 gf s t := ⟨by rw [heap_cell h.hF]; rfl, by rw [heap_cell h.hF]; rfl⟩
theorem TkG.keep {B : Nat} (h : TkG w w1 gR gf g s t p l e) (hB : g < B) (hb : Below B w1 w2) : TkG w w2 gR gf g s t p l e :=
  ⟨h.hW.trans (hb.mono (by have := h.l0; have := h.l1; have := h.l2; omega)), (hb.block _ (by have := h.l1; have := h.l2; omega)).trans h.hR, (hb.block _ (by have := h.l2; omega)).trans h.hF, h.hr.keep hB hb, h.l0, h.l1, h.l2⟩
theorem TkG.over (h : TkG w w1 gR gf g s t p l e) (hb : Below w1.heap.size w1 w2) : TkG w w2 gR gf g s t p l e := h.keep h.hr.lt hb
theorem TkG.drew (h : TkG w w1 gR gf g s t p l e) : TkG w w1.drew gR gf g s t p l e := h.over (bself w1).drew
theorem TkG.alloc (h : TkG w w1 gR gf g s t p l e) (o : Obj) : TkG w (w1.alloc o) gR gf g s t p l e := h.over (bmore (bself w1) o)
theorem TkG.touch (h : TkG w w1 gR gf g s t p l e) (hr : Rdr w2 g l' e') (ht : Touch (fun k => k = g) w1 w2) : TkG w w2 gR gf g s t p l' e' := by
  have l0 := h.l0; have l1 := h.l1; have l2 := h.l2; have l3 := h.hr.lt
  have hb : Below g w1 w2 := ht.below (fun k hk => by omega) (by omega)
  exact ⟨h.hW.trans (hb.mono (by omega)), (hb.block _ (by omega)).trans h.hR, (hb.block _ (by omega)).trans h.hF, hr, l0, l1, l2⟩
theorem TkG.read (h : TkG w w1 gR gf g s t p l e) (hr : Rdr w2 g l' e') (hg : w1.grownBy w2 (some g)) : TkG w w2 gR gf g s t p l' e' := h.touch hr (touch_grown hg)
theorem TkG.set4 (h : TkG w w1 gR gf g s t p l e) (hg : g < gm) : TkG w ((((w1.setCell ⟨gm, 0, none⟩ c0).setCell ⟨gm, 1, none⟩ c1).setCell ⟨gm, 2, none⟩ c2).setCell ⟨gm, 3, none⟩ c3) gR gf g s t p l e :=
  h.keep hg (set4_below (Below.refl gm w1) (Nat.le_refl _) c0 c1 c2 c3)
theorem TkM.touch (h : TkM w1 gm c0 c1 c2 c3) (hg : g < gm) (ht : Touch (fun k => k = g) w1 w2) : TkM w2 gm c0 c1 c2 c3 := (ht.block _ (heap_lt h) (by omega)).trans h
theorem TkM.read (h : TkM w1 gm c0 c1 c2 c3) (hg : g < gm) (ht : w1.grownBy w2 (some g)) : TkM w2 gm c0 c1 c2 c3 := h.touch hg (touch_grown ht)
theorem TkM.over (h : TkM w1 gm c0 c1 c2 c3) (hb : Below w1.heap.size w1 w2) : TkM w2 gm c0 c1 c2 c3 := (hb.block _ (heap_lt h)).trans h
theorem TkM.set4 (h : TkM w1 gm c0 c1 c2 c3) : TkM ((((w1.setCell ⟨gm, 0, none⟩ d0).setCell ⟨gm, 1, none⟩ d1).setCell ⟨gm, 2, none⟩ d2).setCell ⟨gm, 3, none⟩ d3) gm d0 d1 d2 d3 := set4_heap h
theorem TkM.set3 (h : TkM w1 gm c0 c1 c2 c3) : TkM (w1.setCell ⟨gm, 3, none⟩ d3) gm c0 c1 c2 d3 := heap_set h 3 d3
/-- The answer is written. -/
theorem TkG.setR (h : TkG w w1 gR gf g s t p l e) : TkM ((((w1.setCell ⟨gR, 0, none⟩ d0).setCell ⟨gR, 1, none⟩ d1).setCell ⟨gR, 2, none⟩ d2).setCell ⟨gR, 3, none⟩ d3) gR d0 d1 d2 d3 ∧
    Below w.heap.size w ((((w1.setCell ⟨gR, 0, none⟩ d0).setCell ⟨gR, 1, none⟩ d1).setCell ⟨gR, 2, none⟩ d2).setCell ⟨gR, 3, none⟩ d3) ∧ ∀ j, j ≠ gR → ((((w1.setCell ⟨gR, 0, none⟩ d0).setCell ⟨gR, 1, none⟩ d1).setCell ⟨gR, 2, none⟩ d2).setCell ⟨gR, 3, none⟩ d3).heap[j]? = w1.heap[j]? :=
  ⟨set4_heap h.hR, set4_below h.hW h.l0 _ _ _ _, fun j hj => set4_far w1 gR _ _ _ _ j hj⟩
end

set_option maxRecDepth 100000 in
theorem mtake_no (k : Nat) (v : Value) (w : World) (hk : k < 1 ∨ 4 < k) : Calls Tryd.prog 17 #[.int .u8 (k : Int), v] w (TookC (noMsg, 1) w) := by
  have HN := fun w0 => Lib.hid (mnamed_at k w0 rfl rfl rfl (show nmI k = false by unfold nmI; simp; omega))
  generalize nmS k = s, nmA k = t, nmP k = p at HN
  have h1 := heap_alloc_new w (.cells #[.int .u8 0, .int .u64 0, .int .i64 0, .slice none 0 0] 25)
  clear hk
  go_enter Tryd.func17, Tryd.ntmps17
  go_upto_region 2 with (go_at_call 25; (with_reducible refine (HN _).out.mono ?_); rintro e w1 ⟨rfl, hb⟩; obtain ⟨h0, hB, hz⟩ := one_block hb; have HB := Lib.hid hB; have H0 := Lib.hid h0; clear hb h0 hB hz)
  have HR := Lib.hid ((Below.heap_alloc w1 (.cells #[.bool s, .bool t, .bool p] 61) _ (heap_lt H0.out)).trans H0.out)
  have HB2 := Lib.hid (HB.out.alloc (Nat.le_of_lt (heap_lt H0.out)) (.cells #[.bool s, .bool t, .bool p] 61))
  generalize w1.alloc (.cells #[.bool s, .bool t, .bool p] 61) = w2 at HR HB2 ⊢
  obtain ⟨m0, m1, m2, m3, f0, f1, f2, f3⟩ := blk4 HR.out
  go_wp2
  have HZ : Hid (TkM ((((w2.setCell ⟨w.heap.size, 0, none⟩ (.int .u8 0)).setCell ⟨w.heap.size, 1, none⟩ (.int .u64 0)).setCell ⟨w.heap.size, 2, none⟩ (.int .i64 0)).setCell ⟨w.heap.size, 3, none⟩ (.slice none 0 0)) w.heap.size (.int .u8 0) (.int .u64 0) (.int .i64 0) (.slice none 0 0) ∧ Below w.heap.size w ((((w2.setCell ⟨w.heap.size, 0, none⟩ (.int .u8 0)).setCell ⟨w.heap.size, 1, none⟩ (.int .u64 0)).setCell ⟨w.heap.size, 2, none⟩ (.int .i64 0)).setCell ⟨w.heap.size, 3, none⟩ (.slice none 0 0))) := Lib.hid ⟨set4_heap HR.out, set4_below HB2.out (Nat.le_refl _) _ _ _ _⟩
  generalize ((((w2.setCell ⟨w.heap.size, 0, none⟩ (.int .u8 0)).setCell ⟨w.heap.size, 1, none⟩ (.int .u64 0)).setCell ⟨w.heap.size, 2, none⟩ (.int .i64 0)).setCell ⟨w.heap.size, 3, none⟩ (.slice none 0 0)) = w3 at HZ ⊢
  clear m0 m1 m2 m3 f0 f1 f2 f3
  obtain ⟨m0, m1, m2, m3, _, _, _, _⟩ := blk4 HZ.out.1
  refine bodyPost_ret (v := .tuple #[.agg #[.int .u8 0, .int .u64 0, .int .i64 0, .slice none 0 0], .int .i64 1]) (by simp [results, Tryd.results17, go_sem, m0, m1, m2, m3]) rfl ?_
  exact ⟨none, 0, 0, rfl, props_nil _ _, HZ.out.2⟩

set_option maxRecDepth 100000 in
set_option maxHeartbeats 8000000 in
theorem mtake_ok (k : Nat) (A : Option Addr) (c : Nat) (b : List UInt8) (w : World) (s t p : Bool) (hks : nmS k = s) (hka : nmA k = t) (hkp : nmP k = p) (hki : nmI k = true) (hb : Row w w.heap.size A (bc b)) (hA : A = none → c = 0) (hbc : b.length ≤ c) (hl : b.length ≤ 100000)
    {q : Nat} {l1 : List UInt8} {e1 : Int} {a : Int} {l2 : List UInt8} {e2 : Int} {n : Nat} {l3 : List UInt8} {e3 : Int} {ps : List Pr} {l4 : List UInt8} {e4 : Int}
    (hs : optN s b 0 = (q, l1, e1)) (ha : optA t l1 e1 = (a, l2, e2)) (hn : optN p l2 e2 = (n, l3, e3)) (hp : rdProps n l3 e3 = (ps, l4, e4)) {r : Msg × Int} (hr : r = if 8 < n then (noMsg, 13) else finM ⟨k, q, a, ps⟩ l4 e4) :
    Calls Tryd.prog 17 #[.int .u8 (k : Int), .slice A b.length c] w (TookC r w) := by
  have HS := Lib.hid (fun g w' (h : Rdr w' g b 0) => numU_at s g b 0 w' h hs)
  have HA := Lib.hid (fun g w' (h : Rdr w' g l1 e1) => numI_at t g l1 e1 w' h ha)
  have HN := Lib.hid (fun g w' (h : Rdr w' g l2 e2) => numU_at p g l2 e2 w' h hn)
  have HP := Lib.hid (fun g w' (h : Rdr w' g l3 e3) (h8 : n ≤ 8) => mpropsTake_any g l3 e3 n w' h h8 hp)
  have HPN : Hid (n ≤ 8 → ps.length ≤ 1000) := Lib.hid (by have e9 := rdProps_length n l3 e3; rw [hp] at e9; dsimp only at e9; omega)
  have HNa := fun w0 => Lib.hid (mnamed_at k w0 hks hka hkp hki)
  have HOp := Lib.hid (And.intro hb (And.intro hA (And.intro hbc hl)))
  have HR := Lib.hid hr
  clear hks hka hkp hki hs ha hn hp hr hb hA hbc hl
  go_enter Tryd.func17, Tryd.ntmps17
  go_upto_region 2 with (go_at_call 25; (with_reducible refine (HNa _).out.mono ?_); rintro e w1 ⟨rfl, hb⟩; obtain ⟨h0, hB, hz⟩ := one_block hb; have HB := Lib.hid hB; have H0 := Lib.hid h0; clear hb h0 hB hz)
  have HR2 := Lib.hid ((Below.heap_alloc w1 (.cells #[.bool s, .bool t, .bool p] 61) _ (heap_lt H0.out)).trans H0.out)
  have HF2 := Lib.hid (heap_alloc_new w1 (.cells #[.bool s, .bool t, .bool p] 61))
  have HB2 := Lib.hid (HB.out.alloc (Nat.le_of_lt (heap_lt H0.out)) (.cells #[.bool s, .bool t, .bool p] 61))
  have HL2 := Lib.hid (heap_lt H0.out)
  generalize w1.alloc (.cells #[.bool s, .bool t, .bool p] 61) = w2 at HR2 HB2 HF2 ⊢
  generalize w1.heap.size = gf at HF2 HL2 ⊢
  clear HB H0
  have HOq := Lib.hid (open_arg A c b w2 (fun hne => by obtain ⟨bb, off, e1, e2, e3⟩ := HOp.out.1 hne; exact ⟨bb, off, e1, Nat.lt_of_lt_of_le e2 HB2.out.size, fun i u hu => (HB2.out.cell e2).trans (e3 i u hu)⟩) HOp.out.2.1 HOp.out.2.2.1 (Fits.of (by have := HOp.out.2.2.2; omega)))
  go_upto_region 5 with (go_at_call 34; (with_reducible refine HOq.out.mono ?_); rintro e w3 ⟨g, rfl, hg, hr, hb⟩; have HG3 : Hid (TkG w w3 w.heap.size gf g s t p b 0) := Lib.hid ⟨bstep HB2.out hb, (hb.block _ (heap_lt HR2.out)).trans HR2.out, (hb.block _ (heap_lt HF2.out)).trans HF2.out, hr, Nat.le_refl _, HL2.out, Nat.lt_of_lt_of_le (heap_lt HF2.out) hg⟩; clear hg hr hb)
  obtain ⟨gR, hgR⟩ : ∃ gR, gR = w.heap.size := ⟨_, rfl⟩
  rw [← hgR] at HG3 ⊢
  clear hgR HR2 HF2 HB2 HL2 HOq HOp HNa
  have HG0 := Lib.hid HG3.out.drew
  have HG0a := Lib.hid (HG3.out.alloc (.cells #[.int .u8 0, .int .u64 0, .int .i64 0, .slice none 0 0] 25)).drew
  have HM0a : Hid (TkM (w3.alloc (.cells #[.int .u8 0, .int .u64 0, .int .i64 0, .slice none 0 0] 25)).drew w3.heap.size (.int .u8 0) (.int .u64 0) (.int .i64 0) (.slice none 0 0)) := Lib.hid (heap_alloc_new w3 _)
  have HL0 := Lib.hid HG3.out.hr.lt
  obtain ⟨x0, x1⟩ := HG3.out.S
  refine wp_region_held_drew (S := fun w' => w'.cell? ⟨gf, 0, none⟩ = some (.bool s) ∧ w'.cell? ⟨gf, 1, none⟩ = some (.bool t)) (by kernel_rfl) ?_ (fun hHeld => ?_)
  · (try dsimp only)
    (first | (with_reducible exact HG2.out.S) | (with_reducible exact (HG2.out.alloc _).S) | (with_reducible exact (HG2.out.set4 HL2.out).S) | (with_reducible exact HG1.out.S) | (with_reducible exact HG1a.out.S) | (with_reducible exact HG0a.out.S) | (with_reducible exact HG0.out.S))
  refine wpAnyH_take (i := 0) (v := ?_) rfl (by kernel_rfl) (by kernel_rfl) (by kernel_rfl) (fun _ _ _ h => h) (Or.inl ⟨by rfl, ?_⟩) (by assumption) ?_
  rotate_left
  · intro w hSw
    (try dsimp only at hSw)
    go_simp
    try with_reducible rfl
  (try simp only [Act.put, List.getElem_toArray, List.getElem_cons_zero, List.setIfInBounds_toArray, List.set_cons_zero, List.set_cons_succ])
  refine wpAnyH_take (i := 1) (v := ?_) rfl (by kernel_rfl) (by kernel_rfl) (by kernel_rfl) (fun _ _ _ h => h) (Or.inl ⟨by rfl, ?_⟩) (by assumption) ?_
  rotate_left
  · intro w hSw
    (try dsimp only at hSw)
    go_simp
    try with_reducible rfl
  (try simp only [Act.put, List.getElem_toArray, List.getElem_cons_succ, List.getElem_cons_zero, List.setIfInBounds_toArray, List.set_cons_zero, List.set_cons_succ])
  refine wpAnyH_take (i := 2) (v := ?_) rfl (by kernel_rfl) (by kernel_rfl) (by kernel_rfl) (fun _ _ _ h => h) (Or.inl ⟨by rfl, ?_⟩) (by assumption) ?_
  rotate_left
  · intro w hSw
    (try dsimp only at hSw)
    go_simp
    try with_reducible rfl
  (try simp only [Act.put, List.getElem_toArray, List.getElem_cons_succ, List.getElem_cons_zero, List.setIfInBounds_toArray, List.set_cons_zero, List.set_cons_succ])
  refine wpAnyH_take (i := 3) (v := ?_) rfl (by kernel_rfl) (by kernel_rfl) (by kernel_rfl) (fun _ _ _ h => h) (Or.inl ⟨by rfl, ?_⟩) (by assumption) ?_
  rotate_left
  · intro w hSw
    (try dsimp only at hSw)
    go_simp
    try with_reducible rfl
  (try simp only [Act.put, List.getElem_toArray, List.getElem_cons_succ, List.getElem_cons_zero, List.setIfInBounds_toArray, List.set_cons_zero, List.set_cons_succ])
  refine wpAnyH_take (i := 4) (v := ?_) rfl (by kernel_rfl) (by kernel_rfl) (by kernel_rfl) (fun _ _ _ h => h) (Or.inl ⟨by rfl, ?_⟩) (by assumption) ?_
  rotate_left
  · intro w hSw
    (try dsimp only at hSw)
    go_simp
    try with_reducible rfl
  (try simp only [Act.put, List.getElem_toArray, List.getElem_cons_succ, List.getElem_cons_zero, List.setIfInBounds_toArray, List.set_cons_zero, List.set_cons_succ])
  refine wpAnyH_take (i := 6) (v := ?_) rfl (by kernel_rfl) (by kernel_rfl) (by kernel_rfl) (fun _ _ _ h => h) (Or.inl ⟨by rfl, ?_⟩) (by assumption) ?_
  rotate_left
  · intro w hSw
    (try dsimp only at hSw)
    go_simp
    try with_reducible rfl
  (try simp only [Act.put, List.getElem_toArray, List.getElem_cons_succ, List.getElem_cons_zero, List.setIfInBounds_toArray, List.set_cons_zero, List.set_cons_succ])
  refine wpAnyH_take (i := 7) (v := ?_) rfl (by kernel_rfl) (by kernel_rfl) (by kernel_rfl) (fun _ _ _ h => h) (Or.inl ⟨by rfl, ?_⟩) (by assumption) ?_
  rotate_left
  · intro w hSw
    (try dsimp only at hSw)
    go_simp
    try with_reducible rfl
  (try simp only [Act.put, List.getElem_toArray, List.getElem_cons_succ, List.getElem_cons_zero, List.setIfInBounds_toArray, List.set_cons_zero, List.set_cons_succ])
  refine wpAnyH_take (i := 8) (v := ?_) rfl (by kernel_rfl) (by kernel_rfl) (by kernel_rfl) (fun _ _ _ h => h) (Or.inl ⟨by rfl, ?_⟩) (by assumption) ?_
  rotate_left
  · intro w hSw
    (try dsimp only at hSw)
    go_simp
    try with_reducible rfl
  (try simp only [Act.put, List.getElem_toArray, List.getElem_cons_succ, List.getElem_cons_zero, List.setIfInBounds_toArray, List.set_cons_zero, List.set_cons_succ])
  refine wpAnyH_take (i := 9) (v := ?_) rfl (by kernel_rfl) (by kernel_rfl) (by kernel_rfl) (fun _ _ _ h => h) (Or.inl ⟨by rfl, ?_⟩) (by assumption) ?_
  rotate_left
  · intro w hSw
    (try dsimp only at hSw)
    go_simp
    try with_reducible rfl
  (try simp only [Act.put, List.getElem_toArray, List.getElem_cons_succ, List.getElem_cons_zero, List.setIfInBounds_toArray, List.set_cons_zero, List.set_cons_succ])
  refine wpAnyH_ready (rs := [5, 12]) (by kernel_rfl) (by simp) ?_
  refine AllReadyH.cons rfl (fun K hK => ?_) (AllReadyH.cons rfl (fun K hK => ?_) AllReadyH.nil)
  · go_simp
    (go_at_call 35; first | ((with_reducible refine (HS.out _ _ HG0.out.hr).mono ?_); rintro e u1 ⟨rfl, hr, hg⟩; have HG1 := Lib.hid (HG0.out.read hr hg); have HG1a := Lib.hid (HG1.out.alloc (.cells #[.int .u8 0, .int .u64 0, .int .i64 0, .slice none 0 0] 25)); have HM1a : Hid (TkM (u1.alloc (.cells #[.int .u8 0, .int .u64 0, .int .i64 0, .slice none 0 0] 25)) u1.heap.size (.int .u8 0) (.int .u64 0) (.int .i64 0) (.slice none 0 0)) := Lib.hid (heap_alloc_new u1 _); have HL1a := Lib.hid HG1.out.hr.lt; clear hr hg) | ((with_reducible refine (HS.out _ _ HG0a.out.hr).mono ?_); rintro e u1 ⟨rfl, hr, hg⟩; have HG1 := Lib.hid (HG0a.out.read hr hg); have HM1 := Lib.hid (HM0a.out.read HL0.out hg); clear hr hg))
    go_wp2_with fail
    refine hK.out _ _ ?_ (fun hHeld => ?_)
    · (try dsimp only)
      (first | (with_reducible exact HG2.out.S) | (with_reducible exact (HG2.out.alloc _).S) | (with_reducible exact (HG2.out.set4 HL2.out).S) | (with_reducible exact HG1.out.S) | (with_reducible exact HG1a.out.S) | (with_reducible exact HG0a.out.S) | (with_reducible exact HG0.out.S))
    clear hK K
    (try simp only [Act.put, List.getElem_toArray, List.getElem_cons_succ, List.getElem_cons_zero, List.setIfInBounds_toArray, List.set_cons_zero, List.set_cons_succ])
    refine wpAnyH_ready (rs := [10, 12]) (by kernel_rfl) (by simp) ?_
    refine AllReadyH.cons rfl (fun K hK => ?_) (AllReadyH.cons rfl (fun K hK => ?_) AllReadyH.nil)
    · go_simp
      (go_at_call 37; first | ((with_reducible refine (HA.out _ _ HG1.out.hr).mono ?_); rintro e u2 ⟨rfl, hr, hg⟩; have HG2 := Lib.hid (HG1.out.read hr hg); first | (have HM2 := Lib.hid (HM1.out.read HL0.out hg); have HL2 := HL0; obtain ⟨m0, m1, m2, m3, f0, f1, f2, f3⟩ := blk4 HM2.out; clear hr hg) | clear hr hg) | ((with_reducible refine (HA.out _ _ HG1a.out.hr).mono ?_); rintro e u2 ⟨rfl, hr, hg⟩; have HG2 := Lib.hid (HG1a.out.read hr hg); have HM2 := Lib.hid (HM1a.out.read HL1a.out hg); have HL2 := HL1a; obtain ⟨m0, m1, m2, m3, f0, f1, f2, f3⟩ := blk4 HM2.out; clear hr hg))
      go_wp2_with fail
      refine hK.out _ _ ?_ (fun hHeld => ?_)
      · (try dsimp only)
        (first | (with_reducible exact HG2.out.S) | (with_reducible exact (HG2.out.alloc _).S) | (with_reducible exact (HG2.out.set4 HL2.out).S) | (with_reducible exact HG1.out.S) | (with_reducible exact HG1a.out.S) | (with_reducible exact HG0a.out.S) | (with_reducible exact HG0.out.S))
      clear hK K
      (try simp only [Act.put, List.getElem_toArray, List.getElem_cons_succ, List.getElem_cons_zero, List.setIfInBounds_toArray, List.set_cons_zero, List.set_cons_succ])
      refine wpAnyH_take (i := 11) (v := ?_) rfl (by kernel_rfl) (by kernel_rfl) (by kernel_rfl) (fun _ _ _ h => h) (Or.inl ⟨by rfl, ?_⟩) (by assumption) ?_
      rotate_left
      · intro w hSw
        (try dsimp only at hSw)
        go_simp
        try with_reducible rfl
      (try simp only [Act.put, List.getElem_toArray, List.getElem_cons_succ, List.getElem_cons_zero, List.setIfInBounds_toArray, List.set_cons_zero, List.set_cons_succ])
      refine wpAnyH_ready (rs := [12]) (by kernel_rfl) (by simp) ?_
      refine AllReadyH.cons rfl (fun K hK => ?_) AllReadyH.nil
      go_simp
      refine hK.out _ _ ?_ (fun hHeld => ?_)
      · (try dsimp only)
        (first | (with_reducible exact HG2.out.S) | (with_reducible exact (HG2.out.alloc _).S) | (with_reducible exact (HG2.out.set4 HL2.out).S) | (with_reducible exact HG1.out.S) | (with_reducible exact HG1a.out.S) | (with_reducible exact HG0a.out.S) | (with_reducible exact HG0.out.S))
      clear hK K
      (try simp only [Act.put, List.getElem_toArray, List.getElem_cons_succ, List.getElem_cons_zero, List.setIfInBounds_toArray, List.set_cons_zero, List.set_cons_succ])
      refine wpAnyH_ready (rs := [13]) (by kernel_rfl) (by simp) ?_
      refine AllReadyH.cons rfl (fun K hK => ?_) AllReadyH.nil
      go_simp
      refine hK.out _ _ ?_ (fun hHeld => ?_)
      · (try dsimp only)
        (first | (with_reducible exact HG2.out.S) | (with_reducible exact (HG2.out.alloc _).S) | (with_reducible exact (HG2.out.set4 HL2.out).S) | (with_reducible exact HG1.out.S) | (with_reducible exact HG1a.out.S) | (with_reducible exact HG0a.out.S) | (with_reducible exact HG0.out.S))
      clear hK K
      (try simp only [Act.put, List.getElem_toArray, List.getElem_cons_succ, List.getElem_cons_zero, List.setIfInBounds_toArray, List.set_cons_zero, List.set_cons_succ])
      refine wpAnyH_done (by kernel_rfl) ?_ _
      generalize hE : u2.alloc (Obj.cells #[Value.int IntKind.u8 (k : Int), Value.int IntKind.u64 (q : Int), Value.int IntKind.i64 a, Value.slice none 0 0] 25) = w7
      obtain ⟨z, hz⟩ : ∃ z, z = u2.heap.size := ⟨_, rfl⟩
      have HQ : Hid (TkG w w7 gR gf g s t p l2 e2 ∧ TkM w7 z (.int .u8 (k : Int)) (.int .u64 (q : Int)) (.int .i64 a) (.slice none 0 0) ∧ g < z) := Lib.hid ⟨by rw [← hE]; exact HG2.out.alloc _, by rw [hz, ← hE]; exact heap_alloc_new u2 _, by rw [hz]; exact HG2.out.hr.lt⟩
      rw [← hz]
      clear hE hz HG2 HG1
      have x2 := heap_cell HQ.out.1.hF 2
      go_upto_region 7 with (go_at_call 35; (with_reducible refine (HN.out _ _ HQ.out.1.hr).mono ?_); rintro e w8 ⟨rfl, hr, hg⟩; have HG8 := Lib.hid (HQ.out.1.read hr hg); have HM8 := Lib.hid (HQ.out.2.1.read HQ.out.2.2 hg); clear hr hg x2)
      by_cases hn8 : 8 < n
      · have hn8i : decide ((8 : Int) < (n : Int)) = true := decide_eq_true (by omega)
        have HRz := Lib.hid (HR.out.trans (if_pos hn8))
        clear hn8
        obtain ⟨r0, r1, r2, r3, s0, s1, s2, s3⟩ := blk4 HG8.out.hR
        go_wp2
        have HZ := Lib.hid (HG8.out.setR (d0 := .int .u8 0) (d1 := .int .u64 0) (d2 := .int .i64 0) (d3 := .slice none 0 0))
        generalize (((w8.setCell { block := gR, off := 0 } (Value.int IntKind.u8 0)).setCell { block := gR, off := 1 } (Value.int IntKind.u64 0)).setCell { block := gR, off := 2 } (Value.int IntKind.i64 0)).setCell { block := gR, off := 3 } (Value.slice none 0 0) = wv at HZ ⊢
        clear r0 r1 r2 r3 s0 s1 s2 s3
        obtain ⟨r0, r1, r2, r3, _, _, _, _⟩ := blk4 HZ.out.1
        refine bodyPost_ret (v := .tuple #[.agg #[.int .u8 0, .int .u64 0, .int .i64 0, .slice none 0 0], .int .i64 13]) (by simp [results, Tryd.results17, go_sem, r0, r1, r2, r3]) rfl ?_
        rw [show r = (noMsg, 13) from HRz.out]
        exact ⟨none, 0, 0, rfl, props_nil _ _, HZ.out.2.1⟩
      · have hn8i : decide ((8 : Int) < (n : Int)) = false := decide_eq_false (by omega)
        have hwn : IntKind.i64.wrap (n : Int) = (n : Int) := IntWalk.i64_in _ (by omega)
        have HRz := Lib.hid (HR.out.trans (if_neg hn8))
        have HPNx := Lib.hid (HPN.out (by omega))
        have HPT := Lib.hid (HP.out g w8 HG8.out.hr (by omega))
        clear hn8
        go_upto_region 10 with (go_at_call 39; (with_reducible refine HPT.out.mono ?_); rintro e w9 ⟨v9, rfl, ht⟩; obtain ⟨A9, c9, rfl, _⟩ := (OwnsP.props ht.ho).open_; have HT9 := Lib.hid ht; have HG9 := Lib.hid (HG8.out.touch ht.hr ht.ht); have HM9 := Lib.hid (HM8.out.touch HQ.out.2.2 ht.ht); obtain ⟨m0, m1, m2, m3, f0, f1, f2, f3⟩ := blk4 HM9.out; clear ht)
        have HGa := Lib.hid (HG9.out.keep HQ.out.2.2 ((Below.refl z w9).setCell (Nat.le_refl _) (p := ⟨z, 3, none⟩) (.slice A9 ps.length c9)))
        have HMa := Lib.hid (HM9.out.set3 (d3 := .slice A9 ps.length c9))
        have HOa : Hid (OwnsP (w9.setCell ⟨z, 3, none⟩ (.slice A9 ps.length c9)) w8.heap.size (.slice A9 ps.length c9) ps) := Lib.hid (ownsRow_below HT9.out.ho fun j hj => Below.heap_setCell w9 _ _ j (by have h1 := ownsRow_old HT9.out.ho j hj; have h2 := heap_lt HM8.out; show j ≠ z; omega))
        have HLa := Lib.hid (heap_lt HG8.out.hR)
        generalize w9.setCell { block := z, off := 3 } (Value.slice A9 ps.length c9) = wa at HGa HMa HOa ⊢
        clear m0 m1 m2 m3 f0 f1 f2 f3 HT9 HG9 HM9 HPT
        obtain ⟨x, hx⟩ : ∃ x, rdEnd l4 e4 = x := ⟨_, rfl⟩
        have HEn := Lib.hid (end_any g l4 e4 wa HGa.out.hr)
        rw [hx] at HEn
        by_cases hx0 : x = 0
        · have HXe := Lib.hid (hx.trans hx0)
          have hxi : (x != 0) = false := by rw [hx0]; rfl
          clear hx hx0
          obtain ⟨m0, m1, m2, m3, f0, f1, f2, f3⟩ := blk4 HMa.out
          cases hr : mayL ⟨k, q, a, ps⟩ with
          | false =>
            have HMy := Lib.hid (mmay_any k q a A9 ps.length c9 ps wa (OwnsP.props HOa.out) HPNx.out hr)
            have HRr : Hid (r = (noMsg, 11)) := Lib.hid (by rw [HRz.out]; unfold finM; rw [HXe.out, if_pos rfl, hr]; rfl)
            clear hr
            go_upto_region 14 with (first
              | (go_at_call 40; (with_reducible refine HEn.out.mono ?_); rintro e wu ⟨rfl, rfl⟩)
              | (go_at_call 13; (with_reducible refine HMy.out.mono ?_); rintro e wb ⟨rfl, hb⟩; have HGb := Lib.hid (HGa.out.over hb); clear hb m0 m1 m2 m3 f0 f1 f2 f3))
            obtain ⟨r0, r1, r2, r3, s0, s1, s2, s3⟩ := blk4 HGb.out.hR
            go_wp2
            have HZ := Lib.hid (HGb.out.setR (d0 := .int .u8 0) (d1 := .int .u64 0) (d2 := .int .i64 0) (d3 := .slice none 0 0))
            generalize (((wb.setCell { block := gR, off := 0 } (Value.int IntKind.u8 0)).setCell { block := gR, off := 1 } (Value.int IntKind.u64 0)).setCell { block := gR, off := 2 } (Value.int IntKind.i64 0)).setCell { block := gR, off := 3 } (Value.slice none 0 0) = wv at HZ ⊢
            clear r0 r1 r2 r3 s0 s1 s2 s3
            obtain ⟨r0, r1, r2, r3, _, _, _, _⟩ := blk4 HZ.out.1
            refine bodyPost_ret (v := .tuple #[.agg #[.int .u8 0, .int .u64 0, .int .i64 0, .slice none 0 0], .int .i64 11]) (by simp [results, Tryd.results17, go_sem, r0, r1, r2, r3]) rfl ?_
            rw [show r = (noMsg, 11) from HRr.out]
            exact ⟨none, 0, 0, rfl, props_nil _ _, HZ.out.2.1⟩
          | true =>
            have HMy := Lib.hid (mmay_any k q a A9 ps.length c9 ps wa (OwnsP.props HOa.out) HPNx.out hr)
            have HRr : Hid (r = (⟨k, q, a, ps⟩, 0)) := Lib.hid (by rw [HRz.out]; unfold finM; rw [HXe.out, if_pos rfl, hr]; rfl)
            clear hr
            go_upto_region 15 with (first
              | (go_at_call 40; (with_reducible refine HEn.out.mono ?_); rintro e wu ⟨rfl, rfl⟩)
              | (go_at_call 13; (with_reducible refine HMy.out.mono ?_); rintro e wb ⟨rfl, hb⟩; have HGb := Lib.hid (HGa.out.over hb); have HMb := Lib.hid (HMa.out.over hb); have HOb := Lib.hid (ownsRow_over HOa.out hb); clear hb m0 m1 m2 m3 f0 f1 f2 f3))
            obtain ⟨m0, m1, m2, m3, _, _, _, _⟩ := blk4 HMb.out
            obtain ⟨r0, r1, r2, r3, s0, s1, s2, s3⟩ := blk4 HGb.out.hR
            go_wp2
            have HZ := Lib.hid (HGb.out.setR (d0 := .int .u8 (k : Int)) (d1 := .int .u64 (q : Int)) (d2 := .int .i64 a) (d3 := .slice A9 ps.length c9))
            generalize (((wb.setCell { block := gR, off := 0 } (Value.int IntKind.u8 (k : Int))).setCell { block := gR, off := 1 } (Value.int IntKind.u64 (q : Int))).setCell { block := gR, off := 2 } (Value.int IntKind.i64 a)).setCell { block := gR, off := 3 } (Value.slice A9 ps.length c9) = wv at HZ ⊢
            clear r0 r1 r2 r3 s0 s1 s2 s3 m0 m1 m2 m3
            obtain ⟨r0, r1, r2, r3, _, _, _, _⟩ := blk4 HZ.out.1
            refine bodyPost_ret (v := .tuple #[.agg #[.int .u8 (k : Int), .int .u64 (q : Int), .int .i64 a, .slice A9 ps.length c9], .int .i64 0]) (by simp [results, Tryd.results17, go_sem, r0, r1, r2, r3]) rfl ?_
            rw [HRr.out]
            exact ⟨A9, ps.length, c9, rfl, OwnsP.props (ownsRow_below HOb.out fun j hj => HZ.out.2.2 j (by have h1 := ownsRow_old HOb.out j hj; have h2 := HLa.out; omega)), HZ.out.2.1⟩
        · have HRr : Hid (r = (noMsg, x)) := Lib.hid (by rw [HRz.out]; unfold finM; rw [hx, if_neg hx0])
          have hxi : (x != 0) = true := by simp [hx0]
          clear hx hx0
          go_upto_region 12 with (go_at_call 40; (with_reducible refine HEn.out.mono ?_); rintro e wu ⟨rfl, rfl⟩)
          obtain ⟨r0, r1, r2, r3, s0, s1, s2, s3⟩ := blk4 HGa.out.hR
          go_wp2
          have HZ := Lib.hid (HGa.out.setR (d0 := .int .u8 0) (d1 := .int .u64 0) (d2 := .int .i64 0) (d3 := .slice none 0 0))
          generalize (((wa.setCell { block := gR, off := 0 } (Value.int IntKind.u8 0)).setCell { block := gR, off := 1 } (Value.int IntKind.u64 0)).setCell { block := gR, off := 2 } (Value.int IntKind.i64 0)).setCell { block := gR, off := 3 } (Value.slice none 0 0) = wv at HZ ⊢
          clear r0 r1 r2 r3 s0 s1 s2 s3
          obtain ⟨r0, r1, r2, r3, _, _, _, _⟩ := blk4 HZ.out.1
          refine bodyPost_ret (v := .tuple #[.agg #[.int .u8 0, .int .u64 0, .int .i64 0, .slice none 0 0], .int .i64 x]) (by simp [results, Tryd.results17, go_sem, r0, r1, r2, r3]) rfl ?_
          rw [show r = (noMsg, x) from HRr.out]
          exact ⟨none, 0, 0, rfl, props_nil _ _, HZ.out.2.1⟩
    · go_simp
      refine hK.out _ _ ?_ (fun hHeld => ?_)
      · (try dsimp only)
        (first | (with_reducible exact HG2.out.S) | (with_reducible exact (HG2.out.alloc _).S) | (with_reducible exact (HG2.out.set4 HL2.out).S) | (with_reducible exact HG1.out.S) | (with_reducible exact HG1a.out.S) | (with_reducible exact HG0a.out.S) | (with_reducible exact HG0.out.S))
      clear hK K
      (try simp only [Act.put, List.getElem_toArray, List.getElem_cons_succ, List.getElem_cons_zero, List.setIfInBounds_toArray, List.set_cons_zero, List.set_cons_succ])
      refine wpAnyH_ready (rs := [10]) (by kernel_rfl) (by simp) ?_
      refine AllReadyH.cons rfl (fun K hK => ?_) AllReadyH.nil
      go_simp
      (go_at_call 37; first | ((with_reducible refine (HA.out _ _ HG1.out.hr).mono ?_); rintro e u2 ⟨rfl, hr, hg⟩; have HG2 := Lib.hid (HG1.out.read hr hg); first | (have HM2 := Lib.hid (HM1.out.read HL0.out hg); have HL2 := HL0; obtain ⟨m0, m1, m2, m3, f0, f1, f2, f3⟩ := blk4 HM2.out; clear hr hg) | clear hr hg) | ((with_reducible refine (HA.out _ _ HG1a.out.hr).mono ?_); rintro e u2 ⟨rfl, hr, hg⟩; have HG2 := Lib.hid (HG1a.out.read hr hg); have HM2 := Lib.hid (HM1a.out.read HL1a.out hg); have HL2 := HL1a; obtain ⟨m0, m1, m2, m3, f0, f1, f2, f3⟩ := blk4 HM2.out; clear hr hg))
      go_wp2_with fail
      refine hK.out _ _ ?_ (fun hHeld => ?_)
      · (try dsimp only)
        (first | (with_reducible exact HG2.out.S) | (with_reducible exact (HG2.out.alloc _).S) | (with_reducible exact (HG2.out.set4 HL2.out).S) | (with_reducible exact HG1.out.S) | (with_reducible exact HG1a.out.S) | (with_reducible exact HG0a.out.S) | (with_reducible exact HG0.out.S))
      clear hK K
      (try simp only [Act.put, List.getElem_toArray, List.getElem_cons_succ, List.getElem_cons_zero, List.setIfInBounds_toArray, List.set_cons_zero, List.set_cons_succ])
      refine wpAnyH_take (i := 11) (v := ?_) rfl (by kernel_rfl) (by kernel_rfl) (by kernel_rfl) (fun _ _ _ h => h) (Or.inl ⟨by rfl, ?_⟩) (by assumption) ?_
      rotate_left
      · intro w hSw
        (try dsimp only at hSw)
        go_simp
        try with_reducible rfl
      (try simp only [Act.put, List.getElem_toArray, List.getElem_cons_succ, List.getElem_cons_zero, List.setIfInBounds_toArray, List.set_cons_zero, List.set_cons_succ])
      refine wpAnyH_ready (rs := [13]) (by kernel_rfl) (by simp) ?_
      refine AllReadyH.cons rfl (fun K hK => ?_) AllReadyH.nil
      go_simp
      refine hK.out _ _ ?_ (fun hHeld => ?_)
      · (try dsimp only)
        (first | (with_reducible exact HG2.out.S) | (with_reducible exact (HG2.out.alloc _).S) | (with_reducible exact (HG2.out.set4 HL2.out).S) | (with_reducible exact HG1.out.S) | (with_reducible exact HG1a.out.S) | (with_reducible exact HG0a.out.S) | (with_reducible exact HG0.out.S))
      clear hK K
      (try simp only [Act.put, List.getElem_toArray, List.getElem_cons_succ, List.getElem_cons_zero, List.setIfInBounds_toArray, List.set_cons_zero, List.set_cons_succ])
      refine wpAnyH_done (by kernel_rfl) ?_ _
      generalize hE : (((u2.setCell { block := u1.heap.size, off := 0 } (Value.int IntKind.u8 (k : Int))).setCell { block := u1.heap.size, off := 1 } (Value.int IntKind.u64 (q : Int))).setCell { block := u1.heap.size, off := 2 } (Value.int IntKind.i64 a)).setCell { block := u1.heap.size, off := 3 } (Value.slice none 0 0) = w7
      obtain ⟨z, hz⟩ : ∃ z, z = u1.heap.size := ⟨_, rfl⟩
      have HQ : Hid (TkG w w7 gR gf g s t p l2 e2 ∧ TkM w7 z (.int .u8 (k : Int)) (.int .u64 (q : Int)) (.int .i64 a) (.slice none 0 0) ∧ g < z) := Lib.hid ⟨by rw [← hE]; exact HG2.out.set4 HL2.out, by rw [hz, ← hE]; exact HM2.out.set4, by rw [hz]; exact HL2.out⟩
      rw [← hz]
      clear hE hz m0 m1 m2 m3 f0 f1 f2 f3 HM2 HL2 HG2 HG1
      have x2 := heap_cell HQ.out.1.hF 2
      go_upto_region 7 with (go_at_call 35; (with_reducible refine (HN.out _ _ HQ.out.1.hr).mono ?_); rintro e w8 ⟨rfl, hr, hg⟩; have HG8 := Lib.hid (HQ.out.1.read hr hg); have HM8 := Lib.hid (HQ.out.2.1.read HQ.out.2.2 hg); clear hr hg x2)
      by_cases hn8 : 8 < n
      · have hn8i : decide ((8 : Int) < (n : Int)) = true := decide_eq_true (by omega)
        have HRz := Lib.hid (HR.out.trans (if_pos hn8))
        clear hn8
        obtain ⟨r0, r1, r2, r3, s0, s1, s2, s3⟩ := blk4 HG8.out.hR
        go_wp2
        have HZ := Lib.hid (HG8.out.setR (d0 := .int .u8 0) (d1 := .int .u64 0) (d2 := .int .i64 0) (d3 := .slice none 0 0))
        generalize (((w8.setCell { block := gR, off := 0 } (Value.int IntKind.u8 0)).setCell { block := gR, off := 1 } (Value.int IntKind.u64 0)).setCell { block := gR, off := 2 } (Value.int IntKind.i64 0)).setCell { block := gR, off := 3 } (Value.slice none 0 0) = wv at HZ ⊢
        clear r0 r1 r2 r3 s0 s1 s2 s3
        obtain ⟨r0, r1, r2, r3, _, _, _, _⟩ := blk4 HZ.out.1
        refine bodyPost_ret (v := .tuple #[.agg #[.int .u8 0, .int .u64 0, .int .i64 0, .slice none 0 0], .int .i64 13]) (by simp [results, Tryd.results17, go_sem, r0, r1, r2, r3]) rfl ?_
        rw [show r = (noMsg, 13) from HRz.out]
        exact ⟨none, 0, 0, rfl, props_nil _ _, HZ.out.2.1⟩
      · have hn8i : decide ((8 : Int) < (n : Int)) = false := decide_eq_false (by omega)
        have hwn : IntKind.i64.wrap (n : Int) = (n : Int) := IntWalk.i64_in _ (by omega)
        have HRz := Lib.hid (HR.out.trans (if_neg hn8))
        have HPNx := Lib.hid (HPN.out (by omega))
        have HPT := Lib.hid (HP.out g w8 HG8.out.hr (by omega))
        clear hn8
        go_upto_region 10 with (go_at_call 39; (with_reducible refine HPT.out.mono ?_); rintro e w9 ⟨v9, rfl, ht⟩; obtain ⟨A9, c9, rfl, _⟩ := (OwnsP.props ht.ho).open_; have HT9 := Lib.hid ht; have HG9 := Lib.hid (HG8.out.touch ht.hr ht.ht); have HM9 := Lib.hid (HM8.out.touch HQ.out.2.2 ht.ht); obtain ⟨m0, m1, m2, m3, f0, f1, f2, f3⟩ := blk4 HM9.out; clear ht)
        have HGa := Lib.hid (HG9.out.keep HQ.out.2.2 ((Below.refl z w9).setCell (Nat.le_refl _) (p := ⟨z, 3, none⟩) (.slice A9 ps.length c9)))
        have HMa := Lib.hid (HM9.out.set3 (d3 := .slice A9 ps.length c9))
        have HOa : Hid (OwnsP (w9.setCell ⟨z, 3, none⟩ (.slice A9 ps.length c9)) w8.heap.size (.slice A9 ps.length c9) ps) := Lib.hid (ownsRow_below HT9.out.ho fun j hj => Below.heap_setCell w9 _ _ j (by have h1 := ownsRow_old HT9.out.ho j hj; have h2 := heap_lt HM8.out; show j ≠ z; omega))
        have HLa := Lib.hid (heap_lt HG8.out.hR)
        generalize w9.setCell { block := z, off := 3 } (Value.slice A9 ps.length c9) = wa at HGa HMa HOa ⊢
        clear m0 m1 m2 m3 f0 f1 f2 f3 HT9 HG9 HM9 HPT
        obtain ⟨x, hx⟩ : ∃ x, rdEnd l4 e4 = x := ⟨_, rfl⟩
        have HEn := Lib.hid (end_any g l4 e4 wa HGa.out.hr)
        rw [hx] at HEn
        by_cases hx0 : x = 0
        · have HXe := Lib.hid (hx.trans hx0)
          have hxi : (x != 0) = false := by rw [hx0]; rfl
          clear hx hx0
          obtain ⟨m0, m1, m2, m3, f0, f1, f2, f3⟩ := blk4 HMa.out
          cases hr : mayL ⟨k, q, a, ps⟩ with
          | false =>
            have HMy := Lib.hid (mmay_any k q a A9 ps.length c9 ps wa (OwnsP.props HOa.out) HPNx.out hr)
            have HRr : Hid (r = (noMsg, 11)) := Lib.hid (by rw [HRz.out]; unfold finM; rw [HXe.out, if_pos rfl, hr]; rfl)
            clear hr
            go_upto_region 14 with (first
              | (go_at_call 40; (with_reducible refine HEn.out.mono ?_); rintro e wu ⟨rfl, rfl⟩)
              | (go_at_call 13; (with_reducible refine HMy.out.mono ?_); rintro e wb ⟨rfl, hb⟩; have HGb := Lib.hid (HGa.out.over hb); clear hb m0 m1 m2 m3 f0 f1 f2 f3))
            obtain ⟨r0, r1, r2, r3, s0, s1, s2, s3⟩ := blk4 HGb.out.hR
            go_wp2
            have HZ := Lib.hid (HGb.out.setR (d0 := .int .u8 0) (d1 := .int .u64 0) (d2 := .int .i64 0) (d3 := .slice none 0 0))
            generalize (((wb.setCell { block := gR, off := 0 } (Value.int IntKind.u8 0)).setCell { block := gR, off := 1 } (Value.int IntKind.u64 0)).setCell { block := gR, off := 2 } (Value.int IntKind.i64 0)).setCell { block := gR, off := 3 } (Value.slice none 0 0) = wv at HZ ⊢
            clear r0 r1 r2 r3 s0 s1 s2 s3
            obtain ⟨r0, r1, r2, r3, _, _, _, _⟩ := blk4 HZ.out.1
            refine bodyPost_ret (v := .tuple #[.agg #[.int .u8 0, .int .u64 0, .int .i64 0, .slice none 0 0], .int .i64 11]) (by simp [results, Tryd.results17, go_sem, r0, r1, r2, r3]) rfl ?_
            rw [show r = (noMsg, 11) from HRr.out]
            exact ⟨none, 0, 0, rfl, props_nil _ _, HZ.out.2.1⟩
          | true =>
            have HMy := Lib.hid (mmay_any k q a A9 ps.length c9 ps wa (OwnsP.props HOa.out) HPNx.out hr)
            have HRr : Hid (r = (⟨k, q, a, ps⟩, 0)) := Lib.hid (by rw [HRz.out]; unfold finM; rw [HXe.out, if_pos rfl, hr]; rfl)
            clear hr
            go_upto_region 15 with (first
              | (go_at_call 40; (with_reducible refine HEn.out.mono ?_); rintro e wu ⟨rfl, rfl⟩)
              | (go_at_call 13; (with_reducible refine HMy.out.mono ?_); rintro e wb ⟨rfl, hb⟩; have HGb := Lib.hid (HGa.out.over hb); have HMb := Lib.hid (HMa.out.over hb); have HOb := Lib.hid (ownsRow_over HOa.out hb); clear hb m0 m1 m2 m3 f0 f1 f2 f3))
            obtain ⟨m0, m1, m2, m3, _, _, _, _⟩ := blk4 HMb.out
            obtain ⟨r0, r1, r2, r3, s0, s1, s2, s3⟩ := blk4 HGb.out.hR
            go_wp2
            have HZ := Lib.hid (HGb.out.setR (d0 := .int .u8 (k : Int)) (d1 := .int .u64 (q : Int)) (d2 := .int .i64 a) (d3 := .slice A9 ps.length c9))
            generalize (((wb.setCell { block := gR, off := 0 } (Value.int IntKind.u8 (k : Int))).setCell { block := gR, off := 1 } (Value.int IntKind.u64 (q : Int))).setCell { block := gR, off := 2 } (Value.int IntKind.i64 a)).setCell { block := gR, off := 3 } (Value.slice A9 ps.length c9) = wv at HZ ⊢
            clear r0 r1 r2 r3 s0 s1 s2 s3 m0 m1 m2 m3
            obtain ⟨r0, r1, r2, r3, _, _, _, _⟩ := blk4 HZ.out.1
            refine bodyPost_ret (v := .tuple #[.agg #[.int .u8 (k : Int), .int .u64 (q : Int), .int .i64 a, .slice A9 ps.length c9], .int .i64 0]) (by simp [results, Tryd.results17, go_sem, r0, r1, r2, r3]) rfl ?_
            rw [HRr.out]
            exact ⟨A9, ps.length, c9, rfl, OwnsP.props (ownsRow_below HOb.out fun j hj => HZ.out.2.2 j (by have h1 := ownsRow_old HOb.out j hj; have h2 := HLa.out; omega)), HZ.out.2.1⟩
        · have HRr : Hid (r = (noMsg, x)) := Lib.hid (by rw [HRz.out]; unfold finM; rw [hx, if_neg hx0])
          have hxi : (x != 0) = true := by simp [hx0]
          clear hx hx0
          go_upto_region 12 with (go_at_call 40; (with_reducible refine HEn.out.mono ?_); rintro e wu ⟨rfl, rfl⟩)
          obtain ⟨r0, r1, r2, r3, s0, s1, s2, s3⟩ := blk4 HGa.out.hR
          go_wp2
          have HZ := Lib.hid (HGa.out.setR (d0 := .int .u8 0) (d1 := .int .u64 0) (d2 := .int .i64 0) (d3 := .slice none 0 0))
          generalize (((wa.setCell { block := gR, off := 0 } (Value.int IntKind.u8 0)).setCell { block := gR, off := 1 } (Value.int IntKind.u64 0)).setCell { block := gR, off := 2 } (Value.int IntKind.i64 0)).setCell { block := gR, off := 3 } (Value.slice none 0 0) = wv at HZ ⊢
          clear r0 r1 r2 r3 s0 s1 s2 s3
          obtain ⟨r0, r1, r2, r3, _, _, _, _⟩ := blk4 HZ.out.1
          refine bodyPost_ret (v := .tuple #[.agg #[.int .u8 0, .int .u64 0, .int .i64 0, .slice none 0 0], .int .i64 x]) (by simp [results, Tryd.results17, go_sem, r0, r1, r2, r3]) rfl ?_
          rw [show r = (noMsg, x) from HRr.out]
          exact ⟨none, 0, 0, rfl, props_nil _ _, HZ.out.2.1⟩
  · go_simp
    refine hK.out _ _ ?_ (fun hHeld => ?_)
    · (try dsimp only)
      (first | (with_reducible exact HG2.out.S) | (with_reducible exact (HG2.out.alloc _).S) | (with_reducible exact (HG2.out.set4 HL2.out).S) | (with_reducible exact HG1.out.S) | (with_reducible exact HG1a.out.S) | (with_reducible exact HG0a.out.S) | (with_reducible exact HG0.out.S))
    clear hK K
    (try simp only [Act.put, List.getElem_toArray, List.getElem_cons_succ, List.getElem_cons_zero, List.setIfInBounds_toArray, List.set_cons_zero, List.set_cons_succ])
    refine wpAnyH_ready (rs := [5]) (by kernel_rfl) (by simp) ?_
    refine AllReadyH.cons rfl (fun K hK => ?_) AllReadyH.nil
    go_simp
    (go_at_call 35; first | ((with_reducible refine (HS.out _ _ HG0.out.hr).mono ?_); rintro e u1 ⟨rfl, hr, hg⟩; have HG1 := Lib.hid (HG0.out.read hr hg); have HG1a := Lib.hid (HG1.out.alloc (.cells #[.int .u8 0, .int .u64 0, .int .i64 0, .slice none 0 0] 25)); have HM1a : Hid (TkM (u1.alloc (.cells #[.int .u8 0, .int .u64 0, .int .i64 0, .slice none 0 0] 25)) u1.heap.size (.int .u8 0) (.int .u64 0) (.int .i64 0) (.slice none 0 0)) := Lib.hid (heap_alloc_new u1 _); have HL1a := Lib.hid HG1.out.hr.lt; clear hr hg) | ((with_reducible refine (HS.out _ _ HG0a.out.hr).mono ?_); rintro e u1 ⟨rfl, hr, hg⟩; have HG1 := Lib.hid (HG0a.out.read hr hg); have HM1 := Lib.hid (HM0a.out.read HL0.out hg); clear hr hg))
    go_wp2_with fail
    refine hK.out _ _ ?_ (fun hHeld => ?_)
    · (try dsimp only)
      (first | (with_reducible exact HG2.out.S) | (with_reducible exact (HG2.out.alloc _).S) | (with_reducible exact (HG2.out.set4 HL2.out).S) | (with_reducible exact HG1.out.S) | (with_reducible exact HG1a.out.S) | (with_reducible exact HG0a.out.S) | (with_reducible exact HG0.out.S))
    clear hK K
    (try simp only [Act.put, List.getElem_toArray, List.getElem_cons_succ, List.getElem_cons_zero, List.setIfInBounds_toArray, List.set_cons_zero, List.set_cons_succ])
    refine wpAnyH_ready (rs := [10]) (by kernel_rfl) (by simp) ?_
    refine AllReadyH.cons rfl (fun K hK => ?_) AllReadyH.nil
    go_simp
    (go_at_call 37; first | ((with_reducible refine (HA.out _ _ HG1.out.hr).mono ?_); rintro e u2 ⟨rfl, hr, hg⟩; have HG2 := Lib.hid (HG1.out.read hr hg); first | (have HM2 := Lib.hid (HM1.out.read HL0.out hg); have HL2 := HL0; obtain ⟨m0, m1, m2, m3, f0, f1, f2, f3⟩ := blk4 HM2.out; clear hr hg) | clear hr hg) | ((with_reducible refine (HA.out _ _ HG1a.out.hr).mono ?_); rintro e u2 ⟨rfl, hr, hg⟩; have HG2 := Lib.hid (HG1a.out.read hr hg); have HM2 := Lib.hid (HM1a.out.read HL1a.out hg); have HL2 := HL1a; obtain ⟨m0, m1, m2, m3, f0, f1, f2, f3⟩ := blk4 HM2.out; clear hr hg))
    go_wp2_with fail
    refine hK.out _ _ ?_ (fun hHeld => ?_)
    · (try dsimp only)
      (first | (with_reducible exact HG2.out.S) | (with_reducible exact (HG2.out.alloc _).S) | (with_reducible exact (HG2.out.set4 HL2.out).S) | (with_reducible exact HG1.out.S) | (with_reducible exact HG1a.out.S) | (with_reducible exact HG0a.out.S) | (with_reducible exact HG0.out.S))
    clear hK K
    (try simp only [Act.put, List.getElem_toArray, List.getElem_cons_succ, List.getElem_cons_zero, List.setIfInBounds_toArray, List.set_cons_zero, List.set_cons_succ])
    refine wpAnyH_take (i := 11) (v := ?_) rfl (by kernel_rfl) (by kernel_rfl) (by kernel_rfl) (fun _ _ _ h => h) (Or.inl ⟨by rfl, ?_⟩) (by assumption) ?_
    rotate_left
    · intro w hSw
      (try dsimp only at hSw)
      go_simp
      try with_reducible rfl
    (try simp only [Act.put, List.getElem_toArray, List.getElem_cons_succ, List.getElem_cons_zero, List.setIfInBounds_toArray, List.set_cons_zero, List.set_cons_succ])
    refine wpAnyH_ready (rs := [13]) (by kernel_rfl) (by simp) ?_
    refine AllReadyH.cons rfl (fun K hK => ?_) AllReadyH.nil
    go_simp
    refine hK.out _ _ ?_ (fun hHeld => ?_)
    · (try dsimp only)
      (first | (with_reducible exact HG2.out.S) | (with_reducible exact (HG2.out.alloc _).S) | (with_reducible exact (HG2.out.set4 HL2.out).S) | (with_reducible exact HG1.out.S) | (with_reducible exact HG1a.out.S) | (with_reducible exact HG0a.out.S) | (with_reducible exact HG0.out.S))
    clear hK K
    (try simp only [Act.put, List.getElem_toArray, List.getElem_cons_succ, List.getElem_cons_zero, List.setIfInBounds_toArray, List.set_cons_zero, List.set_cons_succ])
    refine wpAnyH_done (by kernel_rfl) ?_ _
    generalize hE : (((u2.setCell { block := w3.heap.size, off := 0 } (Value.int IntKind.u8 (k : Int))).setCell { block := w3.heap.size, off := 1 } (Value.int IntKind.u64 (q : Int))).setCell { block := w3.heap.size, off := 2 } (Value.int IntKind.i64 a)).setCell { block := w3.heap.size, off := 3 } (Value.slice none 0 0) = w7
    obtain ⟨z, hz⟩ : ∃ z, z = w3.heap.size := ⟨_, rfl⟩
    have HQ : Hid (TkG w w7 gR gf g s t p l2 e2 ∧ TkM w7 z (.int .u8 (k : Int)) (.int .u64 (q : Int)) (.int .i64 a) (.slice none 0 0) ∧ g < z) := Lib.hid ⟨by rw [← hE]; exact HG2.out.set4 HL2.out, by rw [hz, ← hE]; exact HM2.out.set4, by rw [hz]; exact HL2.out⟩
    rw [← hz]
    clear hE hz m0 m1 m2 m3 f0 f1 f2 f3 HM2 HL2 HG2 HG1
    have x2 := heap_cell HQ.out.1.hF 2
    go_upto_region 7 with (go_at_call 35; (with_reducible refine (HN.out _ _ HQ.out.1.hr).mono ?_); rintro e w8 ⟨rfl, hr, hg⟩; have HG8 := Lib.hid (HQ.out.1.read hr hg); have HM8 := Lib.hid (HQ.out.2.1.read HQ.out.2.2 hg); clear hr hg x2)
    by_cases hn8 : 8 < n
    · have hn8i : decide ((8 : Int) < (n : Int)) = true := decide_eq_true (by omega)
      have HRz := Lib.hid (HR.out.trans (if_pos hn8))
      clear hn8
      obtain ⟨r0, r1, r2, r3, s0, s1, s2, s3⟩ := blk4 HG8.out.hR
      go_wp2
      have HZ := Lib.hid (HG8.out.setR (d0 := .int .u8 0) (d1 := .int .u64 0) (d2 := .int .i64 0) (d3 := .slice none 0 0))
      generalize (((w8.setCell { block := gR, off := 0 } (Value.int IntKind.u8 0)).setCell { block := gR, off := 1 } (Value.int IntKind.u64 0)).setCell { block := gR, off := 2 } (Value.int IntKind.i64 0)).setCell { block := gR, off := 3 } (Value.slice none 0 0) = wv at HZ ⊢
      clear r0 r1 r2 r3 s0 s1 s2 s3
      obtain ⟨r0, r1, r2, r3, _, _, _, _⟩ := blk4 HZ.out.1
      refine bodyPost_ret (v := .tuple #[.agg #[.int .u8 0, .int .u64 0, .int .i64 0, .slice none 0 0], .int .i64 13]) (by simp [results, Tryd.results17, go_sem, r0, r1, r2, r3]) rfl ?_
      rw [show r = (noMsg, 13) from HRz.out]
      exact ⟨none, 0, 0, rfl, props_nil _ _, HZ.out.2.1⟩
    · have hn8i : decide ((8 : Int) < (n : Int)) = false := decide_eq_false (by omega)
      have hwn : IntKind.i64.wrap (n : Int) = (n : Int) := IntWalk.i64_in _ (by omega)
      have HRz := Lib.hid (HR.out.trans (if_neg hn8))
      have HPNx := Lib.hid (HPN.out (by omega))
      have HPT := Lib.hid (HP.out g w8 HG8.out.hr (by omega))
      clear hn8
      go_upto_region 10 with (go_at_call 39; (with_reducible refine HPT.out.mono ?_); rintro e w9 ⟨v9, rfl, ht⟩; obtain ⟨A9, c9, rfl, _⟩ := (OwnsP.props ht.ho).open_; have HT9 := Lib.hid ht; have HG9 := Lib.hid (HG8.out.touch ht.hr ht.ht); have HM9 := Lib.hid (HM8.out.touch HQ.out.2.2 ht.ht); obtain ⟨m0, m1, m2, m3, f0, f1, f2, f3⟩ := blk4 HM9.out; clear ht)
      have HGa := Lib.hid (HG9.out.keep HQ.out.2.2 ((Below.refl z w9).setCell (Nat.le_refl _) (p := ⟨z, 3, none⟩) (.slice A9 ps.length c9)))
      have HMa := Lib.hid (HM9.out.set3 (d3 := .slice A9 ps.length c9))
      have HOa : Hid (OwnsP (w9.setCell ⟨z, 3, none⟩ (.slice A9 ps.length c9)) w8.heap.size (.slice A9 ps.length c9) ps) := Lib.hid (ownsRow_below HT9.out.ho fun j hj => Below.heap_setCell w9 _ _ j (by have h1 := ownsRow_old HT9.out.ho j hj; have h2 := heap_lt HM8.out; show j ≠ z; omega))
      have HLa := Lib.hid (heap_lt HG8.out.hR)
      generalize w9.setCell { block := z, off := 3 } (Value.slice A9 ps.length c9) = wa at HGa HMa HOa ⊢
      clear m0 m1 m2 m3 f0 f1 f2 f3 HT9 HG9 HM9 HPT
      obtain ⟨x, hx⟩ : ∃ x, rdEnd l4 e4 = x := ⟨_, rfl⟩
      have HEn := Lib.hid (end_any g l4 e4 wa HGa.out.hr)
      rw [hx] at HEn
      by_cases hx0 : x = 0
      · have HXe := Lib.hid (hx.trans hx0)
        have hxi : (x != 0) = false := by rw [hx0]; rfl
        clear hx hx0
        obtain ⟨m0, m1, m2, m3, f0, f1, f2, f3⟩ := blk4 HMa.out
        cases hr : mayL ⟨k, q, a, ps⟩ with
        | false =>
          have HMy := Lib.hid (mmay_any k q a A9 ps.length c9 ps wa (OwnsP.props HOa.out) HPNx.out hr)
          have HRr : Hid (r = (noMsg, 11)) := Lib.hid (by rw [HRz.out]; unfold finM; rw [HXe.out, if_pos rfl, hr]; rfl)
          clear hr
          go_upto_region 14 with (first
            | (go_at_call 40; (with_reducible refine HEn.out.mono ?_); rintro e wu ⟨rfl, rfl⟩)
            | (go_at_call 13; (with_reducible refine HMy.out.mono ?_); rintro e wb ⟨rfl, hb⟩; have HGb := Lib.hid (HGa.out.over hb); clear hb m0 m1 m2 m3 f0 f1 f2 f3))
          obtain ⟨r0, r1, r2, r3, s0, s1, s2, s3⟩ := blk4 HGb.out.hR
          go_wp2
          have HZ := Lib.hid (HGb.out.setR (d0 := .int .u8 0) (d1 := .int .u64 0) (d2 := .int .i64 0) (d3 := .slice none 0 0))
          generalize (((wb.setCell { block := gR, off := 0 } (Value.int IntKind.u8 0)).setCell { block := gR, off := 1 } (Value.int IntKind.u64 0)).setCell { block := gR, off := 2 } (Value.int IntKind.i64 0)).setCell { block := gR, off := 3 } (Value.slice none 0 0) = wv at HZ ⊢
          clear r0 r1 r2 r3 s0 s1 s2 s3
          obtain ⟨r0, r1, r2, r3, _, _, _, _⟩ := blk4 HZ.out.1
          refine bodyPost_ret (v := .tuple #[.agg #[.int .u8 0, .int .u64 0, .int .i64 0, .slice none 0 0], .int .i64 11]) (by simp [results, Tryd.results17, go_sem, r0, r1, r2, r3]) rfl ?_
          rw [show r = (noMsg, 11) from HRr.out]
          exact ⟨none, 0, 0, rfl, props_nil _ _, HZ.out.2.1⟩
        | true =>
          have HMy := Lib.hid (mmay_any k q a A9 ps.length c9 ps wa (OwnsP.props HOa.out) HPNx.out hr)
          have HRr : Hid (r = (⟨k, q, a, ps⟩, 0)) := Lib.hid (by rw [HRz.out]; unfold finM; rw [HXe.out, if_pos rfl, hr]; rfl)
          clear hr
          go_upto_region 15 with (first
            | (go_at_call 40; (with_reducible refine HEn.out.mono ?_); rintro e wu ⟨rfl, rfl⟩)
            | (go_at_call 13; (with_reducible refine HMy.out.mono ?_); rintro e wb ⟨rfl, hb⟩; have HGb := Lib.hid (HGa.out.over hb); have HMb := Lib.hid (HMa.out.over hb); have HOb := Lib.hid (ownsRow_over HOa.out hb); clear hb m0 m1 m2 m3 f0 f1 f2 f3))
          obtain ⟨m0, m1, m2, m3, _, _, _, _⟩ := blk4 HMb.out
          obtain ⟨r0, r1, r2, r3, s0, s1, s2, s3⟩ := blk4 HGb.out.hR
          go_wp2
          have HZ := Lib.hid (HGb.out.setR (d0 := .int .u8 (k : Int)) (d1 := .int .u64 (q : Int)) (d2 := .int .i64 a) (d3 := .slice A9 ps.length c9))
          generalize (((wb.setCell { block := gR, off := 0 } (Value.int IntKind.u8 (k : Int))).setCell { block := gR, off := 1 } (Value.int IntKind.u64 (q : Int))).setCell { block := gR, off := 2 } (Value.int IntKind.i64 a)).setCell { block := gR, off := 3 } (Value.slice A9 ps.length c9) = wv at HZ ⊢
          clear r0 r1 r2 r3 s0 s1 s2 s3 m0 m1 m2 m3
          obtain ⟨r0, r1, r2, r3, _, _, _, _⟩ := blk4 HZ.out.1
          refine bodyPost_ret (v := .tuple #[.agg #[.int .u8 (k : Int), .int .u64 (q : Int), .int .i64 a, .slice A9 ps.length c9], .int .i64 0]) (by simp [results, Tryd.results17, go_sem, r0, r1, r2, r3]) rfl ?_
          rw [HRr.out]
          exact ⟨A9, ps.length, c9, rfl, OwnsP.props (ownsRow_below HOb.out fun j hj => HZ.out.2.2 j (by have h1 := ownsRow_old HOb.out j hj; have h2 := HLa.out; omega)), HZ.out.2.1⟩
      · have HRr : Hid (r = (noMsg, x)) := Lib.hid (by rw [HRz.out]; unfold finM; rw [hx, if_neg hx0])
        have hxi : (x != 0) = true := by simp [hx0]
        clear hx hx0
        go_upto_region 12 with (go_at_call 40; (with_reducible refine HEn.out.mono ?_); rintro e wu ⟨rfl, rfl⟩)
        obtain ⟨r0, r1, r2, r3, s0, s1, s2, s3⟩ := blk4 HGa.out.hR
        go_wp2
        have HZ := Lib.hid (HGa.out.setR (d0 := .int .u8 0) (d1 := .int .u64 0) (d2 := .int .i64 0) (d3 := .slice none 0 0))
        generalize (((wa.setCell { block := gR, off := 0 } (Value.int IntKind.u8 0)).setCell { block := gR, off := 1 } (Value.int IntKind.u64 0)).setCell { block := gR, off := 2 } (Value.int IntKind.i64 0)).setCell { block := gR, off := 3 } (Value.slice none 0 0) = wv at HZ ⊢
        clear r0 r1 r2 r3 s0 s1 s2 s3
        obtain ⟨r0, r1, r2, r3, _, _, _, _⟩ := blk4 HZ.out.1
        refine bodyPost_ret (v := .tuple #[.agg #[.int .u8 0, .int .u64 0, .int .i64 0, .slice none 0 0], .int .i64 x]) (by simp [results, Tryd.results17, go_sem, r0, r1, r2, r3]) rfl ?_
        rw [show r = (noMsg, x) from HRr.out]
        exact ⟨none, 0, 0, rfl, props_nil _ _, HZ.out.2.1⟩
end Go.Proofs.YtiflpjdiokloaaaDoor
