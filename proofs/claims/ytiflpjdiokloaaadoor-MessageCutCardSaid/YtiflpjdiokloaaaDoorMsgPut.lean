/-
  Package message's contract of Put.
-/
import Derived.Test.YtiflpjdiokloaaaDoorPackI
import Derived.Test.YtiflpjdiokloaaaDoorMsgProps
import Derived.Test.YtiflpjdiokloaaaDoorTouch
namespace Go.Proofs.YtiflpjdiokloaaaDoor
open Go.RowKit
set_option linter.unusedVariables false

/-- What Put answers. -/
def PutR (m : Msg) : List UInt8 × Int := if mayL m then (putM m, 0) else ([], 1)
/-- A message's box, and that of what it names. -/
structure MF (w : World) (g0 g1 k q : Nat) (a : Int) (V : Value) (s t p : Bool) : Prop where
  hm : w.heap[g0]? = some (.cells #[.int .u8 (k : Int), .int .u64 (q : Int), .int .i64 a, V] 25 (0, 0))
  hf : w.heap[g1]? = some (.cells #[.bool s, .bool t, .bool p] 61 (0, 0))
theorem MF.over {w w' : World} {g0 g1 k q : Nat} {a : Int} {V : Value} {s t p : Bool} (h : MF w g0 g1 k q a V s t p) (hb : Below w.heap.size w w') : MF w' g0 g1 k q a V s t p :=
  ⟨(hb.block _ (heap_lt h.hm)).trans h.hm, (hb.block _ (heap_lt h.hf)).trans h.hf⟩
theorem bthen {B : Nat} {a b c : World} (h : Below B a b) (hB : B ≤ b.heap.size) (k : Below b.heap.size b c) : Below B a c := h.trans (k.mono hB)
/-- May, of a message's propositions, in any later world. -/
abbrev MayQ (k q : Nat) (a : Int) (A : Option Addr) (n c : Nat) (W : World) (x : Bool) : Prop := ∀ w, Below W.heap.size W w → Calls Tryd.prog 13 #[.agg #[.int .u8 (k : Int), .int .u64 (q : Int), .int .i64 a, .slice A n c]] w fun e w' => e = .returned (.bool x) ∧ Below w.heap.size w w'

set_option maxRecDepth 100000 in
theorem mput_no (k q : Nat) (a : Int) (A : Option Addr) (n c : Nat) (w : World) (HM : Hid (MayQ k q a A n c w false)) :
    Calls Tryd.prog 12 #[.agg #[.int .u8 (k : Int), .int .u64 (q : Int), .int .i64 a, .slice A n c]] w fun e w' => e = .returned (.tuple #[.slice none 0 0, .int .i64 1]) ∧ Below w.heap.size w w' := by
  obtain ⟨m0, m1, m2, m3, _, _, _, _⟩ := blk4 (heap_alloc_new w (.cells #[.int .u8 (k : Int), .int .u64 (q : Int), .int .i64 a, .slice A n c] 25))
  go_enter Tryd.func12, Tryd.ntmps12
  go_wp2_with (go_at_call 13; (with_reducible refine (HM.out _ (bmore (bself w) _)).mono ?_); rintro e w1 ⟨rfl, hb⟩; obtain ⟨h0, hB, hz⟩ := one_block hb; have HB := Lib.hid hB; clear m0 m1 m2 m3 hb h0 hB hz)
  refine bodyPost_ret (v := .tuple #[.slice none 0 0, .int .i64 1]) (by simp [results, Tryd.results12, go_sem]) rfl ?_
  exact ⟨rfl, HB.out⟩

set_option maxRecDepth 100000 in
set_option maxHeartbeats 1000000 in
theorem mput_1 (k q a : Nat) (A : Option Addr) (n c : Nat) (l : List Pr) (w : World) (hq : q ≤ 18446744073709551615) (ha : a ≤ 9223372036854775807) (hl : Props w w.heap.size (.slice A n c) l) (hm : l.length ≤ 1000) (hf : FitsP l) (hks : nmS k = true) (hka : nmA k = false) (hkp : nmP k = false) (hki : nmI k = true) (HM : Hid (MayQ k q a A n c w true)) {pp b : List UInt8} (hpp : enc l.length ++ encPs l = pp) (hb : enc q = b) :
    Calls Tryd.prog 12 #[.agg #[.int .u8 (k : Int), .int .u64 (q : Int), .int .i64 (a : Int), .slice A n c]] w fun e w' => ∃ G z, e = .returned (.tuple #[.slice G b.length z, .int .i64 0]) ∧ LiesB w' w'.heap.size (.slice G b.length z) b ∧ Below w.heap.size w w' := by
  have HL := Lib.hid (And.intro hl (And.intro hm hf))
  have HQ : Hid (enc q = b) := Lib.hid hb
  have HPQ := Lib.hid hpp
  have hwa : IntKind.u64.wrap (a : Int) = (a : Int) := IntWalk.u64_in _ (by omega)
  have HPq := fun w => put_one q w 22 hq
  have HPa := fun w => put_one a w 22 (by omega)
  have HLN : Hid ((enc q).length ≤ 9 ∧ (enc a).length ≤ 9 ∧ pp.length ≤ 1018009) := Lib.hid (by
    have e1 := enc_len q hq
    have e2 := enc_len a (by omega)
    have e3 := enc_len l.length (by omega)
    have e4 := encPs_few l hf
    rw [← hpp, List.length_append]
    omega)
  obtain ⟨m0, m1, m2, m3, _, _, _, _⟩ := blk4 (heap_alloc_new w (.cells #[.int .u8 (k : Int), .int .u64 (q : Int), .int .i64 (a : Int), .slice A n c] 25))
  have HN := fun w0 => Lib.hid (mnamed_at k w0 hks hka hkp hki)
  clear hq ha hl hm hf hb hpp hks hka hkp hki
  go_enter Tryd.func12, Tryd.ntmps12
  go_upto_region 3 with (go_at_call 13; (with_reducible refine (HM.out _ (bmore (bself w) _)).mono ?_); rintro e w1 ⟨rfl, hb⟩; obtain ⟨h0, hB, hz⟩ := one_block hb; have HB := Lib.hid hB; have H0 := Lib.hid h0; clear m0 m1 m2 m3 hb h0 hB hz)
  obtain ⟨m0, m1, m2, m3, _, _, _, _⟩ := blk4 H0.out
  go_upto_region 5 with (go_at_call 25; (with_reducible refine (HN _).out.mono ?_); rintro e w2 ⟨rfl, hb2⟩; have H2 := Lib.hid ((hb2.block _ (heap_lt H0.out)).trans H0.out); have HB2 := Lib.hid (bthen HB.out (Nat.le_of_lt (heap_lt H0.out)) hb2); clear m0 m1 m2 m3 hb2)
  have HMF : Hid (MF (w2.alloc (.cells #[.bool true, .bool false, .bool false] 61)) w.heap.size w2.heap.size k q a (.slice A n c) true false false) := Lib.hid ⟨(Below.heap_alloc w2 _ _ (heap_lt H2.out)).trans H2.out, heap_alloc_new w2 _⟩
  have HB3 := Lib.hid (HB2.out.alloc (Nat.le_of_lt (heap_lt H2.out)) (.cells #[.bool true, .bool false, .bool false] 61))
  generalize w2.alloc (.cells #[.bool true, .bool false, .bool false] 61) = w3 at HMF HB3 ⊢
  generalize w2.heap.size = g at HMF ⊢
  clear HB2 H2 H0 HB
  have HZ3 := Lib.hid (Nat.le_of_lt (heap_lt HMF.out.hm))
  obtain ⟨m0, m1, m2, m3, _, _, _, _⟩ := blk4 HMF.out.hm
  obtain ⟨x0, x1, x2, _, _, _⟩ := blk3 HMF.out.hf
  go_wp2_with (first
    | (go_at_call 26; (with_reducible refine (HPq _).mono ?_); rintro e u1 ⟨A1, c1, rfl, ho1, hr1, hA1, hb1⟩)
    | (at_builtin; refine wp_app_any rfl (.tmp 18) (.tmp 22) rfl w3.heap.size u1.heap.size _ ([]) (enc q) A1 c1 rfl (Owns.none_ _ _) rfl hA1 hr1 (Fits.of (by have := HLN.out; simp only [List.length_nil]; omega)) (hb1.size) ?_; intro v1 y1 hoy1 hby1; have HO1 := Lib.hid hoy1; have HT1 := Lib.hid ((bthen (Below.refl w3.heap.size w3) (Nat.le_refl _) hb1).trans hby1); have HMF1 := Lib.hid (HMF.out.over HT1.out); clear m0 m1 m2 m3 x0 x1 x2 hoy1 hby1 ho1 hr1 hb1; obtain ⟨m0, m1, m2, m3, _, _, _, _⟩ := blk4 HMF1.out.hm; obtain ⟨x0, x1, x2, _, _, _⟩ := blk3 HMF1.out.hf))
  rw [List.nil_append] at HO1
  have hz := HO1.out
  rw [HQ.out] at hz
  obtain ⟨G, z, rfl, _⟩ := lies_row hz.lies
  go_ret2
  exact ⟨G, z, rfl, hz.lies.in_, HB3.out.trans (HT1.out.mono HZ3.out)⟩

set_option maxRecDepth 100000 in
set_option maxHeartbeats 1000000 in
theorem mput_2 (k q a : Nat) (A : Option Addr) (n c : Nat) (l : List Pr) (w : World) (hq : q ≤ 18446744073709551615) (ha : a ≤ 9223372036854775807) (hl : Props w w.heap.size (.slice A n c) l) (hm : l.length ≤ 1000) (hf : FitsP l) (hks : nmS k = true) (hka : nmA k = true) (hkp : nmP k = true) (hki : nmI k = true) (HM : Hid (MayQ k q a A n c w true)) {pp b : List UInt8} (hpp : enc l.length ++ encPs l = pp) (hb : enc q ++ enc a ++ pp = b) :
    Calls Tryd.prog 12 #[.agg #[.int .u8 (k : Int), .int .u64 (q : Int), .int .i64 (a : Int), .slice A n c]] w fun e w' => ∃ G z, e = .returned (.tuple #[.slice G b.length z, .int .i64 0]) ∧ LiesB w' w'.heap.size (.slice G b.length z) b ∧ Below w.heap.size w w' := by
  have HL := Lib.hid (And.intro hl (And.intro hm hf))
  have HQ : Hid (enc q ++ enc a ++ pp = b) := Lib.hid hb
  have HPQ := Lib.hid hpp
  have hwa : IntKind.u64.wrap (a : Int) = (a : Int) := IntWalk.u64_in _ (by omega)
  have HPq := fun w => put_one q w 22 hq
  have HPa := fun w => put_one a w 22 (by omega)
  have HLN : Hid ((enc q).length ≤ 9 ∧ (enc a).length ≤ 9 ∧ pp.length ≤ 1018009) := Lib.hid (by
    have e1 := enc_len q hq
    have e2 := enc_len a (by omega)
    have e3 := enc_len l.length (by omega)
    have e4 := encPs_few l hf
    rw [← hpp, List.length_append]
    omega)
  obtain ⟨m0, m1, m2, m3, _, _, _, _⟩ := blk4 (heap_alloc_new w (.cells #[.int .u8 (k : Int), .int .u64 (q : Int), .int .i64 (a : Int), .slice A n c] 25))
  have HN := fun w0 => Lib.hid (mnamed_at k w0 hks hka hkp hki)
  clear hq ha hl hm hf hb hpp hks hka hkp hki
  go_enter Tryd.func12, Tryd.ntmps12
  go_upto_region 3 with (go_at_call 13; (with_reducible refine (HM.out _ (bmore (bself w) _)).mono ?_); rintro e w1 ⟨rfl, hb⟩; obtain ⟨h0, hB, hz⟩ := one_block hb; have HB := Lib.hid hB; have H0 := Lib.hid h0; clear m0 m1 m2 m3 hb h0 hB hz)
  obtain ⟨m0, m1, m2, m3, _, _, _, _⟩ := blk4 H0.out
  go_upto_region 5 with (go_at_call 25; (with_reducible refine (HN _).out.mono ?_); rintro e w2 ⟨rfl, hb2⟩; have H2 := Lib.hid ((hb2.block _ (heap_lt H0.out)).trans H0.out); have HB2 := Lib.hid (bthen HB.out (Nat.le_of_lt (heap_lt H0.out)) hb2); clear m0 m1 m2 m3 hb2)
  have HMF : Hid (MF (w2.alloc (.cells #[.bool true, .bool true, .bool true] 61)) w.heap.size w2.heap.size k q a (.slice A n c) true true true) := Lib.hid ⟨(Below.heap_alloc w2 _ _ (heap_lt H2.out)).trans H2.out, heap_alloc_new w2 _⟩
  have HB3 := Lib.hid (HB2.out.alloc (Nat.le_of_lt (heap_lt H2.out)) (.cells #[.bool true, .bool true, .bool true] 61))
  generalize w2.alloc (.cells #[.bool true, .bool true, .bool true] 61) = w3 at HMF HB3 ⊢
  generalize w2.heap.size = g at HMF ⊢
  clear HB2 H2 H0 HB
  have HZ3 := Lib.hid (Nat.le_of_lt (heap_lt HMF.out.hm))
  obtain ⟨m0, m1, m2, m3, _, _, _, _⟩ := blk4 HMF.out.hm
  obtain ⟨x0, x1, x2, _, _, _⟩ := blk3 HMF.out.hf
  go_upto_region 7 with (first
    | (go_at_call 26; (with_reducible refine (HPq _).mono ?_); rintro e u1 ⟨A1, c1, rfl, ho1, hr1, hA1, hb1⟩)
    | (at_builtin; refine wp_app_any rfl (.tmp 18) (.tmp 22) rfl w3.heap.size u1.heap.size _ ([]) (enc q) A1 c1 rfl (Owns.none_ _ _) rfl hA1 hr1 (Fits.of (by have := HLN.out; simp only [List.length_nil]; omega)) (hb1.size) ?_; intro v1 y1 hoy1 hby1; have HO1 := Lib.hid hoy1; have HT1 := Lib.hid ((bthen (Below.refl w3.heap.size w3) (Nat.le_refl _) hb1).trans hby1); have HMF1 := Lib.hid (HMF.out.over HT1.out); clear m0 m1 m2 m3 x0 x1 x2 hoy1 hby1 ho1 hr1 hb1; obtain ⟨m0, m1, m2, m3, _, _, _, _⟩ := blk4 HMF1.out.hm; obtain ⟨x0, x1, x2, _, _, _⟩ := blk3 HMF1.out.hf))
  rw [List.nil_append] at HO1
  go_upto_region 9 with (first
    | (go_at_call 26; (with_reducible refine (HPa _).mono ?_); rintro e u2 ⟨A2, c2, rfl, ho2, hr2, hA2, hb2⟩)
    | (at_builtin; refine wp_app_any rfl (.tmp 26) (.tmp 31) rfl w3.heap.size u2.heap.size _ (enc q) (enc a) A2 c2 rfl (HO1.out.over hb2) rfl hA2 hr2 (Fits.of (by have := HLN.out; omega)) (Nat.le_trans HT1.out.size hb2.size) ?_; intro v2 y2 hoy2 hby2; have HO2 := Lib.hid hoy2; have HT2 := Lib.hid ((bthen HT1.out HT1.out.size hb2).trans hby2); have HMF2 := Lib.hid (HMF.out.over HT2.out); clear m0 m1 m2 m3 x0 x1 x2 hoy2 hby2 ho2 hr2 hb2; obtain ⟨m0, m1, m2, m3, _, _, _, _⟩ := blk4 HMF2.out.hm; obtain ⟨x0, x1, x2, _, _, _⟩ := blk3 HMF2.out.hf))
  have HPP := Lib.hid (mprops_any A n c l y2 (((HL.out.1.keep fun j hj => (HB3.out.trans (HT2.out.mono HZ3.out)).block j hj).more (Nat.le_trans HZ3.out HT2.out.size))) HL.out.2.1 HL.out.2.2)
  rw [HPQ.out] at HPP
  go_wp2_with (first
    | (go_at_call 27; (with_reducible refine (HPP.out).mono ?_); rintro e u3 ⟨vp, rfl, ho0, hb3⟩; have hn3 := newB_of (w := y2) ⟨vp, rfl, ho0, hb3⟩ (Below.refl _ _) (Nat.le_refl _); obtain ⟨A3, c3, e0, ho3, hr3, hA3, _⟩ := hn3; injection e0 with e0; subst e0; clear ho0)
    | (at_builtin; refine wp_app_any rfl (.tmp 35) (.tmp 38) rfl w3.heap.size u3.heap.size _ (enc q ++ enc a) (pp) A3 c3 rfl (HO2.out.over hb3) rfl hA3 hr3 (Fits.of (by have := HLN.out; simp only [List.length_append]; omega)) (Nat.le_trans HT2.out.size hb3.size) ?_; intro v3 y3 hoy3 hby3; have HO3 := Lib.hid hoy3; have HT3 := Lib.hid ((bthen HT2.out HT2.out.size hb3).trans hby3); have HMF3 := Lib.hid (HMF.out.over HT3.out); clear m0 m1 m2 m3 x0 x1 x2 hoy3 hby3 ho3 hr3 hb3; obtain ⟨m0, m1, m2, m3, _, _, _, _⟩ := blk4 HMF3.out.hm; obtain ⟨x0, x1, x2, _, _, _⟩ := blk3 HMF3.out.hf))
  have hz := HO3.out
  rw [HQ.out] at hz
  obtain ⟨G, z, rfl, _⟩ := lies_row hz.lies
  go_ret2
  exact ⟨G, z, rfl, hz.lies.in_, HB3.out.trans (HT3.out.mono HZ3.out)⟩

set_option maxRecDepth 100000 in
set_option maxHeartbeats 1000000 in
theorem mput_3 (k q a : Nat) (A : Option Addr) (n c : Nat) (l : List Pr) (w : World) (hq : q ≤ 18446744073709551615) (ha : a ≤ 9223372036854775807) (hl : Props w w.heap.size (.slice A n c) l) (hm : l.length ≤ 1000) (hf : FitsP l) (hks : nmS k = false) (hka : nmA k = true) (hkp : nmP k = false) (hki : nmI k = true) (HM : Hid (MayQ k q a A n c w true)) {pp b : List UInt8} (hpp : enc l.length ++ encPs l = pp) (hb : enc a = b) :
    Calls Tryd.prog 12 #[.agg #[.int .u8 (k : Int), .int .u64 (q : Int), .int .i64 (a : Int), .slice A n c]] w fun e w' => ∃ G z, e = .returned (.tuple #[.slice G b.length z, .int .i64 0]) ∧ LiesB w' w'.heap.size (.slice G b.length z) b ∧ Below w.heap.size w w' := by
  have HL := Lib.hid (And.intro hl (And.intro hm hf))
  have HQ : Hid (enc a = b) := Lib.hid hb
  have HPQ := Lib.hid hpp
  have hwa : IntKind.u64.wrap (a : Int) = (a : Int) := IntWalk.u64_in _ (by omega)
  have HPq := fun w => put_one q w 22 hq
  have HPa := fun w => put_one a w 22 (by omega)
  have HLN : Hid ((enc q).length ≤ 9 ∧ (enc a).length ≤ 9 ∧ pp.length ≤ 1018009) := Lib.hid (by
    have e1 := enc_len q hq
    have e2 := enc_len a (by omega)
    have e3 := enc_len l.length (by omega)
    have e4 := encPs_few l hf
    rw [← hpp, List.length_append]
    omega)
  obtain ⟨m0, m1, m2, m3, _, _, _, _⟩ := blk4 (heap_alloc_new w (.cells #[.int .u8 (k : Int), .int .u64 (q : Int), .int .i64 (a : Int), .slice A n c] 25))
  have HN := fun w0 => Lib.hid (mnamed_at k w0 hks hka hkp hki)
  clear hq ha hl hm hf hb hpp hks hka hkp hki
  go_enter Tryd.func12, Tryd.ntmps12
  go_upto_region 3 with (go_at_call 13; (with_reducible refine (HM.out _ (bmore (bself w) _)).mono ?_); rintro e w1 ⟨rfl, hb⟩; obtain ⟨h0, hB, hz⟩ := one_block hb; have HB := Lib.hid hB; have H0 := Lib.hid h0; clear m0 m1 m2 m3 hb h0 hB hz)
  obtain ⟨m0, m1, m2, m3, _, _, _, _⟩ := blk4 H0.out
  go_upto_region 5 with (go_at_call 25; (with_reducible refine (HN _).out.mono ?_); rintro e w2 ⟨rfl, hb2⟩; have H2 := Lib.hid ((hb2.block _ (heap_lt H0.out)).trans H0.out); have HB2 := Lib.hid (bthen HB.out (Nat.le_of_lt (heap_lt H0.out)) hb2); clear m0 m1 m2 m3 hb2)
  have HMF : Hid (MF (w2.alloc (.cells #[.bool false, .bool true, .bool false] 61)) w.heap.size w2.heap.size k q a (.slice A n c) false true false) := Lib.hid ⟨(Below.heap_alloc w2 _ _ (heap_lt H2.out)).trans H2.out, heap_alloc_new w2 _⟩
  have HB3 := Lib.hid (HB2.out.alloc (Nat.le_of_lt (heap_lt H2.out)) (.cells #[.bool false, .bool true, .bool false] 61))
  generalize w2.alloc (.cells #[.bool false, .bool true, .bool false] 61) = w3 at HMF HB3 ⊢
  generalize w2.heap.size = g at HMF ⊢
  clear HB2 H2 H0 HB
  have HZ3 := Lib.hid (Nat.le_of_lt (heap_lt HMF.out.hm))
  obtain ⟨m0, m1, m2, m3, _, _, _, _⟩ := blk4 HMF.out.hm
  obtain ⟨x0, x1, x2, _, _, _⟩ := blk3 HMF.out.hf
  go_wp2_with (first
    | (go_at_call 26; (with_reducible refine (HPa _).mono ?_); rintro e u1 ⟨A1, c1, rfl, ho1, hr1, hA1, hb1⟩)
    | (at_builtin; refine wp_app_any rfl (.tmp 26) (.tmp 31) rfl w3.heap.size u1.heap.size _ ([]) (enc a) A1 c1 rfl (Owns.none_ _ _) rfl hA1 hr1 (Fits.of (by have := HLN.out; simp only [List.length_nil]; omega)) (hb1.size) ?_; intro v1 y1 hoy1 hby1; have HO1 := Lib.hid hoy1; have HT1 := Lib.hid ((bthen (Below.refl w3.heap.size w3) (Nat.le_refl _) hb1).trans hby1); have HMF1 := Lib.hid (HMF.out.over HT1.out); clear m0 m1 m2 m3 x0 x1 x2 hoy1 hby1 ho1 hr1 hb1; obtain ⟨m0, m1, m2, m3, _, _, _, _⟩ := blk4 HMF1.out.hm; obtain ⟨x0, x1, x2, _, _, _⟩ := blk3 HMF1.out.hf))
  rw [List.nil_append] at HO1
  have hz := HO1.out
  rw [HQ.out] at hz
  obtain ⟨G, z, rfl, _⟩ := lies_row hz.lies
  go_ret2
  exact ⟨G, z, rfl, hz.lies.in_, HB3.out.trans (HT1.out.mono HZ3.out)⟩

set_option maxRecDepth 100000 in
set_option maxHeartbeats 1000000 in
theorem mput_4 (k q a : Nat) (A : Option Addr) (n c : Nat) (l : List Pr) (w : World) (hq : q ≤ 18446744073709551615) (ha : a ≤ 9223372036854775807) (hl : Props w w.heap.size (.slice A n c) l) (hm : l.length ≤ 1000) (hf : FitsP l) (hks : nmS k = false) (hka : nmA k = false) (hkp : nmP k = false) (hki : nmI k = true) (HM : Hid (MayQ k q a A n c w true)) {pp b : List UInt8} (hpp : enc l.length ++ encPs l = pp) (hb : ([] : List UInt8) = b) :
    Calls Tryd.prog 12 #[.agg #[.int .u8 (k : Int), .int .u64 (q : Int), .int .i64 (a : Int), .slice A n c]] w fun e w' => ∃ G z, e = .returned (.tuple #[.slice G b.length z, .int .i64 0]) ∧ LiesB w' w'.heap.size (.slice G b.length z) b ∧ Below w.heap.size w w' := by
  have HL := Lib.hid (And.intro hl (And.intro hm hf))
  have HQ : Hid (([] : List UInt8) = b) := Lib.hid hb
  have HPQ := Lib.hid hpp
  have hwa : IntKind.u64.wrap (a : Int) = (a : Int) := IntWalk.u64_in _ (by omega)
  have HPq := fun w => put_one q w 22 hq
  have HPa := fun w => put_one a w 22 (by omega)
  have HLN : Hid ((enc q).length ≤ 9 ∧ (enc a).length ≤ 9 ∧ pp.length ≤ 1018009) := Lib.hid (by
    have e1 := enc_len q hq
    have e2 := enc_len a (by omega)
    have e3 := enc_len l.length (by omega)
    have e4 := encPs_few l hf
    rw [← hpp, List.length_append]
    omega)
  obtain ⟨m0, m1, m2, m3, _, _, _, _⟩ := blk4 (heap_alloc_new w (.cells #[.int .u8 (k : Int), .int .u64 (q : Int), .int .i64 (a : Int), .slice A n c] 25))
  have HN := fun w0 => Lib.hid (mnamed_at k w0 hks hka hkp hki)
  clear hq ha hl hm hf hb hpp hks hka hkp hki
  go_enter Tryd.func12, Tryd.ntmps12
  go_upto_region 3 with (go_at_call 13; (with_reducible refine (HM.out _ (bmore (bself w) _)).mono ?_); rintro e w1 ⟨rfl, hb⟩; obtain ⟨h0, hB, hz⟩ := one_block hb; have HB := Lib.hid hB; have H0 := Lib.hid h0; clear m0 m1 m2 m3 hb h0 hB hz)
  obtain ⟨m0, m1, m2, m3, _, _, _, _⟩ := blk4 H0.out
  go_upto_region 5 with (go_at_call 25; (with_reducible refine (HN _).out.mono ?_); rintro e w2 ⟨rfl, hb2⟩; have H2 := Lib.hid ((hb2.block _ (heap_lt H0.out)).trans H0.out); have HB2 := Lib.hid (bthen HB.out (Nat.le_of_lt (heap_lt H0.out)) hb2); clear m0 m1 m2 m3 hb2)
  have HMF : Hid (MF (w2.alloc (.cells #[.bool false, .bool false, .bool false] 61)) w.heap.size w2.heap.size k q a (.slice A n c) false false false) := Lib.hid ⟨(Below.heap_alloc w2 _ _ (heap_lt H2.out)).trans H2.out, heap_alloc_new w2 _⟩
  have HB3 := Lib.hid (HB2.out.alloc (Nat.le_of_lt (heap_lt H2.out)) (.cells #[.bool false, .bool false, .bool false] 61))
  generalize w2.alloc (.cells #[.bool false, .bool false, .bool false] 61) = w3 at HMF HB3 ⊢
  generalize w2.heap.size = g at HMF ⊢
  clear HB2 H2 H0 HB
  have HZ3 := Lib.hid (Nat.le_of_lt (heap_lt HMF.out.hm))
  obtain ⟨m0, m1, m2, m3, _, _, _, _⟩ := blk4 HMF.out.hm
  obtain ⟨x0, x1, x2, _, _, _⟩ := blk3 HMF.out.hf
  go_wp2
  have hz := HQ.out
  subst hz
  go_ret2
  exact ⟨none, 0, rfl, .inl ⟨rfl, none, 0, rfl, fun _ => rfl⟩, HB3.out⟩

theorem mayQ_of (k q : Nat) (a : Int) (A : Option Addr) (n c : Nat) (l : List Pr) (w : World) (hl : Props w w.heap.size (.slice A n c) l) (hm : l.length ≤ 1000) {r : Bool} (hr : mayL ⟨k, q, a, l⟩ = r) : Hid (MayQ k q a A n c w r) :=
  Lib.hid fun w1 hb => mmay_any k q a A n c l w1 (hl.over (Nat.le_refl _) hb) hm hr
theorem mputp_any (k q : Nat) (a : Int) (A : Option Addr) (n c : Nat) (l : List Pr) (w : World) (hq : q ≤ 18446744073709551615) (ha : a ≤ 9223372036854775807) (hl : Props w w.heap.size (.slice A n c) l) (hm : l.length ≤ 1000) (hf : FitsP l) {b : List UInt8} {x : Int} (hr : PutR ⟨k, q, a, l⟩ = (b, x)) :
    Calls Tryd.prog 12 #[.agg #[.int .u8 (k : Int), .int .u64 (q : Int), .int .i64 a, .slice A n c]] w fun e w' => ∃ G z, e = .returned (.tuple #[.slice G b.length z, .int .i64 x]) ∧ LiesB w' w'.heap.size (.slice G b.length z) b ∧ Below w.heap.size w w' := by
  unfold PutR at hr
  cases h : mayL ⟨k, q, a, l⟩ with
  | false =>
    rw [h, if_neg (by decide)] at hr
    simp only [Prod.mk.injEq] at hr
    obtain ⟨rfl, rfl⟩ := hr
    refine (mput_no k q a A n c w (mayQ_of k q a A n c l w hl hm h)).mono fun e w' he => ?_
    exact ⟨none, 0, he.1, .inl ⟨rfl, none, 0, rfl, fun _ => rfl⟩, he.2⟩
  | true =>
    rw [h, if_pos rfl] at hr
    simp only [Prod.mk.injEq] at hr
    obtain ⟨hb, rfl⟩ := hr
    obtain ⟨h0, _, _, hk⟩ := (may_iff _).1 h
    dsimp only at h0 hk
    obtain ⟨a, rfl⟩ := Int.eq_ofNat_of_zero_le h0
    have HM := mayQ_of k q a A n c l w hl hm h
    rcases hk with ⟨rfl, _, _⟩ | rfl | ⟨rfl, _, _⟩ | ⟨rfl, _, _, _⟩
    · exact mput_1 1 q a A n c l w hq (by omega) hl hm hf rfl rfl rfl rfl HM rfl hb
    · exact mput_2 2 q a A n c l w hq (by omega) hl hm hf rfl rfl rfl rfl HM rfl (by rw [← hb]; simp [putM, List.append_assoc])
    · exact mput_3 3 q a A n c l w hq (by omega) hl hm hf rfl rfl rfl rfl HM rfl hb
    · exact mput_4 4 q a A n c l w hq (by omega) hl hm hf rfl rfl rfl rfl HM rfl hb
end Go.Proofs.YtiflpjdiokloaaaDoor
