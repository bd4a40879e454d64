/-
  Package message's contract of propsPut; octet.Put and octet.Texts of one.
-/
import Derived.Test.YtiflpjdiokloaaaDoorPackF
import Derived.Test.YtiflpjdiokloaaaDoorPackG
import Derived.Test.YtiflpjdiokloaaaDoorPackB
import Derived.Test.YtiflpjdiokloaaaDoorInts
import Derived.Test.YtiflpjdiokloaaaDoorPackC
import Derived.Deep.Cut
namespace Go.Proofs.YtiflpjdiokloaaaDoor
open Go.RowKit
set_option linter.unusedVariables false

/-- What a call ends in that hands back new bytes: a slice, opened. -/
def NewB (l : List UInt8) (w : World) (e : Ending) (w' : World) : Prop := ∃ A c, e = .returned (.slice A l.length c) ∧ Owns w' w.heap.size (.slice A l.length c) l ∧ Row w' w'.heap.size A (bc l) ∧ (A = none → c = 0) ∧ Below w.heap.size w w'
theorem newB_of {l : List UInt8} {w w1 : World} {e : Ending} {w' : World} (h : Gets w1.heap.size l w1 e w') (hb : Below w.heap.size w w1) (hz : w.heap.size ≤ w1.heap.size) : NewB l w e w' := by
  obtain ⟨v, rfl, ho, hb2⟩ := h
  have ho2 : Owns w' w.heap.size v l := by
    refine ⟨ho.1, ?_⟩
    rcases ho.2 with h2 | ⟨g, cap, cur, rfl, hg, r⟩
    · exact .inl h2
    · exact .inr ⟨g, cap, cur, rfl, by omega, r⟩
  obtain ⟨A, c, rfl, hr, _, hA⟩ := lies_row ho.lies
  exact ⟨A, c, rfl, ho2, hr, hA, hb.trans (hb2.mono hz)⟩
theorem put_one (u : Nat) (w : World) (t : TypeId) (hu : u ≤ 18446744073709551615) : Calls Tryd.prog 26 #[.slice (some ⟨w.heap.size, 0, none⟩) 1 1] (w.alloc (.cells #[.int .u64 (u : Int)] t)) (NewB (enc u) w) :=
  (put_any [u] (some ⟨w.heap.size, 0, none⟩) 1 (w.alloc (.cells #[.int .u64 (u : Int)] t)) (by simpa using hu) (lit_row_mark w _ t _ (0, 0) rfl) (by simp)).mono fun e w' h => newB_of (by simpa [encs] using h) (bmore (bself w) _) (by simp)
theorem text_one (s : List UInt8) (w : World) (t : TypeId) (hs : s.length ≤ 1000000) : Calls Tryd.prog 53 #[.slice (some ⟨w.heap.size, 0, none⟩) 1 1] (w.alloc (.cells #[.string (mkB s)] t)) (NewB (enc s.length ++ s) w) := by
  have e : (mkB s).size = s.length := by simp [mkB, ByteArray.size]
  have e2 : encTs [mkB s] = enc s.length ++ s := by
    unfold encTs
    rw [List.flatMap_cons, List.flatMap_nil, List.append_nil, e]
    rfl
  refine (texts_any [mkB s] (some ⟨w.heap.size, 0, none⟩) 1 (w.alloc (.cells #[.string (mkB s)] t)) (fun x hx => by rw [List.mem_singleton.1 hx, e]; exact hs) (lit_row_mark w _ t _ (0, 0) rfl) (by simp)).mono fun e w' h => newB_of (by rw [← e2]; exact h) (bmore (bself w) _) (by simp)
theorem put_cellM {w : World} {p : Pr} {g : Nat} (h : w.heap[g]? = some (.cells #[.string (mkB p.name), .int .i64 p.val] 58 (0, 0))) : w.cell? ⟨g, 0, none⟩ = some (.string (mkB p.name)) ∧ w.cell? ⟨g, 1, none⟩ = some (.int .i64 p.val) := ⟨by rw [heap_cell h]; rfl, by rw [heap_cell h]; rfl⟩
/-- The numbers and names of propositions are such as there are. -/
def FitsP (l : List Pr) : Prop := ∀ p ∈ l, p.name.length ≤ 1000 ∧ -9223372036854775808 ≤ p.val ∧ p.val ≤ 9223372036854775807
theorem encPs_snoc (l : List Pr) (k : Nat) (h : k < l.length) : encPs (l.take (k + 1)) = encPs (l.take k) ++ (enc l[k].name.length ++ l[k].name) ++ enc (sgn l[k].val).toNat := by
  unfold encPs
  rw [List.take_succ_eq_append_getElem h, List.flatMap_append]
  simp [encP, List.append_assoc]
theorem encPs_few : ∀ (l : List Pr), FitsP l → (encPs l).length ≤ 1018 * l.length
  | [], _ => by simp [encPs]
  | p :: l, h => by
    obtain ⟨h1, h2, h3⟩ := h p (by simp)
    have hs := sgn_range p.val h2 h3
    have k1 := enc_len p.name.length (by omega)
    have k2 := enc_len (sgn p.val).toNat (by omega)
    have ih := encPs_few l fun q hq => h q (by simp [hq])
    have el : (encPs (p :: l)).length = (encP p).length + (encPs l).length := by unfold encPs; simp
    have ep : (encP p).length = (enc p.name.length).length + p.name.length + (enc (sgn p.val).toNat).length := by unfold encP; simp only [List.length_append]
    rw [el, ep]
    simp only [List.length_cons]
    omega

set_option maxRecDepth 100000 in
set_option maxHeartbeats 1000000 in
theorem mprops_any (A : Option Addr) (n c : Nat) (l : List Pr) (w : World) (hl : Props w w.heap.size (.slice A n c) l) (hm : l.length ≤ 1000) (hf : FitsP l) :
    Calls Tryd.prog 27 #[.slice A n c] w (Gets w.heap.size (enc l.length ++ encPs l) w) := by
  obtain ⟨hn, _⟩ := hl.len
  have HL := Lib.hid hl
  have HN := Lib.hid hn
  have HF := Lib.hid hf
  have hk9 : (n : Int) ≤ 1000 := by omega
  have hwn : IntKind.u64.wrap (n : Int) = (n : Int) := IntWalk.u64_in _ (by omega)
  have HP1 := fun w => put_one n w 22 (by omega)
  clear hl hm hn hf
  go_enter Tryd.func27, Tryd.ntmps27
  go_wp2_with (go_at_call 26; (with_reducible refine (HP1 _).mono ?_); rintro e w1 ⟨A1, c1, rfl, ho1, hr1, hA1, hb1⟩; have HO := Lib.hid ho1; have HB := Lib.hid hb1; clear ho1 hr1 hA1 hb1)
  go_loopw [3, 13] (fun b i wr => ∃ k : Nat, k ≤ n ∧ i = .int .i64 k ∧ Hid (Owns wr w.heap.size b (enc l.length ++ encPs (l.take k))) ∧ Hid (Below w.heap.size w wr)) (fun _ i _ => n - (intOf i).toNat)
  case atStart =>
    refine ⟨0, Nat.zero_le _, rfl, ?_, HB⟩
    have h := HO.out
    rw [show enc l.length ++ encPs (l.take 0) = enc n by rw [← HN.out]; simp [encPs]]
    exact HO
  case round =>
    obtain ⟨k, hk, rfl, HO2, HB2⟩ := hrel
    by_cases hlt : k < n
    · have hkl : k < l.length := by have := HN.out; omega
      obtain ⟨bb, off, rfl⟩ := HL.out.some_ (by omega)
      obtain ⟨hbb, c0, c1⟩ := HL.out.cells k hkl
      have e0 := (HB2.out.cell (p := ⟨bb, off + k * 2, none⟩) hbb).trans c0
      have e1 := (HB2.out.cell (p := ⟨bb, off + k * 2 + 1, none⟩) hbb).trans c1
      have HE := Lib.hid (encPs_snoc l k hkl)
      have HX := Lib.hid (HF.out l[k] (List.getElem_mem hkl))
      have hlt2 : ((k : Nat) : Int) < (n : Int) := by omega
      have HZ := Lib.hid HB2.out.size
      generalize hx : l[k] = x at e0 e1 HE HX
      clear hx c0 c1 hbb
      have hp0 := heap_alloc_new wr (.cells #[.string (mkB x.name), .int .i64 x.val] 58)
      have HO3 := Lib.hid (HO2.out.alloc (.cells #[.string (mkB x.name), .int .i64 x.val] 58))
      have HNE := Lib.hid (own_ne HO2.out (Nat.le_refl _))
      have HB3 := Lib.hid (HB2.out.alloc HZ.out (.cells #[.string (mkB x.name), .int .i64 x.val] 58))
      go_upto_region 5 with (fail)
      generalize wr.alloc (.cells #[.string (mkB x.name), .int .i64 x.val] 58) = w1 at hp0 HO3 HB3 ⊢
      have HP0 := Lib.hid hp0
      obtain ⟨p0, p1⟩ := put_cellM hp0
      obtain ⟨tx, htx⟩ : ∃ tx, tx = enc x.name.length ++ x.name := ⟨_, rfl⟩
      obtain ⟨sg, hsg⟩ : ∃ sg, sg = (sgn x.val).toNat := ⟨_, rfl⟩
      have HT := fun w => text_one x.name w 9 (by have := HX.out; omega)
      rw [← htx] at HT
      rw [← htx, ← hsg] at HE
      have hs0 := HX.out
      have hs1 := sgn_range x.val hs0.2.1 hs0.2.2
      have HS := fun w => sign_any x.val w hs0.2.1 hs0.2.2
      rw [show sgn x.val = (sg : Int) by omega] at HS
      have HP := fun w => put_one sg w 22 (by omega)
      have HLN : Hid (tx.length ≤ 1009 ∧ (encPs (l.take k)).length ≤ 1018000 ∧ (enc l.length).length ≤ 9 ∧ (enc sg).length ≤ 9) := Lib.hid (by
        have e1 := enc_len x.name.length (by omega)
        have e2 := enc_len sg (by omega)
        have e3 := enc_len l.length (by have := HN.out; omega)
        have e4 := encPs_few (l.take k) fun p hp => HF.out p (List.mem_of_mem_take hp)
        have e5 : (l.take k).length ≤ 1000 := by rw [List.length_take]; omega
        have e6 : tx.length = (enc x.name.length).length + x.name.length := by rw [htx, List.length_append]
        omega)
      clear hp0 e0 e1 htx hsg hs0 hs1
      go_upto_region 6 with (first
        | (go_at_call 53; (with_reducible refine (HT _).mono ?_); rintro e w2 ⟨A2, c2, rfl, ho2, hr2, hA2, hb2⟩; have HP1 := Lib.hid ((hb2.block _ (heap_lt HP0.out)).trans HP0.out); clear p0 p1; obtain ⟨p0, p1⟩ := put_cellM HP1.out)
        | (at_builtin; refine wp_app_g rfl (.tmp 17) (.tmp 21) rfl w.heap.size w2.heap.size _ (enc l.length ++ encPs (l.take k)) tx A2 c2 rfl (HO3.out.over hb2) rfl hA2 hr2 (Fits.of (by have := HLN.out; simp only [List.length_append]; omega)) (Nat.le_trans HB3.out.size hb2.size) ?_; intro v3 w3 ho3 hb3 hg3))
      have HP3 := Lib.hid (grown_block hg3 HP1.out HNE.out)
      have HB4 := Lib.hid (HB3.out.trans ((hb2.mono HB3.out.size).trans hb3))
      have HO4 := Lib.hid ho3
      clear p0 p1 hg3 ho3 hb3 ho2 hr2 hA2 hb2
      obtain ⟨p0, p1⟩ := put_cellM HP3.out
      go_wp2_with (first
        | (go_at_call 54; (with_reducible refine (HS _).mono ?_); rintro e w4 ⟨rfl, rfl⟩)
        | (go_at_call 26; (with_reducible refine (HP _).mono ?_); rintro e w5 ⟨A5, c5, rfl, ho5, hr5, hA5, hb5⟩)
        | (at_builtin; refine wp_app_g rfl (.tmp 23) (.tmp 28) rfl w.heap.size w5.heap.size _ (enc l.length ++ encPs (l.take k) ++ tx) (enc sg) A5 c5 rfl (HO4.out.over hb5) rfl hA5 hr5 (Fits.of (by have := HLN.out; simp only [List.length_append]; omega)) (Nat.le_trans HB4.out.size hb5.size) ?_; intro v6 w6 ho6 hb6 hg6))
      have HO6 := Lib.hid ho6
      have HB6 := Lib.hid (HB4.out.trans ((hb5.mono HB4.out.size).trans hb6))
      clear ho6 hb6 hg6 hb5 ho5 hr5
      go_roundw
      case rel =>
        refine ⟨k + 1, by omega, by go_num, ?_, HB6⟩
        rw [HE.out, ← List.append_assoc, ← List.append_assoc]
        exact HO6
      case measure => simp [intOf]; omega
    · go_wp2
      go_ret
      have h := HO2.out
      rw [List.take_of_length_le (by have := HN.out; omega)] at h
      exact ⟨_, rfl, h, HB2.out⟩
end Go.Proofs.YtiflpjdiokloaaaDoor
