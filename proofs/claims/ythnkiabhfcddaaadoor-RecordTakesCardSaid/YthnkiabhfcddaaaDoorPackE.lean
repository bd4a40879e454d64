/-
  Texts of the proofs, put together: Open, More, Cuts, Taken, RefNum.
-/
import Derived.Test.YthnkiabhfcddaaaDoorPackD
import Derived.Test.YthnkiabhfcddaaaDoorPackB
import Derived.Lib.LazyBuf
import Derived.Laws.AppendOwnNone
import Derived.OpenShut
import Derived.Laws.Concat
/-
  Contracts of octet.Open (a reader of any bytes) and of Text for any reader.
-/
namespace Go.Proofs.YthnkiabhfcddaaaDoor
open Go.RowKit

theorem text_any (g : Nat) (l : List UInt8) (e most : Int) (w : World) (h : Rdr w g l e) (hm1 : -9223372036854775808 ≤ most) (hm2 : most ≤ 9223372036854775807) :
    Calls Tryd.prog 34 #[.pointer (some ⟨g, 0, none⟩), .int .i64 most] w (Did g (.string (mkB (rdText l e most).1)) (rdText l e most).2 w) := by
  rcases hd : rdNum l e with ⟨u, l', e'⟩
  by_cases he : e' = 0
  · subst he
    by_cases hu : (u : Int) ≤ max most 0
    · by_cases hl : u ≤ l'.length
      · have k := text_ok g l e most w h hd hu hl hm1 hm2
        have e : rdText l e most = (l'.take u, l'.drop u, 0) := by simp only [rdText, hd, if_pos, hu, hl]
        rw [e]; exact k
      · have k := text_short g l e most w h hd hu hl hm1 hm2
        have e : rdText l e most = ([], [], 10) := by simp only [rdText, hd, if_pos, hu]; rw [if_neg hl]
        rw [e]; exact k
    · have k := text_long g l e most w h hd hu hm1 hm2
      have e : rdText l e most = ([], [], 13) := by simp only [rdText, hd, if_pos]; rw [if_neg hu]
      rw [e]; exact k
  · have k := text_err g l e most w h hd he
    have e : rdText l e most = ([], l', e') := by simp only [rdText, hd]; rw [if_neg he]
    rw [e]; exact k
theorem text_nil (most : Int) (w : World) : Calls Tryd.prog 34 #[.pointer none, .int .i64 most] w fun e w' => e = .returned (.string (mkB [])) ∧ w = w' := by
  go_enter Tryd.func34, Tryd.ntmps34
  go_wp2_with (first
    | (go_at_call 36; refine (num_nil _).mono ?_; rintro e w' ⟨rfl, rfl⟩)
    | (go_at_call 60; refine (err_nil _).mono ?_; rintro e w' ⟨rfl, rfl⟩))
  go_ret
  exact ⟨rfl, rfl⟩

/-- What a call of Clone ends in. -/
def Cloned (l : List UInt8) (w : World) (x : Ending) (w' : World) : Prop := ∃ v, x = .returned v ∧ Lies w' w'.heap.size v l ∧ Below w.heap.size w w'

theorem owns_empty (w : World) (base : Nat) (hb : base ≤ w.heap.size) : Owns (w.alloc (.cells #[] 5)) base (.slice (some ⟨w.heap.size, 0, none⟩) 0 0) [] :=
  ⟨rfl, .inr ⟨w.heap.size, 0, #[], rfl, hb, heap_alloc_new w _, Nat.le_refl _, Nat.zero_le _, rfl, rfl⟩⟩

set_option maxRecDepth 100000 in
theorem clone_any (v : Value) (l : List UInt8) (w : World) (h : Lies w w.heap.size v l) (hf : Fits l.length) : Calls Tryd.prog 59 #[v] w (Cloned l w) := by
  rcases h with ⟨rfl, rfl⟩ | ⟨b, off, c, rfl, hlc, hb, hcs⟩
  · have hq := Go.run_eql_slice_nil (P := Tryd.prog) w 30 5 none 0 0 Tryd.underlying30
    go_enter Tryd.func59, Tryd.ntmps59
    go_wp2
    go_ret
    exact ⟨_, rfl, .inl ⟨rfl, rfl⟩, Below.refl _ _⟩
  · have HF := Lib.hid hf
    have HC := Lib.hid hcs
    clear hf hcs
    have hq := Go.run_eql_slice_nil (P := Tryd.prog) w 30 5 (some ⟨b, off, none⟩) l.length c Tryd.underlying30
    go_enter Tryd.func59, Tryd.ntmps59
    go_wp2_with (at_builtin; refine wp_app rfl (.tmp 5) (.tmp 6) rfl w.heap.size _ [] l c ⟨b, off, none⟩ rfl (owns_empty w _ (Nat.le_refl _)) rfl (fun j hj => by rw [Addr.add_lit, World.cell?_alloc_lt _ _ _ hb]; exact HC.out j hj) (HF.out.le (by simp)) (by simp) ?_; intro v1 w1 ho1 hb1)
    go_ret
    exact ⟨_, rfl, ho1.lies, ((Below.refl _ _).alloc (Nat.le_refl _) _).trans hb1⟩

/-- What a call of Open ends in: a new reader, at a block from B on. -/
def Opened (l : List UInt8) (w : World) (x : Ending) (w' : World) : Prop := ∃ g, x = .returned (.pointer (some ⟨g, 0, none⟩)) ∧ w.heap.size ≤ g ∧ Rdr w' g l 0 ∧ Below w.heap.size w w'

theorem open_any (v : Value) (l : List UInt8) (w : World) (h : Lies w w.heap.size v l) (hf : Fits l.length) : Calls Tryd.prog 33 #[v] w (Opened l w) := by
  have HL := Lib.hid h
  have HF := Lib.hid hf
  clear h hf
  go_enter Tryd.func33, Tryd.ntmps33
  go_wp2_with (go_at_call 59; refine (clone_any _ _ _ HL.out HF.out).mono ?_; rintro e w1 ⟨v1, rfl, hl1, hb1⟩; have HL1 := Lib.hid hl1; have HB1 := Lib.hid hb1; clear hb1; rcases hl1 with ⟨rfl, _⟩ | ⟨b1, off1, c1, rfl, hlc1, hb1, hcs1⟩)
  all_goals
   go_ret
   have hs := HB1.out.size
   refine ⟨_, rfl, hs, ⟨_, heap_alloc_new _ _, HL1.out.keep fun k hk => Below.heap_alloc _ _ k hk, by have := HF.out; unfold Fits at this; omega⟩, HB1.out.alloc hs _⟩

theorem mkB_data (s : ByteArray) : mkB s.data.toList = s := rfl
theorem Rdr.keep {w w' : World} {g : Nat} {l : List UInt8} {e : Int} {B : Nat} (h : Rdr w g l e) (hg : g < B) (hb : Below B w w') : Rdr w' g l e := by
  obtain ⟨v, hh, hl, hm⟩ := h
  exact ⟨v, (hb.block g hg).trans hh, hl.keep fun k hk => hb.block k (by omega), hm⟩
theorem Rdr.lt {w : World} {g : Nat} {l : List UInt8} {e : Int} (h : Rdr w g l e) : g < w.heap.size := by
  obtain ⟨v, hh, _⟩ := h
  exact heap_lt hh
end Go.Proofs.YthnkiabhfcddaaaDoor
/-
  Plain mathematics (no program): what is put is taken; bytes stand in order as their numbers. And an append of any slice of bytes.
-/
namespace Go.Proofs.YthnkiabhfcddaaaDoor
open Go.RowKit

theorem tk_enc (u : Nat) (rest : List UInt8) (h : u ≤ 18446744073709551615) : tk (enc u ++ rest) = (u, (enc u).length, 0) := by
  unfold enc
  by_cases h0 : u < 248
  · rw [if_pos h0]
    have e := u8_nat u (by omega)
    simp only [List.cons_append, List.nil_append, tk]
    rw [e, if_pos h0]
    rfl
  · rw [if_neg h0]
    have h8 := nb_lt8 u (by omega)
    have h1 := nb_pos u (by omega)
    have e := u8_nat (247 + nb u) (by omega)
    rw [List.cons_append, tk_long _ _ (by omega) (by rw [e, List.length_append, be_length]; omega)]
    have e2 : (UInt8.ofNat (247 + nb u)).toNat - 247 = nb u := by omega
    rw [e2]
    have e3 : (be (nb u) u ++ rest).take (nb u) = be (nb u) u := by
      rw [List.take_append_of_le_length (by rw [be_length]; omega), List.take_of_length_le (by rw [be_length]; omega)]
    rw [e3, val_be]
    have e4 : u % 256 ^ nb u = u := Nat.mod_eq_of_lt ((nb_le_iff u (nb u)).1 (Nat.le_refl _))
    rw [e4, if_neg (by omega), List.length_cons, be_length]

theorem rdNum_enc (u : Nat) (rest : List UInt8) (h : u ≤ 18446744073709551615) : rdNum (enc u ++ rest) 0 = (u, rest, 0) := by
  simp only [rdNum, tk_enc u rest h, if_pos]
  rw [List.drop_left']
  rfl
theorem rdText_enc (s more : List UInt8) (most : Int) (h : s.length ≤ 1000000) (hm : (s.length : Int) ≤ max most 0) : rdText (enc s.length ++ s ++ more) 0 most = (s, more, 0) := by
  have e := rdNum_enc s.length (s ++ more) (by omega)
  rw [List.append_assoc]
  unfold rdText
  rw [e]
  dsimp only
  rw [if_pos rfl, if_pos hm, if_pos (by simp), List.take_left', List.drop_left'] <;> rfl
theorem rdText_enc_long (s more : List UInt8) (most : Int) (h : s.length ≤ 1000000) (hm : ¬ (s.length : Int) ≤ max most 0) : rdText (enc s.length ++ s ++ more) 0 most = ([], [], 13) := by
  have e := rdNum_enc s.length (s ++ more) (by omega)
  rw [List.append_assoc]
  unfold rdText
  rw [e]
  dsimp only
  rw [if_pos rfl, if_neg hm]

theorem clone_empty (ad : Addr) (c : Nat) (w : World) : Calls Tryd.prog 59 #[.slice (some ad) 0 c] w (Cloned [] w) := by
  have hq := Go.run_eql_slice_nil (P := Tryd.prog) w 30 5 (some ad) 0 c Tryd.underlying30
  go_enter Tryd.func59, Tryd.ntmps59
  go_wp2_with (at_builtin; refine wp_app rfl (.tmp 5) (.tmp 6) rfl w.heap.size _ [] [] c ad rfl (owns_empty w _ (Nat.le_refl _)) rfl (fun j hj => absurd hj (by simp)) (Fits.of (by simp)) (by simp) ?_; intro v1 w1 ho1 hb1)
  go_ret
  exact ⟨_, rfl, ho1.lies, ((Below.refl _ _).alloc (Nat.le_refl _) _).trans hb1⟩
theorem open_empty (ad : Addr) (c : Nat) (w : World) : Calls Tryd.prog 33 #[.slice (some ad) 0 c] w (Opened [] w) := by
  go_enter Tryd.func33, Tryd.ntmps33
  go_wp2_with (go_at_call 59; refine (clone_empty _ _ _).mono ?_; rintro e w1 ⟨v1, rfl, hl1, hb1⟩; have HL1 := Lib.hid hl1; have HB1 := Lib.hid hb1; clear hb1; rcases hl1 with ⟨rfl, _⟩ | ⟨b1, off1, c1, rfl, hlc1, hb1, hcs1⟩)
  all_goals
   go_ret
   have hs := HB1.out.size
   refine ⟨_, rfl, hs, ⟨_, heap_alloc_new _ _, HL1.out.keep fun k hk => Below.heap_alloc _ _ k hk, by simp⟩, HB1.out.alloc hs _⟩
/-- Open of any slice of bytes that came in. -/
theorem open_arg (A : Option Addr) (c : Nat) (l : List UInt8) (w : World) (hr : Row w w.heap.size A (bc l)) (hA : A = none → c = 0) (hl : l.length ≤ c) (hf : Fits l.length) :
    Calls Tryd.prog 33 #[.slice A l.length c] w (Opened l w) := by
  cases l with
  | nil =>
    cases A with
    | none => obtain rfl := hA rfl; exact open_any _ [] w (.inl ⟨rfl, rfl⟩) hf
    | some ad => exact open_empty ad c w
  | cons x l =>
    obtain ⟨b, off, rfl, hb, hc⟩ := hr (by simp [bc])
    exact open_any _ (x :: l) w (.inr ⟨b, off, c, rfl, hl, hb, fun i hi => hc i _ (bc_get (x :: l) i hi)⟩) hf
end Go.Proofs.YthnkiabhfcddaaaDoor
/-
  Plain mathematics (no program): numbers and texts that are read of bytes that are cut: where the cut is ahead of the end something is short.
-/
namespace Go.Proofs.YthnkiabhfcddaaaDoor

theorem encs_drop (zs : List Nat) (k : Nat) (h : k < zs.length) : encs (zs.drop k) = enc zs[k] ++ encs (zs.drop (k + 1)) := by
  unfold encs
  rw [List.drop_eq_getElem_cons h, List.flatMap_cons]
theorem encTs_drop (ss : List ByteArray) (k : Nat) (h : k < ss.length) : encTs (ss.drop k) = enc ss[k].data.toList.length ++ ss[k].data.toList ++ encTs (ss.drop (k + 1)) := by
  have e : ss[k].data.toList.length = ss[k].size := by rw [Array.length_toList]; rfl
  unfold encTs
  rw [List.drop_eq_getElem_cons h, List.flatMap_cons, e]

/-- A number's bytes that are cut are too short. -/
theorem tk_cut (u j : Nat) (h : u ≤ 18446744073709551615) (hj : j < (enc u).length) : tk ((enc u).take j) = (0, 0, 10) := by
  unfold enc at hj ⊢
  by_cases h0 : u < 248
  · rw [if_pos h0] at hj ⊢
    have : j = 0 := by simpa using hj
    subst this
    rfl
  · rw [if_neg h0] at hj ⊢
    have h8 := nb_lt8 u (by omega)
    have h1 := nb_pos u (by omega)
    have e := u8_nat (247 + nb u) (by omega)
    cases j with
    | zero => rfl
    | succ j =>
      rw [List.take_succ_cons]
      rw [List.length_cons, be_length] at hj
      exact tk_short _ _ (by omega) (by rw [e, List.length_take, be_length]; omega)
theorem rdNum_cut (u j : Nat) (rest : List UInt8) (h : u ≤ 18446744073709551615) : rdNum ((enc u ++ rest).take j) 0 = if (enc u).length ≤ j then (u, rest.take (j - (enc u).length), 0) else (0, [], 10) := by
  by_cases hj : (enc u).length ≤ j
  · rw [if_pos hj, List.take_append, List.take_of_length_le hj, rdNum_enc u _ h]
  · rw [if_neg hj, List.take_append_of_le_length (by omega)]
    simp only [rdNum, tk_cut u j h (by omega), if_pos]
    rfl
theorem rdNum_dead : rdNum [] 10 = (0, [], 10) := by simp [rdNum]
theorem rdText_dead (most : Int) : rdText [] 10 most = ([], [], 10) := by simp [rdText, rdNum]
theorem rdText_cut (s : List UInt8) (j : Nat) (rest : List UInt8) (h : s.length ≤ 400) :
    rdText ((enc s.length ++ s ++ rest).take j) 0 400 = if (enc s.length ++ s).length ≤ j then (s, rest.take (j - (enc s.length ++ s).length), 0) else ([], [], 10) := by
  have k := rdNum_cut s.length j (s ++ rest) (by omega)
  rw [← List.append_assoc] at k
  unfold rdText
  rw [k]
  by_cases h1 : (enc s.length).length ≤ j
  · rw [if_pos h1]
    dsimp only
    rw [if_pos rfl, if_pos (by rw [Int.max_eq_left (by omega)]; omega)]
    by_cases h2 : (enc s.length ++ s).length ≤ j
    · rw [List.length_append] at h2
      have e : (s ++ rest).take (j - (enc s.length).length) = s ++ rest.take (j - (enc s.length).length - s.length) := by
        rw [List.take_append, List.take_of_length_le (by omega)]
      rw [e, if_pos (show s.length ≤ (s ++ rest.take (j - (enc s.length).length - s.length)).length by simp), if_pos (show (enc s.length ++ s).length ≤ j by rw [List.length_append]; omega), List.take_left', List.drop_left', List.length_append, Nat.sub_sub] <;> rfl
    · rw [List.length_append] at h2
      rw [if_neg (show ¬ s.length ≤ ((s ++ rest).take (j - (enc s.length).length)).length by rw [List.length_take, List.length_append]; omega), if_neg (show ¬ (enc s.length ++ s).length ≤ j by rw [List.length_append]; omega)]
  · rw [if_neg h1, if_neg (show ¬ (enc s.length ++ s).length ≤ j by rw [List.length_append]; omega)]
    dsimp only
    rw [if_neg (by decide)]

/-- A reader of the first m of the bytes L that was asked for what their first 'len' bytes hold. -/
def St (L : List UInt8) (m len : Nat) : List UInt8 × Int := if len ≤ m then ((L.take m).drop len, 0) else ([], 10)
theorem St_zero (L : List UInt8) (m : Nat) : St L m 0 = (L.take m, 0) := by simp [St]
theorem St_end (L : List UInt8) (m : Nat) (h : m < L.length) : St L m L.length = ([], 10) := by
  unfold St
  rw [if_neg (by omega)]
theorem St_num (a b : List UInt8) (u m : Nat) (h : u ≤ 18446744073709551615) : (rdNum (St (a ++ (enc u ++ b)) m a.length).1 (St (a ++ (enc u ++ b)) m a.length).2).2 = St (a ++ (enc u ++ b)) m (a.length + (enc u).length) := by
  unfold St
  by_cases h1 : a.length ≤ m
  · have e : ((a ++ (enc u ++ b)).take m).drop a.length = (enc u ++ b).take (m - a.length) := by
      rw [List.take_append, List.take_of_length_le h1, List.drop_left']
      rfl
    rw [if_pos h1, e]
    dsimp only
    rw [rdNum_cut u _ b h]
    by_cases h2 : (enc u).length ≤ m - a.length
    · rw [if_pos h2, if_pos (by omega)]
      dsimp only
      rw [← List.drop_drop, e, List.take_append, List.take_of_length_le h2, List.drop_left']
      rfl
    · rw [if_neg h2, if_neg (by omega)]
  · rw [if_neg h1, if_neg (by omega)]
    dsimp only
    rw [rdNum_dead]
theorem St_text (a b s : List UInt8) (m : Nat) (h : s.length ≤ 400) : (rdText (St (a ++ (enc s.length ++ s ++ b)) m a.length).1 (St (a ++ (enc s.length ++ s ++ b)) m a.length).2 400).2 = St (a ++ (enc s.length ++ s ++ b)) m (a.length + (enc s.length ++ s).length) := by
  unfold St
  by_cases h1 : a.length ≤ m
  · have e : ((a ++ (enc s.length ++ s ++ b)).take m).drop a.length = (enc s.length ++ s ++ b).take (m - a.length) := by
      rw [List.take_append, List.take_of_length_le h1, List.drop_left']
      rfl
    rw [if_pos h1, e]
    dsimp only
    rw [rdText_cut s _ b h]
    by_cases h2 : (enc s.length ++ s).length ≤ m - a.length
    · rw [if_pos h2, if_pos (by omega)]
      dsimp only
      rw [← List.drop_drop, e, List.take_append, List.take_of_length_le h2, List.drop_left']
      rfl
    · rw [if_neg h2, if_neg (by omega)]
  · rw [if_neg h1, if_neg (by omega)]
    dsimp only
    rw [rdText_dead]

theorem encs_pos (zs : List Nat) (h : ∀ z ∈ zs, z ≤ 18446744073709551615) : zs.length ≤ (encs zs).length := by
  induction zs with
  | nil => simp
  | cons z zs ih =>
    have h1 := enc_len z (h z (by simp))
    have h2 := ih fun y hy => h y (by simp [hy])
    simp only [encs, List.flatMap_cons, List.length_append, List.length_cons] at *
    omega
theorem encTs_pos (ss : List ByteArray) (h : ∀ s ∈ ss, s.size ≤ 1000000) : ss.length ≤ (encTs ss).length := by
  induction ss with
  | nil => simp
  | cons z zs ih =>
    have h1 := enc_len z.size (by have := h z (by simp); omega)
    have h2 := ih fun y hy => h y (by simp [hy])
    simp only [encTs, List.flatMap_cons, List.length_append, List.length_cons] at *
    omega
/-- The reader of cut numbers and texts, behind k numbers, and behind all numbers and k texts. -/
theorem St_encs (ns : List Nat) (b : List UInt8) (m k : Nat) (hk : k < ns.length) (hn : ∀ z ∈ ns, z ≤ 18446744073709551615) :
    (rdNum (St (encs ns ++ b) m (encs (ns.take k)).length).1 (St (encs ns ++ b) m (encs (ns.take k)).length).2).2 = St (encs ns ++ b) m (encs (ns.take (k + 1))).length := by
  have e : encs ns ++ b = encs (ns.take k) ++ (enc ns[k] ++ (encs (ns.drop (k + 1)) ++ b)) := by
    conv => lhs; rw [← List.take_append_drop k ns]
    have e2 : encs (ns.take k ++ ns.drop k) = encs (ns.take k) ++ encs (ns.drop k) := by unfold encs; rw [List.flatMap_append]
    rw [e2, encs_drop ns k hk]
    simp only [List.append_assoc]
  rw [e, St_num _ _ _ _ (hn _ (List.getElem_mem hk)), encs_take ns k hk, List.length_append]
theorem St_encTs (a : List UInt8) (ss : List ByteArray) (m k : Nat) (hk : k < ss.length) (hs : ∀ x ∈ ss, x.size ≤ 400) :
    (rdText (St (a ++ encTs ss) m (a ++ encTs (ss.take k)).length).1 (St (a ++ encTs ss) m (a ++ encTs (ss.take k)).length).2 400).2 = St (a ++ encTs ss) m (a ++ encTs (ss.take (k + 1))).length := by
  have hl : ss[k].data.toList.length = ss[k].size := by rw [Array.length_toList]; rfl
  have e : a ++ encTs ss = (a ++ encTs (ss.take k)) ++ (enc ss[k].data.toList.length ++ ss[k].data.toList ++ encTs (ss.drop (k + 1))) := by
    conv => lhs; rw [← List.take_append_drop k ss]
    have e2 : encTs (ss.take k ++ ss.drop k) = encTs (ss.take k) ++ encTs (ss.drop k) := by unfold encTs; rw [List.flatMap_append]
    rw [e2, encTs_drop ss k hk]
    simp only [List.append_assoc]
  rw [e, St_text _ _ _ _ (by rw [hl]; exact hs _ (List.getElem_mem hk)), encTs_take ss k hk, hl]
  congr 1
  simp only [List.length_append]
  omega
end Go.Proofs.YthnkiabhfcddaaaDoor
/-
  Plain mathematics (no program): bytes that are taken are those that their number is put as; so of what a reader reads.
-/
namespace Go.Proofs.YthnkiabhfcddaaaDoor
set_option linter.unusedVariables false

theorem tk_ok {l : List UInt8} {u n : Nat} (h : tk l = (u, n, 0)) : l.take n = enc u ∧ n = (enc u).length ∧ u ≤ 18446744073709551615 ∧ 1 ≤ n := by
  have hr := (tk_range l).1
  rw [h] at hr
  have e8 : (256 : Nat) ^ 8 = 18446744073709551616 := by decide
  have hu : u ≤ 18446744073709551615 := by dsimp only at hr; omega
  have key : l.take n = enc u := by
    unfold tk at h
    split at h
    · simp at h
    · rename_i c r
      split at h
      · rename_i hc
        simp only [Prod.mk.injEq] at h
        obtain ⟨rfl, rfl, _⟩ := h
        unfold enc
        rw [if_pos hc]
        simp
      · split at h
        · simp at h
        · split at h
          · simp at h
          · rename_i hc hlen hbad
            simp only [Prod.mk.injEq] at h
            obtain ⟨rfl, rfl, _⟩ := h
            rw [List.take_succ_cons]
            exact ((enc_val_iff c (r.take (c.toNat - 247)) (by omega) (by rw [List.length_take]; omega)).2 hbad).symm
  have hn : n ≤ l.length := by have := (tk_range l).2.1; rw [h] at this; exact this
  have hlen : (l.take n).length = n := by rw [List.length_take]; omega
  have h1 := (enc_len u hu).1
  rw [key] at hlen
  exact ⟨key, hlen.symm, hu, by omega⟩

/-! What was read stood there. -/
theorem rdNum_inv {l : List UInt8} {e : Int} {u : Nat} {l' : List UInt8} (h : rdNum l e = (u, l', 0)) : e = 0 ∧ l = enc u ++ l' ∧ u ≤ 18446744073709551615 := by
  unfold rdNum at h
  by_cases he : e = 0
  · rw [if_pos he] at h
    by_cases ht : (tk l).2.2 = 0
    · rw [if_pos ht] at h
      simp only [Prod.mk.injEq, and_true] at h
      obtain ⟨h1, h2⟩ := h
      have hk : tk l = ((tk l).1, (tk l).2.1, 0) := by rw [← ht]
      obtain ⟨k1, k2, k3, _⟩ := tk_ok hk
      rw [h1] at k1 k3
      refine ⟨he, ?_, k3⟩
      rw [← k1, ← h2, List.take_append_drop]
    · rw [if_neg ht] at h
      simp only [Prod.mk.injEq] at h
      exact absurd h.2.2 ht
  · rw [if_neg he] at h
    simp only [Prod.mk.injEq] at h
    exact absurd h.2.2 he
theorem rdNum_zero {l : List UInt8} {e : Int} (h : ¬ (rdNum l e).2.2 = 0) : (rdNum l e).1 = 0 := by
  unfold rdNum at h ⊢
  by_cases he : e = 0
  · rw [if_pos he] at h ⊢
    by_cases ht : (tk l).2.2 = 0
    · rw [if_pos ht] at h
      exact absurd rfl h
    · rw [if_neg ht]
  · rw [if_neg he]
theorem rdMoment_inv {l : List UInt8} {e x : Int} {l' : List UInt8} (h : rdMoment l e = (x, l', 0)) : e = 0 ∧ l = enc x.toNat ++ l' ∧ 0 ≤ x ∧ x ≤ 9223372036854775807 := by
  unfold rdMoment at h
  by_cases hu : (rdNum l e).1 ≤ 9223372036854775807
  · rw [if_pos hu] at h
    simp only [Prod.mk.injEq] at h
    obtain ⟨rfl, h2⟩ := h
    obtain ⟨k1, k2, k3⟩ := rdNum_inv (l := l) (e := e) (u := (rdNum l e).1) (l' := l') (by rw [← h2])
    exact ⟨k1, by rw [Int.toNat_natCast]; exact k2, by omega, by omega⟩
  · rw [if_neg hu] at h
    simp at h
theorem rdText_inv {l : List UInt8} {e most : Int} {s l' : List UInt8} (h : rdText l e most = (s, l', 0)) : e = 0 ∧ l = enc s.length ++ s ++ l' ∧ (s.length : Int) ≤ max most 0 := by
  unfold rdText at h
  by_cases h1 : (rdNum l e).2.2 = 0
  · rw [if_pos h1] at h
    by_cases h2 : ((rdNum l e).1 : Int) ≤ max most 0
    · rw [if_pos h2] at h
      by_cases h3 : (rdNum l e).1 ≤ (rdNum l e).2.1.length
      · rw [if_pos h3] at h
        simp only [Prod.mk.injEq, and_true] at h
        obtain ⟨rfl, rfl⟩ := h
        obtain ⟨k1, k2, _⟩ := rdNum_inv (l := l) (e := e) (u := (rdNum l e).1) (l' := (rdNum l e).2.1) (by rw [← h1])
        have hlen : ((rdNum l e).2.1.take (rdNum l e).1).length = (rdNum l e).1 := by rw [List.length_take]; omega
        rw [hlen]
        refine ⟨k1, ?_, h2⟩
        rw [List.append_assoc, List.take_append_drop]
        exact k2
      · rw [if_neg h3] at h
        simp at h
    · rw [if_neg h2] at h
      simp at h
  · rw [if_neg h1] at h
    simp only [Prod.mk.injEq] at h
    exact absurd (congrArg Prod.snd h.2) h1
theorem rdEnd_inv {l : List UInt8} {e : Int} (h : rdEnd l e = 0) : e = 0 ∧ l = [] := by
  unfold rdEnd at h
  by_cases he : e = 0
  · rw [if_pos he] at h
    by_cases hl : l = []
    · exact ⟨he, hl⟩
    · rw [if_neg hl] at h
      cases h
  · rw [if_neg he] at h
    exact absurd h he
theorem rdMoment_enc (u : Nat) (rest : List UInt8) (h : u ≤ 9223372036854775807) : rdMoment (enc u ++ rest) 0 = ((u : Int), rest, 0) := by
  unfold rdMoment
  rw [rdNum_enc u rest (by omega), if_pos h]
theorem rdMoment_cut (u j : Nat) (rest : List UInt8) (h : u ≤ 9223372036854775807) : rdMoment ((enc u ++ rest).take j) 0 = if (enc u).length ≤ j then ((u : Int), rest.take (j - (enc u).length), 0) else (0, [], 10) := by
  unfold rdMoment
  rw [rdNum_cut u j rest (by omega)]
  by_cases hj : (enc u).length ≤ j
  · rw [if_pos hj, if_pos hj, if_pos h]
  · rw [if_neg hj, if_neg hj, if_pos (by decide)]
    rfl
theorem rdMoment_dead : rdMoment [] 10 = (0, [], 10) := by simp [rdMoment, rdNum]
theorem rdText_cutm (s : List UInt8) (j : Nat) (rest : List UInt8) (most : Int) (h : (s.length : Int) ≤ max most 0) (hs : s.length ≤ 1000000) :
    rdText ((enc s.length ++ s ++ rest).take j) 0 most = if (enc s.length ++ s).length ≤ j then (s, rest.take (j - (enc s.length ++ s).length), 0) else ([], [], 10) := by
  have k := rdNum_cut s.length j (s ++ rest) (by omega)
  rw [← List.append_assoc] at k
  unfold rdText
  rw [k]
  by_cases h1 : (enc s.length).length ≤ j
  · rw [if_pos h1]
    dsimp only
    rw [if_pos rfl, if_pos h]
    by_cases h2 : (enc s.length ++ s).length ≤ j
    · rw [List.length_append] at h2
      have e : (s ++ rest).take (j - (enc s.length).length) = s ++ rest.take (j - (enc s.length).length - s.length) := by
        rw [List.take_append, List.take_of_length_le (by omega)]
      rw [e, if_pos (show s.length ≤ (s ++ rest.take (j - (enc s.length).length - s.length)).length by simp), if_pos (show (enc s.length ++ s).length ≤ j by rw [List.length_append]; omega), List.take_left', List.drop_left', List.length_append, Nat.sub_sub] <;> rfl
    · rw [List.length_append] at h2
      rw [if_neg (show ¬ s.length ≤ ((s ++ rest).take (j - (enc s.length).length)).length by rw [List.length_take, List.length_append]; omega), if_neg (show ¬ (enc s.length ++ s).length ≤ j by rw [List.length_append]; omega)]
  · rw [if_neg h1, if_neg (show ¬ (enc s.length ++ s).length ≤ j by rw [List.length_append]; omega)]
    dsimp only
    rw [if_neg (by decide)]
end Go.Proofs.YthnkiabhfcddaaaDoor
/-
  Contracts of the reference's Num and Text: a number's bytes, a text's bytes, as texts.
-/
namespace Go.Proofs.YthnkiabhfcddaaaDoor
open Go.RowKit

set_option maxRecDepth 100000 in
theorem rnum_small (x : Nat) (w : World) (h : x < 248) :
    Calls Tryd.prog 57 #[.int .u64 x] w fun e w' => e = .returned (.string (mkB [UInt8.ofNat x])) ∧ Below w.heap.size w w' := by
  have hcv := run_str1 w x (UInt8.ofNat x) (u8_of x (by omega))
  go_enter Tryd.func57, Tryd.ntmps57
  go_wp2
  go_ret
  exact ⟨rfl, (Below.refl _ _).alloc (Nat.le_refl _) _⟩

set_option maxRecDepth 100000 in
set_option maxHeartbeats 1000000 in
theorem rnum_big (x : Nat) (w : World) (h : 248 ≤ x) (hx : x ≤ 18446744073709551615) :
    Calls Tryd.prog 57 #[.int .u64 x] w fun e w' => e = .returned (.string (mkB (UInt8.ofNat (247 + nb x) :: be (nb x) x))) ∧ Below w.heap.size w w' := by
  have h8 := nb_lt8 x (by omega)
  have h1 := nb_pos x (by omega)
  go_enter Tryd.func57, Tryd.ntmps57
  go_wp2
  go_loopw [3, 4] (fun s y wr => ∃ j : Nat, j ≤ nb x ∧ s = .string (mkB (be j x)) ∧ y = .int .u64 ((x / 256 ^ j : Nat) : Int) ∧ Hid (Below w.heap.size w wr)) (fun _ y _ => (intOf y).toNat)
  case atStart => exact ⟨0, Nat.zero_le _, rfl, by simp, Below.refl _ _⟩
  case round =>
    obtain ⟨j, hj, rfl, rfl, HB⟩ := hrel
    have hs := HB.out.size
    have hxy : x / 256 ^ j ≤ x := Nat.div_le_self _ _
    have hnext : x / 256 ^ (j + 1) = x / 256 ^ j / 256 := by rw [Nat.pow_succ, Nat.div_div_eq_div_mul]
    have hbe : be (j + 1) x = UInt8.ofNat (x / 256 ^ j % 256) :: be j x := rfl
    have hz : x / 256 ^ j = 0 ↔ nb x ≤ j := by
      rw [nb_le_iff, Nat.div_eq_zero_iff]
      have : 0 < 256 ^ j := Nat.pow_pos (by decide)
      omega
    have HZ := Lib.hid hz
    have HN := Lib.hid hnext
    have HE := Lib.hid hbe
    clear hz hnext hbe
    generalize hy : x / 256 ^ j = y at HN HE HZ hxy ⊢
    clear hy
    by_cases hlt : 0 < y
    · have hcv := run_str1 wr ((y : Int) % 256) (UInt8.ofNat (y % 256)) (u8_of (y % 256) (by omega))
      have hadd := fun W => run_add W [UInt8.ofNat (y % 256)] (be j x) (by rw [be_length]; simp only [List.length_cons, List.length_nil]; omega)
      go_wp2
      go_roundw
      case rel =>
        have := HZ.out
        refine ⟨j + 1, by omega, by rw [HE.out], by rw [HN.out]; rfl, HB.out.alloc hs _⟩
      case measure => simp [intOf]; omega
    · have hk : nb x = j := by have := HZ.out; omega
      have h8j : j ≤ 8 := by omega
      have hsz : (mkB (be j x)).size = j := by rw [mkB_size, be_length]
      have hcv := run_str1 wr (247 + (j : Int)) (UInt8.ofNat (247 + j)) (u8_of (247 + j) (by omega))
      generalize hC : UInt8.ofNat (247 + j) = c at hcv
      have HC := Lib.hid hC
      have HK := Lib.hid hk
      have hadd : ∀ W, (Op.stringOp .add (mkB [c]) (mkB (be j x))).run Tryd.prog W = .ok (.string (mkB ([c] ++ be j x))) W := fun W => run_add W [c] (be j x) (by rw [be_length]; simp only [List.length_cons, List.length_nil]; omega)
      clear hk hC HE HN HZ
      go_wp2
      go_ret
      rw [HK.out, HC.out]
      exact ⟨rfl, HB.out.alloc hs _⟩

/-- The reference's Num. -/
theorem rnum_any (x : Nat) (w : World) (hx : x ≤ 18446744073709551615) :
    Calls Tryd.prog 57 #[.int .u64 x] w fun e w' => e = .returned (.string (mkB (enc x))) ∧ Below w.heap.size w w' := by
  unfold enc
  by_cases h : x < 248
  · rw [if_pos h]; exact rnum_small x w h
  · rw [if_neg h]; exact rnum_big x w (by omega) hx
/-- The reference's Text. -/
theorem rtext_any (s : ByteArray) (w : World) (hx : s.size ≤ 1000000) :
    Calls Tryd.prog 56 #[.string s] w fun e w' => e = .returned (.string (mkB (enc s.size ++ s.data.toList))) ∧ Below w.heap.size w w' := by
  have hl2 : s.data.toList.length = s.size := by rw [Array.length_toList]; rfl
  have hl : (enc s.size).length ≤ 9 := (enc_len s.size (by omega)).2
  have hadd : ∀ W, (Op.stringOp .add (mkB (enc s.size)) s).run Tryd.prog W = .ok (.string (mkB (enc s.size ++ s.data.toList))) W := fun W => by
    have h := run_add W (enc s.size) s.data.toList (by rw [hl2]; omega)
    exact h
  clear hl hl2
  go_enter Tryd.func56, Tryd.ntmps56
  go_wp2_with (go_at_call 57; refine (rnum_any _ _ (by omega)).mono ?_; rintro e w1 ⟨rfl, hb1⟩)
  go_ret
  exact ⟨rfl, hb1⟩
end Go.Proofs.YthnkiabhfcddaaaDoor
