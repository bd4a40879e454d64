/-
  Contracts of octet.Open (a reader of any bytes) and of Text for any reader.
-/
import Derived.Test.YtbbioeiikobnnaaReader
import Derived.Test.YtbbioeiikobnnaaAdd
import Derived.Lib.LazyBuf
namespace Go.Proofs.Ytbbioeiikobnnaa
open Go.RowKit

theorem text_any (g : Nat) (l : List UInt8) (e most : Int) (w : World) (h : Rdr w g l e) (hm1 : -9223372036854775808 ≤ most) (hm2 : most ≤ 9223372036854775807) :
    Calls Try.prog 26 #[.pointer (some ⟨g, 0, none⟩), .int .i64 most] w (Did g (.string (mkB (rdText l e most).1)) (rdText l e most).2 w) := by
  rcases hd : rdNum l e with ⟨u, l', e'⟩
  by_cases he : e' = 0
  · subst he
    by_cases hu : (u : Int) ≤ max most 0
    · by_cases hl : u ≤ l'.length
      · have k := text_ok g l e most w h hd hu hl hm1 hm2
        have e : rdText l e most = (l'.take u, l'.drop u, 0) := by simp only [rdText, hd, if_pos, hu, hl]
        rw [e]; exact k
      · have k := text_short g l e most w h hd hu hl hm1 hm2
        have e : rdText l e most = ([], [], 10) := by simp only [rdText, hd, if_pos, hu]; rw [if_neg hl]
        rw [e]; exact k
    · have k := text_long g l e most w h hd hu hm1 hm2
      have e : rdText l e most = ([], [], 13) := by simp only [rdText, hd, if_pos]; rw [if_neg hu]
      rw [e]; exact k
  · have k := text_err g l e most w h hd he
    have e : rdText l e most = ([], l', e') := by simp only [rdText, hd]; rw [if_neg he]
    rw [e]; exact k
theorem text_nil (most : Int) (w : World) : Calls Try.prog 26 #[.pointer none, .int .i64 most] w fun e w' => e = .returned (.string (mkB [])) ∧ w = w' := by
  go_enter Try.func26, Try.ntmps26
  go_wp2_with (first
    | (go_at_call 21; refine (num_nil _).mono ?_; rintro e w' ⟨rfl, rfl⟩)
    | (go_at_call 29; refine (err_nil _).mono ?_; rintro e w' ⟨rfl, rfl⟩))
  go_ret
  exact ⟨rfl, rfl⟩

theorem Owns.lies {w : World} {base : Nat} {v : Value} {l : List UInt8} (h : Owns w base v l) : Lies w w.heap.size v l := by
  obtain ⟨_, h2 | ⟨g, cap, cur, rfl, hg, hh, hn, _, _, hx⟩⟩ := h
  · exact .inl ⟨h2.1, List.eq_nil_of_length_eq_zero h2.2⟩
  · refine .inr ⟨g, 0, cap, rfl, hn, heap_lt hh, fun i hi => ?_⟩
    rw [heap_cell hh]
    have e := bc_get l i hi
    rw [← hx, List.getElem?_take, if_pos (by omega)] at e
    simpa using e

/-- What a call of Clone ends in. -/
def Cloned (l : List UInt8) (w : World) (x : Ending) (w' : World) : Prop := ∃ v, x = .returned v ∧ Lies w' w'.heap.size v l ∧ Below w.heap.size w w'

theorem owns_empty (w : World) (base : Nat) (hb : base ≤ w.heap.size) : Owns (w.alloc (.cells #[] 5)) base (.slice (some ⟨w.heap.size, 0, none⟩) 0 0) [] :=
  ⟨rfl, .inr ⟨w.heap.size, 0, #[], rfl, hb, heap_alloc_new w _, Nat.le_refl _, Nat.zero_le _, rfl, rfl⟩⟩

set_option maxRecDepth 100000 in
theorem clone_any (v : Value) (l : List UInt8) (w : World) (h : Lies w w.heap.size v l) (hf : Fits l.length) : Calls Try.prog 34 #[v] w (Cloned l w) := by
  rcases h with ⟨rfl, rfl⟩ | ⟨b, off, c, rfl, hlc, hb, hcs⟩
  · have hq := Go.run_eql_slice_nil (P := Try.prog) w 24 5 none 0 0 Try.underlying24
    go_enter Try.func34, Try.ntmps34
    go_wp2
    go_ret
    exact ⟨_, rfl, .inl ⟨rfl, rfl⟩, Below.refl _ _⟩
  · have HF := Lib.hid hf
    have HC := Lib.hid hcs
    clear hf hcs
    have hq := Go.run_eql_slice_nil (P := Try.prog) w 24 5 (some ⟨b, off, none⟩) l.length c Try.underlying24
    go_enter Try.func34, Try.ntmps34
    go_wp2_with (at_builtin; refine wp_app rfl (.tmp 5) (.tmp 6) rfl w.heap.size _ [] l c ⟨b, off, none⟩ rfl (owns_empty w _ (Nat.le_refl _)) rfl (fun j hj => by rw [Addr.add_lit, World.cell?_alloc_lt _ _ _ hb]; exact HC.out j hj) (HF.out.le (by simp)) (by simp) ?_; intro v1 w1 ho1 hb1)
    go_ret
    exact ⟨_, rfl, ho1.lies, ((Below.refl _ _).alloc (Nat.le_refl _) _).trans hb1⟩

/-- What a call of Open ends in: a new reader, at a block from B on. -/
def Opened (l : List UInt8) (w : World) (x : Ending) (w' : World) : Prop := ∃ g, x = .returned (.pointer (some ⟨g, 0, none⟩)) ∧ w.heap.size ≤ g ∧ Rdr w' g l 0 ∧ Below w.heap.size w w'

theorem open_any (v : Value) (l : List UInt8) (w : World) (h : Lies w w.heap.size v l) (hf : Fits l.length) : Calls Try.prog 20 #[v] w (Opened l w) := by
  have HL := Lib.hid h
  have HF := Lib.hid hf
  clear h hf
  go_enter Try.func20, Try.ntmps20
  go_wp2_with (go_at_call 34; refine (clone_any _ _ _ HL.out HF.out).mono ?_; rintro e w1 ⟨v1, rfl, hl1, hb1⟩; have HL1 := Lib.hid hl1; have HB1 := Lib.hid hb1; clear hb1; rcases hl1 with ⟨rfl, _⟩ | ⟨b1, off1, c1, rfl, hlc1, hb1, hcs1⟩)
  all_goals
   go_ret
   have hs := HB1.out.size
   refine ⟨_, rfl, hs, ⟨_, heap_alloc_new _ _, HL1.out.keep fun k hk => Below.heap_alloc _ _ k hk, by have := HF.out; unfold Fits at this; omega⟩, HB1.out.alloc hs _⟩

theorem mkB_data (s : ByteArray) : mkB s.data.toList = s := rfl
theorem Rdr.keep {w w' : World} {g : Nat} {l : List UInt8} {e : Int} {B : Nat} (h : Rdr w g l e) (hg : g < B) (hb : Below B w w') : Rdr w' g l e := by
  obtain ⟨v, hh, hl, hm⟩ := h
  exact ⟨v, (hb.block g hg).trans hh, hl.keep fun k hk => hb.block k (by omega), hm⟩
theorem Rdr.lt {w : World} {g : Nat} {l : List UInt8} {e : Int} (h : Rdr w g l e) : g < w.heap.size := by
  obtain ⟨v, hh, _⟩ := h
  exact heap_lt hh
end Go.Proofs.Ytbbioeiikobnnaa
