/-
  Package message's contracts of number, at its two types, and of propsTake.
-/
import Derived.Test.YtiflpjdiokloaaaDoorReadMore
import Derived.Test.YtiflpjdiokloaaaDoorPackE
import Derived.Test.YtiflpjdiokloaaaDoorPackF
import Derived.Test.YtiflpjdiokloaaaDoorPackG
import Derived.Test.YtiflpjdiokloaaaDoorTouch
namespace Go.Proofs.YtiflpjdiokloaaaDoor
open Go.RowKit
set_option linter.unusedVariables false

set_option maxRecDepth 100000 in
theorem numU_yes (g : Nat) (l : List UInt8) (e : Int) (w : World) (h : Rdr w g l e) :
    Calls Tryd.prog 35 #[.bool true, .func (.func 36) #[.pointer (some ⟨g, 0, none⟩)] #[]] w (Did g (.int .u64 (rdNum l e).1) (rdNum l e).2 w) := by
  have HR := Lib.hid (num_any g l e w h)
  clear h
  go_enter Tryd.func35, Tryd.ntmps35
  go_wp2_with (go_at_call 36; refine (HR.out).mono ?_; rintro e w' ⟨rfl, hr1, hg1⟩)
  go_ret
  exact ⟨rfl, hr1, hg1⟩
set_option maxRecDepth 100000 in
theorem numU_no (g : Nat) (l : List UInt8) (e : Int) (w : World) (h : Rdr w g l e) :
    Calls Tryd.prog 35 #[.bool false, .func (.func 36) #[.pointer (some ⟨g, 0, none⟩)] #[]] w (Did g (.int .u64 0) (l, e) w) := by
  have HR := Lib.hid h
  clear h
  go_enter Tryd.func35, Tryd.ntmps35
  go_wp2
  go_ret
  exact ⟨rfl, HR.out, World.grownBy.refl _ _⟩

set_option maxRecDepth 100000 in
theorem numI_yes (g : Nat) (l : List UInt8) (e : Int) (w : World) (h : Rdr w g l e) :
    Calls Tryd.prog 37 #[.bool true, .func (.func 38) #[.pointer (some ⟨g, 0, none⟩)] #[]] w (Did g (.int .i64 (rdMoment l e).1) (rdMoment l e).2 w) := by
  have HR := Lib.hid (moment_any g l e w h)
  clear h
  go_enter Tryd.func37, Tryd.ntmps37
  go_wp2_with (go_at_call 38; refine (HR.out).mono ?_; rintro e w' ⟨rfl, hr1, hg1⟩)
  go_ret
  exact ⟨rfl, hr1, hg1⟩
set_option maxRecDepth 100000 in
theorem numI_no (g : Nat) (l : List UInt8) (e : Int) (w : World) (h : Rdr w g l e) :
    Calls Tryd.prog 37 #[.bool false, .func (.func 38) #[.pointer (some ⟨g, 0, none⟩)] #[]] w (Did g (.int .i64 0) (l, e) w) := by
  have HR := Lib.hid h
  clear h
  go_enter Tryd.func37, Tryd.ntmps37
  go_wp2
  go_ret
  exact ⟨rfl, HR.out, World.grownBy.refl _ _⟩

/-- Where propsTake stands. -/
structure PTake (w wr : World) (g : Nat) (v : Value) (o : List Pr) (l : List UInt8) (e : Int) : Prop where
  hg : g < w.heap.size
  ho : OwnsP wr w.heap.size v o
  hr : Rdr wr g l e
  ht : Touch (fun k => k = g) w wr
theorem touch_grown {w w' : World} {g : Nat} (h : w.grownBy w' (some g)) : Touch (fun k => k = g) w w' :=
  ⟨h.os, h.tape, h.output, h.size, fun k hk hne => h.block k hk fun e => hne (by injection e)⟩
theorem PTake.read {w wr w' : World} {g : Nat} {v : Value} {o : List Pr} {l l' : List UInt8} {e e' : Int} (h : PTake w wr g v o l e) (hr : Rdr w' g l' e') (hg : wr.grownBy w' (some g)) : PTake w w' g v o l' e' := by
  have hg0 := h.hg
  refine ⟨hg0, ownsRow_below h.ho fun k hk => ?_, hr, h.ht.trans (touch_grown hg) fun i hi => .inl hi⟩
  have := ownsRow_old h.ho k hk
  exact hg.block k this.2 fun e => by injection e with e; omega
theorem PTake.push {w wr w' : World} {g : Nat} {v v' : Value} {o : List Pr} {p : Pr} {l : List UInt8} {e : Int} {b : Obj} (h : PTake w wr g v o l e) (hg : Grew (wr.alloc b) w.heap.size 58 2 v v' (o.length + 1) (prC o ++ [.string (mkB p.name), .int .i64 p.val]) w') : PTake w w' g v' (o ++ [p]) l e := by
  obtain ⟨h1, h2, _, h4⟩ := hg
  have hb : Below w.heap.size wr w' := ((Below.refl _ _).alloc h.ht.size b).trans h4
  refine ⟨h.hg, OwnsP.join h1 rfl rfl, h.hr.keep h.hg hb, ?_⟩
  exact ⟨hb.os.trans h.ht.os, hb.tape.trans h.ht.tape, hb.output.trans h.ht.output, Nat.le_trans h.ht.size hb.size, fun k hk hne => (hb.block k hk).trans (h.ht.block k hk hne)⟩

set_option maxRecDepth 100000 in
set_option maxHeartbeats 1000000 in
theorem mpropsTake_any (g : Nat) (l : List UInt8) (e : Int) (n : Nat) (w : World) (h : Rdr w g l e) (hn : n ≤ 8) {ps : List Pr} {l' : List UInt8} {e' : Int} (hd : rdProps n l e = (ps, l', e')) :
    Calls Tryd.prog 39 #[.pointer (some ⟨g, 0, none⟩), .int .i64 (n : Int)] w fun x w' => ∃ v, x = .returned v ∧ PTake w w' g v ps l' e' := by
  have HD := Lib.hid hd
  have H0 : Hid (PTake w w g (.slice none 0 0) [] l e) := Lib.hid ⟨h.lt, OwnsP.nil_ _ _, h, Touch.refl _ _⟩
  clear h hd
  go_enter Tryd.func39, Tryd.ntmps39
  go_wp2
  go_loopw [5, 7] (fun v i wr => ∃ (k : Nat) (o : List Pr) (lr : List UInt8) (er : Int), k ≤ n ∧ i = .int .i64 k ∧ Hid (PTake w wr g v o lr er) ∧ Hid (rdProps k l e = (o, lr, er))) (fun _ i _ => n - (intOf i).toNat)
  case atStart => exact ⟨0, [], l, e, Nat.zero_le _, rfl, H0, Lib.hid rfl⟩
  case round =>
    obtain ⟨k, o, lr, er, hk, rfl, HP, HQ⟩ := hrel
    by_cases hlt : k < n
    · have hlt2 : ((k : Nat) : Int) < (n : Int) := by omega
      rcases ht : rdText lr er 12 with ⟨s, l1, e1⟩
      rcases hu : rdNum l1 e1 with ⟨u, l2, e2⟩
      have HS : Hid (rdProps (k + 1) l e = (o ++ [⟨s, pln u⟩], l2, e2)) := Lib.hid (by
        rw [rdProps_snoc, HQ.out]
        dsimp only
        unfold rdProp
        rw [ht]
        dsimp only
        rw [hu])
      have HT : Hid (∀ w', Rdr w' g lr er → Calls Tryd.prog 64 #[.pointer (some ⟨g, 0, none⟩), .int .i64 12] w' (Did g (.string (mkB s)) (l1, e1) w')) := Lib.hid fun w' hw => by
        have k := text_any g lr er 12 w' hw (by decide) (by decide)
        rw [ht] at k
        exact k
      have HI : Hid (∀ w', Rdr w' g l1 e1 → Calls Tryd.prog 65 #[.pointer (some ⟨g, 0, none⟩)] w' (Did g (.int .i64 (pln u)) (l2, e2) w')) := Lib.hid fun w' hw => by
        have k := int_any g l1 e1 w' hw
        rw [hu] at k
        exact k
      have HO : Hid (o.length ≤ 8) := Lib.hid (by have e9 := rdProps_length k l e; rw [HQ.out] at e9; dsimp only at e9; omega)
      generalize pln u = y at HS HI
      clear ht hu
      obtain ⟨A3, n3, c3, rfl⟩ := own_slice HP.out.ho
      go_wp2_with (first
        | (go_at_call 64; (with_reducible refine (HT.out _ HP.out.hr).mono ?_); rintro e w1 ⟨rfl, hr1, hg1⟩; have HP1 := Lib.hid (HP.out.read hr1 hg1); clear hr1 hg1)
        | (go_at_call 65; (with_reducible refine (HI.out _ HP1.out.hr).mono ?_); rintro e w2 ⟨rfl, hr2, hg2⟩; have HP2 := Lib.hid (HP1.out.read hr2 hg2); clear hr2 hg2)
        | (at_builtin; refine wp_app_seq rfl (.tmp 9) (.tmp 15) 23 58 _ 2 24 Tryd.underlying23 info_P rfl (by omega) rfl w.heap.size (.slice A3 n3 c3) _ o.length 1 (prC o) _ rfl rfl (ownsRow_over HP2.out.ho (bmore (bself w2) _)) (Seq.lit_ w2 [.string (mkB s), .int .i64 y] _) (by simp [Value.oneCell']) (by have := HO.out; omega) (by have := HP2.out.ht.size; simp; omega) ?_; intro v9 w9 hg; have HP9 := Lib.hid (HP2.out.push (p := ⟨s, y⟩) hg); clear hg))
      go_roundw
      case rel => exact ⟨k + 1, _, _, _, by omega, by go_num, HP9, HS⟩
      case measure => simp [intOf]; omega
    · go_wp2
      have hkn : k = n := by omega
      subst hkn
      have hq := HQ.out
      rw [HD.out] at hq
      simp only [Prod.mk.injEq] at hq
      obtain ⟨rfl, rfl, rfl⟩ := hq
      go_ret
      exact ⟨_, rfl, HP.out⟩
end Go.Proofs.YtiflpjdiokloaaaDoor
