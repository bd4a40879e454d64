/-
  Package label: the order of propositions (strings.Compare, cmp.Compare, cmp.Or, order).
-/
import Derived.Test.YtiflpjdiokloaaaDoorPackG
import Derived.Lib.Bytealg
import Derived.Laws.Externs
import Derived.Deep.RegionHeld3
import Derived.Deep.QuietTactic
import Derived.BigQuiet
namespace Go.Proofs.YtiflpjdiokloaaaDoor
open Go.RowKit
set_option linter.unusedVariables false

theorem cmpB_cases : ∀ a b : List UInt8, (Op.bytesLess a b = true ∧ Lib.compareBytes a b = -1) ∨ (a = b ∧ Lib.compareBytes a b = 0) ∨ (Op.bytesLess b a = true ∧ Lib.compareBytes a b = 1)
  | [], [] => .inr (.inl ⟨rfl, rfl⟩)
  | [], _ :: _ => .inl ⟨rfl, rfl⟩
  | _ :: _, [] => .inr (.inr ⟨rfl, rfl⟩)
  | x :: a, y :: b => by
    rcases Nat.lt_trichotomy x.toNat y.toNat with h | h | h
    · have hl := UInt8.lt_iff_toNat_lt.2 h
      exact .inl ⟨by simp [Op.bytesLess, hl], by simp [Lib.compareBytes, hl]⟩
    · have e := UInt8.toNat_inj.1 h
      subst e
      have hi : ¬ x < x := UInt8.lt_irrefl x
      have e2 : Lib.compareBytes (x :: a) (x :: b) = Lib.compareBytes a b := by simp [Lib.compareBytes, hi]
      rcases cmpB_cases a b with ⟨p, q⟩ | ⟨p, q⟩ | ⟨p, q⟩
      · exact .inl ⟨by simp [Op.bytesLess, p], by rw [e2, q]⟩
      · exact .inr (.inl ⟨by rw [p], by rw [e2, q]⟩)
      · exact .inr (.inr ⟨by simp [Op.bytesLess, p], by rw [e2, q]⟩)
    · have hl := UInt8.lt_iff_toNat_lt.2 h
      have hn : ¬ x < y := fun h2 => by have := UInt8.lt_iff_toNat_lt.1 h2; omega
      exact .inr (.inr ⟨by simp [Op.bytesLess, hl], by simp [Lib.compareBytes, hl, hn]⟩)
def cmpI (x y : Int) : Int := if x < y then -1 else if y < x then 1 else 0
def orI (a b : Int) : Int := if a = 0 then b else a
/-- How one proposition stands to another. -/
def ordL (x y : Pr) : Int := orI (Lib.compareBytes x.name y.name) (cmpI x.val y.val)
theorem ord_cases (x y : Pr) : (aheadL x y = true ∧ ordL x y = -1) ∨ (x = y ∧ ordL x y = 0) ∨ (aheadL y x = true ∧ ordL x y = 1) := by
  obtain ⟨n, v⟩ := x
  obtain ⟨m, u⟩ := y
  unfold ordL aheadL
  dsimp only
  rcases cmpB_cases n m with ⟨p, q⟩ | ⟨p, q⟩ | ⟨p, q⟩
  · exact .inl ⟨by rw [p]; rfl, by rw [q]; rfl⟩
  · subst p
    rw [q]
    unfold orI cmpI
    rcases Int.lt_trichotomy v u with h | h | h
    · exact .inl ⟨by simp [h], by simp [h]⟩
    · subst h
      exact .inr (.inl ⟨rfl, by simp⟩)
    · have hn : ¬ v < u := by omega
      exact .inr (.inr ⟨by simp [h], by simp [h, hn]⟩)
  · exact .inr (.inr ⟨by rw [p]; rfl, by rw [q]; rfl⟩)

set_option maxRecDepth 100000 in
theorem cmpstr_any (a b : List UInt8) (w : World) :
    Calls Tryd.prog 81 #[.string (mkB a), .string (mkB b)] w fun e w' => e = .returned (.int .i64 (Lib.compareBytes a b)) ∧ w' = w := by
  have ea : (mkB a).data.toList = a := rfl
  have eb : (mkB b).data.toList = b := rfl
  go_enter Tryd.func81, Tryd.ntmps81
  go_wp2
  rw [run_callFunc_extern Tryd.func85 (by kernel_rfl) (by kernel_rfl) (by kernel_rfl) (e := Extern.BytealgCompare.compare) (by kernel_rfl), Lib.run_compareString, ea, eb]
  simp only [Result.andThen]
  rw [Oper.upon_value]
  go_wp2
  go_ret
  exact ⟨rfl, rfl⟩
set_option maxRecDepth 100000 in
theorem strcmp_any (a b : List UInt8) (w : World) :
    Calls Tryd.prog 74 #[.string (mkB a), .string (mkB b)] w fun e w' => e = .returned (.int .i64 (Lib.compareBytes a b)) ∧ w' = w := by
  go_enter Tryd.func74, Tryd.ntmps74
  go_wp2_with (go_at_call 81; (with_reducible refine (cmpstr_any _ _ _).mono ?_); rintro e w' ⟨rfl, rfl⟩)
  go_ret
  exact ⟨rfl, rfl⟩
theorem isnan_any (x : Int) (w : World) : Calls Tryd.prog 82 #[.int .i64 x] w fun e w' => e = .returned (.bool false) ∧ w' = w := by
  have hx : (x != x) = false := by simp
  go_enter Tryd.func82, Tryd.ntmps82
  go_wp2
  go_ret
  exact ⟨rfl, rfl⟩
set_option maxRecDepth 100000 in
theorem cmpi_any (x y : Int) (w : World) :
    Calls Tryd.prog 75 #[.int .i64 x, .int .i64 y] w fun e w' => e = .returned (.int .i64 (cmpI x y)) ∧ w' = w := by
  by_cases h1 : x < y
  · have HE := Lib.hid (show cmpI x y = -1 by unfold cmpI; rw [if_pos h1])
    go_enter Tryd.func75, Tryd.ntmps75
    go_wp2_with (go_at_call 82; (with_reducible refine (isnan_any _ _).mono ?_); rintro e w' ⟨rfl, rfl⟩)
    go_ret
    exact ⟨by rw [HE.out]; rfl, rfl⟩
  · by_cases h2 : y < x
    · have HE := Lib.hid (show cmpI x y = 1 by unfold cmpI; rw [if_neg h1, if_pos h2])
      go_enter Tryd.func75, Tryd.ntmps75
      go_wp2_with (go_at_call 82; (with_reducible refine (isnan_any _ _).mono ?_); rintro e w' ⟨rfl, rfl⟩)
      go_ret
      exact ⟨by rw [HE.out]; rfl, rfl⟩
    · have HE := Lib.hid (show cmpI x y = 0 by unfold cmpI; rw [if_neg h1, if_neg h2])
      go_enter Tryd.func75, Tryd.ntmps75
      go_wp2_with (go_at_call 82; (with_reducible refine (isnan_any _ _).mono ?_); rintro e w' ⟨rfl, rfl⟩)
      go_ret
      exact ⟨by rw [HE.out]; rfl, rfl⟩
set_option maxRecDepth 100000 in
theorem cmpor_any (g : Nat) (a b : Int) (w : World) (h0 : w.cell? ⟨g, 0, none⟩ = some (.int .i64 a)) (h1 : w.cell? ⟨g, 1, none⟩ = some (.int .i64 b)) :
    Calls Tryd.prog 73 #[.slice (some ⟨g, 0, none⟩) 2 2] w fun e w' => e = .returned (.int .i64 (orI a b)) ∧ w' = w := by
  have HG := Lib.hid (And.intro h0 h1)
  clear h0 h1
  go_enter Tryd.func73, Tryd.ntmps73
  go_wp2
  go_loop [8] (fun i => ∃ (k : Nat), k ≤ 2 ∧ i = .int .i64 k ∧ Hid ((1 ≤ k → a = 0) ∧ (2 ≤ k → b = 0))) (fun i => 2 - (intOf i).toNat)
  case atStart => exact ⟨0, by omega, rfl, Lib.hid ⟨by omega, by omega⟩⟩
  case round =>
    obtain ⟨k, hk, rfl, HP⟩ := hrel
    by_cases hlt : k < 2
    · obtain ⟨c, hc⟩ : ∃ c, (if k = 0 then a else b) = c := ⟨_, rfl⟩
      have e0 : w.cell? ⟨g, k, none⟩ = some (.int .i64 c) := by
        rw [← hc]
        rcases (show k = 0 ∨ k = 1 by omega) with rfl | rfl
        · exact HG.out.1
        · exact HG.out.2
      have HC := Lib.hid hc
      have hlt2 : ((k : Nat) : Int) < 2 := by omega
      clear hc
      cases hz : (c != 0) with
      | true =>
        have HZ := Lib.hid hz
        go_wp2
        go_ret
        refine ⟨?_, rfl⟩
        have hz := HZ.out
        have hc := HC.out
        have h1 := HP.out.1
        rw [bne_iff_ne] at hz
        have : orI a b = c := by
          unfold orI
          rcases (show k = 0 ∨ k = 1 by omega) with rfl | rfl
          · rw [if_pos rfl] at hc; rw [if_neg (by rw [hc]; exact hz), hc]
          · rw [if_neg (by omega)] at hc; rw [if_pos (h1 (by omega)), hc]
        rw [this]; rfl
      | false =>
        have HZ := Lib.hid hz
        go_wp2
        go_round
        case rel =>
          refine ⟨k + 1, by omega, by go_num, Lib.hid ?_⟩
          have hz := HZ.out
          have hc := HC.out
          obtain ⟨h1, h2⟩ := HP.out
          simp at hz
          rcases (show k = 0 ∨ k = 1 by omega) with rfl | rfl
          · rw [if_pos rfl] at hc; exact ⟨fun _ => by omega, fun h => by omega⟩
          · rw [if_neg (by omega)] at hc; exact ⟨fun _ => h1 (by omega), fun _ => by omega⟩
        case measure => simp [intOf]; omega
    · have hlt2 : ¬ ((k : Nat) : Int) < 2 := by omega
      go_wp2
      go_ret
      refine ⟨?_, rfl⟩
      obtain ⟨h1, h2⟩ := HP.out
      have : orI a b = 0 := by unfold orI; rw [if_pos (h1 (by omega)), h2 (by omega)]
      rw [this]; rfl
theorem new_0 (w : World) (a b : Value) (t : TypeId) : (w.alloc (.cells #[a, b] t)).cell? ⟨w.heap.size, 0, none⟩ = some a := heap_cell (heap_alloc_new w _) 0
theorem new_1 (w : World) (a b : Value) (t : TypeId) : (w.alloc (.cells #[a, b] t)).cell? ⟨w.heap.size, 1, none⟩ = some b := heap_cell (heap_alloc_new w _) 1
theorem drew_0 (w : World) (a b : Value) (t : TypeId) : (w.alloc (.cells #[a, b] t)).drew.cell? ⟨w.heap.size, 0, none⟩ = some a := new_0 w a b t
theorem drew_1 (w : World) (a b : Value) (t : TypeId) : (w.alloc (.cells #[a, b] t)).drew.cell? ⟨w.heap.size, 1, none⟩ = some b := new_1 w a b t
theorem ord_of (x y : Pr) : orI (Lib.compareBytes x.name y.name) (cmpI x.val y.val) = ordL x y := rfl
/-- What order reads: the two boxes. -/
def OrdS (w : World) (x y : Pr) (w' : World) : Prop :=
  w'.cell? ⟨w.heap.size, 0, none⟩ = some (.string (mkB x.name)) ∧ w'.cell? ⟨w.heap.size, 1, none⟩ = some (.int .i64 x.val) ∧ w'.cell? ⟨w.heap.size + 1, 0, none⟩ = some (.string (mkB y.name)) ∧ w'.cell? ⟨w.heap.size + 1, 1, none⟩ = some (.int .i64 y.val) ∧ Hid (w.heap.size + 2 ≤ w'.heap.size ∧ Below w.heap.size w w')
theorem ordS_over {w w1 w2 : World} {x y : Pr} (h : OrdS w x y w1) (hb : Below w1.heap.size w1 w2) : OrdS w x y w2 := by
  obtain ⟨h1, h2, h3, h4, h5⟩ := h
  have hz := h5.out.1
  have hz2 := hb.size
  exact ⟨(hb.cell (p := ⟨w.heap.size, 0, none⟩) (by dsimp; omega)).trans h1, (hb.cell (p := ⟨w.heap.size, 1, none⟩) (by dsimp; omega)).trans h2, (hb.cell (p := ⟨w.heap.size + 1, 0, none⟩) (by dsimp; omega)).trans h3, (hb.cell (p := ⟨w.heap.size + 1, 1, none⟩) (by dsimp; omega)).trans h4, Lib.hid ⟨by omega, bstep h5.out.2 hb⟩⟩
theorem ordS_drew {w w1 : World} {x y : Pr} (h : OrdS w x y w1) : OrdS w x y w1.drew := ordS_over h (bself w1).drew
theorem ordS_alloc {w w1 : World} {x y : Pr} (h : OrdS w x y w1) (o : Obj) : OrdS w x y (w1.alloc o) := ordS_over h (bmore (bself w1) o)
set_option maxRecDepth 100000 in
theorem order_any (x y : Pr) (w : World) :
    Calls Tryd.prog 56 #[.agg #[.string (mkB x.name), .int .i64 x.val], .agg #[.string (mkB y.name), .int .i64 y.val]] w fun e w' => e = .returned (.int .i64 (ordL x y)) ∧ Below w.heap.size w w' := by
  have HS := strcmp_any x.name y.name
  have HI := cmpi_any x.val y.val
  have HE := Lib.hid (ord_of x y)
  generalize Lib.compareBytes x.name y.name = p at HS HE
  generalize cmpI x.val y.val = q at HI HE
  have HS := Lib.hid HS
  have HI := Lib.hid HI
  go_enter Tryd.func56, Tryd.ntmps56
  go_wp2
  have hS : OrdS w x y ((w.alloc (.cells #[.string (mkB x.name), .int .i64 x.val] 58)).alloc (.cells #[.string (mkB y.name), .int .i64 y.val] 58)) := by
    obtain ⟨t1, t2, _⟩ := two_blocks (Below.refl _ ((w.alloc (.cells #[.string (mkB x.name), .int .i64 x.val] 58)).alloc (.cells #[.string (mkB y.name), .int .i64 y.val] 58)))
    exact ⟨heap_cell t1 0, heap_cell t1 1, heap_cell t2 0, heap_cell t2 1, Lib.hid ⟨by simp, bmore (bmore (bself w) _) _⟩⟩
  generalize (w.alloc (.cells #[.string (mkB x.name), .int .i64 x.val] 58)).alloc (.cells #[.string (mkB y.name), .int .i64 y.val] 58) = wr at hS ⊢
  unfold OrdS at hS
  go_region_held3 (fun w' => w'.cell? ⟨w.heap.size, 0, none⟩ = some (.string (mkB x.name)) ∧ w'.cell? ⟨w.heap.size, 1, none⟩ = some (.int .i64 x.val) ∧ w'.cell? ⟨w.heap.size + 1, 0, none⟩ = some (.string (mkB y.name)) ∧ w'.cell? ⟨w.heap.size + 1, 1, none⟩ = some (.int .i64 y.val) ∧ Hid (w.heap.size + 2 ≤ w'.heap.size ∧ Below w.heap.size w w'))
    (first | assumption | exact ordS_drew (by assumption) | exact ordS_alloc (by assumption) _ | exact ordS_drew (ordS_alloc (by assumption) _))
    (first
      | (go_at_call 74; ((with_reducible refine (HS.out _).mono ?_); rintro e w5 ⟨rfl, rfl⟩))
      | (go_at_call 75; ((with_reducible refine (HI.out _).mono ?_); rintro e w5 ⟨rfl, rfl⟩))
      | (go_at_call 73; (first | (with_reducible refine (cmpor_any _ p q _ (new_0 _ _ _ _) (new_1 _ _ _ _)).mono ?_) | (with_reducible refine (cmpor_any _ p q _ (drew_0 _ _ _ _) (drew_1 _ _ _ _)).mono ?_)); rintro e w5 ⟨rfl, rfl⟩))
  go_wp2
  go_ret
  exact ⟨by rw [HE.out]; rfl, (bmore hS.2.2.2.2.out.2 _).drew⟩
theorem order_at (x y : Pr) (w : World) {r : Int} (h : ordL x y = r) :
    Calls Tryd.prog 56 #[.agg #[.string (mkB x.name), .int .i64 x.val], .agg #[.string (mkB y.name), .int .i64 y.val]] w fun e w' => e = .returned (.int .i64 r) ∧ Below w.heap.size w w' := by
  subst h; exact order_any x y w
end Go.Proofs.YtiflpjdiokloaaaDoor
