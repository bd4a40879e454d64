/-
  Texts of the proofs, put together: RefAll7, RecSeq.
-/
import Derived.Test.YthnkiabhfcddaaaDoorPackK
import Derived.Test.YthnkiabhfcddaaaDoorPackN
import Derived.Test.YthnkiabhfcddaaaDoorFrItems
/-
  Contract of layer 7's reference: All.
-/
namespace Go.Proofs.YthnkiabhfcddaaaDoor
open Go.RowKit
set_option linter.unusedVariables false

/-- Records as cells. -/
def recc (r : Rec) : List Value := [.int .u8 (r.kind : Int), .int .i64 r.src, .int .u64 (r.seq : Int), .int .i64 r.at_, .int .i64 r.num, .int .i64 r.code, .bool r.yes, .string (mkB r.text)]
def recC (l : List Rec) : List Value := l.flatMap recc
theorem recC_length (l : List Rec) : (recC l).length = l.length * 8 := by
  induction l with
  | nil => rfl
  | cons x l ih => simp only [recC, List.flatMap_cons, List.length_append, List.length_cons] at ih ⊢; rw [ih]; simp [recc]; omega
theorem recC_append (a b : List Rec) : recC (a ++ b) = recC a ++ recC b := by simp [recC]
theorem recc_one (r : Rec) : ∀ y ∈ recc r, y.oneCell' = true := by
  intro y hy
  simp [recc] at hy
  rcases hy with rfl | rfl | rfl | rfl | rfl | rfl | rfl | rfl <;> rfl
/-- A slice of records. -/
def SeqR (w : World) (B : Nat) (v : Value) (l : List Rec) : Prop := Seq w B 8 v l.length (recC l)
def OwnsR (t : TypeId) (w : World) (base : Nat) (v : Value) (l : List Rec) : Prop := w.ownsRow base t 8 v l.length (recC l)
theorem info_X7 : (Tryd.prog.info? 26).map (fun i => (i.zero, i.size, i.bytes)) = some (some (.agg #[.int .u8 0, .int .i64 0, .int .u64 0, .int .i64 0, .int .i64 0, .int .i64 0, .bool false, .string ByteArray.empty]), 8, 72) := by kernel_rfl
theorem OwnsR.push {ty : TypeId} {w w1 : World} {base : Nat} {v v' : Value} {l : List Rec} {r : Rec} {cs : Array Value} {t : TypeId} (hb : base ≤ w.heap.size) (hg : Grew (w.alloc (.cells cs t)) base ty 8 v v' (l.length + 1) (recC l ++ recc r) w1) : OwnsR ty w1 base v' (l ++ [r]) ∧ Below base w w1 := by
  obtain ⟨g1, _, _, g4⟩ := hg
  refine ⟨?_, ((Below.refl _ _).alloc hb _).trans g4⟩
  unfold OwnsR
  rw [recC_append, List.length_append, show recC [r] = recc r from List.append_nil _]
  exact g1
/-- What All leaves. -/
def AllDid7 (rs : List Rec) (x : Int) (w : World) (e : Ending) (w' : World) : Prop := ∃ A c, e = .returned (.tuple #[.slice A rs.length c, .int .i64 x]) ∧ SeqR w' w'.heap.size (.slice A rs.length c) rs ∧ Below w.heap.size w w'
theorem item_at7 {w : World} {B n c b off : Nat} {l : List It} (h : SeqI w B (.slice (some ⟨b, off, none⟩) n c) l) (i : Nat) (hi : i < l.length) :
    b < B ∧ w.cell? ⟨b, off + i * 3, none⟩ = some (.int .i64 (l[i].skip : Int)) ∧ w.cell? ⟨b, off + i * 3 + 1, none⟩ = some (.int .u8 (l[i].kind.toNat : Int)) ∧ w.cell? ⟨b, off + i * 3 + 2, none⟩ = some (.string (mkB l[i].body)) := by
  have q : (itC l)[i * 3]? = some (.int .i64 (l[i].skip : Int)) ∧ (itC l)[i * 3 + 1]? = some (.int .u8 (l[i].kind.toNat : Int)) ∧ (itC l)[i * 3 + 2]? = some (.string (mkB l[i].body)) := by
    clear h
    induction l generalizing i with
    | nil => exact absurd hi (Nat.not_lt_zero _)
    | cons x l ih =>
      have ec : itC (x :: l) = itc x ++ itC l := by simp [itC]
      cases i with
      | zero => rw [ec]; exact ⟨rfl, rfl, rfl⟩
      | succ i =>
        have hi2 : i < l.length := by simpa using hi
        have h3 : (itc x).length = 3 := rfl
        rw [ec, List.getElem?_append_right (by omega), List.getElem?_append_right (by omega), List.getElem?_append_right (by omega), h3]
        rw [show (i + 1) * 3 - 3 = i * 3 by omega, show (i + 1) * 3 + 1 - 3 = i * 3 + 1 by omega, show (i + 1) * 3 + 2 - 3 = i * 3 + 2 by omega]
        exact ih i hi2
  obtain ⟨q0, q1, q2⟩ := q
  rcases h.2 with ⟨e, _⟩ | ⟨b', off', c', e, _, hb, hc⟩
  · cases e
  · simp only [Value.slice.injEq, Option.some.injEq, Addr.mk.injEq] at e
    obtain ⟨⟨rfl, rfl, _⟩, rfl, rfl⟩ := e
    exact ⟨hb, hc _ _ q0, hc _ _ q1, hc _ _ q2⟩
theorem item_some7 {w : World} {B n c : Nat} {A : Option Addr} {l : List It} (h : SeqI w B (.slice A n c) l) (hl : 0 < l.length) : n = l.length ∧ n ≤ c ∧ ∃ b off, A = some ⟨b, off, none⟩ := by
  rcases h.2 with ⟨_, e⟩ | ⟨b, off, c', e, hn, _⟩
  · omega
  · simp only [Value.slice.injEq] at e
    obtain ⟨rfl, rfl, rfl⟩ := e
    exact ⟨rfl, hn, b, off, rfl⟩
theorem item_n7 {w : World} {B n c : Nat} {A : Option Addr} {l : List It} (h : SeqI w B (.slice A n c) l) : n = l.length := by
  rcases h.2 with ⟨e1, e⟩ | ⟨b, off, c', e, hn, _⟩
  · simp only [Value.slice.injEq] at e1
    omega
  · simp only [Value.slice.injEq] at e
    exact e.2.1
theorem sum_mem7 {x : It} : ∀ {l : List It}, x ∈ l → wtI x ≤ sumI l
  | y :: l, h => by
    simp only [sumI]
    rcases List.mem_cons.1 h with rfl | h
    · omega
    · have := sum_mem7 h; omega
theorem item_len7 (b : List UInt8) (x : It) (h : x ∈ allI b) (hs : ¬ 0 < x.skip) : x.body.length ≤ b.length := by
  have h1 := sum_mem7 h
  rw [all_sum] at h1
  unfold wtI at h1
  rw [if_neg hs] at h1
  omega
theorem rgive_zero7 (b : List UInt8) (w : World) (hl : b.length ≤ 100000) :
    Calls Tryd.prog 48 #[.agg #[.string ⟨#[]⟩, .int .i64 0, .slice none 0 0, .bool false], .string (mkB b)] w (DDid (giveS newS b) (.slice none 0 0) w) :=
  rgive_any newS none 0 0 b w ⟨by show 0 + b.length ≤ 100000; omega, by show 0 ≤ 100000; omega, by show 0 ≤ 100000; omega⟩ ⟨rfl, .inl ⟨rfl, rfl⟩⟩ _ rfl
theorem box_drew7 (w : World) (o : Obj) (w1 : World) (hb : Below (w.alloc o).drew.heap.size (w.alloc o).drew w1) : w1.heap[w.heap.size]? = some o := (one_block (w := w) (o1 := o) (bstep (bself (w.alloc o)).drew hb)).1
/-- Where the loop stands: the decoder's box, its items. -/
structure AllAt7 (W wr : World) (g : Nat) (v : Value) (L : List It) : Prop where
  hg : g < wr.heap.size
  hb : wr.cell? ⟨g, 2, none⟩ = some v
  hv : SeqI wr wr.heap.size v L
  hW : Below W.heap.size W wr
/-- What the round's drawn region reads. -/
abbrev AllS (wr : World) (g bb off n c1 j xk : Nat) (xb : List UInt8) (w' : World) : Prop :=
  w'.cell? ⟨g, 2, none⟩ = some (.slice (some ⟨bb, off, none⟩) n c1) ∧ w'.cell? ⟨bb, off + j * 3 + 1, none⟩ = some (.int .u8 (xk : Int)) ∧ w'.cell? ⟨bb, off + j * 3 + 2, none⟩ = some (.string (mkB xb)) ∧ Hid (g < wr.heap.size ∧ bb < wr.heap.size ∧ Below wr.heap.size wr w')
section
variable {wr : World} {g bb off n c1 j xk : Nat} {xb : List UInt8} {w1 w2 : World}
theorem allS_old (h : AllS wr g bb off n c1 j xk xb w1) (hb : Below wr.heap.size w1 w2) : AllS wr g bb off n c1 j xk xb w2 := by
  obtain ⟨h0, h1, h2, h9⟩ := h
  have hg := h9.out.1
  have hbb := h9.out.2.1
  exact ⟨(hb.cell (p := ⟨g, 2, none⟩) hg).trans h0, (hb.cell (p := ⟨bb, off + j * 3 + 1, none⟩) hbb).trans h1, (hb.cell (p := ⟨bb, off + j * 3 + 2, none⟩) hbb).trans h2, Lib.hid ⟨hg, hbb, h9.out.2.2.trans hb⟩⟩
theorem AllS.hid (h : AllS wr g bb off n c1 j xk xb w1) : Below wr.heap.size wr w1 := h.2.2.2.out.2.2
theorem allS_over (h : AllS wr g bb off n c1 j xk xb w1) (hb : Below w1.heap.size w1 w2) : AllS wr g bb off n c1 j xk xb w2 := allS_old h (hb.mono h.hid.size)
theorem allS_drew (h : AllS wr g bb off n c1 j xk xb w1) : AllS wr g bb off n c1 j xk xb w1.drew := allS_over h (bself w1).drew
theorem allS_alloc (h : AllS wr g bb off n c1 j xk xb w1) (o : Obj) : AllS wr g bb off n c1 j xk xb (w1.alloc o) := allS_over h (bmore (bself w1) o)
theorem allS_set8 {z : Nat} {v0 v1 v2 v3 v4 v5 v6 v7 : Value} (hz : wr.heap.size ≤ z) (h : AllS wr g bb off n c1 j xk xb w1) : AllS wr g bb off n c1 j xk xb ((((((((w1.setCell ⟨z, 0, none⟩ v0).setCell ⟨z, 1, none⟩ v1).setCell ⟨z, 2, none⟩ v2).setCell ⟨z, 3, none⟩ v3).setCell ⟨z, 4, none⟩ v4).setCell ⟨z, 5, none⟩ v5).setCell ⟨z, 6, none⟩ v6).setCell ⟨z, 7, none⟩ v7) :=
  allS_old h (((((((((Below.refl _ _).setCell hz _).setCell hz _).setCell hz _).setCell hz _).setCell hz _).setCell hz _).setCell hz _).setCell hz _)
end
set_option maxRecDepth 100000 in
set_option maxHeartbeats 4000000 in
theorem rall7_any (b : List UInt8) (w : World) (hl : b.length ≤ 100000) {rs : List Rec} {ex : Int} (hx : allR (allI b) [] = (rs, ex)) :
    Calls Tryd.prog 20 #[.string (mkB b)] w (AllDid7 rs ex w) := by
  have HGI := Lib.hid (fun w => rgive_zero7 b w hl)
  have hsm := giveAll_small [b]
  have hen := end_all [b]
  have hal := all_len b
  have e1 : giveAll [b] = giveS newS b := rfl
  have e2 : lenB [b] = b.length := by simp [lenB]
  have e3 : [b].flatten = b := by simp
  rw [e1, e2] at hsm
  rw [e1, e3] at hen
  obtain ⟨d1, hd1⟩ : ∃ d1, giveS newS b = d1 := ⟨_, rfl⟩
  rw [hd1] at hsm hen HGI
  obtain ⟨d2, hd2⟩ : ∃ d2, endS d1 = d2 := ⟨_, rfl⟩
  rw [hd2] at hen
  have HEN := Lib.hid (fun A n c w hv => rdend_any d1 A n c w ⟨by omega, by omega, by omega⟩ hv d2 hd2)
  obtain ⟨L, hL⟩ : ∃ L, d2.items = L := ⟨_, rfl⟩
  have HX : Hid (allR L [] = (rs, ex)) := Lib.hid (by rw [← hL, hen]; exact hx)
  have HBL : Hid (∀ x ∈ L, ¬ 0 < x.skip → x.body.length ≤ 100000) := Lib.hid (by
    intro x hxm hsk
    rw [← hL, hen] at hxm
    have h1 := item_len7 b x hxm hsk
    omega)
  have hLn : L.length ≤ 100000 := by rw [← hL, hen]; omega
  have HLL := Lib.hid hL
  clear hx hsm hen hal e1 e2 e3 hd1 hd2 hl hL
  go_enter Tryd.func20, Tryd.ntmps20
  go_upto_region 2 with (first
    | (go_at_call 48; (with_reducible refine (HGI.out _).mono ?_); rintro e w1 ⟨A1, n1, c1, rfl, hs, -, hb⟩; have HS1 := Lib.hid hs; have HB1 := Lib.hid hb; clear hs hb)
    | (go_at_call 47; (with_reducible refine (HEN.out _ _ _ _ HS1.out).mono ?_); rintro e w2 ⟨A2, n2, c2, rfl, hs, -, hb⟩; have HS2 := Lib.hid hs; have HB2 := Lib.hid (bstep HB1.out hb); clear hs hb))
  obtain ⟨g, hg⟩ : ∃ g, g = w2.heap.size := ⟨_, rfl⟩
  have HA : Hid (AllAt7 w (w2.alloc (.cells #[.string (mkB d2.wait), .int .i64 (d2.skip : Int), .slice A2 n2 c2, .bool d2.over] 95)) g (.slice A2 n2 c2) L) := Lib.hid ⟨by rw [hg]; simp, by rw [hg]; exact heap_cell (heap_alloc_new w2 _) 2, by rw [← HLL.out]; exact HS2.out.over (Nat.le_refl _) (bmore (bself w2) _), bmore HB2.out _⟩
  rw [← hg]
  generalize w2.alloc (Obj.cells #[Value.string (mkB d2.wait), Value.int IntKind.i64 (d2.skip : Int), Value.slice A2 n2 c2, Value.bool d2.over] 95) = wb at HA ⊢
  have hn2 := item_n7 HA.out.hv
  have HN := Lib.hid hn2
  have hn9 : (n2 : Int) ≤ 100000 := by omega
  clear hg hLn hn2 HS1 HB1 HS2 HB2 HGI HEN
  go_wp2
  go_loopw [5, 6] (fun o i wr => ∃ (j : Nat), j ≤ n2 ∧ i = .int .i64 j ∧ Hid (∃ done, allR (L.drop j) done = (rs, ex) ∧ done.length = j ∧ OwnsR 26 wr wb.heap.size o done ∧ Below wb.heap.size wb wr)) (fun _ i _ => n2 - (intOf i).toNat)
  case atStart => exact ⟨0, Nat.zero_le _, rfl, Lib.hid ⟨[], HX.out, rfl, World.ownsRow_nil wb _ _ 8, bself wb⟩⟩
  case round =>
    obtain ⟨j, hj, rfl, HP⟩ := hrel
    obtain ⟨done, p1, p2, p3, p4⟩ := HP.out
    have HJ := Lib.hid p1
    have HO := Lib.hid p3
    have HB := Lib.hid p4
    have HDL := Lib.hid p2
    obtain ⟨A3, n3, c3, rfl⟩ := own_slice p3
    have s0 := (HB.out.cell (p := ⟨g, 2, none⟩) HA.out.hg).trans HA.out.hb
    clear HP p1 p2 p3 p4
    by_cases hlt : j < n2
    · skip
      have hjl : j < L.length := by have := HN.out; omega
      have hlt2 : (j : Int) < (n2 : Int) := by omega
      obtain ⟨-, -, bb, off, rfl⟩ := item_some7 HA.out.hv (by omega)
      obtain ⟨hbb, k0, k1, k2⟩ := item_at7 HA.out.hv j hjl
      have i0 := (HB.out.cell (p := ⟨bb, off + j * 3, none⟩) hbb).trans k0
      have i1 := (HB.out.cell (p := ⟨bb, off + j * 3 + 1, none⟩) hbb).trans k1
      have i2 := (HB.out.cell (p := ⟨bb, off + j * 3 + 2, none⟩) hbb).trans k2
      clear k0 k1 k2
      have hz := HJ.out
      rw [List.drop_eq_getElem_cons hjl, allR] at hz
      have HBX := Lib.hid (HBL.out L[j] (List.getElem_mem hjl))
      generalize L[j] = x at i0 i1 i2 hz HBX
      obtain ⟨sk, kk, xb⟩ := x
      dsimp only at i0 i1 i2 hz HBX
      by_cases hsk : 0 < sk
      · have hsk2 : (0 : Int) < (sk : Int) := by omega
        rw [if_pos hsk] at hz
        simp only [Prod.mk.injEq] at hz
        obtain ⟨rfl, rfl⟩ := hz
        clear hsk
        go_wp2
        go_ret2
        exact ⟨none, 0, rfl, ⟨rfl, .inl ⟨rfl, rfl⟩⟩, bstep HA.out.hW HB.out⟩
      · have hsk2 : ¬ (0 : Int) < (sk : Int) := by omega
        rw [if_neg hsk] at hz
        have hbl := HBX.out hsk
        obtain ⟨xk, hxk⟩ : ∃ xk, kk.toNat = xk := ⟨_, rfl⟩
        rw [hxk] at hz i1
        rcases ht : takeR xk xb with ⟨r, et⟩
        rw [ht] at hz
        dsimp only at hz
        have HTA := Lib.hid (fun w => rtake7_any xk xb w hbl ht)
        clear hsk hxk ht hbl
        go_upto_region 8 with (fail)
        clear i0 hsk2
        have hS : AllS wr g bb off n2 c2 j xk xb wr := ⟨s0, i1, i2, Lib.hid ⟨Nat.lt_of_lt_of_le HA.out.hg HB.out.size, Nat.lt_of_lt_of_le hbb HB.out.size, bself wr⟩⟩
        have hSS := hS
        unfold AllS at hSS
        have HZ := Lib.hid hz
        have HJL := Lib.hid hjl
        clear hz hjl hlt s0 i1 i2 hbb hS
        refine wp_region_held_drew (S := fun w' => w'.cell? ⟨g, 2, none⟩ = some (.slice (some ⟨bb, off, none⟩) n2 c2) ∧ w'.cell? ⟨bb, off + j * 3 + 1, none⟩ = some (.int .u8 (xk : Int)) ∧ w'.cell? ⟨bb, off + j * 3 + 2, none⟩ = some (.string (mkB xb)) ∧ Hid (g < wr.heap.size ∧ bb < wr.heap.size ∧ Below wr.heap.size wr w')) (by kernel_rfl) ?_ (fun hHeld => ?_)
        · (try dsimp only)
          (first | (with_reducible assumption) | (with_reducible exact allS_drew (by assumption)) | (with_reducible exact allS_alloc (by assumption) _) | (with_reducible exact allS_drew (allS_alloc (by assumption) _)) | (with_reducible exact allS_set8 (Nat.le_refl _) hs1))
        refine wpAnyH_take (i := 0) (v := ?_) rfl (by kernel_rfl) (by kernel_rfl) (by kernel_rfl) (fun _ _ _ h => h) (Or.inl ⟨by rfl, ?_⟩) (by assumption) ?_
        rotate_left
        · intro w hSw
          (try dsimp only at hSw)
          go_simp
          try with_reducible rfl
        (try simp only [Act.put, List.getElem_toArray, List.getElem_cons_zero, List.setIfInBounds_toArray, List.set_cons_zero, List.set_cons_succ])
        refine wpAnyH_take (i := 1) (v := ?_) rfl (by kernel_rfl) (by kernel_rfl) (by kernel_rfl) (fun _ _ _ h => h) (Or.inl ⟨by rfl, ?_⟩) (by assumption) ?_
        rotate_left
        · intro w hSw
          (try dsimp only at hSw)
          go_simp
          try with_reducible rfl
        (try simp only [Act.put, List.getElem_toArray, List.getElem_cons_succ, List.getElem_cons_zero, List.setIfInBounds_toArray, List.set_cons_zero, List.set_cons_succ])
        refine wpAnyH_take (i := 2) (v := ?_) rfl (by kernel_rfl) (by kernel_rfl) (by kernel_rfl) (fun _ _ _ h => h) (Or.inl ⟨by rfl, ?_⟩) (by assumption) ?_
        rotate_left
        · intro w hSw
          (try dsimp only at hSw)
          go_simp
          try with_reducible rfl
        (try simp only [Act.put, List.getElem_toArray, List.getElem_cons_succ, List.getElem_cons_zero, List.setIfInBounds_toArray, List.set_cons_zero, List.set_cons_succ])
        refine wpAnyH_take (i := 3) (v := ?_) rfl (by kernel_rfl) (by kernel_rfl) (by kernel_rfl) (fun _ _ _ h => h) (Or.inl ⟨by rfl, ?_⟩) (by assumption) ?_
        rotate_left
        · intro w hSw
          (try dsimp only at hSw)
          go_simp
          try with_reducible rfl
        (try simp only [Act.put, List.getElem_toArray, List.getElem_cons_succ, List.getElem_cons_zero, List.setIfInBounds_toArray, List.set_cons_zero, List.set_cons_succ])
        refine wpAnyH_take (i := 4) (v := ?_) rfl (by kernel_rfl) (by kernel_rfl) (by kernel_rfl) (fun _ _ _ h => h) (Or.inl ⟨by rfl, ?_⟩) (by assumption) ?_
        rotate_left
        · intro w hSw
          (try dsimp only at hSw)
          go_simp
          try with_reducible rfl
        (try simp only [Act.put, List.getElem_toArray, List.getElem_cons_succ, List.getElem_cons_zero, List.setIfInBounds_toArray, List.set_cons_zero, List.set_cons_succ])
        refine wpAnyH_take (i := 5) (v := ?_) rfl (by kernel_rfl) (by kernel_rfl) (by kernel_rfl) (fun _ _ _ h => h) (Or.inl ⟨by rfl, ?_⟩) (by assumption) ?_
        rotate_left
        · intro w hSw
          (try dsimp only at hSw)
          go_simp
          try with_reducible rfl
        (try simp only [Act.put, List.getElem_toArray, List.getElem_cons_succ, List.getElem_cons_zero, List.setIfInBounds_toArray, List.set_cons_zero, List.set_cons_succ])
        refine wpAnyH_take (i := 6) (v := ?_) rfl (by kernel_rfl) (by kernel_rfl) (by kernel_rfl) (fun _ _ _ h => h) (Or.inl ⟨by rfl, ?_⟩) (by assumption) ?_
        rotate_left
        · intro w hSw
          (try dsimp only at hSw)
          go_simp
          try with_reducible rfl
        (try simp only [Act.put, List.getElem_toArray, List.getElem_cons_succ, List.getElem_cons_zero, List.setIfInBounds_toArray, List.set_cons_zero, List.set_cons_succ])
        refine wpAnyH_take (i := 7) (v := ?_) rfl (by kernel_rfl) (by kernel_rfl) (by kernel_rfl) (fun _ _ _ h => h) (Or.inl ⟨by rfl, ?_⟩) (by assumption) ?_
        rotate_left
        · intro w hSw
          (try dsimp only at hSw)
          go_simp
          try with_reducible rfl
        (try simp only [Act.put, List.getElem_toArray, List.getElem_cons_succ, List.getElem_cons_zero, List.setIfInBounds_toArray, List.set_cons_zero, List.set_cons_succ])
        refine wpAnyH_take (i := 8) (v := ?_) rfl (by kernel_rfl) (by kernel_rfl) (by kernel_rfl) (fun _ _ _ h => h) (Or.inl ⟨by rfl, ?_⟩) (by assumption) ?_
        rotate_left
        · intro w hSw
          (try dsimp only at hSw)
          go_simp
          try with_reducible rfl
        (try simp only [Act.put, List.getElem_toArray, List.getElem_cons_succ, List.getElem_cons_zero, List.setIfInBounds_toArray, List.set_cons_zero, List.set_cons_succ])
        refine wpAnyH_take (i := 9) (v := ?_) rfl (by kernel_rfl) (by kernel_rfl) (by kernel_rfl) (fun _ _ _ h => h) (Or.inl ⟨by rfl, ?_⟩) (by assumption) ?_
        rotate_left
        · intro w hSw
          (try dsimp only at hSw)
          go_simp
          try with_reducible rfl
        (try simp only [Act.put, List.getElem_toArray, List.getElem_cons_succ, List.getElem_cons_zero, List.setIfInBounds_toArray, List.set_cons_zero, List.set_cons_succ])
        refine wpAnyH_take (i := 10) (v := ?_) rfl (by kernel_rfl) (by kernel_rfl) (by kernel_rfl) (fun _ _ _ h => h) (Or.inl ⟨by rfl, ?_⟩) (by assumption) ?_
        rotate_left
        · intro w hSw
          (try dsimp only at hSw)
          go_simp
          try with_reducible rfl
        (try simp only [Act.put, List.getElem_toArray, List.getElem_cons_succ, List.getElem_cons_zero, List.setIfInBounds_toArray, List.set_cons_zero, List.set_cons_succ])
        refine wpAnyH_take (i := 11) (v := ?_) rfl (by kernel_rfl) (by kernel_rfl) (by kernel_rfl) (fun _ _ _ h => h) (Or.inl ⟨by rfl, ?_⟩) (by assumption) ?_
        rotate_left
        · intro w hSw
          (try dsimp only at hSw)
          go_simp
          try with_reducible rfl
        (try simp only [Act.put, List.getElem_toArray, List.getElem_cons_succ, List.getElem_cons_zero, List.setIfInBounds_toArray, List.set_cons_zero, List.set_cons_succ])
        refine wpAnyH_ready (rs := [12, 16]) (by kernel_rfl) (by simp) ?_
        refine AllReadyH.cons rfl (fun K hK => ?_) (AllReadyH.cons rfl (fun K hK => ?_) AllReadyH.nil)
        · go_simp
          (go_at_call 18; ((with_reducible refine (HTA.out _).mono ?_); rintro e w6 ⟨rfl, hb⟩; have hs1 := allS_over (by assumption) hb; have HB6 := Lib.hid (AllS.hid hs1); first | ((with_reducible have hx := box_drew7 wr (Obj.cells #[Value.int IntKind.u8 0, Value.int IntKind.i64 0, Value.int IntKind.u64 0, Value.int IntKind.i64 0, Value.int IntKind.i64 0, Value.int IntKind.i64 0, Value.bool false, Value.string { data := #[] }] 26) w6 hb); have HX6 := Lib.hid hx; obtain ⟨m0, m1, m2, m3, m4, m5, m6, m7⟩ := noRec_cells HX6.out; obtain ⟨f0, f1, f2, f3, f4, f5, f6, f7⟩ := recFz_blk (r := noRec) HX6.out) | skip))
          go_wp2_with fail
          refine hK.out _ _ ?_ (fun hHeld => ?_)
          · (try dsimp only)
            (first | (with_reducible assumption) | (with_reducible exact allS_drew (by assumption)) | (with_reducible exact allS_alloc (by assumption) _) | (with_reducible exact allS_drew (allS_alloc (by assumption) _)) | (with_reducible exact allS_set8 (Nat.le_refl _) hs1))
          clear hK K
          (try simp only [Act.put, List.getElem_toArray, List.getElem_cons_succ, List.getElem_cons_zero, List.setIfInBounds_toArray, List.set_cons_zero, List.set_cons_succ])
          refine wpAnyH_take (i := 13) (v := ?_) rfl (by kernel_rfl) (by kernel_rfl) (by kernel_rfl) (fun _ _ _ h => h) (Or.inl ⟨by rfl, ?_⟩) (by assumption) ?_
          rotate_left
          · intro w hSw
            (try dsimp only at hSw)
            go_simp
            try with_reducible rfl
          (try simp only [Act.put, List.getElem_toArray, List.getElem_cons_succ, List.getElem_cons_zero, List.setIfInBounds_toArray, List.set_cons_zero, List.set_cons_succ])
          refine wpAnyH_take (i := 14) (v := ?_) rfl (by kernel_rfl) (by kernel_rfl) (by kernel_rfl) (fun _ _ _ h => h) (Or.inl ⟨by rfl, ?_⟩) (by assumption) ?_
          rotate_left
          · intro w hSw
            (try dsimp only at hSw)
            go_simp
            try with_reducible rfl
          (try simp only [Act.put, List.getElem_toArray, List.getElem_cons_succ, List.getElem_cons_zero, List.setIfInBounds_toArray, List.set_cons_zero, List.set_cons_succ])
          refine wpAnyH_take (i := 15) (v := ?_) rfl (by kernel_rfl) (by kernel_rfl) (by kernel_rfl) (fun _ _ _ h => h) (Or.inl ⟨by rfl, ?_⟩) (by assumption) ?_
          rotate_left
          · intro w hSw
            (try dsimp only at hSw)
            go_simp
            try with_reducible rfl
          (try simp only [Act.put, List.getElem_toArray, List.getElem_cons_succ, List.getElem_cons_zero, List.setIfInBounds_toArray, List.set_cons_zero, List.set_cons_succ])
          refine wpAnyH_ready (rs := [16]) (by kernel_rfl) (by simp) ?_
          refine AllReadyH.cons rfl (fun K hK => ?_) AllReadyH.nil
          go_simp
          refine hK.out _ _ ?_ (fun hHeld => ?_)
          · (try dsimp only)
            (first | (with_reducible assumption) | (with_reducible exact allS_drew (by assumption)) | (with_reducible exact allS_alloc (by assumption) _) | (with_reducible exact allS_drew (allS_alloc (by assumption) _)) | (with_reducible exact allS_set8 (Nat.le_refl _) hs1))
          clear hK K
          (try simp only [Act.put, List.getElem_toArray, List.getElem_cons_succ, List.getElem_cons_zero, List.setIfInBounds_toArray, List.set_cons_zero, List.set_cons_succ])
          refine wpAnyH_ready (rs := [17]) (by kernel_rfl) (by simp) ?_
          refine AllReadyH.cons rfl (fun K hK => ?_) AllReadyH.nil
          go_simp
          refine hK.out _ _ ?_ (fun hHeld => ?_)
          · (try dsimp only)
            (first | (with_reducible assumption) | (with_reducible exact allS_drew (by assumption)) | (with_reducible exact allS_alloc (by assumption) _) | (with_reducible exact allS_drew (allS_alloc (by assumption) _)) | (with_reducible exact allS_set8 (Nat.le_refl _) hs1))
          clear hK K
          (try simp only [Act.put, List.getElem_toArray, List.getElem_cons_succ, List.getElem_cons_zero, List.setIfInBounds_toArray, List.set_cons_zero, List.set_cons_succ])
          refine wpAnyH_take (i := 18) (v := ?_) rfl (by kernel_rfl) (by kernel_rfl) (by kernel_rfl) (fun _ _ _ h => h) (Or.inl ⟨by rfl, ?_⟩) (by assumption) ?_
          rotate_left
          · intro w hSw
            (try dsimp only at hSw)
            go_simp
            try with_reducible rfl
          (try simp only [Act.put, List.getElem_toArray, List.getElem_cons_succ, List.getElem_cons_zero, List.setIfInBounds_toArray, List.set_cons_zero, List.set_cons_succ])
          refine wpAnyH_done (by kernel_rfl) ?_ _
          generalize hE : w6.alloc (Obj.cells #[Value.int IntKind.u8 (r.kind : Int), Value.int IntKind.i64 r.src, Value.int IntKind.u64 (r.seq : Int), Value.int IntKind.i64 r.at_, Value.int IntKind.i64 r.num, Value.int IntKind.i64 r.code, Value.bool r.yes, Value.string (mkB r.text)] 26) = w7
          obtain ⟨z, hz⟩ : ∃ z, z = w6.heap.size := ⟨_, rfl⟩
          have HQ : Hid (w7.heap[z]? = some (recB r 26) ∧ Below wr.heap.size wr w7) := Lib.hid ⟨by rw [hz, ← hE]; exact heap_alloc_new w6 _, by rw [← hE]; exact HB6.out.alloc HB6.out.size _⟩
          rw [← hz]
          clear hE hz
          have HB7 := Lib.hid (HB.out.trans (HQ.out.2.mono HB.out.size))
          have HO7 : Hid (OwnsR 26 w7 wb.heap.size (.slice A3 n3 c3) done) := Lib.hid (ownsRow_over HO.out HQ.out.2)
          clear hs1 HB6 hSS HTA HO
          by_cases het : et = 0
          · have het1 : (et != 0) = false := by rw [het]; rfl
            have hz2 := HZ.out
            rw [if_pos het] at hz2
            have HJ2 := Lib.hid hz2
            clear HZ hz2 het
            obtain ⟨m0, m1, m2, m3, m4, m5, m6, m7⟩ := recAt_blk HQ.out.1
            go_wp2_with (at_builtin; refine wp_app_seq rfl (.tmp 46) (.tmp 48) 43 26 _ 8 72 Tryd.underlying43 info_X7 rfl (by omega) rfl wb.heap.size (.slice A3 n3 c3) _ done.length 1 (recC done) [.int .u8 (r.kind : Int), .int .i64 r.src, .int .u64 (r.seq : Int), .int .i64 r.at_, .int .i64 r.num, .int .i64 r.code, .bool r.yes, .string (mkB r.text)] rfl rfl (ownsRow_over HO7.out (bmore (bself w7) _)) (Seq.lit_ w7 [.int .u8 (r.kind : Int), .int .i64 r.src, .int .u64 (r.seq : Int), .int .i64 r.at_, .int .i64 r.num, .int .i64 r.code, .bool r.yes, .string (mkB r.text)] _) (recc_one r) (by have := HDL.out; omega) (Nat.le_trans HB7.out.size (by simp)) ?_; intro v9 w9 hg; obtain ⟨A9, n9, c9, rfl⟩ := own_slice hg.1; have HG := Lib.hid (OwnsR.push (r := r) HB7.out.size hg); clear hg)
            go_roundw
            case rel => exact ⟨j + 1, by omega, by go_num, Lib.hid ⟨done ++ [r], HJ2.out, by simp [HDL.out], HG.out.1, HB7.out.trans HG.out.2⟩⟩
            case measure => simp [intOf]; omega
          · have het1 : (et != 0) = true := by simp [het]
            have hz2 := HZ.out
            rw [if_neg het] at hz2
            simp only [Prod.mk.injEq] at hz2
            obtain ⟨rfl, rfl⟩ := hz2
            clear HZ het
            go_wp2
            go_ret2
            exact ⟨none, 0, rfl, ⟨rfl, .inl ⟨rfl, rfl⟩⟩, bstep HA.out.hW HB7.out⟩
        · go_simp
          refine hK.out _ _ ?_ (fun hHeld => ?_)
          · (try dsimp only)
            (first | (with_reducible assumption) | (with_reducible exact allS_drew (by assumption)) | (with_reducible exact allS_alloc (by assumption) _) | (with_reducible exact allS_drew (allS_alloc (by assumption) _)) | (with_reducible exact allS_set8 (Nat.le_refl _) hs1))
          clear hK K
          (try simp only [Act.put, List.getElem_toArray, List.getElem_cons_succ, List.getElem_cons_zero, List.setIfInBounds_toArray, List.set_cons_zero, List.set_cons_succ])
          refine wpAnyH_ready (rs := [12]) (by kernel_rfl) (by simp) ?_
          refine AllReadyH.cons rfl (fun K hK => ?_) AllReadyH.nil
          go_simp
          (go_at_call 18; ((with_reducible refine (HTA.out _).mono ?_); rintro e w6 ⟨rfl, hb⟩; have hs1 := allS_over (by assumption) hb; have HB6 := Lib.hid (AllS.hid hs1); first | ((with_reducible have hx := box_drew7 wr (Obj.cells #[Value.int IntKind.u8 0, Value.int IntKind.i64 0, Value.int IntKind.u64 0, Value.int IntKind.i64 0, Value.int IntKind.i64 0, Value.int IntKind.i64 0, Value.bool false, Value.string { data := #[] }] 26) w6 hb); have HX6 := Lib.hid hx; obtain ⟨m0, m1, m2, m3, m4, m5, m6, m7⟩ := noRec_cells HX6.out; obtain ⟨f0, f1, f2, f3, f4, f5, f6, f7⟩ := recFz_blk (r := noRec) HX6.out) | skip))
          go_wp2_with fail
          refine hK.out _ _ ?_ (fun hHeld => ?_)
          · (try dsimp only)
            (first | (with_reducible assumption) | (with_reducible exact allS_drew (by assumption)) | (with_reducible exact allS_alloc (by assumption) _) | (with_reducible exact allS_drew (allS_alloc (by assumption) _)) | (with_reducible exact allS_set8 (Nat.le_refl _) hs1))
          clear hK K
          (try simp only [Act.put, List.getElem_toArray, List.getElem_cons_succ, List.getElem_cons_zero, List.setIfInBounds_toArray, List.set_cons_zero, List.set_cons_succ])
          refine wpAnyH_take (i := 13) (v := ?_) rfl (by kernel_rfl) (by kernel_rfl) (by kernel_rfl) (fun _ _ _ h => h) (Or.inl ⟨by rfl, ?_⟩) (by assumption) ?_
          rotate_left
          · intro w hSw
            (try dsimp only at hSw)
            go_simp
            try with_reducible rfl
          (try simp only [Act.put, List.getElem_toArray, List.getElem_cons_succ, List.getElem_cons_zero, List.setIfInBounds_toArray, List.set_cons_zero, List.set_cons_succ])
          refine wpAnyH_take (i := 14) (v := ?_) rfl (by kernel_rfl) (by kernel_rfl) (by kernel_rfl) (fun _ _ _ h => h) (Or.inl ⟨by rfl, ?_⟩) (by assumption) ?_
          rotate_left
          · intro w hSw
            (try dsimp only at hSw)
            go_simp
            try with_reducible rfl
          (try simp only [Act.put, List.getElem_toArray, List.getElem_cons_succ, List.getElem_cons_zero, List.setIfInBounds_toArray, List.set_cons_zero, List.set_cons_succ])
          refine wpAnyH_take (i := 15) (v := ?_) rfl (by kernel_rfl) (by kernel_rfl) (by kernel_rfl) (fun _ _ _ h => h) (Or.inl ⟨by rfl, ?_⟩) (by assumption) ?_
          rotate_left
          · intro w hSw
            (try dsimp only at hSw)
            go_simp
            try with_reducible rfl
          (try simp only [Act.put, List.getElem_toArray, List.getElem_cons_succ, List.getElem_cons_zero, List.setIfInBounds_toArray, List.set_cons_zero, List.set_cons_succ])
          refine wpAnyH_ready (rs := [17]) (by kernel_rfl) (by simp) ?_
          refine AllReadyH.cons rfl (fun K hK => ?_) AllReadyH.nil
          go_simp
          refine hK.out _ _ ?_ (fun hHeld => ?_)
          · (try dsimp only)
            (first | (with_reducible assumption) | (with_reducible exact allS_drew (by assumption)) | (with_reducible exact allS_alloc (by assumption) _) | (with_reducible exact allS_drew (allS_alloc (by assumption) _)) | (with_reducible exact allS_set8 (Nat.le_refl _) hs1))
          clear hK K
          (try simp only [Act.put, List.getElem_toArray, List.getElem_cons_succ, List.getElem_cons_zero, List.setIfInBounds_toArray, List.set_cons_zero, List.set_cons_succ])
          refine wpAnyH_take (i := 18) (v := ?_) rfl (by kernel_rfl) (by kernel_rfl) (by kernel_rfl) (fun _ _ _ h => h) (Or.inl ⟨by rfl, ?_⟩) (by assumption) ?_
          rotate_left
          · intro w hSw
            (try dsimp only at hSw)
            go_simp
            try with_reducible rfl
          (try simp only [Act.put, List.getElem_toArray, List.getElem_cons_succ, List.getElem_cons_zero, List.setIfInBounds_toArray, List.set_cons_zero, List.set_cons_succ])
          refine wpAnyH_done (by kernel_rfl) ?_ _
          generalize hE : ((((((((w6.setCell { block := wr.heap.size, off := 0 } (Value.int IntKind.u8 (r.kind : Int))).setCell { block := wr.heap.size, off := 1 } (Value.int IntKind.i64 r.src)).setCell { block := wr.heap.size, off := 2 } (Value.int IntKind.u64 (r.seq : Int))).setCell { block := wr.heap.size, off := 3 } (Value.int IntKind.i64 r.at_)).setCell { block := wr.heap.size, off := 4 } (Value.int IntKind.i64 r.num)).setCell { block := wr.heap.size, off := 5 } (Value.int IntKind.i64 r.code)).setCell { block := wr.heap.size, off := 6 } (Value.bool r.yes)).setCell { block := wr.heap.size, off := 7 } (Value.string (mkB r.text))) = w7
          obtain ⟨z, hz⟩ : ∃ z, z = wr.heap.size := ⟨_, rfl⟩
          have HQ : Hid (w7.heap[z]? = some (recB r 26) ∧ Below wr.heap.size wr w7) := Lib.hid ⟨by rw [hz, ← hE]; exact setRec_heap (r := noRec) (x := r) HX6.out, by rw [← hE]; exact setRec_below HB6.out (Nat.le_refl _) r⟩
          rw [← hz]
          clear hE hz m0 m1 m2 m3 m4 m5 m6 m7 f0 f1 f2 f3 f4 f5 f6 f7 HX6
          have HB7 := Lib.hid (HB.out.trans (HQ.out.2.mono HB.out.size))
          have HO7 : Hid (OwnsR 26 w7 wb.heap.size (.slice A3 n3 c3) done) := Lib.hid (ownsRow_over HO.out HQ.out.2)
          clear hs1 HB6 hSS HTA HO
          by_cases het : et = 0
          · have het1 : (et != 0) = false := by rw [het]; rfl
            have hz2 := HZ.out
            rw [if_pos het] at hz2
            have HJ2 := Lib.hid hz2
            clear HZ hz2 het
            obtain ⟨m0, m1, m2, m3, m4, m5, m6, m7⟩ := recAt_blk HQ.out.1
            go_wp2_with (at_builtin; refine wp_app_seq rfl (.tmp 46) (.tmp 48) 43 26 _ 8 72 Tryd.underlying43 info_X7 rfl (by omega) rfl wb.heap.size (.slice A3 n3 c3) _ done.length 1 (recC done) [.int .u8 (r.kind : Int), .int .i64 r.src, .int .u64 (r.seq : Int), .int .i64 r.at_, .int .i64 r.num, .int .i64 r.code, .bool r.yes, .string (mkB r.text)] rfl rfl (ownsRow_over HO7.out (bmore (bself w7) _)) (Seq.lit_ w7 [.int .u8 (r.kind : Int), .int .i64 r.src, .int .u64 (r.seq : Int), .int .i64 r.at_, .int .i64 r.num, .int .i64 r.code, .bool r.yes, .string (mkB r.text)] _) (recc_one r) (by have := HDL.out; omega) (Nat.le_trans HB7.out.size (by simp)) ?_; intro v9 w9 hg; obtain ⟨A9, n9, c9, rfl⟩ := own_slice hg.1; have HG := Lib.hid (OwnsR.push (r := r) HB7.out.size hg); clear hg)
            go_roundw
            case rel => exact ⟨j + 1, by omega, by go_num, Lib.hid ⟨done ++ [r], HJ2.out, by simp [HDL.out], HG.out.1, HB7.out.trans HG.out.2⟩⟩
            case measure => simp [intOf]; omega
          · have het1 : (et != 0) = true := by simp [het]
            have hz2 := HZ.out
            rw [if_neg het] at hz2
            simp only [Prod.mk.injEq] at hz2
            obtain ⟨rfl, rfl⟩ := hz2
            clear HZ het
            go_wp2
            go_ret2
            exact ⟨none, 0, rfl, ⟨rfl, .inl ⟨rfl, rfl⟩⟩, bstep HA.out.hW HB7.out⟩
    · skip
      have hlt2 : ¬ (j : Int) < (n2 : Int) := by omega
      have hz := HJ.out
      rw [List.drop_eq_nil_of_le (by have := HN.out; omega), allR] at hz
      simp only [Prod.mk.injEq] at hz
      obtain ⟨rfl, rfl⟩ := hz
      go_wp2
      go_ret2
      have hsr := Seq.own HO.out
      obtain ⟨A, c, e⟩ : ∃ A c, Value.slice A3 n3 c3 = .slice A done.length c := by
        obtain ⟨A, c, e, _⟩ := hsr.open_
        exact ⟨A, c, e⟩
      rw [e] at hsr ⊢
      exact ⟨A, c, rfl, hsr, bstep HA.out.hW HB.out⟩
end Go.Proofs.YthnkiabhfcddaaaDoor
/-
  Layer 7: slices of records.
-/
namespace Go.Proofs.YthnkiabhfcddaaaDoor
open Go.RowKit
set_option linter.unusedVariables false

theorem recC_at (l : List Rec) (i : Nat) (hi : i < l.length) (k : Nat) (hk : k < 8) : (recC l)[i * 8 + k]? = (recc l[i])[k]? := by
  induction l generalizing i with
  | nil => exact absurd hi (Nat.not_lt_zero _)
  | cons x l ih =>
    have ec : recC (x :: l) = recc x ++ recC l := by simp [recC]
    have h8 : (recc x).length = 8 := rfl
    cases i with
    | zero => rw [ec, Nat.zero_mul, Nat.zero_add, List.getElem?_append_left (by omega)]; rfl
    | succ i =>
      rw [ec, List.getElem?_append_right (by omega), h8, show (i + 1) * 8 + k - 8 = i * 8 + k by omega]
      exact ih i (by simpa using hi)
/-- One of a slice of records. -/
theorem SeqR.at_ {w : World} {B n c : Nat} {A : Option Addr} {l : List Rec} (h : SeqR w B (.slice A n c) l) (i : Nat) (hi : i < l.length) : n = l.length ∧ ∃ b off, A = some ⟨b, off, none⟩ ∧ b < B ∧ RecAt w b (off + i * 8) l[i] := by
  rcases h.2 with ⟨_, e⟩ | ⟨b, off, c', e, _, hb, hc⟩
  · omega
  · simp only [Value.slice.injEq] at e
    obtain ⟨rfl, rfl, rfl⟩ := e
    have q : ∀ k u, k < 8 → (recc l[i])[k]? = some u → w.cell? ⟨b, off + (i * 8 + k), none⟩ = some u := fun k u hk hu => hc _ _ (by rw [recC_at l i hi k hk]; exact hu)
    refine ⟨rfl, b, off, rfl, hb, ⟨q 0 _ (by omega) rfl, ?_, ?_, ?_, ?_, ?_, ?_, ?_⟩⟩
    · rw [Nat.add_assoc]; exact q 1 _ (by omega) rfl
    · rw [Nat.add_assoc]; exact q 2 _ (by omega) rfl
    · rw [Nat.add_assoc]; exact q 3 _ (by omega) rfl
    · rw [Nat.add_assoc]; exact q 4 _ (by omega) rfl
    · rw [Nat.add_assoc]; exact q 5 _ (by omega) rfl
    · rw [Nat.add_assoc]; exact q 6 _ (by omega) rfl
    · rw [Nat.add_assoc]; exact q 7 _ (by omega) rfl
theorem SeqR.over {w w' : World} {B : Nat} {v : Value} {l : List Rec} (h : SeqR w B v l) (hB : B ≤ w.heap.size) (hb : Below w.heap.size w w') : SeqR w' w'.heap.size v l := Seq.over h hB hb
/-- A slice of records that may be empty and point wherever. -/
def RecsIn (w : World) (v : Value) (rs : List Rec) : Prop :=
  ∃ A c, v = .slice A rs.length c ∧ ∀ i (h : i < rs.length), ∃ b off, A = some ⟨b, off, none⟩ ∧ b < w.heap.size ∧ RecAt w b (off + i * 8) rs[i]
theorem RecsIn.over {w w' : World} {v : Value} {rs : List Rec} (h : RecsIn w v rs) (_ : w.heap.size ≤ w.heap.size) (hb : Below w.heap.size w w') : RecsIn w' v rs := by
  obtain ⟨A, c, e, hx⟩ := h
  refine ⟨A, c, e, fun i hi => ?_⟩
  obtain ⟨b, off, e1, h1, h2⟩ := hx i hi
  exact ⟨b, off, e1, Nat.lt_of_lt_of_le h1 hb.size, h2.over h1 hb⟩
theorem RecsIn.at_ {w : World} {n c : Nat} {A : Option Addr} {l : List Rec} (h : RecsIn w (.slice A n c) l) (i : Nat) (hi : i < l.length) : n = l.length ∧ ∃ b off, A = some ⟨b, off, none⟩ ∧ b < w.heap.size ∧ RecAt w b (off + i * 8) l[i] := by
  obtain ⟨A', c', e, hx⟩ := h
  simp only [Value.slice.injEq] at e
  obtain ⟨rfl, rfl, rfl⟩ := e
  exact ⟨rfl, hx i hi⟩
end Go.Proofs.YthnkiabhfcddaaaDoor
