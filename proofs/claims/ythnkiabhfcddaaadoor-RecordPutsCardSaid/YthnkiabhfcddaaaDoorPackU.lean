/-
  Texts of the proofs, put together: LaidOne, LaidCrc, LaidRec.
-/
import Derived.Test.YthnkiabhfcddaaaDoorTie
import Derived.Test.YthnkiabhfcddaaaDoorArgs
import Derived.LaidMore
import Derived.LaidHandle
import Derived.LaidSub
import Derived.Lib.LaidTab
import Derived.Lib.SmallJoins
import Derived.Stop.Joined
import Derived.Test.YthnkiabhfcddaaaDoorPackQ
import Derived.Test.YthnkiabhfcddaaaDoorPackT
/-
  Of no layer: one listed variable of a row alone.
-/
namespace Go.Proofs.YthnkiabhfcddaaaDoor
open Go.ChangeShapes Go.WideShapes Go.ChangeAt Go.RowKit Go.Joins
set_option linter.unusedVariables false

theorem laid_one {l : List (String × DataW Unit)} {W : World} (name : String) (d : DataW Unit) (h : laidMetH Tryd.prog l W) (he : l.filter (fun x => x.1 == name) = [(name, d)]) (hn : ([(name, d)].all fun x : String × DataW Unit => x.2.handleName?.isNone) = true) : laidMet Tryd.prog [(name, d)] W := by
  have k := h.filter (fun x => x.1 == name)
  rw [he] at k
  rwa [MakeChecks.laidMetH_plain _ _ _ hn] at k
end Go.Proofs.YthnkiabhfcddaaaDoor
/-
  What the rows' listed variable gives the walks: crc's table.
-/
namespace Go.Proofs.YthnkiabhfcddaaaDoor
open Go.ChangeShapes Go.WideShapes Go.ChangeAt Go.RowKit Go.Joins
set_option linter.unusedVariables false

theorem tTab : (Tryd.prog.globals[1]?).map (·.type) = some 141 := by kernel_rfl
theorem tabsOf_laid {l : List (String × DataW Unit)} {W : World} (hL : laidMetH Tryd.prog l W) (he : l.filter (fun x => x.1 == "lookout/crc.turns") = [("lookout/crc.turns", Lib.tabData .u32 crcTab)] := by rfl) : Tabs W :=
  Lib.tabBelow_of_tabIs (Lib.tabIs_of_head gTab tTab Tryd.underlying141 Tryd.underlying106 (by kernel_rfl) (by kernel_rfl) (laid_one _ _ hL he rfl))
end Go.Proofs.YthnkiabhfcddaaaDoor
/-
  What the rows' listed variables give the walks of layer 7: crc's table, record's table of kinds, the library's powers of ten.
-/
namespace Go.Proofs.YthnkiabhfcddaaaDoor
open Go.ChangeShapes Go.WideShapes Go.ChangeAt Go.RowKit Go.Joins
set_option linter.unusedVariables false

theorem gPows : Tryd.prog.globalNamed "internal/strconv.uint64pow10" = some 2 := by kernel_rfl
theorem tPows : (Tryd.prog.globals[2]?).map (·.type) = some 144 := by kernel_rfl
theorem powsOf_laid {l : List (String × DataW Unit)} {W : World} (hL : laidMetH Tryd.prog l W) (he : l.filter (fun x => x.1 == "internal/strconv.uint64pow10") = [("internal/strconv.uint64pow10", Lib.tabData .u64 Lib.pow10Tab)] := by rfl) : Pows W :=
  Lib.tabBelow_of_tabIs (Lib.tabIs_of_head gPows tPows Tryd.underlying144 Tryd.underlying22 (by kernel_rfl) (by kernel_rfl) (laid_one _ _ hL he rfl))

theorem gShaps : Tryd.prog.globalNamed "lookout/record.shapes" = some 0 := by kernel_rfl
theorem tShaps : (Tryd.prog.globals[0]?).map (·.type) = some 100 := by kernel_rfl
/-- A kind's row of the table, as data. -/
def shapD (k : Nat) : DataW Unit := .agg [.lit (.string (wordR k)), Lib.tabData .i64 [(padR k 0 : Nat), (padR k 1 : Nat), (padR k 2 : Nat), (padR k 3 : Nat)]]
theorem shaps_data : (Rows.laid_lookout_record_shapes : DataW Unit) = .agg ((List.range 16).map fun i => shapD (17 + i)) := by rfl
theorem shap_cells {w : World} {base : Nat} {spare : Nat → Bool} {held : Bool} {fuel : Nat} {cs : List Value} {k : Nat} {p : List MemPlace} (h : DataW.trod (fun _ => ()) Tryd.prog w base spare held fuel 52 cs = some (shapD k, p)) :
    cs = [.string (mkB (wordR k)), .int .i64 (padR k 0 : Nat), .int .i64 (padR k 1 : Nat), .int .i64 (padR k 2 : Nat), .int .i64 (padR k 3 : Nat)] := by
  obtain ⟨y0, y1, n, hx, hl, h0, h1⟩ := trod_struct2 Tryd.underlying52 h
  have c5 : Tryd.prog.cellsOf 52 = 5 := by kernel_rfl
  have cs1 : Tryd.prog.cellsOf 9 = 1 := by kernel_rfl
  have cf1 : Tryd.prog.cellsOf 49 = 1 := by kernel_rfl
  have cf4 : Tryd.prog.cellsOf 50 = 4 := by kernel_rfl
  dsimp only at h0 h1
  rw [cs1] at h0
  rw [cf4] at h1
  obtain ⟨s, e0, e1, _⟩ := DataW.trod_string Tryd.underlying9 h0
  unfold shapD at hx
  simp only [Prod.mk.injEq, DataW.agg.injEq, List.cons.injEq, and_true] at hx
  obtain ⟨⟨hx0, hx1⟩, _⟩ := hx
  obtain ⟨d1, p1⟩ := y1
  dsimp only at hx1
  subst hx1
  have h4 := Lib.cells_of_tab Tryd.underlying50 Tryd.underlying49 cf1 cf4 h1
  rw [e1] at hx0
  simp only [DataW.lit.injEq, Lit.string.injEq] at hx0
  have hs : s = mkB (wordR k) := by rw [hx0]; rfl
  subst hs
  rw [c5] at hl
  match cs, hl with
  | [a, b, c, d, e], _ =>
    simp at e0 h4
    simp [e0, h4]
theorem shapsOf_laid {l : List (String × DataW Unit)} {W : World} (hL : laidMetH Tryd.prog l W) (he : l.filter (fun x => x.1 == "lookout/record.shapes") = [("lookout/record.shapes", Rows.laid_lookout_record_shapes)] := by rfl) : Shaps W := by
  obtain ⟨ps, ⟨g0, t0, cs, f0, p0, q0, hg0, ht0, hv0, hd0, _, _⟩, _, _⟩ := laid_one _ _ hL he rfl
  obtain rfl := Option.some.inj (gShaps.symm.trans hg0)
  obtain rfl := Option.some.inj (tShaps.symm.trans ht0)
  rw [shaps_data] at hd0
  obtain ⟨xs, m, rfl, hx, hl, hn, hi⟩ := DataW.trod_array Tryd.underlying100 hd0
  have c5 : Tryd.prog.cellsOf 52 = 5 := by kernel_rfl
  have c80 : Tryd.prog.cellsOf 100 = 80 := by kernel_rfl
  rw [c80] at hl
  simp only [Prod.mk.injEq, DataW.agg.injEq] at hx
  have hlt : 0 < W.heap.size := by
    have h1 := World.var?_cell hg0 hv0 0
    have hsz : cs.size = 80 := by simpa using hl
    have h2 : cs[0]? ≠ none := by
      rw [Array.getElem?_eq_getElem (by omega)]
      exact fun e => by cases e
    rcases Nat.lt_or_ge 0 W.heap.size with h | h
    · exact h
    · exfalso
      rw [← h1] at h2
      simp [World.cell?, Array.getElem?_eq_none h] at h2
  refine ⟨hlt, fun k hk => ?_⟩
  have hj : k - 17 < 16 := by omega
  have hj2 := hi (k - 17) hj
  rw [c5] at hj2
  have hxj : xs[k - 17]? = some (shapD k, (xs[k - 17]'(by omega)).2) := by
    have h1 : (xs.map (·.1))[k - 17]? = some (shapD k) := by
      have e : 17 + (k - 17) = k := by omega
      rw [← hx.1, List.getElem?_map, List.getElem?_range hj, Option.map_some, e]
    rw [List.getElem?_eq_getElem (by omega)]
    rw [List.getElem?_map, List.getElem?_eq_getElem (by omega)] at h1
    simp only [Option.map_some, Option.some.injEq] at h1
    rw [← h1]
  rw [hxj] at hj2
  have hc := shap_cells hj2
  have at_ : ∀ o v, o < 5 → ((cs.toList.drop ((k - 17) * 5)).take 5)[o]? = some v → W.cell? ⟨0, (k - 17) * 5 + o, none⟩ = some v := fun o v ho hv => by
    rw [List.getElem?_take, if_pos ho, List.getElem?_drop] at hv
    rw [World.var?_cell hg0 hv0]
    simpa using hv
  rw [hc] at at_
  exact ⟨at_ 0 _ (by omega) rfl, at_ 1 _ (by omega) rfl, at_ 2 _ (by omega) rfl, at_ 3 _ (by omega) rfl, at_ 4 _ (by omega) rfl⟩
theorem tbR_of_laid {l : List (String × DataW Unit)} {W : World} (hL : laidMetH Tryd.prog l W) (h1 : l.filter (fun x => x.1 == "lookout/crc.turns") = [("lookout/crc.turns", Lib.tabData .u32 crcTab)] := by rfl) (h2 : l.filter (fun x => x.1 == "lookout/record.shapes") = [("lookout/record.shapes", Rows.laid_lookout_record_shapes)] := by rfl) (h3 : l.filter (fun x => x.1 == "internal/strconv.uint64pow10") = [("internal/strconv.uint64pow10", Lib.tabData .u64 Lib.pow10Tab)] := by rfl) : TbR W :=
  ⟨tabsOf_laid hL h1, shapsOf_laid hL h2, powsOf_laid hL h3⟩
end Go.Proofs.YthnkiabhfcddaaaDoor
