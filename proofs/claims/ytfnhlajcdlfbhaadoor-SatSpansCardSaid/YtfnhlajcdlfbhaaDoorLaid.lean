/-
  What the rows' listed variables give the walks: the package's variable 'none' of sat; the library's table of powers of ten.
-/
import Derived.Test.YtfnhlajcdlfbhaaDoorTie
import Derived.Test.YtfnhlajcdlfbhaaDoorArgs
import Derived.Test.YtfnhlajcdlfbhaaDoorSpan
import Derived.Test.YtfnhlajcdlfbhaaDoorSpanText
import Derived.LaidMore
import Derived.LaidHandle
import Derived.LaidSub
import Derived.Lib.LaidTab
import Derived.Lib.SmallJoins
import Derived.Stop.Joined
namespace Go.Proofs.YtfnhlajcdlfbhaaDoor
open Go.ChangeShapes Go.WideShapes Go.ChangeAt Go.RowKit Go.Joins
set_option linter.unusedVariables false

theorem gNone : Tryd.prog.globalNamed "lookout/sat.none" = some 0 := by kernel_rfl
theorem tNone : (Tryd.prog.globals[0]?).map (·.type) = some 31 := by kernel_rfl
theorem gPows : Tryd.prog.globalNamed "internal/strconv.uint64pow10" = some 1 := by kernel_rfl
theorem tPows : (Tryd.prog.globals[1]?).map (·.type) = some 62 := by kernel_rfl

/-- One listed variable alone. -/
theorem laid_one {l : List (String × DataW Unit)} {W : World} (name : String) (d : DataW Unit) (h : laidMetH Tryd.prog l W) (he : l.filter (fun x => x.1 == name) = [(name, d)]) (hn : ([(name, d)].all fun x : String × DataW Unit => x.2.handleName?.isNone) = true) : laidMet Tryd.prog [(name, d)] W := by
  have k := h.filter (fun x => x.1 == name)
  rw [he] at k
  rwa [MakeChecks.laidMetH_plain _ _ _ hn] at k

theorem noneIs_of {W : World} (h : laidMet Tryd.prog [("lookout/sat.none", Rows.laid_lookout_sat_none)] W) : NoneIs W := by
  obtain ⟨ps, ⟨g0, t0, cs, f0, p0, q0, hg0, ht0, hv0, hd0, _, _⟩, _, _⟩ := h
  obtain rfl := Option.some.inj (gNone.symm.trans hg0)
  obtain rfl := Option.some.inj (tNone.symm.trans ht0)
  obtain ⟨y0, y1, n, hx, hl, h0, h1⟩ := trod_struct2 Tryd.underlying31 hd0
  have hc2 : Tryd.prog.cellsOf 31 = 2 := by kernel_rfl
  obtain ⟨c0, c1, rfl⟩ := array2 (show cs.size = 2 by rw [hc2] at hl; simpa using hl)
  have c64 : Tryd.prog.cellsOf 2 = 1 := by kernel_rfl
  obtain ⟨k0, e0, d0, _⟩ := DataW.trod_int Tryd.underlying2 h0
  obtain ⟨k1, e1, d1, _⟩ := DataW.trod_int Tryd.underlying2 h1
  simp only [Prod.mk.injEq, Rows.laid_lookout_sat_none, DataW.agg.injEq, List.cons.injEq, and_true, d0, d1, DataW.lit.injEq, Lit.int.injEq, true_and] at hx
  obtain ⟨⟨rfl, rfl⟩, _⟩ := hx
  dsimp only at e0 e1
  rw [c64] at e0 e1
  simp at e0 e1
  subst e0; subst e1
  have k0 := World.var?_cell hg0 hv0 0
  have k1 := World.var?_cell hg0 hv0 1
  exact ⟨by simpa using k0, by simpa using k1⟩
theorem noneIs_of_laid {l : List (String × DataW Unit)} {W : World} (hL : laidMetH Tryd.prog l W) (he : l.filter (fun x => x.1 == "lookout/sat.none") = [("lookout/sat.none", Rows.laid_lookout_sat_none)] := by rfl) : NoneIs W :=
  noneIs_of (laid_one _ _ hL he rfl)
theorem powsOf_laid {l : List (String × DataW Unit)} {W : World} (hL : laidMetH Tryd.prog l W) (he : l.filter (fun x => x.1 == "internal/strconv.uint64pow10") = [("internal/strconv.uint64pow10", Lib.tabData .u64 Lib.pow10Tab)] := by rfl) : Pows W :=
  Lib.tabBelow_of_tabIs (Lib.tabIs_of_head gPows tPows Tryd.underlying62 Tryd.underlying52 (by kernel_rfl) (by kernel_rfl) (laid_one _ _ hL he rfl))
end Go.Proofs.YtfnhlajcdlfbhaaDoor
