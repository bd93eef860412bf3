/-
  What the rows' list of package-level variables gives; the world of the witnesses.
-/
import Derived.Test.YtbgniplhlnipoaaDoorCards
import Derived.Test.YtbgniplhlnipoaaDoorTie
import Derived.Test.YtbgniplhlnipoaaDoorHead
import Derived.ProofKit
import Derived.OpenShut
import Derived.Deep.DeepHandedRow
namespace Go.Proofs.YtbgniplhlnipoaaDoor
open Go.ChangeShapes Go.WideShapes Go.ChangeAt Go.RowKit
open Go.ChangeMaps (open_string shut_string)
namespace Id1

theorem own : ownKnob Tryd.prog.godebug = none := by kernel_rfl
theorem gWts : Tryd.prog.globalNamed "postilion/ident.weights" = some 0 := by kernel_rfl
theorem gWtsT : (Tryd.prog.globals[0]?).map (·.type) = some 40 := by kernel_rfl
theorem cellsWts : Tryd.prog.cellsOf 40 = 8 := by kernel_rfl
theorem cellsInt : Tryd.prog.cellsOf 3 = 1 := by kernel_rfl
theorem gPow : Tryd.prog.globalNamed "internal/strconv.uint64pow10" = some 3 := by kernel_rfl
theorem gPowT : (Tryd.prog.globals[3]?).map (·.type) = some 110 := by kernel_rfl
theorem cellsPow : Tryd.prog.cellsOf 110 = 20 := by kernel_rfl
theorem cellsU64 : Tryd.prog.cellsOf 70 = 1 := by kernel_rfl

theorem laid_tail {P : Program} {W : World} {x : String × DataW Unit} {r : List (String × DataW Unit)} {ps : List MemPlace} (h : DataW.LaidVars P W (x :: r) ps) : ∃ q, DataW.LaidVars P W r q := by
  obtain ⟨g, t, cs, fuel, p, q, h1, h2, h3, h4, h5, h6⟩ := h
  exact ⟨q, h5⟩
theorem laid_tab {P : Program} {W : World} {name : String} {k : IntKind} {zs : List Int} {rest : List (String × DataW Unit)} {ps : List MemPlace} {g : Nat} {t e : TypeId} {n : Nat}
    (hg : P.globalNamed name = some g) (hty : (P.globals[g]?).map (·.type) = some t) (ht : P.underlying t = some (.array n e)) (he : P.underlying e = some (.int k)) (hce : P.cellsOf e = 1) (hct : P.cellsOf t = n)
    (h : DataW.LaidVars P W ((name, Lib.tabData k zs) :: rest) ps) : Lib.TabIs P W name k zs := by
  obtain ⟨g', t', cs, fuel, p, q, hg', ht', hvar, hd, _, _⟩ := h
  obtain rfl := Option.some.inj (hg.symm.trans hg')
  obtain rfl := Option.some.inj (hty.symm.trans ht')
  unfold Lib.TabIs
  rw [hvar, ← Lib.cells_of_tab ht he hce hct hd]

/-- THE TABLES, OUT OF A ROW's LIST. -/
theorem tabs_of_laid {W : World} (h : laidMetH Tryd.prog Rows.identAllRow.laid W) : Tabs W := by
  obtain ⟨ps, hL, -, -⟩ : laidMet Tryd.prog Rows.identAllRow.laid W := h
  obtain ⟨q1, h1⟩ := laid_tail hL
  obtain ⟨q2, h2⟩ := laid_tail h1
  have hp : Lib.TabIs Tryd.prog W "internal/strconv.uint64pow10" .u64 Lib.pow10Tab := laid_tab gPow gPowT Tryd.underlying110 Tryd.underlying70 cellsU64 cellsPow h2
  obtain ⟨q3, h3⟩ := laid_tail h2
  obtain ⟨q4, h4⟩ := laid_tail h3
  obtain ⟨q5, h5⟩ := laid_tail h4
  have hw : Lib.TabIs Tryd.prog W "postilion/ident.weights" .i64 [8, 6, 4, 2, 3, 5, 9, 7] := laid_tab gWts gWtsT Tryd.underlying40 Tryd.underlying3 cellsInt cellsWts h5
  have hc : ∀ i, i < 8 → W.cell? ⟨0, i, none⟩ = some (.int .i64 (wt i)) := fun i hi => hw.cell gWts i hi
  refine ⟨⟨hc, ?_⟩, hp⟩
  rcases Nat.lt_or_ge 0 W.heap.size with h' | h'
  · exact h'
  · have := hc 0 (by omega)
    simp [World.cell?, Array.getElem?_eq_none h'] at this

/-- A WORLD FOR THE WITNESS: the settled one, the listed variables holding what their initialisers lay. -/
noncomputable def low : Nat := (World.holding Tryd.prog default ⟨#[], #[], []⟩).heap.size
def layC (cs : Array Value) : Obj → Obj
  | .cells _ t frozen => .cells cs t frozen
  | o => o
noncomputable def laidWorld (os : Os) : World :=
  let w0 := World.holding Tryd.prog os ⟨#[.cells #[.string ⟨#[118, 97, 108, 117, 101, 32, 111, 117, 116, 32, 111, 102, 32, 114, 97, 110, 103, 101]⟩] 116, .cells #[.string ⟨#[105, 110, 118, 97, 108, 105, 100, 32, 115, 121, 110, 116, 97, 120]⟩] 116], #[], []⟩
  { w0 with heap := ((((((w0.heap.modify 0 (layC ([8, 6, 4, 2, 3, 5, 9, 7].map (Value.int .i64)).toArray)).modify 3 (layC (Lib.pow10Tab.map (Value.int .u64)).toArray)).modify
    2 (layC #[.iface 114 (.pointer (some ⟨low, 0, none⟩))])).modify 1 (layC #[.iface 114 (.pointer (some ⟨low + 1, 0, none⟩))])).modify
    5 (layC (([0, 1, 28, 2, 29, 14, 24, 3, 30, 22, 20, 15, 25, 17, 4, 8, 31, 27, 13, 23, 21, 19, 16, 7, 26, 12, 18, 6, 11, 5, 10, 9] : List Int).map (Value.int .u8)).toArray)).modify
    6 (layC (([0, 1, 56, 2, 57, 49, 28, 3, 61, 58, 42, 50, 38, 29, 17, 4, 62, 47, 59, 36, 45, 43, 51, 22, 53, 39, 33, 30, 24, 18, 12, 5, 63, 55, 48, 27, 60, 41, 37, 16, 46, 35, 44, 21, 52, 32, 23, 11, 54, 26, 40, 15, 34, 20, 31, 10, 25, 14, 19, 9, 13, 8, 7, 6] : List Int).map (Value.int .u8)).toArray)) }

end Id1
end Go.Proofs.YtbgniplhlnipoaaDoor
