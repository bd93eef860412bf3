/-
  What the rows' list of package-level variables gives; the world of the witnesses.
-/
import Derived.Test.YtdhemkcbaoebcaaDoorCards
import Derived.Test.YtdhemkcbaoebcaaDoorTie
import Derived.Test.YtdhemkcbaoebcaaDoorHead
import Derived.ProofKit
import Derived.OpenShut
import Derived.Deep.DeepHandedRow
import Derived.Lib.LaidTab
import Derived.Carry
namespace Go.Proofs.YtdhemkcbaoebcaaDoor
open Go.ChangeShapes Go.WideShapes Go.ChangeAt Go.RowKit
open Go.ChangeMaps (open_string shut_string)
namespace Lx

theorem own : ownKnob Tryd.prog.godebug = none := by kernel_rfl
theorem laidOut : laidOutB Tryd.prog = true := by kernel_rfl
theorem gSym : Tryd.prog.globalNamed "postilion/lexer.symbols" = some 0 := by kernel_rfl
theorem gSymT : (Tryd.prog.globals[0]?).map (·.type) = some 54 := by kernel_rfl
theorem cellsSym : Tryd.prog.cellsOf 54 = 13 := by kernel_rfl
theorem cellsStr : Tryd.prog.cellsOf 9 = 1 := by kernel_rfl
theorem cellsByte : Tryd.prog.cellsOf 5 = 1 := by kernel_rfl

/-- An array of texts, as a row lists it, holds just these texts. -/
theorem cells_of_strs {H : Type} {enc : TypeId × Value → H} {P : Program} {w : World} {base : Nat} {sp : Nat → Bool} {held : Bool} {fuel : Nat} {t e : TypeId} {n : Nat} {cs : List Value} {zs : List (List UInt8)} {p : List MemPlace}
    (ht : P.underlying t = some (.array n e)) (he : P.underlying e = some .string) (hce : P.cellsOf e = 1) (hct : P.cellsOf t = n)
    (h : DataW.trod enc P w base sp held fuel t cs = some (.agg (zs.map fun z => .lit (.string z)), p)) : cs = zs.map fun z => Value.string ⟨z.toArray⟩ := by
  cases fuel with
  | zero => simp [DataW.trod] at h
  | succ fuel =>
    simp only [DataW.trod, ht, hce, hct, Nat.mul_one] at h
    split at h
    · rename_i hl
      obtain ⟨xs, hm, hx⟩ := Option.map_eq_some_iff.1 h
      have hxs : xs.map (·.1) = zs.map fun z => (DataW.lit (.string z) : DataW H) := by
        have := congrArg Prod.fst hx
        simpa using this
      have hxl : xs.length = n := by simpa using Lib.mapM_length hm
      have hzl : zs.length = n := by
        have := congrArg List.length hxs
        simp at this
        omega
      apply List.ext_getElem?
      intro i
      by_cases hi : i < n
      · obtain ⟨b, hb, hf⟩ := Lib.mapM_at hm i i (by simp [hi])
        obtain ⟨z, hc, hbz, _⟩ := DataW.trod_string he hf
        have h1 : cs[i]? = some (.string z) := by
          have := congrArg (·[0]?) hc
          simpa [List.getElem?_take, List.getElem?_drop] using this
        have h2 : (xs.map (·.1))[i]? = some (DataW.lit (.string z.data.toList) : DataW H) := by simp [hb, hbz]
        rw [hxs] at h2
        simp only [List.getElem?_map, Option.map_eq_some_iff, DataW.lit.injEq, Lit.string.injEq] at h2
        obtain ⟨z', hz', e'⟩ := h2
        rw [h1, List.getElem?_map, hz']
        simp only [Option.map_some, Option.some.injEq, Value.string.injEq]
        exact ba_of e'.symm
      · rw [List.getElem?_eq_none (by omega), List.getElem?_eq_none (by simp; omega)]
    · cases h

/-- THE ARRAY OF SYMBOLS, OUT OF A ROW's LIST. -/
theorem syms_of_laid {W : World} (h : laidMetH Tryd.prog Rows.lexerCoverRow.laid W) : Syms W := by
  obtain ⟨ps, hL, -, -⟩ : laidMet Tryd.prog Rows.lexerCoverRow.laid W := h
  obtain ⟨g', t', cs, fuel, p, q, hg', ht', hvar, hd, _, _⟩ := hL
  obtain rfl := Option.some.inj (gSym.symm.trans hg')
  obtain rfl := Option.some.inj (gSymT.symm.trans ht')
  have hcs := cells_of_strs (zs := syms) Tryd.underlying54 Tryd.underlying9 cellsStr cellsSym hd
  have hc : ∀ i, W.cell? ⟨0, i, none⟩ = cs[i]? := fun i => World.var?_cell gSym hvar i
  have ha : ∀ i, cs[i]? = (syms.map fun z => Value.string ⟨z.toArray⟩)[i]? := fun i => by rw [← hcs, Array.getElem?_toList]
  have hlt : 0 < W.heap.size := by
    rcases Nat.lt_or_ge 0 W.heap.size with h' | h'
    · exact h'
    · exfalso
      have := hc 0
      rw [ha] at this
      simp [World.cell?, Array.getElem?_eq_none h', syms] at this
  constructor <;> first | exact hlt | (rw [hc, ha]; rfl)

/-- A WORLD FOR THE WITNESS: the settled one, the listed variable holding what its initialiser lays. -/
def layC (cs : Array Value) : Obj → Obj
  | .cells _ t frozen => .cells cs t frozen
  | o => o
noncomputable def laidWorld (os : Os) : World :=
  let w0 := World.holding Tryd.prog os ⟨#[], #[], []⟩
  { w0 with heap := w0.heap.modify 0 (layC (syms.map fun z => Value.string ⟨z.toArray⟩).toArray) }

end Lx
end Go.Proofs.YtdhemkcbaoebcaaDoor
