/-
  A region that draws its order and whose callees make memory: one walk, in the class of the worlds that lie behind a given one.
-/
import Derived.Test.YtbgniplhlnipoaaDoorMrd
import Derived.BigQuiet
namespace Go.Proofs.YtbgniplhlnipoaaDoor
open Go.RowKit
namespace Id1

/-- A world behind wM: what lay there is as it was. -/
structure Near (wM : World) where
  w : World
  below : Below wM.heap.size wM w

instance (wM : World) : Nonempty (Near wM) := ⟨⟨wM, Below.refl _ _⟩⟩

theorem wp_region_near {P : Program} {id : Nat} {Q : Exit → Act → World → Prop} {a : Act} {w : World} {l : List Oper} {wM : World} (hm : P.follows .mixedOrders = true) (hB : Region.lexB .any l.toArray = true)
    (h0 : Below wM.heap.size wM w)
    (h : wpQuiet P l.toArray (fun w' => ∃ u : Near wM, w' = u.w) (fun a' => ∀ w', (∃ u : Near wM, w' = u.w) → Q .normal a' w') l a) : (Code.region id l.toArray true).wp P Q a w :=
  wp_region_quiet (C := fun w' => ∃ u : Near wM, w' = u.w) hm hB ⟨⟨_, h0.drew⟩, rfl⟩ (by simpa using h)

end Id1
end Go.Proofs.YtbgniplhlnipoaaDoor
