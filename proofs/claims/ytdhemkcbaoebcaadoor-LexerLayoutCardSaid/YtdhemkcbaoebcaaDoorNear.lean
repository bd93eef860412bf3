/-
  A region that draws its order and whose callees make memory: one walk, in the class of the worlds that lie behind a given one.
-/
import Derived.Test.YtdhemkcbaoebcaaDoorR2
import Derived.Test.YtdhemkcbaoebcaaDoorHead
import Derived.BigQuiet
namespace Go.Proofs.YtdhemkcbaoebcaaDoor
open Go.RowKit
namespace Lx

/-- A world behind wM: what lay there is as it was. -/
structure Near (wM : World) where
  w : World
  below : Below wM.heap.size wM w

instance (wM : World) : Nonempty (Near wM) := ⟨⟨wM, Below.refl _ _⟩⟩

theorem wp_region_near {P : Program} {id : Nat} {Q : Exit → Act → World → Prop} {a : Act} {w : World} {l : List Oper} {wM : World} (hm : P.follows .mixedOrders = true) (hB : Region.lexB .any l.toArray = true)
    (h0 : Below wM.heap.size wM w)
    (h : wpQuiet P l.toArray (fun w' => ∃ u : Near wM, w' = u.w) (fun a' => ∀ w', (∃ u : Near wM, w' = u.w) → Q .normal a' w') l a) : (Code.region id l.toArray true).wp P Q a w :=
  wp_region_quiet (C := fun w' => ∃ u : Near wM, w' = u.w) hm hB ⟨⟨_, h0.drew⟩, rfl⟩ (by simpa using h)

/-- A contract at every world of the class. -/
theorem near_calls {P : Program} {f : FuncId} {args : Array Value} {wM : World} {v : Value} (u : Near wM) (h : Calls P f args u.w fun e w' => e = .returned v ∧ Below u.w.heap.size u.w w') :
    Calls P f args u.w fun e w' => e = .returned v ∧ ∃ u' : Near wM, w' = u'.w :=
  h.mono fun _ w' ⟨he, hb⟩ => ⟨he, ⟨w', u.below.trans (hb.mono u.below.size)⟩, rfl⟩

end Lx
end Go.Proofs.YtdhemkcbaoebcaaDoor
