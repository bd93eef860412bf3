/-
  Contract of the document's formed.
-/
import Derived.Test.YtaeljmiklalpnaaGreatDoorR2
import Derived.Test.YtaeljmiklalpnaaGreatDoorFv
namespace Go.Proofs.YtaeljmiklalpnaaGreatDoor
open Go.RowKit Go.ChangeMaps Gn
namespace Rg

def FormPost (c : Ch) (w : World) (e : Ending) (w' : World) : Prop := ∃ b, e = .returned (.bool b) ∧ (b = true → FmC c) ∧ Below w.heap.size w w'

end Rg
end Go.Proofs.YtaeljmiklalpnaaGreatDoor
