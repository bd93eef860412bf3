/-
  Contract of the document's formed: all kinds.
-/
import Derived.Test.YtaeljmiklalpnaaGreatDoorRf
import Derived.Test.YtaeljmiklalpnaaGreatDoorRg
import Derived.Test.YtaeljmiklalpnaaGreatDoorRh
namespace Go.Proofs.YtaeljmiklalpnaaGreatDoor
open Go.RowKit Go.ChangeMaps Gn
namespace Rg

theorem rformed_any (c : Ch) (w : World) (hc : c.code.length ≤ 100000) (ht : c.town.length ≤ 100000) (hn : c.name.length ≤ 100000) :
    Calls Tryz.prog 44 #[chA c] w (FormPost c w) := by
  obtain ⟨day, kind, street, code, town, name, low, high, shift⟩ := c
  by_cases k1 : kind = 1
  · subst k1; exact rformed_1 day street code town name low high shift w hc ht hn
  by_cases k2 : kind = 2
  · subst k2; exact rformed_2 day street code town name low high shift w hc ht hn
  by_cases k3 : kind = 3
  · subst k3; exact rformed_3 day street code town name low high shift w hc ht hn
  by_cases k4 : kind = 4
  · subst k4; exact rformed_4 day street code town name low high shift w hc ht hn
  by_cases k5 : kind = 5
  · subst k5; exact rformed_5 day street code town name low high shift w hc ht hn
  by_cases k6 : kind = 6
  · subst k6; exact rformed_6 day street code town name low high shift w hc ht hn
  exact rformed_other day kind street code town name low high shift w hc ht hn ⟨k1, k2, k3, k5⟩ (by omega)

end Rg
end Go.Proofs.YtaeljmiklalpnaaGreatDoor
