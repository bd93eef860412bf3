/-
  Contract of the document's Make: all kinds.
-/
import Derived.Test.YtaeljmiklalpnaaGreatDoorM1
import Derived.Test.YtaeljmiklalpnaaGreatDoorM2
import Derived.Test.YtaeljmiklalpnaaGreatDoorM3
import Derived.Test.YtaeljmiklalpnaaGreatDoorM4
import Derived.Test.YtaeljmiklalpnaaGreatDoorM5
import Derived.Test.YtaeljmiklalpnaaGreatDoorM6
import Derived.Test.YtaeljmiklalpnaaGreatDoorM8
import Derived.Test.YtaeljmiklalpnaaGreatDoorMn
namespace Go.Proofs.YtaeljmiklalpnaaGreatDoor
open Go.RowKit Go.ChangeMaps Gn
namespace Rg

theorem rmake_any (l : List St) (vs : List Value) (v : Value) (c : Ch) (w : World) (hl : IsSts w v l vs) (hln : l.length ≤ 900) (hinv : Inv l) (hal : ∀ s ∈ l, s.al.length ≤ 900) (hf : FmC c) (CL : ClashOk) :
    Calls Tryz.prog 45 #[v, chA c] w (MPost l c w) := by
  obtain ⟨day, kind, street, code, town, name, low, high, shift⟩ := c
  by_cases k1 : kind = 1
  · subst k1; exact rmake_1 l vs v day street code town name low high shift w hl hln hinv hal hf CL
  by_cases h0 : street < 0
  · exact rmake_no_neg l vs v day street kind code town name low high shift w hl hln hinv hal hf k1 h0
  by_cases h1 : (l.length : Int) ≤ street
  · exact rmake_no_big l vs v day street kind code town name low high shift w hl hln hinv hal hf k1 ⟨by omega, h1⟩
  obtain ⟨k, rfl⟩ : ∃ k : Nat, street = (k : Int) := ⟨street.toNat, by omega⟩
  obtain ⟨s, hs⟩ : ∃ s, l[k]? = some s := ⟨_, List.getElem?_eq_getElem (by omega)⟩
  by_cases ho : s.isOpen = true
  · have hk := hf.kind
    by_cases k2 : kind = 2
    · subst k2; exact rmake_2 l vs v day k code town name low high shift w hl hln hinv hal hf CL s hs ho
    by_cases k3 : kind = 3
    · subst k3; exact rmake_3 l vs v day k code town name low high shift w hl hln hinv hal hf CL s hs ho
    by_cases k4 : kind = 4
    · subst k4
      by_cases f1 : shift < -9999
      · exact rmake_4_neg l vs v day k code town name low high shift w hl hln hinv hal hf s hs ho f1
      by_cases f2 : 9999 < shift
      · exact rmake_4_big l vs v day k code town name low high shift w hl hln hinv hal hf s hs ho f2
      exact rmake_4 l vs v day k code town name low high shift w hl hln hinv hal hf CL s hs ho (by omega) (by omega)
    by_cases k5 : kind = 5
    · subst k5; exact rmake_5 l vs v day k code town name low high shift w hl hln hinv hal hf CL s hs ho
    by_cases k6 : kind = 6
    · subst k6; exact rmake_6 l vs v day k code town name low high shift w hl hln hinv hal hf CL s hs ho
    exact absurd hk (by show ¬ (1 ≤ kind ∧ kind ≤ 6); omega)
  · exact rmake_no_shut l vs v day kind k code town name low high shift w hl hln hinv hal hf s hs (by simpa using ho) k1

end Rg
end Go.Proofs.YtaeljmiklalpnaaGreatDoor
