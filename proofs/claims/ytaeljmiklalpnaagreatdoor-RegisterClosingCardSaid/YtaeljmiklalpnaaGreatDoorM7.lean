/-
  For the document's Make: lists of names behind a store.
-/
import Derived.Test.YtaeljmiklalpnaaGreatDoorM0
import Derived.Test.YtaeljmiklalpnaaGreatDoorQf
namespace Go.Proofs.YtaeljmiklalpnaaGreatDoor
open Go.RowKit Go.ChangeMaps Gn
namespace Rg

theorem own_same {w w' : World} {B : Nat} {e : TypeId} {sz n : Nat} {v : Value} {xs : List Value} (h : w.ownsRow B e sz v n xs) (hb : ∀ k, v.ownBlock = some k → w'.heap[k]? = w.heap[k]?) : w'.ownsRow B e sz v n xs := by
  refine ⟨h.1, ?_⟩
  rcases h.2 with h2 | ⟨g, cap, cur, e1, hB, hg, h3⟩
  · exact Or.inl h2
  · exact Or.inr ⟨g, cap, cur, e1, hB, (hb g (by rw [e1]; rfl)).trans hg, h3⟩
theorem slr_one {w : World} {X : Nat} {v : Value} (h : w.cell? ⟨X, 0, none⟩ = some v) (hX : X < w.heap.size) : SlR w (some ⟨X, 0, none⟩) 1 1 1 [v] :=
  ⟨rfl, Nat.le_refl _, fun _ => ⟨X, 0, rfl, hX, fun j u hu => by
    match j with
    | 0 => cases hu; exact h
    | j + 1 => cases hu⟩⟩
theorem set_blk {w : World} {g : Nat} {cs : Array Value} {T : TypeId} (h : w.heap[g]? = some (.cells cs T (0, 0))) (j : Nat) (v : Value) : (w.setCell ⟨g, j, none⟩ v).heap[g]? = some (.cells (cs.setIfInBounds j v) T (0, 0)) := by
  have hg := heap_lt h
  have h2 := (Array.getElem?_eq_some_iff.1 h).2
  simp [World.setCell, hg, Array.getElem_modify, h2]

end Rg
end Go.Proofs.YtaeljmiklalpnaaGreatDoor
