/-
  Words for the document's Make: what it answers; rows with streets, one of them written over.
-/
import Derived.Test.YtaeljmiklalpnaaGreatDoorR3
import Derived.Test.YtaeljmiklalpnaaGreatDoorFw
namespace Go.Proofs.YtaeljmiklalpnaaGreatDoor
open Go.RowKit Go.ChangeMaps Gn
namespace Rg

/-- What the document's Make answers. -/
def MPost (l : List St) (c : Ch) (w : World) (e : Ending) (w' : World) : Prop := ∃ v' E, e = .returned (.tuple #[v', .int .i64 E]) ∧ Below w.heap.size w w' ∧ (E = 0 → OkC l c ∧ ∃ vs', IsSts w' v' (stp l c) vs')
theorem one_sts (l : List St) (vs : List Value) (h : ∀ (i : Nat) (s : St) (u : Value), l[i]? = some s → vs[i]? = some u → ∃ A n c, u = .slice A n c) : ∀ x ∈ cellsS l vs, x.oneCell' = true := by
  induction l generalizing vs with
  | nil => intro x hx; simp [cellsS] at hx
  | cons s l ih =>
    match vs with
    | [] => intro x hx; simp [cellsS] at hx
    | u :: vs =>
      intro x hx
      rw [cellsS_cons] at hx
      rcases List.mem_append.1 hx with hx | hx
      · obtain ⟨A, n, c, rfl⟩ := h 0 s u rfl rfl
        simp only [stV, List.mem_cons, List.not_mem_nil, or_false] at hx
        rcases hx with rfl | rfl | rfl | rfl | rfl | rfl | rfl | rfl <;> rfl
      · exact ih vs (fun i a b ha hb => h (i + 1) a b (by simpa using ha) (by simpa using hb)) x hx
theorem own_shape {w : World} {B : Nat} {e : TypeId} {sz n : Nat} {v : Value} {xs : List Value} (h : w.ownsRow B e sz v n xs) : ∃ A c, v = .slice A n c := by
  rcases h.2 with ⟨e, h0⟩ | ⟨g, cap, cur, e, _⟩
  · exact ⟨none, 0, by rw [e, h0]⟩
  · exact ⟨_, cap, e⟩
theorem own_shape1 {w : World} {B : Nat} {e : TypeId} {sz n : Nat} {v : Value} {xs : List Value} (h : w.ownsRow B e sz v n xs) (hn : 0 < n) : ∃ g c, v = .slice (some ⟨g, 0, none⟩) n c ∧ B ≤ g ∧ g < w.heap.size := by
  rcases h.2 with ⟨e, h0⟩ | ⟨g, cap, cur, e, hB, hg, _⟩
  · omega
  · exact ⟨g, cap, e, hB, heap_lt hg⟩
/-- Eight cells of a row of streets written over. -/
theorem own_put8 {base : Nat} {w : World} {l : List St} {vs : List Value} {g cap n : Nat} {s s' : St} {u u' : Value} (h : w.ownsRow base 44 8 (.slice (some ⟨g, 0, none⟩) l.length cap) l.length (cellsS l vs)) (hs : l[n]? = some s) (hu : vs[n]? = some u)
    {W : World} (hW : W = (((((((w.setCell ⟨g, n * 8, none⟩ (.string (sB s'.code))).setCell ⟨g, n * 8 + 1, none⟩ (.string (sB s'.town))).setCell ⟨g, n * 8 + 2, none⟩ (.string (sB s'.name))).setCell ⟨g, n * 8 + 3, none⟩ u').setCell ⟨g, n * 8 + 4, none⟩ (.int .i64 s'.low)).setCell ⟨g, n * 8 + 5, none⟩ (.int .i64 s'.high)).setCell ⟨g, n * 8 + 6, none⟩ (.int .i64 s'.shift)).setCell ⟨g, n * 8 + 7, none⟩ (.bool s'.isOpen)) :
    W.ownsRow base 44 8 (.slice (some ⟨g, 0, none⟩) l.length cap) l.length (cellsS (l.set n s') (vs.set n u')) ∧ w.grownBy W (some g) := by
  have step : ∀ {w1 : World} {l1 : List St} {vs1 : List Value} {a a' : St} {b b' x : Value} {j : Nat}, w1.ownsRow base 44 8 (.slice (some ⟨g, 0, none⟩) l.length cap) l.length (cellsS l1 vs1) → l1[n]? = some a → vs1[n]? = some b → j < 8 → (stV a b).set j x = stV a' b' → w.grownBy w1 (some g) →
      (w1.setCell ⟨g, n * 8 + j, none⟩ x).ownsRow base 44 8 (.slice (some ⟨g, 0, none⟩) l.length cap) l.length (cellsS (l1.set n a') (vs1.set n b')) ∧ w.grownBy (w1.setCell ⟨g, n * 8 + j, none⟩ x) (some g) ∧ (l1.set n a')[n]? = some a' ∧ (vs1.set n b')[n]? = some b' :=
    fun {w1 l1 vs1 a a' b b' x j} h1 ha hb hj he hg => by
      obtain ⟨p1, p2⟩ := h1.stored (n * 8 + j) x
      rw [cells_set hj he l1 vs1 n ha hb] at p1
      refine ⟨p1, ⟨p2.os.trans hg.os, p2.tape.trans hg.tape, p2.output.trans hg.output, Nat.le_trans hg.size p2.size, fun k hk hne => (p2.block k (Nat.lt_of_lt_of_le hk hg.size) hne).trans (hg.block k hk hne)⟩, List.getElem?_set_self (List.getElem?_eq_some_iff.1 ha).1, List.getElem?_set_self (List.getElem?_eq_some_iff.1 hb).1⟩
  obtain ⟨a1, a2, a3, a4⟩ := step (j := 0) (x := .string (sB s'.code)) (a' := ⟨s'.code, s.town, s.name, s.al, s.low, s.high, s.shift, s.isOpen⟩) (b' := u) h hs hu (by omega) rfl (World.grownBy.refl _ _)
  obtain ⟨a1, a2, a3, a4⟩ := step (j := 1) (x := .string (sB s'.town)) (a' := ⟨s'.code, s'.town, s.name, s.al, s.low, s.high, s.shift, s.isOpen⟩) (b' := u) a1 a3 a4 (by omega) rfl a2
  obtain ⟨a1, a2, a3, a4⟩ := step (j := 2) (x := .string (sB s'.name)) (a' := ⟨s'.code, s'.town, s'.name, s.al, s.low, s.high, s.shift, s.isOpen⟩) (b' := u) a1 a3 a4 (by omega) rfl a2
  obtain ⟨a1, a2, a3, a4⟩ := step (j := 3) (x := u') (a' := ⟨s'.code, s'.town, s'.name, s'.al, s.low, s.high, s.shift, s.isOpen⟩) (b' := u') a1 a3 a4 (by omega) rfl a2
  obtain ⟨a1, a2, a3, a4⟩ := step (j := 4) (x := .int .i64 s'.low) (a' := ⟨s'.code, s'.town, s'.name, s'.al, s'.low, s.high, s.shift, s.isOpen⟩) (b' := u') a1 a3 a4 (by omega) rfl a2
  obtain ⟨a1, a2, a3, a4⟩ := step (j := 5) (x := .int .i64 s'.high) (a' := ⟨s'.code, s'.town, s'.name, s'.al, s'.low, s'.high, s.shift, s.isOpen⟩) (b' := u') a1 a3 a4 (by omega) rfl a2
  obtain ⟨a1, a2, a3, a4⟩ := step (j := 6) (x := .int .i64 s'.shift) (a' := ⟨s'.code, s'.town, s'.name, s'.al, s'.low, s'.high, s'.shift, s.isOpen⟩) (b' := u') a1 a3 a4 (by omega) rfl a2
  obtain ⟨a1, a2, a3, a4⟩ := step (j := 7) (x := .bool s'.isOpen) (a' := s') (b' := u') a1 a3 a4 (by omega) rfl a2
  simp only [List.set_set] at a1
  rw [hW]
  exact ⟨a1, a2⟩
/-- The streets behind Make's store. -/
theorem made_sts {base : Nat} {w0 W : World} {l : List St} {vs : List Value} {g cap n : Nat} {s' : St} {u' : Value} (hrow : W.ownsRow base 44 8 (.slice (some ⟨g, 0, none⟩) l.length cap) l.length (cellsS (l.set n s') (vs.set n u'))) (hlen : vs.length = l.length)
    (hb : Below w0.heap.size w0 W) (hal : ∀ (i : Nat) (s : St) (u : Value), i ≠ n → l[i]? = some s → vs[i]? = some u → IsW w0 u s.al) (hu : IsW W u' s'.al) (hn : n < l.length) : IsSts W (.slice (some ⟨g, 0, none⟩) l.length cap) (l.set n s') (vs.set n u') := by
  obtain ⟨A, c1, e, hS⟩ := SlR.of_own hrow
  cases e
  refine ⟨_, cap, by rw [List.length_set], by rw [List.length_set, List.length_set]; exact hlen, by rw [List.length_set]; exact hS, fun i s u hs hv => ?_⟩
  by_cases e : i = n
  · subst e
    rw [List.getElem?_set_self (by omega)] at hs
    rw [List.getElem?_set_self (by omega)] at hv
    cases hs; cases hv; exact hu
  · rw [List.getElem?_set_ne (fun q => e q.symm)] at hs hv
    exact (hal i s u e hs hv).on hb

end Rg
end Go.Proofs.YtaeljmiklalpnaaGreatDoor
