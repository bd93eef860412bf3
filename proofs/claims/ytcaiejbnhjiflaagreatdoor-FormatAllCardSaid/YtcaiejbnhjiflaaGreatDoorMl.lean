/-
  How many readings a street and a town have: the ways to divide words; the line that is made of words.
-/
import Derived.Test.YtcaiejbnhjiflaaGreatDoorMe
namespace Go.Proofs.YtcaiejbnhjiflaaGreatDoor
namespace Fm

/-- The ways with up to k words for the street. -/
def wayF (n : Nat) (fit : Bool) : Nat → Nat
  | 0 => 0
  | k + 1 => wayF n fit k + if k + 2 ≤ n ∧ n ≤ k + 5 ∧ fit = true then 1 else 0
theorem wayF_le (n : Nat) (fit : Bool) (k : Nat) : wayF n fit k ≤ k := by
  induction k with
  | zero => exact Nat.le_refl _
  | succ k ih => unfold wayF; split <;> omega
theorem can_many {k : Int} {t : W} (h : 4 ≤ k) (us : List W) : canB ⟨k, t⟩ us = (decide (1 ≤ us.length) && decide (us.length ≤ 4) && us.all fitW) := by
  unfold canB
  simp only
  rw [if_pos h, if_neg (by omega), if_neg (by omega), if_neg (by omega), Bool.and_true]
theorem one_sev {k : Int} {t : W} (h : 4 ≤ k) (us : List W) (a : Ad) : (rdG [⟨k, t⟩] a us []).length = if 1 ≤ us.length ∧ us.length ≤ 4 ∧ us.all fitW = true then 1 else 0 := by
  rw [rdG_sev]
  have e4 : List.range 4 = [0, 1, 2, 3] := rfl
  rw [e4]
  simp only [List.flatMap_cons, List.flatMap_nil, List.length_append, List.length_nil, can_many h, rdG_nil, rdA_nil]
  match us with
  | [] => simp
  | [x] => by_cases h1 : fitW x = true <;> simp [h1]
  | [x, y] => by_cases h1 : fitW x = true <;> by_cases h2 : fitW y = true <;> simp [h1, h2]
  | [x, y, z] => by_cases h1 : fitW x = true <;> by_cases h2 : fitW y = true <;> by_cases h3 : fitW z = true <;> simp [h1, h2, h3]
  | [x, y, z, u] => by_cases h1 : fitW x = true <;> by_cases h2 : fitW y = true <;> by_cases h3 : fitW z = true <;> by_cases h4 : fitW u = true <;> simp [h1, h2, h3, h4]
  | x :: y :: z :: u :: v :: l => simp
theorem all_cut (ws : List W) (i : Nat) : ((ws.take i).all fitW = true ∧ (ws.drop i).all fitW = true) ↔ ws.all fitW = true := by
  conv => rhs; rw [← List.take_append_drop i ws, List.all_append, Bool.and_eq_true]
/-- THE NUMBER OF READINGS. -/
theorem all_count (ws : List W) (a : Ad) : (rdA [([⟨4, []⟩, ⟨5, []⟩], ws)] a).length = wayF ws.length (ws.all fitW) 4 := by
  rw [rdA_cons]
  show (rdG [⟨4, []⟩, ⟨5, []⟩] a ws []).length = _
  rw [rdG_sev]
  have H : ∀ i, i < 4 → (if i + 1 ≤ ws.length ∧ canB ⟨4, []⟩ (ws.take (i + 1)) = true then rdG [⟨5, []⟩] (setF 4 (ws.take (i + 1)) a) (ws.drop (i + 1)) [] else []).length = if i + 2 ≤ ws.length ∧ ws.length ≤ i + 5 ∧ ws.all fitW = true then 1 else 0 := by
    intro i hi
    rw [can_many (by decide)]
    by_cases h1 : i + 1 ≤ ws.length
    · by_cases h2 : (ws.take (i + 1)).all fitW = true
      · rw [if_pos ⟨h1, by rw [List.length_take, h2, decide_eq_true (by omega), decide_eq_true (by omega)]; rfl⟩, one_sev (by decide), List.length_drop]
        have := all_cut ws (i + 1)
        by_cases h3 : (ws.drop (i + 1)).all fitW = true
        · have h4 := this.1 ⟨h2, h3⟩
          by_cases h5 : i + 2 ≤ ws.length ∧ ws.length ≤ i + 5
          · rw [if_pos ⟨by omega, by omega, h3⟩, if_pos ⟨h5.1, h5.2, h4⟩]
          · rw [if_neg (fun h => h5 ⟨by omega, by omega⟩), if_neg (fun h => h5 ⟨h.1, h.2.1⟩)]
        · rw [if_neg (fun h => h3 h.2.2), if_neg (fun h => h3 (this.2 h.2.2).2)]
      · rw [if_neg (fun h => by have := h.2; simp only [Bool.and_eq_true] at this; exact h2 this.2), if_neg (fun h => h2 ((all_cut ws (i + 1)).2 h.2.2).1)]; rfl
    · rw [if_neg (fun h => h1 h.1), if_neg (fun h => h1 (by omega))]; rfl
  have e4 : List.range 4 = [0, 1, 2, 3] := rfl
  rw [e4]
  simp only [List.flatMap_cons, List.flatMap_nil, List.length_append, List.length_nil]
  rw [H 0 (by decide), H 1 (by decide), H 2 (by decide), H 3 (by decide)]
  unfold wayF wayF wayF wayF wayF
  omega

/-- A line of words, with a blank behind each. -/
def lineS (ws : List W) : W := ws.flatMap fun w => w ++ [32]
theorem lineS_snoc (ws : List W) (k : Nat) (w : W) (h : ws[k]? = some w) : lineS (ws.take (k + 1)) = lineS (ws.take k) ++ w ++ [32] := by
  unfold lineS
  rw [List.take_add_one, h, List.flatMap_append]; simp
theorem words_lineS (ws : List W) (h : ∀ w ∈ ws, isW w) : wordsL (lineS ws) = ws := by
  induction ws with
  | nil => rfl
  | cons w ws ih =>
    have e : lineS (w :: ws) = w ++ 32 :: lineS ws := by unfold lineS; rw [List.flatMap_cons, List.append_assoc]; rfl
    rw [e, words_mid _ _ (by rfl), words_of_is (h w (List.mem_cons_self ..)), ih fun x hx => h x (List.mem_cons_of_mem _ hx)]; rfl
theorem one_word {w : W} (h : wordsL w = [w]) : isW w := words_is (l := w) (by rw [h]; exact List.mem_singleton.2 rfl)

end Fm
end Go.Proofs.YtcaiejbnhjiflaaGreatDoor
