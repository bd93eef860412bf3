/-
  Plain mathematics of Misread's list: strictly increasing, one place, the way back.
-/
import Derived.Test.YtbgniplhlnipoaaDoorLawAll
namespace Go.Proofs.YtbgniplhlnipoaaDoor
open Go.RowKit Go.Sort
namespace Id1

theorem valid_sh {l : List UInt8} (h : validB l = true) : shapeB l = true := by
  unfold validB at h
  rw [Bool.and_eq_true] at h
  exact h.1
theorem put_set (l : List UInt8) (p q : Nat) (hp : p < l.length) : put l p q = l.set p (dgt q) := by
  rw [List.set_eq_take_append_cons_drop, if_pos hp]
  simp [put]
theorem put_getD (l : List UInt8) (p q k : Nat) (hp : p < l.length) : (put l p q).getD k 0 = if k = p then dgt q else l.getD k 0 := by
  rw [put_set l p q hp, List.getD, List.getElem?_set]
  by_cases h : p = k
  · subst h
    simp [hp]
  · have h' : ¬ k = p := fun e => h e.symm
    rw [if_neg h, if_neg h']
    rfl
theorem put_back (l : List UInt8) (p q q' : Nat) (hp : p < l.length) (he : dgt q' = l.getD p 0) : put (put l p q) p q' = l := by
  have hl : p < (put l p q).length := by rw [put_set l p q hp, List.length_set]; exact hp
  rw [put_set _ p q' hl, put_set l p q hp, List.set_set, ← put_set l p q' hp]
  exact (put_self l p q' hp).2 he

theorem row_nodup (l : List UInt8) (p : Nat) (hp : p < l.length) : (rowTo l p 10).Nodup := by
  unfold rowTo List.Nodup
  rw [List.pairwise_flatMap]
  constructor
  · intro j _
    unfold cell
    split
    · exact List.Pairwise.nil
    · exact List.pairwise_singleton _ _
  · refine List.Pairwise.imp_of_mem ?_ (List.nodup_range (n := 10))
    intro a b ha hb hab x hx y hy e
    have ha' := List.mem_range.1 ha
    have hb' := List.mem_range.1 hb
    have hx' : x = put l p (48 + a) := by
      unfold cell at hx; split at hx
      · cases hx
      · exact List.mem_singleton.1 hx
    have hy' : y = put l p (48 + b) := by
      unfold cell at hy; split at hy
      · cases hy
      · exact List.mem_singleton.1 hy
    have g := congrArg (fun z => z.getD p 0) (hx'.symm.trans (e.trans hy'))
    simp only [put_getD l p _ p hp, if_pos] at g
    have g2 := congrArg UInt8.toNat g
    rw [dgt_toNat (by omega), dgt_toNat (by omega)] at g2
    omega
theorem cand_nodup (l : List UInt8) (h13 : l.length = 13) : (cand l).Nodup := by
  unfold cand candTo List.Nodup
  rw [List.pairwise_flatMap]
  constructor
  · intro i hi
    exact row_nodup l (i + 2) (by have := List.mem_range.1 hi; omega)
  · refine List.Pairwise.imp_of_mem ?_ (List.nodup_range (n := 9))
    intro a b ha hb hab x hx y hy e
    have ha' := List.mem_range.1 ha
    have hb' := List.mem_range.1 hb
    obtain ⟨j, hj, h1, rfl⟩ := (mem_rowTo l (a + 2) 10 x).1 hx
    obtain ⟨j', hj', h2, rfl⟩ := (mem_rowTo l (b + 2) 10 y).1 hy
    have g := congrArg (fun z => z.getD (a + 2) 0) e
    simp only [put_getD l (a + 2) _ _ (show a + 2 < l.length by omega), put_getD l (b + 2) _ _ (show b + 2 < l.length by omega), if_pos] at g
    rw [if_neg (show ¬ a + 2 = b + 2 by omega)] at g
    exact h1 g
theorem misL_strict (l : List UInt8) : (misL l).Pairwise (· < ·) := by
  unfold misL
  by_cases hs : shapeB l = true
  · rw [if_pos hs]
    obtain ⟨h13, -, -, -⟩ := shape_parts hs
    have hn : (((cand l).filter validB).mergeSort (fun x y => decide (x ≤ y))).Nodup := (List.mergeSort_perm _ _).nodup_iff.2 ((cand_nodup l h13).filter _)
    refine ((mergeSort_sorted ((cand l).filter validB)).and hn).imp ?_
    rintro a b ⟨h1, h2⟩
    refine Classical.byContradiction fun h => h2 (List.le_antisymm h1 (List.not_lt.1 h))
  · rw [if_neg hs]
    exact List.Pairwise.nil
theorem misL_lt (l : List UInt8) (i : Nat) (h : i + 1 < (misL l).length) : (misL l)[i] < (misL l)[i + 1] :=
  List.pairwise_iff_getElem.1 (misL_strict l) i (i + 1) (by omega) h (by omega)

/-- What is known of a text as which a shape can be misread. -/
theorem misL_mem {l x : List UInt8} (hs : shapeB l = true) (h : x ∈ misL l) : validB x = true ∧ x.length = 13 ∧ x.take 2 = l.take 2 ∧ x.drop 11 = l.drop 11 ∧ ∃ p, 2 ≤ p ∧ p < 11 ∧ ∀ k, k < 13 → (x.getD k 0 = l.getD k 0 ↔ k ≠ p) := by
  obtain ⟨h13, -, -, -⟩ := shape_parts hs
  obtain ⟨hc, hv⟩ := (mem_misL l hs x).1 h
  obtain ⟨i, j, hi, hj, h1, rfl⟩ := (mem_cand l x).1 hc
  have hlen : (put l (i + 2) (48 + j)).length = 13 := by rw [put_set l _ _ (by omega), List.length_set]; exact h13
  refine ⟨hv, hlen, ?_, ?_, i + 2, by omega, by omega, ?_⟩
  · rw [put_set l _ _ (by omega), List.take_set_of_le (by omega)]
  · rw [put_set l _ _ (by omega), List.drop_set_of_lt (by omega)]
  · intro k hk
    rw [put_getD l (i + 2) _ k (by omega)]
    by_cases e : k = i + 2
    · subst e
      rw [if_pos rfl]
      exact ⟨fun e => absurd e h1, fun e => absurd rfl e⟩
    · rw [if_neg e]
      exact ⟨fun _ => e, fun _ => rfl⟩
theorem misL_back {l x : List UInt8} (hv : validB l = true) (h : x ∈ misL l) : l ∈ misL x := by
  have hs : shapeB l = true := (valid_sh hv)
  obtain ⟨h13, -, -, -⟩ := shape_parts hs
  obtain ⟨hc, hvx⟩ := (mem_misL l hs x).1 h
  obtain ⟨i, j, hi, hj, h1, rfl⟩ := (mem_cand l x).1 hc
  refine (mem_misL _ (valid_sh hvx) l).2 ⟨?_, hv⟩
  have hd := digB_bd (shape_digit hs (i + 2) (by omega) (by omega))
  obtain ⟨q, hq⟩ : ∃ q, 48 + q = (l.getD (i + 2) 0).toNat := ⟨(l.getD (i + 2) 0).toNat - 48, by omega⟩
  have hdq : dgt (48 + q) = l.getD (i + 2) 0 := UInt8.toNat.inj (by rw [dgt_toNat (by omega)]; exact hq)
  refine (mem_cand _ l).2 ⟨i, q, hi, by omega, ?_, ?_⟩
  · rw [put_getD l (i + 2) _ _ (by omega), if_pos rfl, hdq]
    exact fun e => h1 e.symm
  · exact (put_back l (i + 2) (48 + j) (48 + q) (by omega) hdq).symm

end Id1
end Go.Proofs.YtbgniplhlnipoaaDoor
