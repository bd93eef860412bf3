/-
  Plain mathematics of the laws: what each of them asks of texts and their tokens.
-/
import Derived.Test.YtdhemkcbaoebcaaDoorCov
namespace Go.Proofs.YtdhemkcbaoebcaaDoor
namespace Lx

theorem lexR_of {l : List UInt8} {ts : List Tk} (h8 : l.length ≤ 8000) (h : lexL l 0 0 = (ts, 0, -1)) : lexR l = (ts, 0, -1) := by
  rw [lexR_ok h8 (by rw [h]), h]
/-- The text before an error. -/
theorem fe_take {l : List UInt8} {e : Int} {j : Nat} (h8 : l.length ≤ 8000) (he : e = 2 ∨ e = 30) (h : (lexL l 0 0).2 = (e, (j : Int))) : lexR (l.take j) = ((lexL l 0 0).1, 0, -1) := by
  refine lexR_of (by rw [List.length_take]; omega) (lex_upto l 0 0 e j (by omega) (by rw [Nat.zero_add]; exact h))
/-- The same error, whatever follows behind a line feed. -/
theorem fe_same {l : List UInt8} {e : Int} {j k : Nat} (he : e = 2 ∨ e = 30) (h : (lexL l 0 0).2 = (e, (j : Int))) (hj : j < k) (_hk : k ≤ l.length) (hend : k = l.length ∨ (l.getD k 0).toNat = 10) (more : List UInt8)
    (hm : (l.take k ++ 10 :: more).length ≤ 8000) : lexR (l.take k ++ 10 :: more) = ([], e, (j : Int)) := by
  have ha : (lexL (l.take k) 0 0).2 = (e, (j : Int)) := by
    rcases Nat.lt_or_ge k l.length with hl | hl
    · have h10 : l.getD k 0 = 10 := by
        rcases hend with h1 | h1
        · omega
        · exact (byte_eq (n := 10) h1 (by omega)).trans rfl
      have el : l = l.take k ++ 10 :: l.drop (k + 1) := by
        conv => lhs; rw [← List.take_append_drop k l, drop_cons hl, h10]
      have hlf := lex_lf (l.take k) (l.drop (k + 1)) 0 0
      rw [← el] at hlf
      split at hlf
      · exfalso
        rw [hlf] at h
        unfold catR at h
        simp only [List.length_take] at h
        rcases lex_form (l.drop (k + 1)) (0 + min k l.length + 1) (0 + (lexL (l.take k) 0 0).1.length) with h2 | ⟨e', j', -, -, -, h2⟩
        · rw [h2] at h; have := (Prod.mk.inj h).1; omega
        · rw [h2] at h; have := (Prod.mk.inj h).2; omega
      · rw [← hlf]; exact h
    · rw [List.take_of_length_le hl]; exact h
  have hlf := lex_lf (l.take k) more 0 0
  rw [ha, if_neg (by simp only; omega)] at hlf
  rw [lexR_err hm (by rw [hlf, ha]; simp only; omega), hlf, ha]

/-- The text up to the end of a token. -/
theorem pr_take {l : List UInt8} {i j : Nat} (h8 : l.length ≤ 8000) (hi : i < (lexL l 0 0).1.length) (hj : j = ((lexL l 0 0).1[i]).p + (src ((lexL l 0 0).1[i])).length) : lexR (l.take j) = ((lexL l 0 0).1.take (i + 1), 0, -1) :=
  lexR_of (by rw [List.length_take]; omega) (lex_prefix l 0 0 i hi j (by omega))
/-- A token lies within its text. -/
theorem cov_end (L : List UInt8) : ∀ (ts : List Tk) (a : Nat), Cov L a ts → ∀ i (h : i < ts.length), ts[i].p + (src ts[i]).length ≤ L.length ∧ (src ts[i]).length ≤ 202 := by
  intro ts
  induction ts with
  | nil => intro a _ i h; simp at h
  | cons x ts ih =>
    intro a h i hi
    unfold Cov at h
    obtain ⟨h1, h2, h3, h4, h5, h6, h7, h8, h9, h10⟩ := h
    match i with
    | 0 => exact ⟨h2, (kind_head (p := src x) (by rw [h5]; exact h6)).2.1⟩
    | i + 1 => exact ih _ h10 i (by simpa using hi)
/-- From a token on. -/
theorem cov_drop (L : List UInt8) : ∀ (ts : List Tk) (a : Nat), Cov L a ts → ∀ i, i ≤ ts.length → ∃ b, Cov L b (ts.drop i) := by
  intro ts
  induction ts with
  | nil => intro a h i hi; simp at hi; subst hi; exact ⟨a, h⟩
  | cons x ts ih =>
    intro a h i hi
    match i with
    | 0 => exact ⟨a, h⟩
    | i + 1 =>
      have h' := h
      unfold Cov at h'
      exact ih _ h'.2.2.2.2.2.2.2.2.2 i (by simpa using hi)

/-- Two texts with a line feed between. -/
theorem cc_err {a b : List UInt8} {e p : Int} (_h8 : a.length ≤ 8000) (h : (lexL a 0 0).2 = (e, p)) (he : e = 2 ∨ e = 30) (hl : (a ++ 10 :: b).length ≤ 8000) : lexR (a ++ 10 :: b) = ([], e, p) := by
  have hlf := lex_lf a b 0 0
  rw [h, if_neg (by simp only; omega)] at hlf
  rw [lexR_err hl (by rw [hlf, h]; simp only; omega), hlf, h]
theorem cc_ok {a b : List UInt8} {xs ys : List Tk} (ha : lexL a 0 0 = (xs, 0, -1)) (hb : lexL b 0 0 = (ys, 0, -1)) (hl : (a ++ 10 :: b).length ≤ 8000) (hc : xs.length + ys.length ≤ 3000) :
    lexR (a ++ 10 :: b) = (xs ++ ys.map (moved (a.length + 1)), 0, -1) := by
  refine lexR_of hl ?_
  have hlf := lex_lf a b 0 0
  rw [ha, if_pos rfl] at hlf
  have hs := (lex_shift (a.length + 1) b 0 0 xs.length (by rw [hb]) (by omega)).1 (by rw [hb]; omega)
  rw [hb] at hs
  simp only [Nat.zero_add] at hlf hs
  rw [hlf, hs]
  rfl
theorem cc_many {a b : List UInt8} {xs ys : List Tk} (ha : lexL a 0 0 = (xs, 0, -1)) (hb : lexL b 0 0 = (ys, 0, -1)) (hl : (a ++ 10 :: b).length ≤ 8000) (hc : 3000 < xs.length + ys.length) :
    ∃ p : Int, lexR (a ++ 10 :: b) = ([], 2, p) := by
  have hlf := lex_lf a b 0 0
  rw [ha, if_pos rfl] at hlf
  have hx : xs.length ≤ 3000 := by have := (lex_count a 0 0).1 (by omega); rw [ha] at this; simp only at this; omega
  have hs := (lex_shift (a.length + 1) b 0 0 xs.length (by rw [hb]) hx).2 (by rw [hb]; omega)
  simp only [Nat.zero_add] at hlf hs
  have h2 : (lexL (a ++ 10 :: b) 0 0).2.1 = 2 := by rw [hlf]; exact hs
  exact ⟨(lexL (a ++ 10 :: b) 0 0).2.2, by rw [lexR_err hl (by rw [h2]; decide), ← h2]⟩

end Lx
end Go.Proofs.YtdhemkcbaoebcaaDoor
