/-
  Plain mathematics of the lexer: tokens and gaps make up the text; other gaps between the tokens; what Lex answers.
-/
import Derived.Test.YtdhemkcbaoebcaaDoorScan
namespace Go.Proofs.YtdhemkcbaoebcaaDoor
namespace Lx

/-- What Lex answers. -/
def lexR (l : List UInt8) : List Tk × Int × Int := if 8000 < l.length then ([], 2, 8000) else if (lexL l 0 0).2.1 = 0 then lexL l 0 0 else ([], (lexL l 0 0).2)
theorem lexR_ok {l : List UInt8} (h : l.length ≤ 8000) (h0 : (lexL l 0 0).2.1 = 0) : lexR l = lexL l 0 0 := by
  unfold lexR; rw [if_neg (by omega), if_pos h0]
theorem lexR_err {l : List UInt8} (h : l.length ≤ 8000) (h0 : (lexL l 0 0).2.1 ≠ 0) : lexR l = ([], (lexL l 0 0).2) := by
  unfold lexR; rw [if_neg (by omega), if_neg h0]
theorem lexR_long {l : List UInt8} (h : 8000 < l.length) : lexR l = ([], 2, 8000) := by unfold lexR; rw [if_pos h]
/-- The ways in which Lex ends. -/
theorem lexR_ways (l : List UInt8) : (8000 < l.length ∧ lexR l = ([], 2, 8000)) ∨ (l.length ≤ 8000 ∧ (lexL l 0 0).2 = (0, -1) ∧ lexR l = lexL l 0 0) ∨ (l.length ≤ 8000 ∧ ∃ (e : Int) (j : Nat), (e = 2 ∨ e = 30) ∧ j < l.length ∧ (l.getD j 0).toNat ≠ 10 ∧ (lexL l 0 0).2 = (e, (j : Int)) ∧ lexR l = ([], e, (j : Int))) := by
  rcases Nat.lt_or_ge 8000 l.length with h | h
  · exact .inl ⟨h, lexR_long h⟩
  · rcases lex_form l 0 0 with h1 | ⟨e, j, he, hj, h10, h1⟩
    · exact .inr (.inl ⟨h, h1, lexR_ok h (by rw [h1])⟩)
    · rw [Nat.zero_add] at h1
      exact .inr (.inr ⟨h, e, j, he, hj, h10, h1, by rw [lexR_err h (by rw [h1]; simp only; omega), h1]⟩)

/-- No run goes on across an offset. -/
def cutOk (L : List UInt8) (o : Nat) : Prop := 0 < o → o < L.length → wordB (L.getD (o - 1) 0) = true → wordB (L.getD o 0) = false
/-- The tokens from an offset on, and the gaps between them, make up the text. -/
def Cov (L : List UInt8) : Nat → List Tk → Prop
  | a, [] => a ≤ L.length ∧ gapB (L.drop a) = true
  | a, t :: ts => a ≤ t.p ∧ t.p + (src t).length ≤ L.length ∧ (L.drop t.p).take (src t).length = src t ∧ gapB ((L.drop a).take (t.p - a)) = true ∧ kindL (src t) = t.k ∧ t.k ≠ 0 ∧ txt t.k (src t) = t.t ∧
      okNext t.k (src t) ((L.drop (t.p + (src t).length)).head?) ∧ ((t.k = 1 ∨ t.k = 2) → 0 < t.p → wordB (L.getD (t.p - 1) 0) = false) ∧ Cov L (t.p + (src t).length) ts

theorem piece_last {p : List UInt8} (h : kindL p ≠ 0) (h12 : ¬ (kindL p = 1 ∨ kindL p = 2)) : wordB (p.getD (p.length - 1) 0) = false := by
  rcases kind_ways h with ⟨h1, h2⟩ | ⟨h1, h2⟩ | ⟨h1, _, h2⟩
  · unfold symB syms at h1
    rw [List.contains_iff_mem] at h1
    simp only [List.mem_cons, List.not_mem_nil, or_false] at h1
    rcases h1 with rfl | rfl | rfl | rfl | rfl | rfl | rfl | rfl | rfl | rfl | rfl | rfl | rfl <;> decide
  · obtain ⟨-, -, -, h4, -⟩ := quot_head h1
    rw [Bool.eq_false_iff]; intro h; rw [wordB_iff] at h; omega
  · have := run_head h1; omega

theorem cov_lex (L : List UInt8) (l : List UInt8) (o c : Nat) : L.drop o = l → o ≤ L.length → cutOk L o → (lexL l o c).2.1 = 0 → Cov L o (lexL l o c).1 := by
  refine lex_ind (P := fun l o c => L.drop o = l → o ≤ L.length → cutOk L o → (lexL l o c).2.1 = 0 → Cov L o (lexL l o c).1) ?_ ?_ ?_ ?_ l o c
  · intro l o c h hl ho hc _
    rw [lex_end h]
    refine ⟨ho, ?_⟩
    rw [hl]; unfold gapB; rw [decide_eq_true_eq]
    have := gl_le l
    unfold gl at h this; omega
  · intro l o h _ _ _ h0; rw [lex_many h] at h0; exact absurd h0 (show ¬ (2 : Int) = 0 by decide)
  · intro l o c h hc hn _ _ _ h0; rw [lex_wrong h hc hn] at h0; exact absurd h0 (show ¬ (30 : Int) = 0 by decide)
  · intro l o c h hc hn ih hl ho hcut h0
    rw [lex_cons h hc hn] at h0 ⊢
    have hs := tk_src hn o
    have hsl := tk_src_len hn o
    obtain ⟨k1, k2, k3, k4⟩ := tok_at (l := rl l) (by unfold nl at hn; omega)
    have hnl := nl_le l
    have hlen : L.length = o + l.length := by rw [← hl, List.length_drop]; omega
    have hat : ∀ i, l.getD i 0 = L.getD (o + i) 0 := fun i => by rw [← hl, getD_drop]
    have hp : (tk l o).p = o + gl l := rfl
    have hk : (tk l o).k = (tokL (rl l)).1 := rfl
    have hr : L.drop (o + gl l) = rl l := by unfold rl; rw [← hl, List.drop_drop]
    have hr2 : L.drop (o + gl l + nl l) = (rl l).drop (nl l) := by rw [← hr, List.drop_drop]
    have hkl : kindL ((rl l).take (nl l)) = (tokL (rl l)).1 := k2
    have hrn : (rl l).length = l.length - gl l := by unfold rl; rw [List.length_drop]
    show Cov L o (tk l o :: _)
    unfold Cov
    rw [hsl, hp, hs, hk, hr, hr2]
    refine ⟨Nat.le_add_right _ _, by omega, rfl, ?_, k2, k3, rfl, k4, ?_, ?_⟩
    · rw [hl, show o + gl l - o = gl l by omega]
      unfold gapB; rw [decide_eq_true_eq]
      unfold gl
      rw [gap_take, List.length_take, Nat.min_self]
      have := gl_le l
      unfold gl at this
      omega
    · intro h12 hpos
      have hw0 : wordB (L.getD (o + gl l) 0) = true := by
        rw [← hat]
        rcases kind_ways (p := (rl l).take (nl l)) (by rw [hkl]; exact k3) with ⟨_, h2⟩ | ⟨_, h2⟩ | ⟨_, h2, _⟩
        · omega
        · omega
        · rw [getD_take (by omega)] at h2
          unfold rl at h2
          rwa [getD_drop] at h2
      rcases Nat.eq_zero_or_pos (gl l) with hg | hg
      · rw [hg, Nat.add_zero] at hw0 ⊢
        rw [hg, Nat.add_zero] at hpos
        rw [Bool.eq_false_iff]
        intro h5
        rw [hcut hpos (by omega) h5] at hw0; cases hw0
      · have := gap_last (l := l) false h hg
        have h6 : blkB (l.getD (gl l - 1) 0) = true := this
        rw [hat, show o + (gl l - 1) = o + gl l - 1 by omega, blkB_iff] at h6
        rw [Bool.eq_false_iff]
        intro h5
        rw [wordB_iff] at h5; omega
    · refine ih ?_ (by omega) ?_ h0
      · rw [← hl, List.drop_drop]; congr 1; omega
      · intro _ h7 h8
        have hlast : L.getD (o + gl l + nl l - 1) 0 = ((rl l).take (nl l)).getD (nl l - 1) 0 := by
          rw [getD_take (by omega)]
          unfold rl
          rw [getD_drop, hat]
          congr 1; omega
        have hpl : ((rl l).take (nl l)).length = nl l := by rw [List.length_take]; omega
        by_cases h12 : (tokL (rl l)).1 = 1 ∨ (tokL (rl l)).1 = 2
        · refine k4.1 h12 _ ?_
          rw [← show nl l = (tokL (rl l)).2 from rfl, ← hr2, head_drop, if_pos h7]
        · have := piece_last (p := (rl l).take (nl l)) (by rw [hkl]; exact k3) (by rw [hkl]; exact h12)
          rw [hpl, ← hlast] at this
          rw [this] at h8; cases h8
theorem cov_top {l : List UInt8} (h : (lexL l 0 0).2.1 = 0) : Cov l 0 (lexL l 0 0).1 :=
  cov_lex l l 0 0 (by simp) (Nat.zero_le _) (fun h => by omega) h
/-- A token that could stand anywhere. -/
def goodT (t : Tk) : Prop := kindL (src t) = t.k ∧ t.k ≠ 0 ∧ txt t.k (src t) = t.t
theorem cov_good (L : List UInt8) : ∀ (ts : List Tk) (a : Nat), Cov L a ts → ∀ t ∈ ts, goodT t := by
  intro ts
  induction ts with
  | nil => intro a _ t ht; cases ht
  | cons x ts ih =>
    intro a h t ht
    unfold Cov at h
    obtain ⟨h1, h2, h3, h4, h5, h6, h7, h8, h9, h10⟩ := h
    rcases List.mem_cons.1 ht with rfl | ht
    · exact ⟨h5, h6, h7⟩
    · exact ih _ h10 t ht

/-! ### other gaps -/
structure GoodGap (g : List UInt8) : Prop where
  pos : 0 < g.length
  gap : ∀ y, gapS false (g ++ y) = g.length + gapS false y
  nx : ∀ k p, okNext k p g.head?
def layT (G : Nat → List UInt8) : Nat → List Tk → List UInt8
  | _, [] => []
  | i, t :: ts => G i ++ (src t ++ layT G (i + 1) ts)
def layR (G : Nat → List UInt8) : Nat → Nat → List Tk → List Tk
  | _, _, [] => []
  | i, o, t :: ts => ⟨t.k, t.t, o + (G i).length⟩ :: layR G (i + 1) (o + (G i).length + (src t).length) ts
theorem layT_append (G : Nat → List UInt8) (xs ys : List Tk) (i : Nat) : layT G i (xs ++ ys) = layT G i xs ++ layT G (i + xs.length) ys := by
  induction xs generalizing i with
  | nil => simp [layT]
  | cons x xs ih =>
    show G i ++ (src x ++ layT G (i + 1) (xs ++ ys)) = G i ++ (src x ++ layT G (i + 1) xs) ++ layT G (i + (xs.length + 1)) ys
    rw [ih, show i + 1 + xs.length = i + (xs.length + 1) by omega]
    simp only [List.append_assoc]
theorem layR_len (G : Nat → List UInt8) (ts : List Tk) (i o : Nat) : (layR G i o ts).length = ts.length := by
  induction ts generalizing i o with
  | nil => rfl
  | cons x xs ih => unfold layR; rw [List.length_cons, ih, List.length_cons]
theorem layR_at (G : Nat → List UInt8) (ts : List Tk) (i o j : Nat) (h : j < ts.length) (h' : j < (layR G i o ts).length) : (layR G i o ts)[j] = ⟨(ts[j]).k, (ts[j]).t, o + (layT G i (ts.take j)).length + (G (i + j)).length⟩ := by
  induction ts generalizing i o j with
  | nil => simp at h
  | cons x xs ih =>
    match j with
    | 0 => simp [layR, layT]
    | j + 1 =>
      simp only [layR, List.getElem_cons_succ, List.take_succ_cons, layT, List.length_append]
      rw [ih (i + 1) _ j (by simpa using h) (by rw [layR_len]; simpa using h), show i + 1 + j = i + (j + 1) by omega]
      congr 1; omega
theorem lay_lex (G : Nat → List UInt8) (hG : ∀ i, GoodGap (G i)) (ts : List Tk) : ∀ (i o c : Nat), (∀ t ∈ ts, goodT t) → c + ts.length ≤ 3000 → lexL (layT G i ts) o c = (layR G i o ts, 0, -1) := by
  induction ts with
  | nil => intro i o c _ _; exact lex_end (Nat.le_of_eq rfl) o c
  | cons t ts ih =>
    intro i o c hg hc
    rw [List.length_cons] at hc
    obtain ⟨k1, k2, k3⟩ := hg t (List.mem_cons_self ..)
    obtain ⟨h0, _, hb, h37, _, _⟩ := kind_head (p := src t) (by rw [k1]; exact k2)
    obtain ⟨l, hl⟩ : ∃ l, l = layT G i (t :: ts) := ⟨_, rfl⟩
    have hl2 : l = G i ++ (src t ++ layT G (i + 1) ts) := hl
    have hgs : gl l = (G i).length := by
      unfold gl
      rw [hl2, (hG i).gap]
      match h : src t, h0, hb, h37 with
      | b :: r, _, hb, h37 => rw [List.cons_append, gap_zero (by simpa using hb) (by simpa using h37)]; rfl
    have hrl : rl l = src t ++ layT G (i + 1) ts := by unfold rl; rw [hgs, hl2, List.drop_left' rfl]
    have htk : tokL (rl l) = (t.k, (src t).length) := by
      rw [hrl]
      have ht : (src t ++ layT G (i + 1) ts).take (src t).length = src t := List.take_left' rfl
      have hd : (src t ++ layT G (i + 1) ts).drop (src t).length = layT G (i + 1) ts := List.drop_left' rfl
      have := piece_tok (l := src t ++ layT G (i + 1) ts) (n := (src t).length) (by rw [List.length_append]; omega) (by rw [ht, k1]; exact k2) (by
        rw [ht, hd]
        cases ts with
        | nil => exact okNext_none _ _
        | cons x xs =>
          have e : (layT G (i + 1) (x :: xs)).head? = (G (i + 1)).head? := by
            unfold layT
            have := (hG (i + 1)).pos
            match h : G (i + 1), this with
            | b :: r, _ => rfl
          rw [e]; exact (hG (i + 1)).nx _ _)
      rw [this, ht, k1]
    have hnl : nl l = (src t).length := by unfold nl; rw [htk]
    have hlt : gl l < l.length := by rw [hgs, hl2, List.length_append, List.length_append]; omega
    have htk2 : tk l o = ⟨t.k, t.t, o + (G i).length⟩ := by
      unfold tk
      rw [hnl, htk, hgs, hrl, List.take_left' rfl]
      simp only
      rw [k3]
    have hd : l.drop (gl l + nl l) = layT G (i + 1) ts := by
      rw [hgs, hnl, hl2, ← List.append_assoc, List.drop_left' (by rw [List.length_append])]
    rw [← hl, lex_cons hlt (by omega) (by omega), htk2, hd, hgs, hnl, ih (i + 1) _ (c + 1) (fun x hx => hg x (List.mem_cons_of_mem _ hx)) (by omega)]
    rfl

end Lx
end Go.Proofs.YtdhemkcbaoebcaaDoor
