/-
  Plain mathematics of the lexer: the tokens of a text, of two texts, of the beginnings of a text.
-/
import Derived.Test.YtdhemkcbaoebcaaDoorTok
namespace Go.Proofs.YtdhemkcbaoebcaaDoor
namespace Lx

structure Tk where
  k : Nat
  t : List UInt8
  p : Nat

def src (t : Tk) : List UInt8 := if t.k = 4 then [34] ++ t.t ++ [34] else t.t
def gl (l : List UInt8) : Nat := gapS false l
def rl (l : List UInt8) : List UInt8 := l.drop (gl l)
def nl (l : List UInt8) : Nat := (tokL (rl l)).2
def tk (l : List UInt8) (o : Nat) : Tk := ⟨(tokL (rl l)).1, txt (tokL (rl l)).1 ((rl l).take (nl l)), o + gl l⟩
def consR (t : Tk) (r : List Tk × Int × Int) : List Tk × Int × Int := (t :: r.1, r.2)
def catR (ts : List Tk) (r : List Tk × Int × Int) : List Tk × Int × Int := (ts ++ r.1, r.2)
def scan : Nat → List UInt8 → Nat → Nat → List Tk × Int × Int
  | 0, _, _, _ => ([], 0, -1)
  | f + 1, l, o, c => if l.length ≤ gl l then ([], 0, -1) else if c = 3000 then ([], 2, ((o + gl l : Nat) : Int)) else if nl l = 0 then ([], 30, ((o + gl l : Nat) : Int))
    else consR (tk l o) (scan f (l.drop (gl l + nl l)) (o + gl l + nl l) (c + 1))
theorem scan_more (f f' : Nat) (l : List UInt8) (o c : Nat) (h : l.length < f) (h' : l.length < f') : scan f l o c = scan f' l o c := by
  induction f generalizing f' l o c with
  | zero => omega
  | succ f ih =>
    match f', h' with
    | f' + 1, h' =>
      unfold scan
      split
      · rfl
      · split
        · rfl
        · split
          · rfl
          · rename_i h1 _ h2
            have := gapS_le false l
            have : gl l < l.length := by omega
            rw [ih f' _ _ _ (by rw [List.length_drop]; omega) (by rw [List.length_drop]; omega)]
def lexL (l : List UInt8) (o c : Nat) : List Tk × Int × Int := scan (l.length + 1) l o c
theorem lexL_eq (l : List UInt8) (o c : Nat) : lexL l o c = if l.length ≤ gl l then ([], 0, -1) else if c = 3000 then ([], 2, ((o + gl l : Nat) : Int)) else if nl l = 0 then ([], 30, ((o + gl l : Nat) : Int))
    else consR (tk l o) (lexL (l.drop (gl l + nl l)) (o + gl l + nl l) (c + 1)) := by
  unfold lexL
  conv => lhs; unfold scan
  split
  · rfl
  · split
    · rfl
    · split
      · rfl
      · rename_i h1 _ h2
        rw [scan_more l.length ((l.drop (gl l + nl l)).length + 1) _ _ _ (by rw [List.length_drop]; omega) (by omega)]
theorem gl_le (l : List UInt8) : gl l ≤ l.length := gapS_le false l
theorem nl_le (l : List UInt8) : gl l + nl l ≤ l.length := by
  have h1 := gl_le l
  have h2 := tok_len (rl l)
  unfold nl
  have : (rl l).length = l.length - gl l := by unfold rl; rw [List.length_drop]
  omega
theorem lex_end {l : List UInt8} (h : l.length ≤ gl l) (o c : Nat) : lexL l o c = ([], 0, -1) := by rw [lexL_eq, if_pos h]
theorem lex_many {l : List UInt8} (h : gl l < l.length) (o : Nat) : lexL l o 3000 = ([], 2, ((o + gl l : Nat) : Int)) := by rw [lexL_eq, if_neg (by omega), if_pos rfl]
theorem lex_wrong {l : List UInt8} (h : gl l < l.length) {c : Nat} (hc : c ≠ 3000) (hn : nl l = 0) (o : Nat) : lexL l o c = ([], 30, ((o + gl l : Nat) : Int)) := by
  rw [lexL_eq, if_neg (by omega), if_neg hc, if_pos hn]
theorem lex_cons {l : List UInt8} (h : gl l < l.length) {c : Nat} (hc : c ≠ 3000) (hn : nl l ≠ 0) (o : Nat) : lexL l o c = consR (tk l o) (lexL (l.drop (gl l + nl l)) (o + gl l + nl l) (c + 1)) := by
  rw [lexL_eq, if_neg (by omega), if_neg hc, if_neg hn]
theorem lex_ind {P : List UInt8 → Nat → Nat → Prop} (h0 : ∀ l o c, l.length ≤ gl l → P l o c) (h1 : ∀ l o, gl l < l.length → P l o 3000) (h2 : ∀ l o c, gl l < l.length → c ≠ 3000 → nl l = 0 → P l o c)
    (h3 : ∀ l o c, gl l < l.length → c ≠ 3000 → nl l ≠ 0 → P (l.drop (gl l + nl l)) (o + gl l + nl l) (c + 1) → P l o c) (l : List UInt8) (o c : Nat) : P l o c := by
  obtain ⟨m, hm⟩ : ∃ m, m = l.length := ⟨_, rfl⟩
  induction m using Nat.strongRecOn generalizing l o c with
  | _ m ih =>
    by_cases e0 : l.length ≤ gl l
    · exact h0 l o c e0
    · by_cases e1 : c = 3000
      · subst e1; exact h1 l o (by omega)
      · by_cases e2 : nl l = 0
        · exact h2 l o c (by omega) e1 e2
        · exact h3 l o c (by omega) e1 e2 (ih _ (by have := nl_le l; rw [List.length_drop]; omega) _ _ _ rfl)

/-- The piece of a token. -/
theorem src_txt {p : List UInt8} {k q : Nat} (h : kindL p = k) (_h0 : k ≠ 0) : src ⟨k, txt k p, q⟩ = p := by
  unfold src txt
  split
  · rename_i h4
    have h4 : k = 4 := h4
    show [34] ++ _ ++ [34] = p
    simp only
    rcases kind_ways (p := p) (by omega) with ⟨_, h2⟩ | ⟨h1, _⟩ | ⟨h1, _, h2⟩
    · omega
    · obtain ⟨a, b, c, d, -⟩ := quot_head h1
      have e1 : p = p.take 1 ++ ((p.drop 1).take (p.length - 2) ++ (p.drop 1).drop (p.length - 2)) := by rw [List.take_append_drop, List.take_append_drop]
      have e2 : p.take 1 = [34] := by
        match p, a, c with
        | x :: r, _, c => rw [List.take_succ_cons, List.take_zero, byte_eq (b := x) (by simpa using c) (by omega)]; rfl
      have e3 : (p.drop 1).drop (p.length - 2) = [34] := by
        rw [List.drop_drop, show 1 + (p.length - 2) = p.length - 1 by omega, drop_cons (by omega), byte_eq d (by omega), List.drop_of_length_le (by omega)]; rfl
      conv => rhs; rw [e1, e2, e3]
      rw [List.append_assoc]
    · have := run_head h1; omega
  · rfl
theorem tk_src {l : List UInt8} (hn : nl l ≠ 0) (o : Nat) : src (tk l o) = (rl l).take (nl l) := by
  obtain ⟨-, h2, h3, -⟩ := tok_at (l := rl l) (by unfold nl at hn; omega)
  exact src_txt h2 h3
theorem tk_src_len {l : List UInt8} (hn : nl l ≠ 0) (o : Nat) : (src (tk l o)).length = nl l := by
  rw [tk_src hn, List.length_take]
  have := tok_len (rl l)
  unfold nl; omega

/-- How a lexing ends. -/
theorem lex_form (l : List UInt8) (o c : Nat) : (lexL l o c).2 = (0, -1) ∨ ∃ (e : Int) (j : Nat), (e = 2 ∨ e = 30) ∧ j < l.length ∧ (l.getD j 0).toNat ≠ 10 ∧ (lexL l o c).2 = (e, ((o + j : Nat) : Int)) := by
  have hb : ∀ l : List UInt8, gl l < l.length → (l.getD (gl l) 0).toNat ≠ 10 := fun l h => by
    have := (gap_end false h).1
    intro h10
    have h2 : blkB (l.getD (gapS false l) 0) = true := by rw [blkB_iff]; exact .inr (.inr (.inl h10))
    rw [h2] at this; cases this
  refine lex_ind (P := fun l o c => (lexL l o c).2 = (0, -1) ∨ ∃ (e : Int) (j : Nat), (e = 2 ∨ e = 30) ∧ j < l.length ∧ (l.getD j 0).toNat ≠ 10 ∧ (lexL l o c).2 = (e, ((o + j : Nat) : Int))) ?_ ?_ ?_ ?_ l o c
  · intro l o c h; rw [lex_end h]; exact .inl rfl
  · intro l o h; rw [lex_many h]; exact .inr ⟨2, gl l, .inl rfl, h, hb l h, rfl⟩
  · intro l o c h hc hn; rw [lex_wrong h hc hn]; exact .inr ⟨30, gl l, .inr rfl, h, hb l h, rfl⟩
  · intro l o c h hc hn ih
    rw [lex_cons h hc hn]
    rcases ih with h1 | ⟨e, j, he, hj, h10, h1⟩
    · exact .inl h1
    · refine .inr ⟨e, gl l + nl l + j, he, ?_, ?_, ?_⟩
      · rw [List.length_drop] at hj; omega
      · rwa [getD_drop] at h10
      · show (lexL _ _ _).2 = _
        rw [h1]
        congr 1
        omega
theorem lex_count (l : List UInt8) (o c : Nat) : (c ≤ 3000 → c + (lexL l o c).1.length ≤ 3000) ∧ (lexL l o c).1.length ≤ l.length := by
  refine lex_ind (P := fun l o c => (c ≤ 3000 → c + (lexL l o c).1.length ≤ 3000) ∧ (lexL l o c).1.length ≤ l.length) ?_ ?_ ?_ ?_ l o c
  · intro l o c h; rw [lex_end h]; exact ⟨fun h => h, Nat.zero_le _⟩
  · intro l o h; rw [lex_many h]; exact ⟨fun h => h, Nat.zero_le _⟩
  · intro l o c h hc hn; rw [lex_wrong h hc hn]; exact ⟨fun h => h, Nat.zero_le _⟩
  · intro l o c h hc hn ih
    rw [lex_cons h hc hn]
    obtain ⟨h1, h2⟩ := ih
    rw [List.length_drop] at h2
    show (_ → c + (_ :: (lexL _ _ _).1).length ≤ 3000) ∧ (_ :: (lexL _ _ _).1).length ≤ _
    rw [List.length_cons]
    exact ⟨fun h => by have := h1 (by omega); omega, by omega⟩
theorem lex_pos (l : List UInt8) (o c : Nat) : ∀ t ∈ (lexL l o c).1, o ≤ t.p := by
  refine lex_ind (P := fun l o c => ∀ t ∈ (lexL l o c).1, o ≤ t.p) ?_ ?_ ?_ ?_ l o c
  · intro l o c h; rw [lex_end h]; intro t ht; cases ht
  · intro l o h; rw [lex_many h]; intro t ht; cases ht
  · intro l o c h hc hn; rw [lex_wrong h hc hn]; intro t ht; cases ht
  · intro l o c h hc hn ih
    rw [lex_cons h hc hn]
    intro t ht
    rcases List.mem_cons.1 ht with rfl | ht
    · exact Nat.le_add_right _ _
    · have := ih t ht; omega

/-- What lies behind a gap's beginning. -/
theorem lex_skip {l : List UInt8} {k : Nat} (hk : k ≤ l.length) (h : gl l = k + gl (l.drop k)) (o c : Nat) : lexL l o c = lexL (l.drop k) (o + k) c := by
  have hr : rl (l.drop k) = rl l := by unfold rl; rw [List.drop_drop, h]
  have hn : nl (l.drop k) = nl l := by unfold nl; rw [hr]
  have ht : tk (l.drop k) (o + k) = tk l o := by
    unfold tk; rw [hr, hn, h]
    congr 1; omega
  rw [lexL_eq l, lexL_eq (l.drop k), ht, hn, List.drop_drop, List.length_drop]
  by_cases h0 : l.length ≤ gl l
  · rw [if_pos h0, if_pos (by omega)]
  · rw [if_neg h0, if_neg (show ¬ l.length - k ≤ gl (l.drop k) by omega)]
    rw [show o + k + gl (l.drop k) = o + gl l by omega, show k + (gl (l.drop k) + nl l) = gl l + nl l by omega]

/-- Two texts with a line feed between. -/
theorem lex_lf (a b : List UInt8) (o c : Nat) : lexL (a ++ 10 :: b) o c = if (lexL a o c).2.1 = 0 then catR (lexL a o c).1 (lexL b (o + a.length + 1) (c + (lexL a o c).1.length)) else lexL a o c := by
  have step : ∀ a : List UInt8, gl a < a.length → gl (a ++ 10 :: b) = gl a ∧ gl (a ++ 10 :: b) < (a ++ 10 :: b).length ∧ nl (a ++ 10 :: b) = nl a ∧ (∀ o, tk (a ++ 10 :: b) o = tk a o) ∧ (a ++ 10 :: b).drop (gl a + nl a) = a.drop (gl a + nl a) ++ 10 :: b := by
    intro a h
    have e1 : gl (a ++ 10 :: b) = gl a := gap_more false h _
    have e2 : rl (a ++ 10 :: b) = rl a ++ 10 :: b := by unfold rl; rw [e1, List.drop_append_of_le_length (by omega)]
    have e3 : tokL (rl (a ++ 10 :: b)) = tokL (rl a) := by rw [e2, tok_lf]
    have e4 : nl (a ++ 10 :: b) = nl a := by unfold nl; rw [e3]
    refine ⟨e1, ?_, e4, fun o => ?_, ?_⟩
    · rw [e1, List.length_append]; omega
    · unfold tk
      rw [e3, e4, e1, e2, List.take_append_of_le_length (by have := tok_len (rl a); unfold nl; omega)]
    · rw [List.drop_append_of_le_length (nl_le a)]
  refine lex_ind (P := fun a o c => lexL (a ++ 10 :: b) o c = if (lexL a o c).2.1 = 0 then catR (lexL a o c).1 (lexL b (o + a.length + 1) (c + (lexL a o c).1.length)) else lexL a o c) ?_ ?_ ?_ ?_ a o c
  · intro a o c h
    have hg : gl (a ++ 10 :: b) = a.length + 1 + gl b := gap_lf false a b (by have := gl_le a; unfold gl at h this; omega)
    have hd : (a ++ 10 :: b).drop (a.length + 1) = b := by
      rw [show a ++ 10 :: b = (a ++ [10]) ++ b by simp, List.drop_left' (by simp)]
    rw [lex_end h, lex_skip (k := a.length + 1) (by simp) (by rw [hd]; exact hg), hd, if_pos rfl]
    rfl
  · intro a o h
    obtain ⟨h1, h2, h3, h4, h5⟩ := step a h
    rw [lex_many h, lex_many h2, h1, if_neg (show ¬ (2 : Int) = 0 by decide)]
  · intro a o c h hc hn
    obtain ⟨h1, h2, h3, h4, h5⟩ := step a h
    rw [lex_wrong h hc hn, lex_wrong h2 hc (by rw [h3]; exact hn), h1, if_neg (show ¬ (30 : Int) = 0 by decide)]
  · intro a o c h hc hn ih
    obtain ⟨h1, h2, h3, h4, h5⟩ := step a h
    rw [lex_cons h hc hn, lex_cons h2 hc (by rw [h3]; exact hn), h1, h3, h4, h5, ih]
    have hle := nl_le a
    by_cases h0 : (lexL (a.drop (gl a + nl a)) (o + gl a + nl a) (c + 1)).2.1 = 0
    · rw [if_pos h0, if_pos (show (consR _ _).2.1 = 0 from h0)]
      unfold consR catR
      simp only [List.cons_append, List.length_cons, List.length_drop]
      rw [show o + gl a + nl a + (a.length - (gl a + nl a)) + 1 = o + a.length + 1 by omega, show c + 1 + (lexL (a.drop (gl a + nl a)) (o + gl a + nl a) (c + 1)).1.length = c + ((lexL (a.drop (gl a + nl a)) (o + gl a + nl a) (c + 1)).1.length + 1) by omega]
    · rw [if_neg h0, if_neg (show ¬ (consR _ _).2.1 = 0 from h0)]

def moved (d : Nat) (t : Tk) : Tk := ⟨t.k, t.t, t.p + d⟩
/-- From another offset on, and behind other tokens. -/
theorem lex_shift (d : Nat) (l : List UInt8) (o c : Nat) : ∀ c', (lexL l o c).2.1 = 0 → c' ≤ 3000 →
    (c' + (lexL l o c).1.length ≤ 3000 → lexL l (o + d) c' = ((lexL l o c).1.map (moved d), 0, -1)) ∧ (3000 < c' + (lexL l o c).1.length → (lexL l (o + d) c').2.1 = 2) := by
  refine lex_ind (P := fun l o c => ∀ c', (lexL l o c).2.1 = 0 → c' ≤ 3000 → (c' + (lexL l o c).1.length ≤ 3000 → lexL l (o + d) c' = ((lexL l o c).1.map (moved d), 0, -1)) ∧ (3000 < c' + (lexL l o c).1.length → (lexL l (o + d) c').2.1 = 2)) ?_ ?_ ?_ ?_ l o c
  · intro l o c h c' _ hc'
    rw [lex_end h, lex_end h]
    exact ⟨fun _ => rfl, fun h => by simp at h; omega⟩
  · intro l o h c' h0; rw [lex_many h] at h0; exact absurd h0 (show ¬ (2 : Int) = 0 by decide)
  · intro l o c h hc hn c' h0; rw [lex_wrong h hc hn] at h0; exact absurd h0 (show ¬ (30 : Int) = 0 by decide)
  · intro l o c h hc hn ih c' h0 hc'
    rw [lex_cons h hc hn] at h0 ⊢
    have ht : tk l (o + d) = moved d (tk l o) := by unfold tk moved; congr 1; simp only; omega
    show (c' + (_ :: (lexL _ _ _).1).length ≤ 3000 → _ = ((_ :: (lexL _ _ _).1).map _, 0, -1)) ∧ (3000 < c' + (_ :: (lexL _ _ _).1).length → _)
    rw [List.length_cons, List.map_cons]
    by_cases h3 : c' = 3000
    · subst h3
      exact ⟨fun h => by omega, fun _ => by rw [lex_many h]⟩
    · obtain ⟨i1, i2⟩ := ih (c' + 1) h0 (by omega)
      rw [show o + gl l + nl l + d = o + d + gl l + nl l by omega] at i1 i2
      rw [lex_cons h h3 hn, ht]
      exact ⟨fun h => by rw [i1 (by omega)]; rfl, fun h => i2 (by omega)⟩

/-- What the beginning of a text keeps. -/
theorem take_step {l : List UInt8} (h : gl l < l.length) (hn : nl l ≠ 0) {j : Nat} (hj : gl l + nl l ≤ j) (o : Nat) :
    gl (l.take j) = gl l ∧ gl (l.take j) < (l.take j).length ∧ nl (l.take j) = nl l ∧ tk (l.take j) o = tk l o ∧ (l.take j).drop (gl l + nl l) = (l.drop (gl l + nl l)).take (j - (gl l + nl l)) := by
  have e1 : gl (l.take j) = gl l := by unfold gl at *; rw [gap_take]; omega
  have e2 : rl (l.take j) = (rl l).take (j - gl l) := by unfold rl; rw [e1, List.drop_take]
  have e3 : tokL (rl (l.take j)) = tokL (rl l) := by
    rw [e2]; exact tok_take (by unfold nl at hn; omega) (by unfold nl at hj; omega)
  have e4 : nl (l.take j) = nl l := by unfold nl; rw [e3]
  refine ⟨e1, ?_, e4, ?_, ?_⟩
  · rw [e1, List.length_take]; omega
  · unfold tk
    rw [e3, e4, e1, e2, List.take_take, Nat.min_eq_left (by omega)]
  · rw [List.drop_take]
/-- The text before an error. -/
theorem lex_upto (l : List UInt8) (o c : Nat) : ∀ (e : Int) (j : Nat), e ≠ 0 → (lexL l o c).2 = (e, ((o + j : Nat) : Int)) → lexL (l.take j) o c = ((lexL l o c).1, 0, -1) := by
  have cut : ∀ (l : List UInt8) o c, gl l < l.length → lexL (l.take (gl l)) o c = ([], 0, -1) := by
    intro l o c h
    refine lex_end ?_ o c
    unfold gl at *
    rw [gap_take, List.length_take, Nat.min_self]; exact Nat.min_le_left _ _
  refine lex_ind (P := fun l o c => ∀ (e : Int) (j : Nat), e ≠ 0 → (lexL l o c).2 = (e, ((o + j : Nat) : Int)) → lexL (l.take j) o c = ((lexL l o c).1, 0, -1)) ?_ ?_ ?_ ?_ l o c
  · intro l o c h e j he h1; rw [lex_end h] at h1; exact absurd (Prod.mk.inj h1).1.symm he
  · intro l o h e j he h1
    rw [lex_many h] at h1 ⊢
    obtain rfl : j = gl l := by have := (Prod.mk.inj h1).2; omega
    exact cut l o _ h
  · intro l o c h hc hn e j he h1
    rw [lex_wrong h hc hn] at h1 ⊢
    obtain rfl : j = gl l := by have := (Prod.mk.inj h1).2; omega
    exact cut l o _ h
  · intro l o c h hc hn ih e j he h1
    rw [lex_cons h hc hn] at h1 ⊢
    have h1 : (lexL (l.drop (gl l + nl l)) (o + gl l + nl l) (c + 1)).2 = (e, ((o + j : Nat) : Int)) := h1
    have hj : gl l + nl l ≤ j := by
      rcases lex_form (l.drop (gl l + nl l)) (o + gl l + nl l) (c + 1) with h2 | ⟨e', j', -, -, -, h2⟩
      · rw [h2] at h1; exact absurd (Prod.mk.inj h1).1.symm he
      · rw [h2] at h1; have := (Prod.mk.inj h1).2; omega
    obtain ⟨t1, t2, t3, t4, t5⟩ := take_step h hn hj o
    rw [lex_cons t2 hc (by rw [t3]; exact hn), t1, t3, t4, t5]
    have := ih e (j - (gl l + nl l)) he (by rw [h1]; congr 1; omega)
    rw [this]; rfl
/-- The text up to the end of a token. -/
theorem lex_prefix (l : List UInt8) (o c : Nat) : ∀ (i : Nat) (hi : i < (lexL l o c).1.length) (j : Nat), o + j = ((lexL l o c).1[i]).p + (src ((lexL l o c).1[i])).length → lexL (l.take j) o c = ((lexL l o c).1.take (i + 1), 0, -1) := by
  refine lex_ind (P := fun l o c => ∀ (i : Nat) (hi : i < (lexL l o c).1.length) (j : Nat), o + j = ((lexL l o c).1[i]).p + (src ((lexL l o c).1[i])).length → lexL (l.take j) o c = ((lexL l o c).1.take (i + 1), 0, -1)) ?_ ?_ ?_ ?_ l o c
  · intro l o c h i hi; exfalso; rw [lex_end h] at hi; simp at hi
  · intro l o h i hi; exfalso; rw [lex_many h] at hi; simp at hi
  · intro l o c h hc hn i hi; exfalso; rw [lex_wrong h hc hn] at hi; simp at hi
  · intro l o c h hc hn ih i hi j hj
    have e : (lexL l o c).1 = tk l o :: (lexL (l.drop (gl l + nl l)) (o + gl l + nl l) (c + 1)).1 := by rw [lex_cons h hc hn]; rfl
    match i with
    | 0 =>
      have hj : o + j = o + gl l + nl l := by
        simp only [e, List.getElem_cons_zero] at hj
        rw [tk_src_len hn] at hj
        exact hj
      obtain rfl : j = gl l + nl l := by omega
      obtain ⟨t1, t2, t3, t4, t5⟩ := take_step h hn (Nat.le_refl _) o
      rw [lex_cons t2 hc (by rw [t3]; exact hn), t1, t3, t4, t5, Nat.sub_self, List.take_zero, lex_end (Nat.le_of_eq (by rfl)), e]
      rfl
    | i + 1 =>
      rw [e, List.length_cons] at hi
      have hi' : i < (lexL (l.drop (gl l + nl l)) (o + gl l + nl l) (c + 1)).1.length := by omega
      simp only [e, List.getElem_cons_succ] at hj
      have hp := lex_pos (l.drop (gl l + nl l)) (o + gl l + nl l) (c + 1) _ (List.getElem_mem hi')
      have hj2 : gl l + nl l ≤ j := by omega
      obtain ⟨t1, t2, t3, t4, t5⟩ := take_step h hn hj2 o
      rw [lex_cons t2 hc (by rw [t3]; exact hn), t1, t3, t4, t5, ih i hi' (j - (gl l + nl l)) (by omega), e]
      rfl

end Lx
end Go.Proofs.YtdhemkcbaoebcaaDoor
