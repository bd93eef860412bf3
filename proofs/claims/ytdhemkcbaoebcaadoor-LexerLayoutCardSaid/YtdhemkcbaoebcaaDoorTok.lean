/-
  Plain mathematics of tokens: where a token ends, and which one it is, as the document says it.
-/
import Derived.Test.YtdhemkcbaoebcaaDoorLx
namespace Go.Proofs.YtdhemkcbaoebcaaDoor
namespace Lx

theorem getD_take {l : List UInt8} {n i : Nat} (h : i < n) : (l.take n).getD i 0 = l.getD i 0 := by
  rw [List.getD, List.getD, List.getElem?_take_of_lt h]
theorem getD_drop (l : List UInt8) (n i : Nat) : (l.drop n).getD i 0 = l.getD (n + i) 0 := by
  rw [List.getD, List.getD, List.getElem?_drop]
theorem drop_cons {l : List UInt8} {n : Nat} (h : n < l.length) : l.drop n = l.getD n 0 :: l.drop (n + 1) := by
  rw [List.drop_eq_getElem_cons h, List.getD, List.getElem?_eq_getElem h]; rfl
theorem head_drop (l : List UInt8) (n : Nat) : (l.drop n).head? = if n < l.length then some (l.getD n 0) else none := by
  split
  · rename_i h; rw [drop_cons h]; rfl
  · rename_i h; rw [List.drop_of_length_le (by omega)]; rfl
theorem all_take {p : UInt8 → Bool} {l : List UInt8} {n : Nat} (hn : n ≤ l.length) : (l.take n).all p = true ↔ ∀ i, i < n → p (l.getD i 0) = true := by
  rw [List.all_eq_true]
  constructor
  · intro h i hi
    have := h ((l.take n)[i]'(by rw [List.length_take]; omega)) (List.getElem_mem _)
    rw [List.getElem_take] at this
    rwa [List.getD, List.getElem?_eq_getElem (by omega)]
  · intro h x hx
    obtain ⟨i, hi, rfl⟩ := List.mem_iff_getElem.1 hx
    rw [List.length_take] at hi
    have := h i (by omega)
    rw [List.getElem_take]
    rwa [List.getD, List.getElem?_eq_getElem (by omega)] at this
theorem all_iff {p : UInt8 → Bool} {l : List UInt8} : l.all p = true ↔ ∀ i, i < l.length → p (l.getD i 0) = true := by
  have := all_take (p := p) (l := l) (Nat.le_refl _)
  rwa [List.take_length] at this
theorem all_no {p : UInt8 → Bool} {l : List UInt8} {i : Nat} (hi : i < l.length) (h : p (l.getD i 0) = false) : l.all p = false := by
  rw [Bool.eq_false_iff]
  intro h2
  rw [all_iff.1 h2 i hi] at h; cases h

/-- A symbol's first byte. -/
theorem sym_head {p : List UInt8} (h : symB p = true) : 0 < p.length ∧ p.length ≤ 2 ∧ wordB (p.getD 0 0) = false ∧ (p.getD 0 0).toNat ≠ 34 ∧ blkB (p.getD 0 0) = false ∧ (p.getD 0 0).toNat ≠ 37 ∧ ∀ b ∈ p, b.toNat ≠ 10 := by
  unfold symB syms at h
  rw [List.contains_iff_mem] at h
  simp only [List.mem_cons, List.not_mem_nil, or_false] at h
  rcases h with rfl | rfl | rfl | rfl | rfl | rfl | rfl | rfl | rfl | rfl | rfl | rfl | rfl <;> decide
theorem quot_head {p : List UInt8} (h : quotB p = true) : 2 ≤ p.length ∧ p.length ≤ 202 ∧ (p.getD 0 0).toNat = 34 ∧ (p.getD (p.length - 1) 0).toNat = 34 ∧ ∀ i, 1 ≤ i → i + 1 < p.length → quoB (p.getD i 0) = true := by
  unfold quotB at h
  simp only [Bool.and_eq_true, decide_eq_true_eq] at h
  obtain ⟨⟨⟨⟨h1, h2⟩, h3⟩, h4⟩, h5⟩ := h
  refine ⟨h1, h2, h3, h4, fun i hi hi2 => ?_⟩
  have := (all_take (by rw [List.length_drop]; omega)).1 h5 (i - 1) (by omega)
  rwa [getD_drop, show 1 + (i - 1) = i by omega] at this
theorem quot_mk {p : List UInt8} (h1 : 2 ≤ p.length) (h2 : p.length ≤ 202) (h3 : (p.getD 0 0).toNat = 34) (h4 : (p.getD (p.length - 1) 0).toNat = 34) (h5 : ∀ i, 1 ≤ i → i + 1 < p.length → quoB (p.getD i 0) = true) : quotB p = true := by
  unfold quotB
  simp only [Bool.and_eq_true, decide_eq_true_eq]
  refine ⟨⟨⟨⟨h1, h2⟩, h3⟩, h4⟩, (all_take (by rw [List.length_drop]; omega)).2 fun i hi => ?_⟩
  rw [getD_drop]
  exact h5 (1 + i) (by omega) (by omega)
theorem run_head {p : List UInt8} (h : runK p ≠ 0) : p.all wordB = true ∧ 0 < p.length ∧ (p.getD 0 0).toNat ≠ 95 ∧ ((runK p = 2 ∧ p.all digB = true ∧ p.length ≤ 8) ∨ (runK p = 1 ∧ p.all digB = false ∧ p.length ≤ 20)) := by
  unfold runK at h ⊢
  split at h
  · exact absurd rfl h
  · rename_i h1
    split at h
    · exact absurd rfl h
    · rename_i h2
      rw [Bool.not_eq_false] at h1
      refine ⟨h1, by omega, by omega, ?_⟩
      rw [if_neg (by rw [h1]; simp), if_neg h2]
      split at h
      · rename_i h3
        rw [if_pos h3]; exact .inl ⟨rfl, h3⟩
      · rename_i h3
        rw [if_neg h3]
        split at h
        · rename_i h4
          rw [if_pos h4]; exact .inr ⟨rfl, h4⟩
        · exact absurd rfl h
theorem run_two {p : List UInt8} (h1 : p.all wordB = true) (h0 : 0 < p.length) (h95 : (p.getD 0 0).toNat ≠ 95) (hd : p.all digB = true) (h8 : p.length ≤ 8) : runK p = 2 := by
  unfold runK
  rw [if_neg (by rw [h1]; simp), if_neg (by omega), if_pos ⟨hd, h8⟩]
theorem run_one {p : List UInt8} (h1 : p.all wordB = true) (h0 : 0 < p.length) (h95 : (p.getD 0 0).toNat ≠ 95) (hd : p.all digB = false) (h8 : p.length ≤ 20) : runK p = 1 := by
  unfold runK
  rw [if_neg (by rw [h1]; simp), if_neg (by omega), if_neg (by rw [hd]; simp), if_pos ⟨hd, h8⟩]
/-- A piece of words is no symbol and no text. -/
theorem word_piece {p : List UInt8} (h : wordB (p.getD 0 0) = true) : kindL p = runK p := by
  unfold kindL
  rw [if_neg, if_neg]
  · intro hq
    have := (quot_head hq).2.2.1
    rw [wordB_iff] at h; omega
  · intro hq
    rw [(sym_head hq).2.2.1] at h; cases h
theorem quot_piece {p : List UInt8} (h : quotB p = true) : kindL p = 4 := by
  unfold kindL
  rw [if_neg, if_pos h]
  intro hq
  exact (sym_head hq).2.2.2.1 (quot_head h).2.2.1
theorem sym_piece {p : List UInt8} (h : symB p = true) : kindL p = 3 := by unfold kindL; rw [if_pos h]
theorem kind_ways {p : List UInt8} (h : kindL p ≠ 0) : (symB p = true ∧ kindL p = 3) ∨ (quotB p = true ∧ kindL p = 4) ∨ (runK p ≠ 0 ∧ wordB (p.getD 0 0) = true ∧ kindL p = runK p) := by
  unfold kindL at h ⊢
  split at h
  · rename_i h1; rw [if_pos h1]; exact .inl ⟨h1, rfl⟩
  · rename_i h1
    rw [if_neg h1]
    split at h
    · rename_i h2; rw [if_pos h2]; exact .inr (.inl ⟨h2, rfl⟩)
    · rename_i h2
      rw [if_neg h2]
      obtain ⟨h3, h4, -⟩ := run_head h
      exact .inr (.inr ⟨h, all_iff.1 h3 0 h4, rfl⟩)
/-- What a piece is not: empty, or a gap's beginning; it has no line feed, and at most 202 bytes. -/
theorem kind_head {p : List UInt8} (h : kindL p ≠ 0) : 0 < p.length ∧ p.length ≤ 202 ∧ blkB (p.getD 0 0) = false ∧ (p.getD 0 0).toNat ≠ 37 ∧ (∀ i, i < p.length → (p.getD i 0).toNat ≠ 10) ∧ kindL p ≤ 4 := by
  rcases kind_ways h with ⟨h1, h2⟩ | ⟨h1, h2⟩ | ⟨h1, hw, h2⟩
  · obtain ⟨a, b, c, d, e, f, g⟩ := sym_head h1
    refine ⟨a, by omega, e, f, fun i hi => ?_, by omega⟩
    rw [List.getD, List.getElem?_eq_getElem hi]
    exact g _ (List.getElem_mem _)
  · obtain ⟨a, b, c, d, e⟩ := quot_head h1
    refine ⟨by omega, b, ?_, by omega, fun i hi => ?_, by omega⟩
    · rw [Bool.eq_false_iff]; intro h; rw [blkB_iff] at h; omega
    · rcases Nat.eq_zero_or_pos i with rfl | h0
      · omega
      · by_cases hl : i + 1 < p.length
        · have := (quoB_iff _).1 (e i h0 hl); omega
        · obtain rfl : i = p.length - 1 := by omega
          omega
  · obtain ⟨a, b, c, d⟩ := run_head h1
    refine ⟨b, by omega, ?_, ?_, fun i hi => ?_, by omega⟩
    · rw [Bool.eq_false_iff]; intro h; rw [blkB_iff] at h; rw [wordB_iff] at hw; omega
    · rw [wordB_iff] at hw; omega
    · have := (wordB_iff _).1 (all_iff.1 a i hi); omega

theorem pre_zero {p : UInt8 → Bool} {l : List UInt8} (h : p (l.getD 0 0) = false) : pre p l = 0 := by
  cases l with
  | nil => rfl
  | cons b l => rw [pre_cons, if_neg]; simpa using h
theorem hasPrefix_iff (l s : List UInt8) : Lib.hasPrefix l s = true ↔ l.take s.length = s ∧ s.length ≤ l.length := by
  rw [← Lib.hasPrefix_of_take]
  simp [Bool.and_eq_true, and_comm]
theorem symL_some {l : List UInt8} (h : 0 < symL l) : ∃ s ∈ syms, symL l = s.length ∧ l.take s.length = s ∧ s.length ≤ l.length ∧ (s = [45] → Lib.hasPrefix l [45, 62] = false) := by
  unfold symL at h ⊢
  split
  · rename_i s hs
    have h1 := List.find?_some hs
    have h2 := List.mem_of_find?_eq_some hs
    rw [hasPrefix_iff] at h1
    refine ⟨s, h2, rfl, h1.1, h1.2, fun e => ?_⟩
    subst e
    by_cases hp : Lib.hasPrefix l [45, 62] = true
    · unfold syms at hs
      rw [List.find?_cons, hp] at hs
      cases hs
    · simpa using hp
  · rename_i hs; rw [hs] at h; simp at h
theorem symL_first {l : List UInt8} {s : List UInt8} (hs : symB s = true) (h : l.take s.length = s) (hl : s.length ≤ l.length) (hn : s = [45] → (l.drop 1).head? ≠ some 62) : symL l = s.length := by
  unfold symB at hs
  rw [List.contains_iff_mem] at hs
  have e : l = s ++ l.drop s.length := by
    conv => lhs; rw [← List.take_append_drop s.length l, h]
  obtain ⟨r, hr⟩ : ∃ r, r = l.drop s.length := ⟨_, rfl⟩
  rw [← hr] at e
  have h45 : s = [45] → Lib.hasPrefix l [45, 62] = false := by
    intro e1
    have := hn e1
    subst e1
    rw [e] at this ⊢
    cases r with
    | nil => rfl
    | cons b r =>
      simp only [List.cons_append, List.nil_append, List.drop_succ_cons, List.drop_zero, List.head?_cons, ne_eq, Option.some.injEq] at this
      have h2 : ((62 : UInt8) == b) = false := by simpa using fun e => this e.symm
      simp [Lib.hasPrefix, List.isPrefixOf, h2]
  unfold syms at hs
  simp only [List.mem_cons, List.not_mem_nil, or_false] at hs
  rcases hs with rfl | rfl | rfl | rfl | rfl | rfl | rfl | rfl | rfl | rfl | rfl | rfl | rfl
  case inr.inr.inr.inr.inr.inr.inr.inr.inr.inr.inr.inr =>
    have h45 := h45 rfl
    subst e
    unfold symL syms
    rw [List.find?_cons, h45]
    simp [Lib.hasPrefix, List.isPrefixOf, List.find?]
  all_goals
    clear h45
    subst e
    simp [symL, syms, Lib.hasPrefix, List.isPrefixOf, List.find?]
theorem symL_none {l : List UInt8} (h : wordB (l.getD 0 0) = true ∨ (l.getD 0 0).toNat = 34) : symL l = 0 := by
  rcases Nat.eq_zero_or_pos (symL l) with h0 | h0
  · exact h0
  · obtain ⟨s, hs, -, ht, -, -⟩ := symL_some h0
    obtain ⟨h1, -, h2, h3, -⟩ := sym_head (p := s) (by unfold symB; rw [List.contains_iff_mem]; exact hs)
    have : s.getD 0 0 = l.getD 0 0 := by rw [← ht]; exact getD_take h1
    rw [this] at h2 h3
    rcases h with h | h
    · rw [h2] at h; cases h
    · exact absurd h h3

theorem tok_piece {l : List UInt8} {k n : Nat} (h : tokL l = (k, n)) (h0 : 0 < n) : n ≤ l.length ∧ kindL (l.take n) = k ∧ k ≠ 0 ∧ okNext k (l.take n) ((l.drop n).head?) := by
  unfold tokL at h
  have hwl := pre_le wordB l
  split at h
  · rename_i h1
    cases h
    unfold nameL at h1 ⊢
    split at h1
    · omega
    · rename_i h2
      rw [if_neg h2]
      obtain ⟨n, hn⟩ : ∃ n, n = pre wordB l := ⟨_, rfl⟩
      rw [← hn] at h1 h2 hwl ⊢
      have hw : ∀ i, i < n → wordB (l.getD i 0) = true := fun i hi => pre_at (by omega)
      have hd : pre digB l < n := by have := pre_mono (p := digB) (q := wordB) (fun _ => dig_word) l; omega
      have hlen : (l.take n).length = n := by rw [List.length_take]; omega
      have h0w : wordB ((l.take n).getD 0 0) = true := by rw [getD_take h1]; exact hw 0 h1
      refine ⟨hwl, ?_, by omega, fun _ b hb => ?_, fun e => ?_⟩
      · rw [word_piece h0w]
        refine run_one ((all_take hwl).2 hw) (by omega) (by rw [getD_take h1]; omega) (all_no (i := pre digB l) (by omega) (by rw [getD_take hd]; exact pre_stop (by omega))) (by omega)
      · rw [head_drop] at hb
        split at hb
        · cases hb
          rw [hn]; exact pre_stop (by omega)
        · cases hb
      · rw [e] at h0w; exact absurd h0w (by decide)
  · split at h
    · rename_i _ h1
      cases h
      unfold numL at h1 ⊢
      split at h1
      · omega
      · rename_i h2
        rw [if_neg h2]
        obtain ⟨n, hn⟩ : ∃ n, n = pre wordB l := ⟨_, rfl⟩
        rw [← hn] at h1 h2 hwl ⊢
        have hw : ∀ i, i < n → wordB (l.getD i 0) = true := fun i hi => pre_at (by omega)
        have hdg : ∀ i, i < n → digB (l.getD i 0) = true := fun i hi => pre_at (by omega)
        have hlen : (l.take n).length = n := by rw [List.length_take]; omega
        have h0w : wordB ((l.take n).getD 0 0) = true := by rw [getD_take h1]; exact hw 0 h1
        have h0d := (digB_iff _).1 (hdg 0 h1)
        refine ⟨hwl, ?_, by omega, fun _ b hb => ?_, fun e => ?_⟩
        · rw [word_piece h0w]
          refine run_two ((all_take hwl).2 hw) (by omega) (by rw [getD_take h1]; omega) ((all_take hwl).2 hdg) (by omega)
        · rw [head_drop] at hb
          split at hb
          · cases hb
            rw [hn]; exact pre_stop (by omega)
          · cases hb
        · rw [e] at h0w; exact absurd h0w (by decide)
    · split at h
      · rename_i _ _ h1
        cases h
        obtain ⟨s, hs, hl, ht, hle, hm⟩ := symL_some h1
        rw [hl, ht]
        have hsb : symB s = true := by unfold symB; rw [List.contains_iff_mem]; exact hs
        refine ⟨hle, sym_piece hsb, by omega, fun h => by omega, fun e => ?_⟩
        have hp := hm e
        subst e
        intro hh
        rw [show ([45] : List UInt8).length = 1 from rfl, head_drop] at hh
        split at hh
        · rename_i h1l
          have e1 : l.getD 1 0 = 62 := Option.some.inj hh
          have e0 : l.getD 0 0 = 45 := by
            have : (l.take 1).getD 0 0 = 45 := by rw [show l.take 1 = [45] from ht]; rfl
            rwa [getD_take (by omega)] at this
          rw [Bool.eq_false_iff] at hp
          apply hp
          rw [hasPrefix_iff]
          refine ⟨?_, h1l⟩
          match l, h1l, e0, e1 with
          | a :: b :: r, _, e0, e1 =>
            simp at e0 e1
            rw [e0, e1]; rfl
        · cases hh
      · split at h
        · rename_i _ _ _ h1
          cases h
          unfold quoL at h1 ⊢
          split at h1
          · omega
          · rename_i h34
            split at h1
            · omega
            · rename_i h2
              rw [if_neg h34, if_neg h2]
              rw [ne_eq, Decidable.not_not] at h34
              rw [not_or, Bool.not_eq_false, hasPrefix_iff] at h2
              obtain ⟨h200, ht, hle⟩ := h2
              obtain ⟨m, hm⟩ : ∃ m, m = pre quoB (l.drop 1) := ⟨_, rfl⟩
              have hq : ∀ i, i < m → quoB ((l.drop 1).getD i 0) = true := fun i hi => pre_at (by omega)
              rw [← hm] at h200 ht hle ⊢
              rw [List.length_drop] at hle
              simp only [List.length_cons, List.length_nil] at hle
              have hlen : (l.take (m + 2)).length = m + 2 := by rw [List.length_take]; omega
              have hlast : l.getD (1 + m) 0 = 34 := by
                have : ((l.drop (1 + m)).take 1).getD 0 0 = 34 := by rw [show (l.drop (1 + m)).take 1 = [34] from ht]; rfl
                rwa [getD_take (by omega), getD_drop, Nat.add_zero] at this
              refine ⟨by omega, quot_piece (quot_mk (by omega) (by omega) (by rw [getD_take (by omega)]; exact h34) ?_ fun i hi hi2 => ?_), by omega, fun h => by omega, fun e => ?_⟩
              · rw [hlen, getD_take (by omega), show m + 2 - 1 = 1 + m by omega, hlast]; rfl
              · rw [hlen] at hi2
                rw [getD_take (by omega)]
                have := hq (i - 1) (by omega)
                rwa [getD_drop, show 1 + (i - 1) = i by omega] at this
              · have := congrArg List.length e
                rw [hlen] at this; simp at this
        · cases h; omega

theorem tok_at {l : List UInt8} (h0 : 0 < (tokL l).2) : (tokL l).2 ≤ l.length ∧ kindL (l.take (tokL l).2) = (tokL l).1 ∧ (tokL l).1 ≠ 0 ∧ okNext (tokL l).1 (l.take (tokL l).2) ((l.drop (tokL l).2).head?) :=
  tok_piece (k := (tokL l).1) (n := (tokL l).2) (by rfl) h0

theorem piece_tok {l : List UInt8} {n : Nat} (hn : n ≤ l.length) (hk : kindL (l.take n) ≠ 0) (ho : okNext (kindL (l.take n)) (l.take n) ((l.drop n).head?)) : tokL l = (kindL (l.take n), n) := by
  have hlen : (l.take n).length = n := by rw [List.length_take]; omega
  have h0 := (kind_head hk).1
  rw [hlen] at h0
  rcases kind_ways hk with ⟨h1, h2⟩ | ⟨h1, h2⟩ | ⟨h1, hw, h2⟩
  · rw [h2]
    obtain ⟨-, -, hw, h34, -⟩ := sym_head h1
    rw [getD_take h0] at hw h34
    have hd : digB (l.getD 0 0) = false := by
      rw [Bool.eq_false_iff]; intro h; rw [dig_word h] at hw; cases hw
    have e1 : nameL l = 0 := by unfold nameL; rw [if_pos (.inr (.inl (by rw [pre_zero hw, pre_zero hd])))]
    have e2 : numL l = 0 := by
      unfold numL
      split
      · rfl
      · exact pre_zero hw
    have e3 : symL l = n := by
      have := symL_first (l := l) h1 (by rw [hlen]) (by omega) (fun e => by
        have hl := congrArg List.length e
        rw [hlen] at hl
        have hl : n = 1 := hl
        have := ho.2 e
        rwa [hl] at this)
      rw [hlen] at this; exact this
    unfold tokL
    rw [if_neg (by omega), if_neg (by omega), if_pos (by omega), e3]
  · rw [h2]
    obtain ⟨a, b, c, d, e⟩ := quot_head h1
    rw [hlen] at a b d e
    rw [getD_take h0] at c
    rw [getD_take (by omega)] at d
    have hw : wordB (l.getD 0 0) = false := by rw [Bool.eq_false_iff]; intro h; rw [wordB_iff] at h; omega
    have hd : digB (l.getD 0 0) = false := by rw [Bool.eq_false_iff]; intro h; rw [digB_iff] at h; omega
    have e1 : nameL l = 0 := by unfold nameL; rw [if_pos (.inr (.inl (by rw [pre_zero hw, pre_zero hd])))]
    have e2 : numL l = 0 := by
      unfold numL
      split
      · rfl
      · exact pre_zero hw
    have e3 : symL l = 0 := symL_none (.inr c)
    have hp : pre quoB (l.drop 1) = n - 2 := by
      refine pre_eq (by rw [List.length_drop]; omega) (fun i hi => ?_) (fun _ => ?_)
      · rw [getD_drop]
        have := e (1 + i) (by omega) (by omega)
        rwa [getD_take (by omega)] at this
      · rw [getD_drop, show 1 + (n - 2) = n - 1 by omega, Bool.eq_false_iff]
        intro h; rw [quoB_iff] at h; omega
    have e4 : quoL l = n := by
      unfold quoL
      rw [if_neg (by omega), hp, if_neg]
      · omega
      · rw [not_or, Bool.not_eq_false, hasPrefix_iff]
        refine ⟨by omega, ?_, ?_⟩
        · rw [show 1 + (n - 2) = n - 1 by omega, drop_cons (by omega), byte_eq d (by omega)]; rfl
        · rw [List.length_drop]; simp; omega
    unfold tokL
    rw [if_neg (by omega), if_neg (by omega), if_neg (by omega), if_pos (by omega), e4]
  · rw [h2] at ho ⊢
    obtain ⟨a, -, c, d⟩ := run_head h1
    have hk12 : runK (l.take n) = 1 ∨ runK (l.take n) = 2 := by omega
    have hpw : pre wordB l = n := by
      refine pre_eq hn ((all_take hn).1 a) fun hl => ?_
      exact ho.1 hk12 _ (by rw [head_drop, if_pos hl])
    rw [getD_take h0] at c
    rcases d with ⟨d1, d2, d3⟩ | ⟨d1, d2, d3⟩
    · rw [d1]
      have hpd : pre digB l = n := by
        refine pre_eq hn ((all_take hn).1 d2) fun hl => ?_
        rw [Bool.eq_false_iff]; intro h
        have := dig_word h
        have h5 := pre_stop (p := wordB) (l := l) (by omega)
        rw [hpw, this] at h5; cases h5
      have e1 : nameL l = 0 := by unfold nameL; rw [if_pos (.inr (.inl (by omega)))]
      have e2 : numL l = n := by unfold numL; rw [if_neg (by omega)]; exact hpw
      unfold tokL
      rw [if_neg (by omega), if_pos (by omega), e2]
    · rw [d1]
      have hpd : pre digB l ≠ n := by
        intro h
        rw [(all_take hn).2 fun i hi => pre_at (by omega)] at d2; cases d2
      have e1 : nameL l = n := by unfold nameL; rw [if_neg (by omega)]; exact hpw
      unfold tokL
      rw [if_pos (by omega), e1]

theorem tok_len (l : List UInt8) : (tokL l).2 ≤ l.length := by
  rcases Nat.eq_zero_or_pos (tokL l).2 with h | h
  · omega
  · exact (tok_at (l := l) h).1
theorem tok_zero {l : List UInt8} (h : (tokL l).2 = 0) : tokL l = (0, 0) := by
  unfold tokL at h ⊢
  split
  · rename_i h1; rw [if_pos h1] at h; simp at h; omega
  · rename_i h1
    rw [if_neg h1] at h
    split
    · rename_i h2; rw [if_pos h2] at h; simp at h; omega
    · rename_i h2
      rw [if_neg h2] at h
      split
      · rename_i h3; rw [if_pos h3] at h; simp at h; omega
      · rename_i h3
        rw [if_neg h3] at h
        split
        · rename_i h4; rw [if_pos h4] at h; simp at h; omega
        · rfl

/-- What stands behind a token may be cut off or be anything that does not make it longer. -/
theorem tok_local {l : List UInt8} (h0 : 0 < (tokL l).2) (y : List UInt8) (hy : okNext (tokL l).1 (l.take (tokL l).2) y.head?) : tokL (l.take (tokL l).2 ++ y) = tokL l := by
  obtain ⟨h1, h2, h3, h4⟩ := tok_at (l := l) h0
  have hlen : (l.take (tokL l).2).length = (tokL l).2 := by rw [List.length_take]; omega
  have ht : (l.take (tokL l).2 ++ y).take (tokL l).2 = l.take (tokL l).2 := List.take_left' hlen
  have hd : (l.take (tokL l).2 ++ y).drop (tokL l).2 = y := List.drop_left' hlen
  have := piece_tok (l := l.take (tokL l).2 ++ y) (n := (tokL l).2) (by rw [List.length_append]; omega) (by rw [ht, h2]; exact h3) (by rw [ht, hd, h2]; exact hy)
  rw [this, ht, h2]
theorem tok_take {l : List UInt8} (h0 : 0 < (tokL l).2) {m : Nat} (hm : (tokL l).2 ≤ m) : tokL (l.take m) = tokL l := by
  obtain ⟨h1, h2, h3, h4⟩ := tok_at (l := l) h0
  have e : l.take m = l.take (tokL l).2 ++ (l.drop (tokL l).2).take (m - (tokL l).2) := by
    conv => lhs; rw [show m = (tokL l).2 + (m - (tokL l).2) by omega, List.take_add]
  rw [e]
  refine tok_local h0 _ ?_
  rcases Nat.eq_zero_or_pos (m - (tokL l).2) with h | h
  · rw [h, List.take_zero]; exact ⟨fun _ b hb => by simp at hb, fun _ => by simp⟩
  · have : ((l.drop (tokL l).2).take (m - (tokL l).2)).head? = (l.drop (tokL l).2).head? := by
      match m - (tokL l).2, h with
      | q + 1, _ => cases l.drop (tokL l).2 <;> simp
    rw [this]; exact h4
theorem okNext_lf (k : Nat) (p : List UInt8) : okNext k p (some 10) := ⟨fun _ b hb => by cases hb; decide, fun _ => by decide⟩
theorem okNext_none (k : Nat) (p : List UInt8) : okNext k p none := ⟨fun _ b hb => by (cases hb), fun _ => by simp⟩
theorem tok_lf (l y : List UInt8) : tokL (l ++ 10 :: y) = tokL l := by
  rcases Nat.eq_zero_or_pos (tokL l).2 with h | h
  · rcases Nat.eq_zero_or_pos (tokL (l ++ 10 :: y)).2 with h' | h'
    · rw [tok_zero h, tok_zero h']
    · obtain ⟨h1, h2, h3, h4⟩ := tok_at (l := l ++ 10 :: y) h'
      have hk : kindL ((l ++ 10 :: y).take (tokL (l ++ 10 :: y)).2) ≠ 0 := by rw [h2]; exact h3
      obtain ⟨n, hn⟩ : ∃ n, n = (tokL (l ++ 10 :: y)).2 := ⟨_, rfl⟩
      rw [← hn] at h' h1 h2 h4 hk
      have hle : n ≤ l.length := by
        rcases Nat.lt_or_ge l.length n with hgt | hle
        · exfalso
          have := (kind_head hk).2.2.2.2.1 l.length (by rw [List.length_take]; omega)
          rw [getD_take hgt] at this
          simp at this
        · exact hle
      have ht : (l ++ 10 :: y).take n = l.take n := List.take_append_of_le_length hle
      rw [ht] at h2 h4 hk
      have := piece_tok (l := l) hle hk (by
        rw [h2]
        rcases Nat.lt_or_ge n l.length with hl | hl
        · rw [List.drop_append_of_le_length hle] at h4
          rw [head_drop, if_pos hl]
          rw [drop_cons hl] at h4
          exact h4
        · rw [List.drop_of_length_le hl]; exact okNext_none _ _)
      rw [this] at h
      simp at h
      omega
  · obtain ⟨h1, h2, h3, h4⟩ := tok_at (l := l) h
    have e : l ++ 10 :: y = l.take (tokL l).2 ++ (l.drop (tokL l).2 ++ 10 :: y) := by rw [← List.append_assoc, List.take_append_drop]
    rw [e]
    refine tok_local h _ ?_
    rcases Nat.lt_or_ge (tokL l).2 l.length with hl | hl
    · rw [drop_cons hl, List.cons_append]
      rw [drop_cons hl] at h4
      exact h4
    · rw [List.drop_of_length_le hl]; exact okNext_lf _ _

end Lx
end Go.Proofs.YtdhemkcbaoebcaaDoor
