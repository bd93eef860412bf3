/-
  Plain mathematics of layer 3 (the lexer): gaps, pieces, tokens, over lists of bytes. No program is named here.
-/
import Derived.Lib.Strings
import Derived.Below
namespace Go.Proofs.YtdhemkcbaoebcaaDoor
namespace Lx

def blkB (b : UInt8) : Bool := decide (b.toNat = 32) || decide (b.toNat = 9) || decide (b.toNat = 10) || decide (b.toNat = 13)
def digB (b : UInt8) : Bool := decide (48 ≤ b.toNat) && decide (b.toNat ≤ 57)
def letB (b : UInt8) : Bool := (decide (65 ≤ b.toNat) && decide (b.toNat ≤ 90)) || (decide (97 ≤ b.toNat) && decide (b.toNat ≤ 122))
def wordB (b : UInt8) : Bool := letB b || digB b || decide (b.toNat = 95)
def quoB (b : UInt8) : Bool := decide (32 ≤ b.toNat) && decide (b.toNat ≤ 126) && !decide (b.toNat = 34)
def nlfB (b : UInt8) : Bool := !decide (b.toNat = 10)

theorem blkB_iff (b : UInt8) : blkB b = true ↔ b.toNat = 32 ∨ b.toNat = 9 ∨ b.toNat = 10 ∨ b.toNat = 13 := by simp [blkB, or_assoc]
theorem digB_iff (b : UInt8) : digB b = true ↔ 48 ≤ b.toNat ∧ b.toNat ≤ 57 := by simp [digB]
theorem letB_iff (b : UInt8) : letB b = true ↔ (65 ≤ b.toNat ∧ b.toNat ≤ 90) ∨ (97 ≤ b.toNat ∧ b.toNat ≤ 122) := by simp [letB]
theorem wordB_iff (b : UInt8) : wordB b = true ↔ ((65 ≤ b.toNat ∧ b.toNat ≤ 90) ∨ (97 ≤ b.toNat ∧ b.toNat ≤ 122)) ∨ (48 ≤ b.toNat ∧ b.toNat ≤ 57) ∨ b.toNat = 95 := by simp [wordB, letB, digB, or_assoc]
theorem quoB_iff (b : UInt8) : quoB b = true ↔ 32 ≤ b.toNat ∧ b.toNat ≤ 126 ∧ b.toNat ≠ 34 := by simp [quoB, and_assoc]
theorem nlfB_iff (b : UInt8) : nlfB b = true ↔ b.toNat ≠ 10 := by simp [nlfB]
theorem dig_word {b : UInt8} (h : digB b = true) : wordB b = true := by rw [wordB_iff]; rw [digB_iff] at h; omega
theorem byte_eq {b : UInt8} {n : Nat} (h : b.toNat = n) (hn : n < 256) : b = UInt8.ofNat n := by
  apply UInt8.toNat_inj.1
  rw [h, UInt8.toNat_ofNat']; omega

/-- How many bytes at the beginning are of one sort. -/
def pre (p : UInt8 → Bool) (l : List UInt8) : Nat := (l.takeWhile p).length
theorem pre_nil (p : UInt8 → Bool) : pre p [] = 0 := rfl
theorem pre_cons (p : UInt8 → Bool) (b : UInt8) (l : List UInt8) : pre p (b :: l) = if p b = true then pre p l + 1 else 0 := by
  unfold pre; rw [List.takeWhile_cons]; split <;> simp
theorem pre_le (p : UInt8 → Bool) (l : List UInt8) : pre p l ≤ l.length := by
  induction l with
  | nil => exact Nat.le_refl _
  | cons b l ih => rw [pre_cons, List.length_cons]; split <;> omega
theorem pre_at {p : UInt8 → Bool} {l : List UInt8} {i : Nat} (h : i < pre p l) : p (l.getD i 0) = true := by
  induction l generalizing i with
  | nil => rw [pre_nil] at h; omega
  | cons b l ih =>
    rw [pre_cons] at h
    split at h
    · match i with
      | 0 => simpa
      | i + 1 => simpa using ih (by omega)
    · omega
theorem pre_stop {p : UInt8 → Bool} {l : List UInt8} (h : pre p l < l.length) : p (l.getD (pre p l) 0) = false := by
  induction l with
  | nil => simp at h
  | cons b l ih =>
    rw [pre_cons] at h ⊢
    split
    · rename_i hb
      rw [if_pos hb, List.length_cons] at h
      simpa using ih (by omega)
    · rename_i hb; simpa using hb
theorem pre_eq {p : UInt8 → Bool} {l : List UInt8} {n : Nat} (hn : n ≤ l.length) (h1 : ∀ i, i < n → p (l.getD i 0) = true) (h2 : n < l.length → p (l.getD n 0) = false) : pre p l = n := by
  rcases Nat.lt_trichotomy (pre p l) n with h | h | h
  · have := pre_stop (p := p) (l := l) (by omega)
    rw [h1 _ h] at this; cases this
  · exact h
  · have h3 := pre_at h
    have := pre_le p l
    rw [h2 (by omega)] at h3; cases h3
theorem pre_mono {p q : UInt8 → Bool} (h : ∀ b, p b = true → q b = true) (l : List UInt8) : pre p l ≤ pre q l := by
  induction l with
  | nil => exact Nat.le_refl _
  | cons b l ih =>
    rw [pre_cons, pre_cons]
    by_cases hp : p b = true
    · rw [if_pos hp, if_pos (h b hp)]; omega
    · rw [if_neg hp]; omega
theorem pre_all {p : UInt8 → Bool} {l : List UInt8} (h : pre p l = l.length) : l.all p = true := by
  rw [List.all_eq_true]
  intro x hx
  obtain ⟨i, hi, rfl⟩ := List.mem_iff_getElem.1 hx
  have := pre_at (p := p) (l := l) (i := i) (by omega)
  rwa [List.getD, List.getElem?_eq_getElem hi] at this

/-- The length of the gap at the beginning; in a comment or not. -/
def gapS : Bool → List UInt8 → Nat
  | _, [] => 0
  | false, b :: l => if blkB b = true then gapS false l + 1 else if b.toNat = 37 then gapS true l + 1 else 0
  | true, b :: l => if b.toNat = 10 then gapS false l + 1 else gapS true l + 1
theorem gapS_nil (c : Bool) : gapS c [] = 0 := by cases c <;> rfl
theorem gapS_f (b : UInt8) (l : List UInt8) : gapS false (b :: l) = if blkB b = true then gapS false l + 1 else if b.toNat = 37 then gapS true l + 1 else 0 := rfl
theorem gapS_t (b : UInt8) (l : List UInt8) : gapS true (b :: l) = if b.toNat = 10 then gapS false l + 1 else gapS true l + 1 := rfl
theorem gapS_le (c : Bool) (l : List UInt8) : gapS c l ≤ l.length := by
  induction l generalizing c with
  | nil => rw [gapS_nil]; exact Nat.le_refl _
  | cons b l ih =>
    have h1 := ih false
    have h2 := ih true
    cases c
    · rw [gapS_f, List.length_cons]; split
      · omega
      · split <;> omega
    · rw [gapS_t, List.length_cons]; split <;> omega
/-- A comment: to before the line feed, then on. -/
theorem gapS_comment (l : List UInt8) : gapS true l = pre nlfB l + gapS false (l.drop (pre nlfB l)) := by
  induction l with
  | nil => rfl
  | cons b l ih =>
    rw [gapS_t, pre_cons]
    by_cases h : b.toNat = 10
    · have hn : ¬ nlfB b = true := by rw [nlfB_iff]; omega
      have hb : blkB b = true := by rw [blkB_iff]; omega
      rw [if_pos h, if_neg hn, List.drop_zero, gapS_f, if_pos hb]; omega
    · have hn : nlfB b = true := by rw [nlfB_iff]; omega
      rw [if_neg h, if_pos hn, List.drop_succ_cons, ih]; omega
theorem gap_percent {b : UInt8} (h : b.toNat = 37) (l : List UInt8) : gapS false (b :: l) = pre nlfB (b :: l) + gapS false ((b :: l).drop (pre nlfB (b :: l))) := by
  have hn : nlfB b = true := by rw [nlfB_iff]; omega
  have hb : ¬ blkB b = true := by rw [blkB_iff]; omega
  rw [gapS_f, if_neg hb, if_pos h, pre_cons, if_pos hn, List.drop_succ_cons, gapS_comment]; omega
/-- Behind a gap stands something else. -/
theorem gap_end {l : List UInt8} (c : Bool) (h : gapS c l < l.length) : blkB (l.getD (gapS c l) 0) = false ∧ (l.getD (gapS c l) 0).toNat ≠ 37 := by
  induction l generalizing c with
  | nil => simp at h
  | cons b l ih =>
    rw [List.length_cons] at h
    cases c
    · rw [gapS_f] at h ⊢
      split
      · rename_i hb
        rw [if_pos hb] at h
        simpa using ih false (by omega)
      · rename_i hb
        rw [if_neg hb] at h
        split
        · rename_i h37
          rw [if_pos h37] at h
          simpa using ih true (by omega)
        · rename_i h37
          simpa using ⟨by simpa using hb, h37⟩
    · rw [gapS_t] at h ⊢
      split
      · rename_i hb
        rw [if_pos hb] at h
        simpa using ih false (by omega)
      · rename_i hb
        rw [if_neg hb] at h
        simpa using ih true (by omega)
theorem gap_zero {b : UInt8} (h1 : blkB b = false) (h2 : b.toNat ≠ 37) (l : List UInt8) : gapS false (b :: l) = 0 := by
  rw [gapS_f, if_neg (by rw [h1]; simp), if_neg h2]
/-- The last byte of a gap that ends before the text does is a blank. -/
theorem gap_last {l : List UInt8} (c : Bool) (h : gapS c l < l.length) (h0 : 0 < gapS c l) : blkB (l.getD (gapS c l - 1) 0) = true := by
  induction l generalizing c with
  | nil => simp at h
  | cons b l ih =>
    rw [List.length_cons] at h
    have key : ∀ d : Bool, gapS d l < l.length → (d = true ∨ blkB b = true) → blkB ((b :: l).getD (gapS d l + 1 - 1) 0) = true := by
      intro d hd hc
      rcases Nat.eq_zero_or_pos (gapS d l) with h1 | h1
      · rw [h1]
        rcases hc with rfl | hc
        · exfalso
          cases l with
          | nil => simp at hd
          | cons x l => rw [gapS_t] at h1; split at h1 <;> omega
        · simpa using hc
      · have := ih d hd h1
        rw [show gapS d l + 1 - 1 = (gapS d l - 1) + 1 by omega, List.getD_cons_succ]
        exact this
    cases c
    · rw [gapS_f] at h h0 ⊢
      split
      · rename_i hb
        rw [if_pos hb] at h
        exact key false (by omega) (.inr hb)
      · rename_i hb
        rw [if_neg hb] at h h0
        split
        · rename_i h37
          rw [if_pos h37] at h
          exact key true (by omega) (.inl rfl)
        · rename_i h37
          rw [if_neg h37] at h0; omega
    · rw [gapS_t] at h h0 ⊢
      split
      · rename_i hb
        rw [if_pos hb] at h
        exact key false (by omega) (.inr (by rw [blkB_iff]; omega))
      · rename_i hb
        rw [if_neg hb] at h
        exact key true (by omega) (.inl rfl)
/-- A text whose gap ends within it: what follows does not matter. -/
theorem gap_more {l : List UInt8} (c : Bool) (h : gapS c l < l.length) (y : List UInt8) : gapS c (l ++ y) = gapS c l := by
  induction l generalizing c with
  | nil => simp at h
  | cons b l ih =>
    rw [List.length_cons] at h
    rw [List.cons_append]
    cases c
    · rw [gapS_f] at h ⊢
      rw [gapS_f]
      split
      · rename_i hb
        rw [if_pos hb] at h
        rw [ih false (by omega)]
      · rename_i hb
        rw [if_neg hb] at h
        split
        · rename_i h37
          rw [if_pos h37] at h
          rw [ih true (by omega)]
        · rfl
    · rw [gapS_t] at h ⊢
      rw [gapS_t]
      split
      · rename_i hb
        rw [if_pos hb] at h
        rw [ih false (by omega)]
      · rename_i hb
        rw [if_neg hb] at h
        rw [ih true (by omega)]
theorem gap_take (c : Bool) (l : List UInt8) (m : Nat) : gapS c (l.take m) = min m (gapS c l) := by
  induction l generalizing c m with
  | nil => rw [List.take_nil, gapS_nil]; omega
  | cons b l ih =>
    match m with
    | 0 => rw [List.take_zero, gapS_nil]; omega
    | m + 1 =>
      rw [List.take_succ_cons]
      cases c
      · rw [gapS_f, gapS_f, ih, ih]
        split
        · omega
        · split <;> omega
      · rw [gapS_t, gapS_t, ih, ih]
        split <;> omega
/-- A text that is a gap, a line feed, and on. -/
theorem gap_lf (c : Bool) (l y : List UInt8) (h : gapS c l = l.length) : gapS c (l ++ 10 :: y) = l.length + 1 + gapS false y := by
  induction l generalizing c with
  | nil =>
    cases c
    · rw [List.nil_append, gapS_f, if_pos (by decide)]; simp; omega
    · rw [List.nil_append, gapS_t, if_pos (by decide)]; simp; omega
  | cons b l ih =>
    rw [List.length_cons] at h ⊢
    rw [List.cons_append]
    cases c
    · rw [gapS_f] at h ⊢
      split
      · rename_i hb
        rw [if_pos hb] at h
        rw [ih false (by omega)]; omega
      · rename_i hb
        rw [if_neg hb] at h
        split
        · rename_i h37
          rw [if_pos h37] at h
          rw [ih true (by omega)]; omega
        · rename_i h37
          rw [if_neg h37] at h; omega
    · rw [gapS_t] at h ⊢
      split
      · rename_i hb
        rw [if_pos hb] at h
        rw [ih false (by omega)]; omega
      · rename_i hb
        rw [if_neg hb] at h
        rw [ih true (by omega)]; omega
def gapB (l : List UInt8) : Bool := decide (gapS false l = l.length)

/-- The lengths of tokens, kind by kind, as the program finds them. -/
def nameL (l : List UInt8) : Nat := if 20 < pre wordB l ∨ pre wordB l = pre digB l ∨ (l.getD 0 0).toNat = 95 then 0 else pre wordB l
def numL (l : List UInt8) : Nat := if 8 < pre wordB l ∨ pre wordB l ≠ pre digB l then 0 else pre wordB l
def syms : List (List UInt8) := [[45, 62], [123], [125], [40], [41], [91], [93], [44], [59], [58], [61], [46], [45]]
def symL (l : List UInt8) : Nat := match syms.find? (fun s => Lib.hasPrefix l s) with
  | some s => s.length
  | none => 0
def quoL (l : List UInt8) : Nat := if (l.getD 0 0).toNat ≠ 34 then 0 else if 200 < pre quoB (l.drop 1) ∨ Lib.hasPrefix (l.drop (1 + pre quoB (l.drop 1))) [34] = false then 0 else pre quoB (l.drop 1) + 2
def tokL (l : List UInt8) : Nat × Nat := if 0 < nameL l then (1, nameL l) else if 0 < numL l then (2, numL l) else if 0 < symL l then (3, symL l) else if 0 < quoL l then (4, quoL l) else (0, 0)

/-- The kinds of pieces, as the document tells them apart. -/
def symB (p : List UInt8) : Bool := syms.contains p
def quotB (p : List UInt8) : Bool := decide (2 ≤ p.length) && decide (p.length ≤ 202) && decide ((p.getD 0 0).toNat = 34) && decide ((p.getD (p.length - 1) 0).toNat = 34) && ((p.drop 1).take (p.length - 2)).all quoB
def runK (p : List UInt8) : Nat := if p.all wordB = false then 0 else if p.length = 0 ∨ (p.getD 0 0).toNat = 95 then 0 else if p.all digB = true ∧ p.length ≤ 8 then 2 else if p.all digB = false ∧ p.length ≤ 20 then 1 else 0
def kindL (p : List UInt8) : Nat := if symB p = true then 3 else if quotB p = true then 4 else runK p
def txt (k : Nat) (p : List UInt8) : List UInt8 := if k = 4 then (p.drop 1).take (p.length - 2) else p
/-- What stands behind a piece does not make it longer. -/
def okNext (k : Nat) (p : List UInt8) (c : Option UInt8) : Prop := (k = 1 ∨ k = 2 → ∀ b, c = some b → wordB b = false) ∧ (p = [45] → c ≠ some 62)

end Lx
end Go.Proofs.YtdhemkcbaoebcaaDoor
