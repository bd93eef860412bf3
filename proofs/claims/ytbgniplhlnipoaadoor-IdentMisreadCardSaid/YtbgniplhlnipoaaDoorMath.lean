/-
  Plain mathematics of layer 1 (identifiers): shapes, check digits, misreadings, over lists of bytes. No program is named here.
-/
import Derived.Lib.Strings
import Derived.Lib.AtoiAll
import Derived.Lib.ItoaNum
import Derived.Lib.Repeat
namespace Go.Proofs.YtbgniplhlnipoaaDoor
namespace Id1

def digB (b : UInt8) : Bool := decide (48 ≤ b.toNat) && decide (b.toNat ≤ 57)
def capB (b : UInt8) : Bool := decide (65 ≤ b.toNat) && decide (b.toNat ≤ 90)
def digI (n : Int) : Bool := decide (48 ≤ n) && decide (n ≤ 57)
def capI (n : Int) : Bool := decide (65 ≤ n) && decide (n ≤ 90)
theorem digI_byte (b : UInt8) : digI (b.toNat : Int) = digB b := by
  unfold digI digB; rw [Bool.eq_iff_iff]; simp; omega
theorem capI_byte (b : UInt8) : capI (b.toNat : Int) = capB b := by
  unfold capI capB; rw [Bool.eq_iff_iff]; simp; omega

def lettersB (l : List UInt8) : Bool := l.length == 2 && l.all capB
def digitsB (l : List UInt8) : Bool := l.all digB
def shapeB (l : List UInt8) : Bool := l.length == 13 && (lettersB (l.take 2) && digitsB ((l.drop 2).take 9) && lettersB (l.drop 11))

def wt (i : Nat) : Int := [8, 6, 4, 2, 3, 5, 9, 7].getD i 0
def dg (b : UInt8) : Int := (b.toNat : Int) - 48
/-- The weighted sum of the digits from place i on. -/
def wsum : Nat → List UInt8 → Int
  | _, [] => 0
  | i, b :: l => wt i * dg b + wsum (i + 1) l
def cdig (n : Int) : Int := if 11 - n % 11 = 10 then 0 else if 11 - n % 11 = 11 then 5 else 11 - n % 11
def chk (l : List UInt8) : Int := cdig (wsum 0 l)

theorem wsum_append (l r : List UInt8) (i : Nat) : wsum i (l ++ r) = wsum i l + wsum (i + l.length) r := by
  induction l generalizing i with
  | nil => simp [wsum]
  | cons b l ih => simp only [List.cons_append, wsum, ih, List.length_cons]; rw [show i + 1 + l.length = i + (l.length + 1) by omega]; omega
theorem take_snoc (l : List UInt8) (k : Nat) (h : k < l.length) : l.take (k + 1) = l.take k ++ [l.getD k 0] := by
  rw [List.take_succ_eq_append_getElem h]; simp [List.getD, List.getElem?_eq_getElem h]
theorem wsum_snoc (l : List UInt8) (k : Nat) (h : k < l.length) : wsum 0 (l.take (k + 1)) = wsum 0 (l.take k) + wt k * dg (l.getD k 0) := by
  rw [take_snoc l k h, wsum_append]; simp [wsum, List.length_take, Nat.min_eq_left (Nat.le_of_lt h)]
theorem digitsB_snoc (l : List UInt8) (k : Nat) (h : k < l.length) : digitsB (l.take (k + 1)) = (digitsB (l.take k) && digB (l.getD k 0)) := by
  rw [take_snoc l k h]; simp [digitsB, List.all_append]
theorem digB_bd {b : UInt8} (h : digB b = true) : 48 ≤ b.toNat ∧ b.toNat ≤ 57 := by simpa [digB] using h
theorem digitsB_false_take (l : List UInt8) (k : Nat) (h : digitsB (l.take k) = false) : digitsB l = false := by
  have e : l = l.take k ++ l.drop k := (List.take_append_drop k l).symm
  rw [e]; unfold digitsB at h ⊢; rw [List.all_append, h]; rfl
theorem wt_bd (i : Nat) : 0 ≤ wt i ∧ wt i ≤ 9 := by
  unfold wt
  match i with
  | 0 | 1 | 2 | 3 | 4 | 5 | 6 | 7 => decide
  | n + 8 => simp
theorem wsum_bd (l : List UInt8) (h : digitsB l = true) (i : Nat) : 0 ≤ wsum i l ∧ wsum i l ≤ 81 * l.length := by
  induction l generalizing i with
  | nil => simp [wsum]
  | cons b l ih =>
    have hb : digB b = true ∧ digitsB l = true := by simpa [digitsB] using h
    have h1 := digB_bd hb.1
    have h2 := ih hb.2 (i + 1)
    have h3 := wt_bd i
    simp only [wsum, List.length_cons]
    have : 0 ≤ wt i * dg b := Int.mul_nonneg h3.1 (by unfold dg; omega)
    have : wt i * dg b ≤ 9 * 9 := Int.mul_le_mul h3.2 (by unfold dg; omega) (by unfold dg; omega) (by omega)
    omega
theorem cdig_bd (n : Int) : 0 ≤ cdig n ∧ cdig n ≤ 9 := by
  unfold cdig
  repeat' split
  all_goals omega

/-- What digits spell, read on from a number. -/
def numF (a : Nat) (l : List UInt8) : Nat := l.foldl (fun a b => 10 * a + (b.toNat - 48)) a
theorem numF_nil (a : Nat) : numF a [] = a := by rw [numF, List.foldl_nil]
theorem numF_cons (a : Nat) (b : UInt8) (l : List UInt8) : numF a (b :: l) = numF (10 * a + (b.toNat - 48)) l := by rw [numF, List.foldl_cons, ← numF]
def num (l : List UInt8) : Nat := numF 0 l
theorem numF_append (l r : List UInt8) (a : Nat) : numF a (l ++ r) = numF (numF a l) r := by
  rw [numF, numF, numF, List.foldl_append]
theorem digitsB_cons {b : UInt8} {l : List UInt8} (h : digitsB (b :: l) = true) : (48 ≤ b.toNat ∧ b.toNat ≤ 57) ∧ digitsB l = true := by
  have : digB b = true ∧ digitsB l = true := by simpa [digitsB] using h
  exact ⟨digB_bd this.1, this.2⟩
theorem numF_lt (l : List UInt8) (h : digitsB l = true) (a k : Nat) (ha : a < 10 ^ k) : numF a l < 10 ^ (k + l.length) := by
  induction l generalizing a k with
  | nil => rw [numF_nil]; exact ha
  | cons b l ih =>
    obtain ⟨hb, hl⟩ := digitsB_cons h
    have := ih hl (10 * a + (b.toNat - 48)) (k + 1) (by rw [Nat.pow_succ]; omega)
    rw [numF_cons, List.length_cons]
    rwa [show k + (l.length + 1) = k + 1 + l.length by omega]
theorem num_lt (l : List UInt8) (h : digitsB l = true) : num l < 10 ^ l.length := by
  have := numF_lt l h 0 0 (by simp)
  simpa [num] using this
theorem parse_digits (l : List UInt8) (h : digitsB l = true) (a k : Nat) (ha : a < 10 ^ k) (hk : k + l.length ≤ 18) : Lib.parseUint10 a l = .ok (numF a l) := by
  induction l generalizing a k with
  | nil => rw [numF_nil, Lib.parseUint10]
  | cons b l ih =>
    obtain ⟨hb, hl⟩ := digitsB_cons h
    simp only [List.length_cons] at hk
    have hp : 10 ^ k ≤ 10 ^ 17 := Nat.pow_le_pow_right (by omega) (by omega)
    have := ih hl (10 * a + (b.toNat - 48)) (k + 1) (by rw [Nat.pow_succ]; omega) (by omega)
    simp only [Lib.parseUint10]
    rw [numF_cons]
    rw [if_pos hb, if_neg (by omega), if_neg (by omega), Nat.mul_comm a 10]
    exact this
theorem atoi_digits (l : List UInt8) (h : digitsB l = true) (h0 : l ≠ []) (h18 : l.length ≤ 18) : Lib.atoiAll l = .ok (num l : Int) := by
  match l, h0 with
  | b :: r, _ =>
    obtain ⟨hb, hl⟩ := digitsB_cons h
    have hp := parse_digits (b :: r) h 0 0 (by simp) (by omega)
    have hlt := num_lt (b :: r) h
    have hp18 : 10 ^ (b :: r).length ≤ 10 ^ 18 := Nat.pow_le_pow_right (by omega) h18
    unfold Lib.atoiAll
    simp only
    rw [if_neg (by omega)]
    unfold Lib.parseMag
    rw [if_neg (by simp), hp]
    simp only
    unfold num at hlt ⊢
    rw [if_neg (by omega), if_neg (by omega), if_neg (by omega)]

/-- What Valid and Serial answer. -/
def validB (l : List UInt8) : Bool := shapeB l && decide (dg (l.getD 10 0) = chk ((l.drop 2).take 8))
def serV (l : List UInt8) : Int := if validB l = true then (num ((l.drop 2).take 8) : Int) else 0
def serE (l : List UInt8) : Int := if validB l = true then 0 else if shapeB l = true then 10 else 1
theorem shape_parts {l : List UInt8} (h : shapeB l = true) : l.length = 13 ∧ lettersB (l.take 2) = true ∧ digitsB ((l.drop 2).take 9) = true ∧ lettersB (l.drop 11) = true := by
  have : l.length = 13 ∧ (lettersB (l.take 2) = true ∧ digitsB ((l.drop 2).take 9) = true) ∧ lettersB (l.drop 11) = true := by simpa [shapeB] using h
  exact ⟨this.1, this.2.1.1, this.2.1.2, this.2.2⟩
theorem digitsB_take {l : List UInt8} (h : digitsB l = true) (k : Nat) : digitsB (l.take k) = true := by
  unfold digitsB at h ⊢; rw [List.all_eq_true] at h ⊢; exact fun x hx => h x (List.mem_of_mem_take hx)
theorem digitsB_getD {l : List UInt8} (h : digitsB l = true) (k : Nat) (hk : k < l.length) : digB (l.getD k 0) = true := by
  unfold digitsB at h; rw [List.all_eq_true] at h
  rw [List.getD, List.getElem?_eq_getElem hk]; exact h _ (List.getElem_mem _)
theorem shape_digit {l : List UInt8} (h : shapeB l = true) (k : Nat) (h2 : 2 ≤ k) (hk : k < 11) : digB (l.getD k 0) = true := by
  obtain ⟨h13, _, hd, _⟩ := shape_parts h
  have := digitsB_getD hd (k - 2) (by rw [List.length_take, List.length_drop]; omega)
  rwa [List.getD, List.getElem?_take_of_lt (by omega), List.getElem?_drop, show 2 + (k - 2) = k by omega] at this
theorem shape_digits {l : List UInt8} (h : shapeB l = true) : digitsB ((l.drop 2).take 8) = true ∧ ((l.drop 2).take 8).length = 8 := by
  obtain ⟨h13, _, hd, _⟩ := shape_parts h
  refine ⟨?_, by rw [List.length_take, List.length_drop]; omega⟩
  have := digitsB_take hd 8
  rwa [List.take_take] at this

theorem serE_zero (l : List UInt8) : (serE l == 0) = validB l := by
  unfold serE
  cases validB l
  · simp only [Bool.false_eq_true, if_false]; split <;> rfl
  · rfl

/-- The k digits of a number, leading zeros included. -/
def digs : Nat → Nat → List UInt8
  | 0, _ => []
  | k + 1, n => digs k (n / 10) ++ [UInt8.ofNat (48 + n % 10)]
theorem digs_length : ∀ k n, (digs k n).length = k
  | 0, _ => rfl
  | k + 1, n => by simp [digs, digs_length k]
theorem digs_zero : ∀ k, digs k 0 = List.replicate k 48
  | 0 => rfl
  | k + 1 => by rw [digs, digs_zero k, List.replicate_succ']; rfl
theorem ofNat_dig {m : Nat} (h : m < 10) : (UInt8.ofNat (48 + m)).toNat = 48 + m := by
  rw [UInt8.toNat_ofNat']; omega
theorem digs_digits : ∀ k n, digitsB (digs k n) = true
  | 0, _ => rfl
  | k + 1, n => by
    have ih := digs_digits k (n / 10)
    unfold digitsB at ih ⊢
    rw [digs, List.all_append, ih]
    have h := ofNat_dig (m := n % 10) (by omega)
    simp only [List.all_cons, List.all_nil, Bool.and_true, Bool.true_and, digB, h]
    simp; omega
theorem digs_num : ∀ k n, n < 10 ^ k → num (digs k n) = n
  | 0, n, h => by rw [Nat.pow_zero] at h; rw [digs, num, numF_nil]; omega
  | k + 1, n, h => by
    have ih := digs_num k (n / 10) (by rw [Nat.pow_succ] at h; omega)
    unfold num at ih ⊢
    rw [digs, numF_append, ih, numF_cons, numF_nil, ofNat_dig (by omega)]
    omega
theorem digs_pad : ∀ k n, n < 10 ^ (k + 1) → (Lib.decDigits n).length ≤ k + 1 ∧ digs (k + 1) n = List.replicate (k + 1 - (Lib.decDigits n).length) 48 ++ Lib.decDigits n
  | 0, n, h => by
    rw [Lib.decDigits_one (by simpa using h)]
    refine ⟨by simp, ?_⟩
    simp only [digs, List.nil_append, List.length_cons, List.length_nil]
    rw [Nat.mod_eq_of_lt (by simpa using h)]
    rfl
  | k + 1, n, h => by
    by_cases h10 : n < 10
    · rw [Lib.decDigits_one h10]
      refine ⟨by simp, ?_⟩
      rw [digs, Nat.mod_eq_of_lt h10, Nat.div_eq_of_lt h10, digs_zero]
      simp
    · obtain ⟨h1, h2⟩ := digs_pad k (n / 10) (by rw [Nat.pow_succ] at h; omega)
      have e : Lib.decDigits n = Lib.decDigits (n / 10) ++ [UInt8.ofNat (48 + n % 10)] := by rw [Lib.decDigits, dif_neg h10]
      rw [e]
      refine ⟨by simp; omega, ?_⟩
      rw [digs, h2, List.length_append, List.length_singleton, List.append_assoc]
      rw [show k + 1 + 1 - ((Lib.decDigits (n / 10)).length + 1) = k + 1 - (Lib.decDigits (n / 10)).length by omega]
theorem itoa_nat (n : Nat) : Lib.itoa (n : Int) = Lib.decDigits n := by unfold Lib.itoa; rw [if_neg (by omega)]; simp
theorem itoa_digit {n : Int} (h0 : 0 ≤ n) (h9 : n ≤ 9) : Lib.itoa n = [UInt8.ofNat (48 + n.toNat)] := by
  obtain ⟨m, rfl⟩ := Int.eq_ofNat_of_zero_le h0
  rw [itoa_nat, Lib.decDigits_one (by omega)]; rfl

/-- The identifier of a serial number. -/
def mkL (k : List UInt8) (n : Nat) (o : List UInt8) : List UInt8 := k ++ digs 8 n ++ [UInt8.ofNat (48 + (chk (digs 8 n)).toNat)] ++ o
theorem letters_len {l : List UInt8} (h : lettersB l = true) : l.length = 2 := by
  have : l.length = 2 ∧ l.all capB = true := by simpa [lettersB] using h
  exact this.1
theorem mkL_valid {k o : List UInt8} {n : Nat} (hk : lettersB k = true) (ho : lettersB o = true) : validB (mkL k n o) = true ∧ (mkL k n o).length = 13 ∧ (mkL k n o).take 2 = k ∧ (mkL k n o).drop 11 = o ∧ ((mkL k n o).drop 2).take 8 = digs 8 n := by
  have hk2 := letters_len hk
  have ho2 := letters_len ho
  have hd8 := digs_length 8 n
  have hb := cdig_bd (wsum 0 (digs 8 n))
  have hcb : 0 ≤ chk (digs 8 n) ∧ chk (digs 8 n) ≤ 9 := hb
  have hl : (mkL k n o).length = 13 := by simp [mkL, hk2, ho2, hd8]
  have ht : (mkL k n o).take 2 = k := by unfold mkL; rw [List.append_assoc, List.append_assoc, List.take_left' hk2]
  have hdr : (mkL k n o).drop 11 = o := by
    unfold mkL; rw [List.drop_left' (by simp [hk2, hd8])]
  have hmid : (mkL k n o).drop 2 = digs 8 n ++ ([UInt8.ofNat (48 + (chk (digs 8 n)).toNat)] ++ o) := by
    unfold mkL; rw [List.append_assoc, List.append_assoc, List.drop_left' hk2]
  have h8 : ((mkL k n o).drop 2).take 8 = digs 8 n := by rw [hmid, List.take_left' hd8]
  have h9 : ((mkL k n o).drop 2).take 9 = digs 8 n ++ [UInt8.ofNat (48 + (chk (digs 8 n)).toNat)] := by
    rw [hmid, ← List.append_assoc, List.take_left' (by simp [hd8])]
  have hof := ofNat_dig (m := (chk (digs 8 n)).toNat) (by omega)
  have hsh : shapeB (mkL k n o) = true := by
    unfold shapeB
    rw [hl, ht, hdr, h9, hk, ho]
    have := digs_digits 8 n
    unfold digitsB at this ⊢
    rw [List.all_append, this]
    simp only [List.all_cons, List.all_nil, Bool.and_true, Bool.true_and, digB, hof]
    simp; omega
  refine ⟨?_, hl, ht, hdr, h8⟩
  have h10 : (mkL k n o).getD 10 0 = UInt8.ofNat (48 + (chk (digs 8 n)).toNat) := by
    have : ((mkL k n o).drop 2).getD 8 0 = UInt8.ofNat (48 + (chk (digs 8 n)).toNat) := by
      rw [hmid, List.getD, List.getElem?_append_right (by omega), hd8]; rfl
    rw [← this]
    simp only [List.getD, List.getElem?_drop]
  unfold validB
  rw [hsh, h10, h8]
  simp only [Bool.true_and, decide_eq_true_eq]
  unfold dg
  rw [hof]
  omega

/-- The byte at a place of a shape is a letter or a digit, by its place. -/
def okAt (l : List UInt8) (i : Nat) : Bool := if i < 2 ∨ 10 < i then capB (l.getD i 0) else digB (l.getD i 0)
def okTo (l : List UInt8) (k : Nat) : Bool := (List.range k).all (okAt l)
theorem okTo_succ (l : List UInt8) (k : Nat) : okTo l (k + 1) = (okTo l k && okAt l k) := by simp [okTo, List.range_succ, List.all_append]
theorem okTo_mono (l : List UInt8) (j k : Nat) (h : j ≤ k) (hj : okTo l j = false) : okTo l k = false := by
  induction k with
  | zero => have : j = 0 := by omega
            subst this; exact hj
  | succ k ih =>
    by_cases e : j = k + 1
    · subst e; exact hj
    · rw [okTo_succ, ih (by omega)]; rfl
theorem shape_okTo (l : List UInt8) (h : l.length = 13) : shapeB l = okTo l 13 := by
  match l, h with
  | [a0, a1, a2, a3, a4, a5, a6, a7, a8, a9, a10, a11, a12], _ =>
    simp [shapeB, lettersB, digitsB, okTo, okAt, List.range_succ, Bool.and_assoc]

end Id1
end Go.Proofs.YtbgniplhlnipoaaDoor
