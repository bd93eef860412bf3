/-
  Plain mathematics of layer 4 (address formats): bytes, words, texts of words, over lists of bytes. No program is named here.
-/
import Derived.Lib.Strings
import Derived.Lib.AtoiAll
import Derived.Lib.ItoaNum
import Derived.Below
namespace Go.Proofs.YtcaiejbnhjiflaaGreatDoor
namespace Fm

abbrev W := List UInt8
def blkB (b : UInt8) : Bool := decide (b.toNat = 32) || decide (b.toNat = 9)
def digB (b : UInt8) : Bool := decide (48 ≤ b.toNat) && decide (b.toNat ≤ 57)
def capB (b : UInt8) : Bool := decide (65 ≤ b.toNat) && decide (b.toNat ≤ 90)
def smaB (b : UInt8) : Bool := decide (97 ≤ b.toNat) && decide (b.toNat ≤ 122)
def fitB (b : UInt8) : Bool := (capB b || smaB b) || digB b || decide (b.toNat = 45) || decide (b.toNat = 39) || decide (b.toNat = 46)
def namB (b : UInt8) : Bool := smaB b || digB b || decide (b.toNat = 95)
def patB (b : UInt8) : Bool := decide (b.toNat = 57) || decide (b.toNat = 65)
theorem blkB_iff (b : UInt8) : blkB b = true ↔ b.toNat = 32 ∨ b.toNat = 9 := by simp [blkB]
theorem digB_iff (b : UInt8) : digB b = true ↔ 48 ≤ b.toNat ∧ b.toNat ≤ 57 := by simp [digB]
theorem capB_iff (b : UInt8) : capB b = true ↔ 65 ≤ b.toNat ∧ b.toNat ≤ 90 := by simp [capB]
theorem smaB_iff (b : UInt8) : smaB b = true ↔ 97 ≤ b.toNat ∧ b.toNat ≤ 122 := by simp [smaB]
theorem fitB_iff (b : UInt8) : fitB b = true ↔ (65 ≤ b.toNat ∧ b.toNat ≤ 90) ∨ (97 ≤ b.toNat ∧ b.toNat ≤ 122) ∨ (48 ≤ b.toNat ∧ b.toNat ≤ 57) ∨ b.toNat = 45 ∨ b.toNat = 39 ∨ b.toNat = 46 := by simp [fitB, capB, smaB, digB, or_assoc]
theorem namB_iff (b : UInt8) : namB b = true ↔ (97 ≤ b.toNat ∧ b.toNat ≤ 122) ∨ (48 ≤ b.toNat ∧ b.toNat ≤ 57) ∨ b.toNat = 95 := by simp [namB, smaB, digB, or_assoc]
theorem patB_iff (b : UInt8) : patB b = true ↔ b.toNat = 57 ∨ b.toNat = 65 := by simp [patB]
theorem fit_blk {b : UInt8} (h : fitB b = true) : blkB b = false := by
  rw [fitB_iff] at h; rw [Bool.eq_false_iff]; intro k; rw [blkB_iff] at k; omega
theorem dig_fit {b : UInt8} (h : digB b = true) : fitB b = true := by rw [digB_iff] at h; rw [fitB_iff]; omega

/-- A byte, a text with capital letters. -/
def upB (b : UInt8) : UInt8 := if smaB b = true then b - 32 else b
def upL (l : W) : W := l.map upB
theorem upB_nat (b : UInt8) : (upB b).toNat = if 97 ≤ b.toNat ∧ b.toNat ≤ 122 then b.toNat - 32 else b.toNat := by
  unfold upB
  by_cases h : smaB b = true
  · have h' := (smaB_iff b).1 h
    rw [if_pos h, if_pos h', UInt8.toNat_sub_of_le _ _ (by rw [UInt8.le_iff_toNat_le]; show 32 ≤ _; omega)]; rfl
  · rw [if_neg h, if_neg (fun k => h ((smaB_iff b).2 k))]
theorem upB_upB (b : UInt8) : upB (upB b) = upB b := by
  apply UInt8.toNat_inj.1
  rw [upB_nat (upB b), upB_nat b]
  repeat' split
  all_goals omega
theorem upL_upL (l : W) : upL (upL l) = upL l := by
  unfold upL; rw [List.map_map]; exact List.map_congr_left fun b _ => upB_upB b
theorem upL_length (l : W) : (upL l).length = l.length := by unfold upL; rw [List.length_map]
theorem upB_fit (b : UInt8) : fitB (upB b) = fitB b := by
  rw [Bool.eq_iff_iff, fitB_iff, fitB_iff, upB_nat]; split <;> omega
theorem upB_blk (b : UInt8) : blkB (upB b) = blkB b := by
  rw [Bool.eq_iff_iff, blkB_iff, blkB_iff, upB_nat]; split <;> omega
theorem upB_dig (b : UInt8) : digB (upB b) = digB b := by
  rw [Bool.eq_iff_iff, digB_iff, digB_iff, upB_nat]; split <;> omega
theorem upB_cap (b : UInt8) : capB (upB b) = (capB b || smaB b) := by
  rw [Bool.eq_iff_iff, Bool.or_eq_true, capB_iff, capB_iff, smaB_iff, upB_nat]; split <;> omega

/-- A word that is fit. -/
def fitW (l : W) : Bool := decide (1 ≤ l.length) && decide (l.length ≤ 20) && l.all fitB
theorem fitW_iff (l : W) : fitW l = true ↔ 1 ≤ l.length ∧ l.length ≤ 20 ∧ ∀ b ∈ l, fitB b = true := by simp [fitW, and_assoc]
theorem fitW_up (l : W) : fitW (upL l) = fitW l := by
  rw [Bool.eq_iff_iff, fitW_iff, fitW_iff, upL_length]
  unfold upL
  simp [upB_fit]
def patW (l : W) : Bool := decide (1 ≤ l.length) && decide (l.length ≤ 8) && l.all patB
theorem patW_iff (l : W) : patW l = true ↔ 1 ≤ l.length ∧ l.length ≤ 8 ∧ ∀ b ∈ l, patB b = true := by simp [patW, and_assoc]
def nameW (l : W) : Bool := decide (1 ≤ l.length) && decide (l.length ≤ 16) && smaB (l.getD 0 0) && l.all namB

/-- The words of a line, behind a piece of a word. -/
def wordsF : W → W → List W
  | cur, [] => if cur = [] then [] else [cur]
  | cur, b :: l => if blkB b = true then (if cur = [] then wordsF [] l else cur :: wordsF [] l) else wordsF (cur ++ [b]) l
def wordsL (l : W) : List W := wordsF [] l
theorem wordsF_nil (cur : W) : wordsF cur [] = if cur = [] then [] else [cur] := rfl
theorem wordsF_cons (cur : W) (b : UInt8) (l : W) : wordsF cur (b :: l) = if blkB b = true then (if cur = [] then wordsF [] l else cur :: wordsF [] l) else wordsF (cur ++ [b]) l := rfl
theorem wordsF_blk {cur : W} {b : UInt8} {l : W} (hb : blkB b = true) : wordsF cur (b :: l) = wordsF cur [] ++ wordsF [] l := by
  rw [wordsF_cons, if_pos hb, wordsF_nil]
  split <;> rfl
/-- A blank parts words. -/
theorem wordsF_mid (cur l : W) {b : UInt8} (r : W) (hb : blkB b = true) : wordsF cur (l ++ b :: r) = wordsF cur l ++ wordsL r := by
  induction l generalizing cur with
  | nil => exact wordsF_blk hb
  | cons c l ih =>
    rw [List.cons_append, wordsF_cons, wordsF_cons]
    split
    · split
      · exact ih []
      · rw [ih [], List.cons_append]
    · exact ih _
theorem words_mid (l : W) {b : UInt8} (r : W) (hb : blkB b = true) : wordsL (l ++ b :: r) = wordsL l ++ wordsL r := wordsF_mid [] l r hb
theorem wordsF_run (cur l : W) (h : ∀ b ∈ l, blkB b = false) : wordsF cur l = wordsF (cur ++ l) [] := by
  induction l generalizing cur with
  | nil => rw [List.append_nil]
  | cons b l ih =>
    rw [wordsF_cons, if_neg (by rw [h b (List.mem_cons_self ..)]; simp), ih _ (fun c hc => h c (List.mem_cons_of_mem _ hc)), List.append_assoc]; rfl
/-- A text without blanks is one word. -/
theorem words_one {l : W} (h0 : l ≠ []) (h : ∀ b ∈ l, blkB b = false) : wordsL l = [l] := by
  unfold wordsL; rw [wordsF_run _ _ h, List.nil_append, wordsF_nil, if_neg h0]
theorem words_nil : wordsL [] = [] := rfl
/-- What a word is. -/
def isW (l : W) : Prop := l ≠ [] ∧ ∀ b ∈ l, blkB b = false
theorem wordsF_is (cur l : W) (hc : ∀ b ∈ cur, blkB b = false) : ∀ w ∈ wordsF cur l, isW w := by
  induction l generalizing cur with
  | nil =>
    intro w hw
    rw [wordsF_nil] at hw
    split at hw
    · cases hw
    · rename_i h; rw [List.mem_singleton.1 hw]; exact ⟨h, hc⟩
  | cons b l ih =>
    intro w hw
    rw [wordsF_cons] at hw
    split at hw
    · split at hw
      · exact ih [] (fun _ h => by cases h) w hw
      · rename_i h
        rcases List.mem_cons.1 hw with rfl | hw
        · exact ⟨h, hc⟩
        · exact ih [] (fun _ h => by cases h) w hw
    · rename_i hb
      refine ih _ (fun c hc' => ?_) w hw
      rcases List.mem_append.1 hc' with h | h
      · exact hc c h
      · rw [List.mem_singleton.1 h]; simpa using hb
theorem words_is {l w : W} (h : w ∈ wordsL l) : isW w := wordsF_is [] l (fun _ h => by cases h) w h
theorem fit_is {w : W} (h : fitW w = true) : isW w := by
  obtain ⟨h1, _, h3⟩ := (fitW_iff w).1 h
  exact ⟨fun e => by rw [e] at h1; simp at h1, fun b hb => fit_blk (h3 b hb)⟩
theorem words_of_is {w : W} (h : isW w) : wordsL w = [w] := words_one h.1 h.2
theorem wordsF_len (cur l : W) : ((wordsF cur l).map List.length).sum ≤ cur.length + l.length ∧ (wordsF cur l).length ≤ cur.length + l.length := by
  induction l generalizing cur with
  | nil =>
    rw [wordsF_nil]; split
    · simp
    · rename_i h
      have : cur.length ≠ 0 := fun k => h (List.length_eq_zero_iff.1 k)
      simp; omega
  | cons b l ih =>
    have h1 := ih []
    have h2 := ih (cur ++ [b])
    rw [wordsF_cons]
    simp only [List.length_cons, List.length_nil, List.length_append] at h1 h2 ⊢
    split
    · split
      · omega
      · rename_i h
        have : cur.length ≠ 0 := fun k => h (List.length_eq_zero_iff.1 k)
        simp only [List.map_cons, List.sum_cons, List.length_cons]
        omega
    · omega
theorem le_sum {w : W} {ws : List W} (h : w ∈ ws) : w.length ≤ (ws.map List.length).sum := by
  induction ws with
  | nil => cases h
  | cons a ws ih =>
    rw [List.map_cons, List.sum_cons]
    rcases List.mem_cons.1 h with rfl | h
    · omega
    · have := ih h; omega
theorem words_len (l : W) : (wordsL l).length ≤ l.length := by have := (wordsF_len [] l).2; unfold wordsL; simpa using this
theorem word_len {l w : W} (h : w ∈ wordsL l) : w.length ≤ l.length := by
  have h1 := (wordsF_len [] l).1
  have : w.length ≤ ((wordsL l).map List.length).sum := le_sum h
  unfold wordsL at this
  simp at h1; omega

/-- Texts, separated by one blank each. -/
def joinW : List W → W
  | [] => []
  | [w] => w
  | w :: v :: r => w ++ 32 :: joinW (v :: r)
theorem join_nil : joinW [] = [] := rfl
theorem join_one (w : W) : joinW [w] = w := rfl
theorem join_two (w v : W) (r : List W) : joinW (w :: v :: r) = w ++ 32 :: joinW (v :: r) := rfl
theorem join_snoc (l : List W) (w : W) (h : l ≠ []) : joinW (l ++ [w]) = joinW l ++ 32 :: w := by
  induction l with
  | nil => exact absurd rfl h
  | cons a l ih =>
    match l with
    | [] => rfl
    | b :: r =>
      show joinW (a :: b :: (r ++ [w])) = _
      rw [join_two, join_two]
      have := ih (by simp)
      rw [List.cons_append] at this
      rw [this, List.append_assoc]; rfl
theorem join_append (l r : List W) (h : l ≠ []) (k : r ≠ []) : joinW (l ++ r) = joinW l ++ 32 :: joinW r := by
  induction l with
  | nil => exact absurd rfl h
  | cons a l ih =>
    match l, r, k with
    | [], b :: r, _ => rfl
    | b :: l, r, k =>
      show joinW (a :: b :: (l ++ r)) = _
      rw [join_two, join_two]
      have := ih (by simp)
      rw [List.cons_append] at this
      rw [this, List.append_assoc]; rfl
/-- The words of joined words. -/
theorem words_join (l : List W) (h : ∀ w ∈ l, isW w) : wordsL (joinW l) = l := by
  induction l with
  | nil => rfl
  | cons a l ih =>
    match l with
    | [] => exact words_of_is (h a (List.mem_cons_self ..))
    | b :: r =>
      rw [join_two, words_mid _ _ (by decide), ih (fun w hw => h w (List.mem_cons_of_mem _ hw)), words_of_is (h a (List.mem_cons_self ..))]; rfl
/-- The words of texts that are joined. -/
theorem words_joins (l : List W) : wordsL (joinW l) = l.flatMap wordsL := by
  induction l with
  | nil => rfl
  | cons a l ih =>
    match l with
    | [] => simp [joinW]
    | b :: r => rw [join_two, words_mid _ _ (by decide), ih]; rfl
theorem words_up (cur l : W) : wordsF (upL cur) (upL l) = (wordsF cur l).map upL := by
  induction l generalizing cur with
  | nil =>
    show wordsF (upL cur) [] = _
    rw [wordsF_nil, wordsF_nil]
    by_cases h : cur = []
    · subst h; rfl
    · rw [if_neg h, if_neg (fun k : upL cur = [] => h (List.map_eq_nil_iff.1 k))]; rfl
  | cons b l ih =>
    show wordsF (upL cur) (upB b :: upL l) = _
    rw [wordsF_cons, wordsF_cons, upB_blk]
    by_cases hb : blkB b = true
    · rw [if_pos hb, if_pos hb]
      have h0 := ih []
      by_cases h : cur = []
      · subst h; rw [if_pos rfl]; simpa [upL] using h0
      · rw [if_neg h, if_neg (fun k : upL cur = [] => h (List.map_eq_nil_iff.1 k)), List.map_cons]
        have : wordsF [] (upL l) = (wordsF [] l).map upL := h0
        rw [this]
    · rw [if_neg hb, if_neg hb, ← ih]
      simp [upL]
theorem wordsL_up (l : W) : wordsL (upL l) = (wordsL l).map upL := words_up [] l

/-- A number in digits. -/
def numF (a : Nat) (l : W) : Nat := l.foldl (fun a b => 10 * a + (b.toNat - 48)) a
theorem numF_nil (a : Nat) : numF a [] = a := by rw [numF, List.foldl_nil]
theorem numF_cons (a : Nat) (b : UInt8) (l : W) : numF a (b :: l) = numF (10 * a + (b.toNat - 48)) l := by rw [numF, List.foldl_cons, ← numF]
theorem numF_append (l r : W) (a : Nat) : numF a (l ++ r) = numF (numF a l) r := by
  rw [numF, numF, numF, List.foldl_append]
/-- A word that is the number of a house; its number. -/
def isNum (w : W) : Bool := decide (1 ≤ w.length) && decide (w.length ≤ 4) && !decide ((w.getD 0 0).toNat = 48) && w.all digB
def numW (w : W) : Nat := if isNum w = true then numF 0 w else 0
theorem isNum_iff (w : W) : isNum w = true ↔ 1 ≤ w.length ∧ w.length ≤ 4 ∧ (w.getD 0 0).toNat ≠ 48 ∧ ∀ b ∈ w, digB b = true := by simp [isNum, and_assoc]
theorem numF_lt (l : W) (h : ∀ b ∈ l, digB b = true) (a k : Nat) (ha : a < 10 ^ k) : numF a l < 10 ^ (k + l.length) := by
  induction l generalizing a k with
  | nil => rw [numF_nil]; exact ha
  | cons b l ih =>
    have hb := (digB_iff b).1 (h b (List.mem_cons_self ..))
    have := ih (fun c hc => h c (List.mem_cons_of_mem _ hc)) (10 * a + (b.toNat - 48)) (k + 1) (by rw [Nat.pow_succ]; omega)
    rw [numF_cons, List.length_cons]
    rwa [show k + (l.length + 1) = k + 1 + l.length by omega]
theorem numF_ge (l : W) (a : Nat) : a ≤ numF a l := by
  induction l generalizing a with
  | nil => rw [numF_nil]; exact Nat.le_refl _
  | cons b l ih => rw [numF_cons]; have := ih (10 * a + (b.toNat - 48)); omega
theorem num_bd {w : W} (h : isNum w = true) : 1 ≤ numF 0 w ∧ numF 0 w ≤ 9999 := by
  obtain ⟨h1, h2, h3, h4⟩ := (isNum_iff w).1 h
  constructor
  · match w, h1 with
    | b :: l, _ =>
      have hb := (digB_iff b).1 (h4 b (List.mem_cons_self ..))
      have h3' : b.toNat ≠ 48 := h3
      rw [numF_cons]
      have := numF_ge l (10 * 0 + (b.toNat - 48))
      omega
  · have := numF_lt w h4 0 0 (by simp)
    have h5 : 10 ^ (0 + w.length) ≤ 10 ^ 4 := Nat.pow_le_pow_right (by omega) (by omega)
    omega
theorem numW_pos (w : W) : 0 < numW w ↔ isNum w = true := by
  unfold numW
  constructor
  · intro h; split at h
    · assumption
    · omega
  · intro h; rw [if_pos h]; exact (num_bd h).1
theorem isNum_fit {w : W} (h : isNum w = true) : fitW w = true := by
  obtain ⟨h1, h2, _, h4⟩ := (isNum_iff w).1 h
  exact (fitW_iff w).2 ⟨h1, by omega, fun b hb => dig_fit (h4 b hb)⟩
theorem parse_digits (l : W) (h : ∀ b ∈ l, digB b = true) (a k : Nat) (ha : a < 10 ^ k) (hk : k + l.length ≤ 18) : Lib.parseUint10 a l = .ok (numF a l) := by
  induction l generalizing a k with
  | nil => rw [numF_nil, Lib.parseUint10]
  | cons b l ih =>
    have hb := (digB_iff b).1 (h b (List.mem_cons_self ..))
    simp only [List.length_cons] at hk
    have hp : 10 ^ k ≤ 10 ^ 17 := Nat.pow_le_pow_right (by omega) (by omega)
    have := ih (fun c hc => h c (List.mem_cons_of_mem _ hc)) (10 * a + (b.toNat - 48)) (k + 1) (by rw [Nat.pow_succ]; omega) (by omega)
    simp only [Lib.parseUint10]
    rw [numF_cons]
    rw [if_pos hb, if_neg (by omega), if_neg (by omega), Nat.mul_comm a 10]
    exact this
theorem atoi_num {w : W} (h : isNum w = true) : Lib.atoiAll w = .ok (numF 0 w : Int) := by
  obtain ⟨h1, h2, h3, h4⟩ := (isNum_iff w).1 h
  have hb9 := (num_bd h).2
  match w, h1 with
  | b :: r, _ =>
    have hb := (digB_iff b).1 (h4 b (List.mem_cons_self ..))
    have hp := parse_digits (b :: r) h4 0 0 (by simp) (by omega)
    unfold Lib.atoiAll
    simp only
    rw [if_neg (by omega)]
    unfold Lib.parseMag
    rw [if_neg (by simp), hp]
    simp only
    rw [if_neg (by omega), if_neg (by omega), if_neg (by omega)]

/-- A word of a pattern. -/
def codeW : W → W → Bool
  | [], [] => true
  | b :: w, q :: p => (decide (q.toNat ≠ 57) || digB b) && (decide (q.toNat ≠ 65) || (capB b || smaB b)) && codeW w p
  | _, _ => false
theorem codeW_len {w p : W} (h : codeW w p = true) : w.length = p.length := by
  induction w generalizing p with
  | nil => cases p with
    | nil => rfl
    | cons => simp [codeW] at h
  | cons b w ih => cases p with
    | nil => simp [codeW] at h
    | cons q p => simp only [codeW, Bool.and_eq_true] at h; rw [List.length_cons, List.length_cons, ih h.2]
theorem codeW_fit {w p : W} (hp : ∀ q ∈ p, patB q = true) (h : codeW w p = true) : ∀ b ∈ w, fitB b = true := by
  induction w generalizing p with
  | nil => intro b hb; cases hb
  | cons b w ih => cases p with
    | nil => simp [codeW] at h
    | cons q p =>
      simp only [codeW, Bool.and_eq_true, Bool.or_eq_true, decide_eq_true_eq, digB_iff, capB_iff, smaB_iff] at h
      have hq := (patB_iff q).1 (hp q (List.mem_cons_self ..))
      intro c hc
      rcases List.mem_cons.1 hc with rfl | hc
      · rw [fitB_iff]; omega
      · exact ih (fun q hq => hp q (List.mem_cons_of_mem _ hq)) h.2 c hc
theorem codeW_up (w p : W) : codeW (upL w) p = codeW w p := by
  induction w generalizing p with
  | nil => rfl
  | cons b w ih => cases p with
    | nil => rfl
    | cons q p =>
      show codeW (upB b :: upL w) (q :: p) = _
      have : (capB (upB b) || smaB (upB b)) = (capB b || smaB b) := by
        rw [Bool.eq_iff_iff, Bool.or_eq_true, Bool.or_eq_true, capB_iff, smaB_iff, capB_iff, smaB_iff, upB_nat]
        split <;> omega
      simp only [codeW, upB_dig, this, ih]

end Fm
end Go.Proofs.YtcaiejbnhjiflaaGreatDoor
