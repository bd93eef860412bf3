/-
  Plain mathematics of layer 4: what strings.FieldsFunc splits at blanks and tabs are the words. No program is named here.
-/
import Derived.Test.YtcaiejbnhjiflaaGreatDoorMa
import Derived.Lib.FieldsP
namespace Go.Proofs.YtcaiejbnhjiflaaGreatDoor
namespace Fm

def blkR (r : Nat) : Bool := decide (r = 32) || decide (r = 9)
theorem blkR_iff (r : Nat) : blkR r = true ↔ r = 32 ∨ r = 9 := by simp [blkR]
theorem blkR_iff_false (r : Nat) : blkR r = false ↔ r ≠ 32 ∧ r ≠ 9 := by simp [blkR]
theorem get_at (s : ByteArray) (i : Nat) (h : i < s.size) : s.get! i = s.data.toList.getD i 0 := by
  have : i < s.data.toList.length := by simpa using h
  rw [List.getD, List.getElem?_eq_getElem this]
  show s.data[i]! = _
  rw [getElem!_pos s.data i (by simpa using h)]
  simp
theorem size_len (s : ByteArray) : s.data.toList.length = s.size := by simp
/-- A rune: a blank is one byte, any other rune has no blank among its bytes. -/
theorem decode_blk (s : ByteArray) (i : Nat) (h : i < s.size) :
    (blkR (Utf8.decode s i).1 = true → (Utf8.decode s i).2 = 1 ∧ blkB (s.data.toList.getD i 0) = true) ∧
    (blkR (Utf8.decode s i).1 = false → 1 ≤ (Utf8.decode s i).2 ∧ i + (Utf8.decode s i).2 ≤ s.size ∧ ∀ k, k < (Utf8.decode s i).2 → blkB (s.data.toList.getD (i + k) 0) = false) := by
  have big : ∀ k, i + k < s.size → 128 ≤ (s.get! (i + k)).toNat → blkB (s.data.toList.getD (i + k) 0) = false := by
    intro k hk h2
    rw [← get_at s _ hk, Bool.eq_false_iff]
    intro h3
    rw [blkB_iff] at h3; omega
  have h0 : (s.get! (i + 0)) = s.data.toList.getD i 0 := get_at s i h
  have blkR_of : ∀ r, 128 ≤ r → blkR r = false := by
    intro r hr; unfold blkR; simp; omega
  have one : ∀ r, 128 ≤ r → 128 ≤ (s.get! (i + 0)).toNat → (blkR r = true → (1 : Nat) = 1 ∧ blkB (s.data.toList.getD i 0) = true) ∧ (blkR r = false → 1 ≤ 1 ∧ i + 1 ≤ s.size ∧ ∀ k, k < 1 → blkB (s.data.toList.getD (i + k) 0) = false) := by
    intro r hr hb
    refine ⟨fun h' => (by rw [blkR_of r hr] at h'; cases h'), fun _ => ⟨Nat.le_refl _, h, fun k hk => ?_⟩⟩
    obtain rfl : k = 0 := by omega
    exact big 0 h hb
  unfold Utf8.decode
  simp only [Utf8.runeError, ge_iff_le, Bool.and_eq_true, decide_eq_true_eq, beq_iff_eq]
  split
  · rename_i hb
    rw [h0] at hb ⊢
    refine ⟨fun h' => ⟨rfl, ?_⟩, fun h' => ⟨Nat.le_refl _, h, fun k hk => ?_⟩⟩
    · rw [blkR_iff] at h'; rw [blkB_iff]; exact h'
    · obtain rfl : k = 0 := by simpa using hk
      rw [Bool.eq_false_iff]; intro h3; rw [Nat.add_zero, blkB_iff] at h3
      rw [blkR_iff_false] at h'; omega
  · rename_i hb
    have hb : 128 ≤ (s.get! (i + 0)).toNat := by omega
    have many : ∀ r n, 128 ≤ r → 1 ≤ n → (∀ k, 1 ≤ k → k < n → i + k < s.size ∧ (s.get! (i + k)).toNat / 64 = 2) → (blkR r = true → n = 1 ∧ blkB (s.data.toList.getD i 0) = true) ∧ (blkR r = false → 1 ≤ n ∧ i + n ≤ s.size ∧ ∀ k, k < n → blkB (s.data.toList.getD (i + k) 0) = false) := by
      intro r n hr hn hk
      refine ⟨fun h' => (by rw [blkR_of r hr] at h'; cases h'), fun _ => ⟨hn, ?_, fun k hkn => ?_⟩⟩
      · rcases Nat.eq_or_lt_of_le hn with e | e
        · omega
        · have := (hk (n - 1) (by omega) (by omega)).1; omega
      · rcases Nat.eq_zero_or_pos k with rfl | h1
        · exact big 0 h hb
        · obtain ⟨a1, a2⟩ := hk k h1 hkn
          exact big k a1 (by omega)
    split
    · rename_i h2
      split
      · exact many _ 2 (by assumption) (by omega) (fun k h1 h3 => by obtain rfl : k = 1 := by omega
                                                                     exact h2.2)
      · exact one _ (by omega) hb
    · split
      · rename_i h2
        split
        · rename_i h3
          exact many _ 3 (by omega) (by omega) (fun k h1 h4 => by
            rcases (show k = 1 ∨ k = 2 by omega) with rfl | rfl
            · exact h2.1.2
            · exact h2.2)
        · exact one _ (by omega) hb
      · split
        · rename_i h2
          split
          · rename_i h3
            exact many _ 4 (by omega) (by omega) (fun k h1 h4 => by
              rcases (show k = 1 ∨ k = 2 ∨ k = 3 by omega) with rfl | rfl | rfl
              · exact h2.1.1.2
              · exact h2.1.2
              · exact h2.2)
          · exact one _ (by omega) hb
        · exact one _ (by omega) hb

/-- The piece of a text that is open. -/
def curW (s : ByteArray) (st : Option Nat) (pos : Nat) : W := match st with | some a => (s.extract a pos).data.toList | none => []
theorem extract_list (s : ByteArray) (a b : Nat) : (s.extract a b).data.toList = (s.data.toList.drop a).take (b - a) := by
  rw [ByteArray.data_extract]; simp [List.extract]
theorem drop_run (l : W) (pos n : Nat) (h : pos + n ≤ l.length) (hn : ∀ k, k < n → blkB (l.getD (pos + k) 0) = false) (cur : W) : wordsF cur (l.drop pos) = wordsF (cur ++ (l.drop pos).take n) (l.drop (pos + n)) := by
  induction n generalizing pos cur with
  | zero => simp
  | succ n ih =>
    have hlt : pos < l.length := by omega
    have hb := hn 0 (by omega)
    rw [Nat.add_zero, List.getD, List.getElem?_eq_getElem hlt, Option.getD_some] at hb
    rw [List.drop_eq_getElem_cons hlt, wordsF_cons, if_neg (by rw [hb]; simp), ih (pos + 1) (by omega) (fun k hk => by have := hn (k + 1) (by omega); rwa [show pos + 1 + k = pos + (k + 1) by omega]), List.take_succ_cons, List.append_assoc, show pos + 1 + n = pos + (n + 1) by omega]
    rfl
theorem spans_words (s : ByteArray) : ∀ (f pos : Nat) (st : Option Nat) (acc : List (Nat × Nat)), s.size ≤ pos + f → (∀ a, st = some a → a < pos) → pos ≤ s.size →
    (Lib.closeSpans s (Lib.spansFromP blkR s f pos st acc)).map (fun x => (s.extract x.1 x.2).data.toList) = acc.map (fun x => (s.extract x.1 x.2).data.toList) ++ wordsF (curW s st pos) (s.data.toList.drop pos) := by
  intro f
  have fin : ∀ (pos : Nat) (st : Option Nat) (acc : List (Nat × Nat)), (∀ a, st = some a → a < pos) → pos = s.size → (Lib.closeSpans s (acc, st)).map (fun x => (s.extract x.1 x.2).data.toList) = acc.map (fun x => (s.extract x.1 x.2).data.toList) ++ wordsF (curW s st pos) (s.data.toList.drop pos) := by
    intro pos st acc hst hp
    subst hp
    rw [List.drop_eq_nil_of_le (by simp), wordsF_nil]
    cases st with
    | none => simp [Lib.closeSpans, curW]
    | some a =>
      have ha := hst a rfl
      have hne : curW s (some a) s.size ≠ [] := by
        intro e
        have := congrArg List.length e
        unfold curW at this
        simp only at this
        rw [extract_list, List.length_take, List.length_drop, size_len] at this
        simp at this; omega
      rw [if_neg hne]
      simp [Lib.closeSpans, curW]
  induction f with
  | zero =>
    intro pos st acc h1 hst hp
    exact fin pos st acc hst (by omega)
  | succ f ih =>
    intro pos st acc h1 hst hp
    by_cases hlt : pos < s.size
    · obtain ⟨d1, d2⟩ := decode_blk s pos hlt
      simp only [Lib.spansFromP, if_pos hlt]
      have hll : pos < s.data.toList.length := by rw [size_len]; exact hlt
      cases hb : blkR (Utf8.decode s pos).1
      · obtain ⟨e1, e2, e3⟩ := d2 hb
        simp only [Bool.false_eq_true, if_false]
        rw [drop_run s.data.toList pos _ (by rw [size_len]; exact e2) e3]
        cases st with
        | none =>
          simp only
          rw [ih _ _ _ (by omega) (fun a ha => by cases ha; omega) e2]
          unfold curW
          simp only
          rw [extract_list, List.nil_append, show pos + (Utf8.decode s pos).2 - pos = (Utf8.decode s pos).2 by omega]
        | some a =>
          have ha := hst a rfl
          simp only
          rw [ih _ _ _ (by omega) (fun b hb => by cases hb; omega) e2]
          congr 2
          unfold curW
          simp only
          rw [extract_list, extract_list, show pos + (Utf8.decode s pos).2 - a = (pos - a) + (Utf8.decode s pos).2 by omega, List.take_add, List.drop_drop, show a + (pos - a) = pos by omega]
      · obtain ⟨e1, e2⟩ := d1 hb
        simp only [if_true]
        rw [e1]
        rw [List.getD, List.getElem?_eq_getElem hll, Option.getD_some] at e2
        rw [List.drop_eq_getElem_cons hll, wordsF_blk e2, wordsF_nil]
        cases st with
        | none =>
          simp only
          rw [ih _ _ _ (by omega) (fun a ha => by cases ha) (by omega)]
          simp [curW]
        | some a =>
          have ha := hst a rfl
          have hne : curW s (some a) pos ≠ [] := by
            intro e
            have := congrArg List.length e
            unfold curW at this
            simp only at this
            rw [extract_list, List.length_take, List.length_drop, size_len] at this
            simp at this; omega
          simp only
          rw [ih _ _ _ (by omega) (fun b hb => by cases hb) (by omega), if_neg hne]
          simp [curW]
    · rw [Lib.spansFromP_end _ _ _ _ _ _ hlt]
      exact fin pos st acc hst (by omega)
/-- THE PIECES ARE THE WORDS. -/
theorem fields_words (s : ByteArray) : (Lib.goFieldsP blkR s).map (fun x => x.data.toList) = wordsL s.data.toList := by
  unfold Lib.goFieldsP Lib.spansOfP
  rw [List.map_map]
  have := spans_words s s.size 0 none [] (by omega) (fun a ha => by cases ha) (Nat.zero_le _)
  rw [List.map_nil, List.nil_append, List.drop_zero] at this
  exact this

end Fm
end Go.Proofs.YtcaiejbnhjiflaaGreatDoor
