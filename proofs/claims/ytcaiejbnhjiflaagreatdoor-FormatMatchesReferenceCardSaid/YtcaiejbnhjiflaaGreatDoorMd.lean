/-
  Plain mathematics of layer 4: the number of readings; addresses that fit; printing. No program is named here.
-/
import Derived.Test.YtcaiejbnhjiflaaGreatDoorMc
namespace Go.Proofs.YtcaiejbnhjiflaaGreatDoor
namespace Fm

theorem ltL_irrefl (l : List Nat) : ¬ ltL l l := by
  induction l with
  | nil => exact fun h => h
  | cons a l ih =>
    rintro (h | ⟨_, h⟩)
    · omega
    · exact ih h
/-- No two readings are equal. -/
theorem rdA_nodup (r : List Ln) (a : Ad) (hu : uniq (partsR r)) (hw : ∀ p ∈ partsR r, partB p = true) : (rdA r a).Pairwise fun x y => ltL (cnts (partsR r) x) (cnts (partsR r) y) := by
  have := rdG_order r [] [] a hu hw
  rw [rdG_nil, if_pos rfl] at this
  exact this

def nsev (ps : List Pt) : Nat := (ps.filter sevB).length
theorem nsev_yes {p : Pt} {ps : List Pt} (h : sevB p = true) : nsev (p :: ps) = nsev ps + 1 := by unfold nsev; rw [List.filter_cons_of_pos h]; rfl
theorem nsev_no {p : Pt} {ps : List Pt} (h : sevB p = false) : nsev (p :: ps) = nsev ps := by unfold nsev; rw [List.filter_cons_of_neg (by rw [h]; simp)]
theorem nsev_append (a b : List Pt) : nsev (a ++ b) = nsev a + nsev b := by unfold nsev; rw [List.filter_append, List.length_append]
theorem rdL_none (ps : List Pt) : ∀ (a : Ad) (ws : List W), nsev ps = 0 → (rdL ps a ws).length ≤ 1 ∧ (rdL ps a ws ≠ [] → ws.length = ps.length) := by
  induction ps with
  | nil =>
    intro a ws _
    rw [rdL_nil]; split
    · rename_i h; rw [h]; exact ⟨by simp, fun _ => rfl⟩
    · exact ⟨by simp, fun h => absurd rfl h⟩
  | cons p ps ih =>
    intro a ws h0
    have hs : sevB p = false := by
      by_cases h : sevB p = true
      · rw [nsev_yes h] at h0; omega
      · simpa using h
    rw [nsev_no hs] at h0
    rw [rdL_single hs]
    split
    · rename_i hc
      obtain ⟨i1, i2⟩ := ih (setF p.k (ws.take 1) a) (ws.drop 1) h0
      refine ⟨i1, fun h => ?_⟩
      have := i2 h
      rw [List.length_drop] at this
      rw [List.length_cons]; omega
    · exact ⟨by simp, fun h => absurd rfl h⟩
theorem rdL_four (p : Pt) (ps : List Pt) (a : Ad) (ws : List W) : ∃ f : Nat → List Ad, rdL (p :: ps) a ws = f 0 ++ (f 1 ++ (f 2 ++ f 3)) ∧ ∀ i, f i = [] ∨ (i + 1 ≤ ws.length ∧ ∃ b, f i = rdL ps b (ws.drop (i + 1))) := by
  refine ⟨fun i => if i + 1 ≤ ws.length ∧ canB p (ws.take (i + 1)) = true then rdL ps (setF p.k (ws.take (i + 1)) a) (ws.drop (i + 1)) else [], ?_, fun i => ?_⟩
  · rw [rdL_cons]
    unfold rdN
    rw [show List.range 4 = [0, 1, 2, 3] from rfl]
    simp only [List.flatMap_cons, List.flatMap_nil, List.append_nil]
  · by_cases h : i + 1 ≤ ws.length ∧ canB p (ws.take (i + 1)) = true
    · exact .inr ⟨h.1, _, if_pos h⟩
    · exact .inl (if_neg h)
theorem rdL_one (ps : List Pt) : ∀ (a : Ad) (ws : List W), nsev ps ≤ 1 → (rdL ps a ws).length ≤ 1 := by
  induction ps with
  | nil => intro a ws _; exact (rdL_none [] a ws rfl).1
  | cons p ps ih =>
    intro a ws h0
    by_cases hs : sevB p = true
    · rw [nsev_yes hs] at h0
      obtain ⟨f, he, hf⟩ := rdL_four p ps a ws
      have key : ∀ i, (f i).length ≤ 1 ∧ (f i ≠ [] → ws.length = i + 1 + ps.length) := by
        intro i
        rcases hf i with h | ⟨hl, b, h⟩
        · rw [h]; exact ⟨by simp, fun h => absurd rfl h⟩
        · obtain ⟨i1, i2⟩ := rdL_none ps b (ws.drop (i + 1)) (by omega)
          rw [h]
          refine ⟨i1, fun h => ?_⟩
          have := i2 h
          rw [List.length_drop] at this
          omega
      have k2 : ∀ i, (f i).length = 0 ∨ ((f i).length = 1 ∧ ws.length = i + 1 + ps.length) := by
        intro i
        obtain ⟨a1, a2⟩ := key i
        by_cases h : f i = []
        · left; rw [h]; rfl
        · right
          have : (f i).length ≠ 0 := fun k => h (List.length_eq_zero_iff.1 k)
          exact ⟨by omega, a2 h⟩
      rw [he]
      simp only [List.length_append]
      have := k2 0
      have := k2 1
      have := k2 2
      have := k2 3
      omega
    · have hs : sevB p = false := by simpa using hs
      rw [nsev_no hs] at h0
      rw [rdL_single hs]
      split
      · exact ih _ _ h0
      · simp
theorem rdL_num (ps : List Pt) : ∀ (a : Ad) (ws : List W), (rdL ps a ws).length ≤ 4 ^ (nsev ps - 1) := by
  induction ps with
  | nil => intro a ws; exact (rdL_none [] a ws rfl).1
  | cons p ps ih =>
    intro a ws
    by_cases h1 : nsev (p :: ps) ≤ 1
    · rw [show nsev (p :: ps) - 1 = 0 by omega]; exact rdL_one _ _ _ h1
    by_cases hs : sevB p = true
    · rw [nsev_yes hs] at h1 ⊢
      obtain ⟨f, he, hf⟩ := rdL_four p ps a ws
      have key : ∀ i, (f i).length ≤ 4 ^ (nsev ps - 1) := by
        intro i
        rcases hf i with h | ⟨hl, b, h⟩
        · rw [h]; exact Nat.zero_le _
        · rw [h]; exact ih _ _
      rw [he, show nsev ps + 1 - 1 = nsev ps - 1 + 1 by omega, Nat.pow_succ]
      simp only [List.length_append]
      have := key 0
      have := key 1
      have := key 2
      have := key 3
      omega
    · have hs : sevB p = false := by simpa using hs
      rw [nsev_no hs] at h1 ⊢
      rw [rdL_single hs]
      split
      · exact ih _ _
      · exact Nat.zero_le _
theorem len_flatMap {α β : Type} (f : α → List β) (m : Nat) (l : List α) (h : ∀ x ∈ l, (f x).length ≤ m) : (l.flatMap f).length ≤ l.length * m := by
  induction l with
  | nil => simp
  | cons a l ih =>
    rw [List.flatMap_cons, List.length_append, List.length_cons, Nat.succ_mul]
    have := h a (List.mem_cons_self ..)
    have := ih fun x hx => h x (List.mem_cons_of_mem _ hx)
    omega
theorem rdA_num (r : List Ln) (a : Ad) : (rdA r a).length ≤ 4 ^ (nsev (partsR r) - 1) := by
  induction r generalizing a with
  | nil => rw [rdA_nil]; exact Nat.le_refl _
  | cons l r ih =>
    rw [rdA_cons]
    refine Nat.le_trans (len_flatMap _ _ _ fun x _ => ih x) ?_
    have h1 := rdL_num l.1 a l.2
    refine Nat.le_trans (Nat.mul_le_mul_right _ h1) ?_
    rw [← Nat.pow_add]
    apply Nat.pow_le_pow_right (by omega)
    show _ ≤ nsev (l.1 ++ partsR r) - 1
    rw [nsev_append]
    omega
theorem rdA_one (r : List Ln) (a : Ad) (h : ∀ l ∈ r, nsev l.1 ≤ 1) : (rdA r a).length ≤ 1 := by
  induction r generalizing a with
  | nil => rw [rdA_nil]; exact Nat.le_refl _
  | cons l r ih =>
    rw [rdA_cons]
    have h1 := rdL_one l.1 a l.2 (h l (List.mem_cons_self ..))
    refine Nat.le_trans (len_flatMap _ 1 _ fun x _ => ih x fun m hm => h m (List.mem_cons_of_mem _ hm)) ?_
    omega
open Classical in
theorem nsev_le (ps : List Pt) (hu : uniq ps) (hw : ∀ p ∈ ps, partB p = true) : nsev ps ≤ (if kin ps 4 then 1 else 0) + (if kin ps 5 then 1 else 0) + (if kin ps 6 then 1 else 0) := by
  induction ps with
  | nil => exact Nat.zero_le _
  | cons p ps ih =>
    have ih := ih hu.2 fun q hq => hw q (List.mem_cons_of_mem _ hq)
    by_cases hs : sevB p = true
    · rw [nsev_yes hs]
      have h4 : 4 ≤ p.k := by simpa [sevB] using hs
      have h6 := (wfp (hw p (List.mem_cons_self ..))).2.1
      have hn := hu.1 (by omega)
      simp only [kin_cons]
      rcases (show p.k = 4 ∨ p.k = 5 ∨ p.k = 6 by omega) with e | e | e <;> rw [e] at hn ⊢ <;> simp [hn] at ih ⊢ <;> omega
    · have hs : sevB p = false := by simpa using hs
      rw [nsev_no hs]
      have h4 : ¬ 4 ≤ p.k := by simpa [sevB] using hs
      simp only [kin_cons]
      have e4 : p.k ≠ 4 := by omega
      have e5 : p.k ≠ 5 := by omega
      have e6 : p.k ≠ 6 := by omega
      simpa [e4, e5, e6] using ih
/-- THERE ARE NEVER MORE THAN 16 READINGS. -/
theorem rdA_few (r : List Ln) (a : Ad) (hu : uniq (partsR r)) (hw : ∀ p ∈ partsR r, partB p = true) : (rdA r a).length ≤ 16 := by
  refine Nat.le_trans (rdA_num r a) ?_
  have h := nsev_le _ hu hw
  have h3 : nsev (partsR r) ≤ 3 := by
    refine Nat.le_trans h ?_
    repeat' split
    all_goals omega
  exact Nat.le_trans (Nat.pow_le_pow_right (by omega) (show nsev (partsR r) - 1 ≤ 2 by omega)) (by decide)

/-! ### Numbers -/
theorem dec_digits (n : Nat) : (∀ b ∈ Lib.decDigits n, digB b = true) ∧ numF 0 (Lib.decDigits n) = n ∧ (0 < n → ((Lib.decDigits n).getD 0 0).toNat ≠ 48) ∧ 1 ≤ (Lib.decDigits n).length := by
  induction n using Nat.strongRecOn with
  | _ n ih =>
    rw [Lib.decDigits]
    split
    · rename_i h
      have e : (UInt8.ofNat (48 + n)).toNat = 48 + n := by rw [UInt8.toNat_ofNat']; omega
      refine ⟨fun b hb => ?_, ?_, fun h0 => ?_, by simp⟩
      · rw [List.mem_singleton.1 hb, digB_iff]; omega
      · rw [numF_cons, numF_nil]; omega
      · show (UInt8.ofNat (48 + n)).toNat ≠ 48
        omega
    · rename_i h
      obtain ⟨i1, i2, i3, i4⟩ := ih (n / 10) (by omega)
      have e : (UInt8.ofNat (48 + n % 10)).toNat = 48 + n % 10 := by rw [UInt8.toNat_ofNat']; omega
      refine ⟨fun b hb => ?_, ?_, fun h0 => ?_, by simp⟩
      · rcases List.mem_append.1 hb with hb | hb
        · exact i1 b hb
        · rw [List.mem_singleton.1 hb, digB_iff]; omega
      · rw [numF_append, i2, numF_cons, numF_nil]; omega
      · have := i3 (by omega)
        match hd : Lib.decDigits (n / 10), i4 with
        | b :: l, _ => rw [hd] at this; exact this
theorem dec_len (n k : Nat) (h : n < 10 ^ (k + 1)) : (Lib.decDigits n).length ≤ k + 1 := by
  induction k generalizing n with
  | zero => rw [Lib.decDigits, dif_pos (by simpa using h)]; simp
  | succ k ih =>
    rw [Lib.decDigits]
    split
    · simp
    · have := ih (n / 10) (by rw [Nat.pow_succ] at h; omega)
      rw [List.length_append, List.length_singleton]; omega
theorem dec_num {w : W} (h : ∀ b ∈ w, digB b = true) (h0 : w ≠ []) (h1 : (w.getD 0 0).toNat ≠ 48) : Lib.decDigits (numF 0 w) = w := by
  obtain ⟨n, hn⟩ : ∃ n, n = w.length := ⟨_, rfl⟩
  induction n generalizing w with
  | zero => exact absurd (List.length_eq_zero_iff.1 hn.symm) h0
  | succ n ih =>
    rcases List.eq_nil_or_concat w with e | ⟨u, b, e⟩
    · exact absurd e h0
    · rw [List.concat_eq_append] at e
      subst e
      have hb := (digB_iff b).1 (h b (by simp))
      rw [numF_append, numF_cons, numF_nil]
      by_cases hu : u = []
      · subst hu
        rw [numF_nil, Lib.decDigits, dif_pos (by omega), List.nil_append]
        congr 1
        apply UInt8.toNat_inj.1
        rw [UInt8.toNat_ofNat']; omega
      · have h1' : (u.getD 0 0).toNat ≠ 48 := by
          match u, hu with
          | c :: u, _ => exact h1
        have hd : ∀ c ∈ u, digB c = true := fun c hc => h c (List.mem_append_left _ hc)
        have i := ih hd hu h1' (by simp at hn; omega)
        have hp : 1 ≤ numF 0 u := by
          match u, hu, h1', hd with
          | c :: u, _, h1', hd =>
            have hc := (digB_iff c).1 (hd c (List.mem_cons_self ..))
            have h1'' : c.toNat ≠ 48 := h1'
            rw [numF_cons]
            have := numF_ge u (10 * 0 + (c.toNat - 48))
            omega
        rw [Lib.decDigits, dif_neg (by omega), show (10 * numF 0 u + (b.toNat - 48)) / 10 = numF 0 u by omega, i, show (10 * numF 0 u + (b.toNat - 48)) % 10 = b.toNat - 48 by omega]
        congr 2
        apply UInt8.toNat_inj.1
        rw [UInt8.toNat_ofNat']; omega
theorem itoa_nat (n : Nat) : Lib.itoa (n : Int) = Lib.decDigits n := by
  unfold Lib.itoa; rw [if_neg (by omega)]; simp
theorem itoa_num {w : W} (h : isNum w = true) : Lib.itoa ((numF 0 w : Nat) : Int) = w := by
  obtain ⟨h1, h2, h3, h4⟩ := (isNum_iff w).1 h
  rw [itoa_nat]; exact dec_num h4 (fun e => by rw [e] at h1; simp at h1) h3
theorem num_itoa {n : Nat} (h1 : 1 ≤ n) (h2 : n ≤ 9999) : isNum (Lib.itoa (n : Int)) = true ∧ numF 0 (Lib.itoa (n : Int)) = n := by
  obtain ⟨i1, i2, i3, i4⟩ := dec_digits n
  rw [itoa_nat]
  exact ⟨(isNum_iff _).2 ⟨i4, dec_len n 3 (by omega), i3 h1, i1⟩, i2⟩
/-- Which texts of numbers are words of digits. -/
theorem isNum_itoa {n : Int} (h : isNum (Lib.itoa n) = true) : 1 ≤ n ∧ n ≤ 9999 ∧ ((numF 0 (Lib.itoa n) : Nat) : Int) = n := by
  rcases (show n < 0 ∨ 0 ≤ n by omega) with hn | hn
  · exfalso
    obtain ⟨_, _, _, h4⟩ := (isNum_iff _).1 h
    unfold Lib.itoa at h4
    rw [if_pos hn] at h4
    have := (digB_iff 45).1 (h4 45 (List.mem_cons_self ..))
    simp at this
  · obtain ⟨m, rfl⟩ := Int.eq_ofNat_of_zero_le hn
    have hb := num_bd h
    obtain ⟨_, i2, _, _⟩ := dec_digits m
    rw [← itoa_nat] at i2
    rw [i2] at hb ⊢
    omega
theorem itoa_is (n : Int) : isW (Lib.itoa n) := by
  have key : ∀ m : Nat, isW (Lib.decDigits m) := fun m => by
    obtain ⟨i1, _, _, i4⟩ := dec_digits m
    exact ⟨fun e => by rw [e] at i4; simp at i4, fun b hb => fit_blk (dig_fit (i1 b hb))⟩
  unfold Lib.itoa
  split
  · refine ⟨by simp, fun b hb => ?_⟩
    rcases List.mem_cons.1 hb with rfl | hb
    · decide
    · exact (key _).2 b hb
  · exact key _

end Fm
end Go.Proofs.YtcaiejbnhjiflaaGreatDoor
