/-
  Make for every argument, and an identifier as its parts.
-/
import Derived.Test.YtbgniplhlnipoaaDoorWalk6
namespace Go.Proofs.YtbgniplhlnipoaaDoor
open Go.RowKit
namespace Id1

set_option maxRecDepth 100000 in
set_option maxHeartbeats 2000000 in
theorem make_no (k o : ByteArray) (n : Int) (w : World) (hk : k.size ≤ maxLen) (ho : o.size ≤ maxLen) (hno : mkOk k.data.toList n o.data.toList = false) :
    Calls Tryd.prog 12 #[.string k, .int .i64 n, .string o] w fun e w' => e = .returned (.tuple #[.string ⟨#[]⟩, .int .i64 1]) ∧ Below w.heap.size w w' := by
  have c1 := fun w => isLetters_any k w hk
  have c2 := fun w => isLetters_any o w ho
  unfold mkOk at hno
  generalize lettersB k.data.toList = b1 at c1 hno
  generalize lettersB o.data.toList = b2 at c2 hno
  have C1 := hid c1
  have C2 := hid c2
  clear c1 c2
  cases b1
  · clear hno hk ho
    go_enter Tryd.func12, Tryd.ntmps12
    go_wp2_with fail
    refine (C1.out _).mono ?_
    rintro e w1 ⟨rfl, hb1⟩
    go_wp2
    go_ret2
    exact ⟨rfl, hb1⟩
  by_cases h0 : n < 0
  · have hd0 : decide (n < 0) = true := decide_eq_true h0
    clear hno hk ho
    go_enter Tryd.func12, Tryd.ntmps12
    go_wp2_with fail
    refine (C1.out _).mono ?_
    rintro e w1 ⟨rfl, hb1⟩
    go_wp2
    go_ret2
    exact ⟨rfl, hb1⟩
  have hd0 : decide (n < 0) = false := decide_eq_false h0
  by_cases h9 : 99999999 < n
  · have hd9 : decide (99999999 < n) = true := decide_eq_true h9
    clear hno hk ho
    go_enter Tryd.func12, Tryd.ntmps12
    go_wp2_with fail
    refine (C1.out _).mono ?_
    rintro e w1 ⟨rfl, hb1⟩
    go_wp2
    go_ret2
    exact ⟨rfl, hb1⟩
  have hd9 : decide (99999999 < n) = false := decide_eq_false h9
  have hb2 : b2 = false := by
    have e0 : decide (0 ≤ n) = true := by simp; omega
    have e1 : decide (n ≤ 99999999) = true := by simp; omega
    rw [e0, e1] at hno
    simpa using hno
  subst hb2
  clear hno hk ho
  go_enter Tryd.func12, Tryd.ntmps12
  go_wp2_with fail
  refine (C1.out _).mono ?_
  rintro e w1 ⟨rfl, hb1⟩
  go_wp2_with fail
  refine (C2.out _).mono ?_
  rintro e w2 ⟨rfl, hb2⟩
  go_wp2
  go_ret2
  exact ⟨rfl, hb1.trans (hb2.mono hb1.size)⟩

theorem make_any (k o : ByteArray) (n : Int) (w : World) (hk : k.size ≤ maxLen) (ho : o.size ≤ maxLen) (hT : Tabs w) :
    Calls Tryd.prog 12 #[.string k, .int .i64 n, .string o] w fun e w' => e = .returned (.tuple #[.string ⟨(mkV k.data.toList n o.data.toList).toArray⟩, .int .i64 (mkE k.data.toList n o.data.toList)]) ∧ Below w.heap.size w w' := by
  unfold mkV mkE
  by_cases h : mkOk k.data.toList n o.data.toList = true
  · rw [if_pos h, if_pos h]
    have h' := h
    unfold mkOk at h'
    simp only [Bool.and_eq_true, decide_eq_true_eq] at h'
    obtain ⟨⟨⟨h1, h2⟩, h3⟩, h4⟩ := h'
    obtain ⟨m, rfl⟩ := Int.eq_ofNat_of_zero_le h2
    exact make_yes k o m w h1 h4 (by omega) hT
  · rw [if_neg h, if_neg h]
    exact make_no k o n w hk ho (by simpa using h)

theorem digs_of_num : ∀ (k : Nat) (l : List UInt8), l.length = k → digitsB l = true → digs k (num l) = l
  | 0, l, h, _ => by rw [List.length_eq_zero_iff.mp h]; rfl
  | k + 1, l, h, hd => by
    have hne : l ≠ [] := by intro e; rw [e] at h; simp at h
    obtain ⟨i, b, rfl⟩ : ∃ i b, l = i ++ [b] := ⟨l.dropLast, l.getLast hne, (List.dropLast_concat_getLast hne).symm⟩
    have hi : i.length = k := by simpa using h
    have hd' : digitsB i = true ∧ digB b = true := by
      unfold digitsB at hd ⊢
      rw [List.all_append] at hd
      simpa using hd
    have hb := digB_bd hd'.2
    have e : num (i ++ [b]) = 10 * num i + (b.toNat - 48) := by unfold num; rw [numF_append, numF_cons, numF_nil]
    rw [digs, e, show (10 * num i + (b.toNat - 48)) / 10 = num i by omega, show (10 * num i + (b.toNat - 48)) % 10 = b.toNat - 48 by omega, digs_of_num k i hi hd'.1]
    congr 2
    refine UInt8.toNat.inj ?_
    rw [ofNat_dig (by omega)]
    omega

/-- An identifier is made from its parts. -/
theorem valid_mk {l : List UInt8} (h : validB l = true) : lettersB (l.take 2) = true ∧ lettersB (l.drop 11) = true ∧ num ((l.drop 2).take 8) ≤ 99999999 ∧ mkL (l.take 2) (num ((l.drop 2).take 8)) (l.drop 11) = l := by
  have hv : shapeB l = true ∧ dg (l.getD 10 0) = chk ((l.drop 2).take 8) := by simpa [validB] using h
  obtain ⟨hs, hc⟩ := hv
  obtain ⟨h13, h1, -, h2⟩ := shape_parts hs
  obtain ⟨hdg, hd8⟩ := shape_digits hs
  have hlt := num_lt _ hdg
  rw [hd8] at hlt
  refine ⟨h1, h2, by omega, ?_⟩
  unfold mkL
  rw [digs_of_num 8 _ hd8 hdg, ← hc]
  have hb := digB_bd (shape_digit hs 10 (by omega) (by omega))
  have e : UInt8.ofNat (48 + (dg (l.getD 10 0)).toNat) = l.getD 10 0 := by
    refine UInt8.toNat.inj ?_
    unfold dg
    rw [ofNat_dig (by omega)]
    omega
  rw [e]
  match l, h13 with
  | [a0, a1, a2, a3, a4, a5, a6, a7, a8, a9, a10, a11, a12], _ => rfl

theorem mkL_num {k o : List UInt8} {n : Nat} (hk : lettersB k = true) (ho : lettersB o = true) (hn : n ≤ 99999999) : serV (mkL k n o) = n ∧ serE (mkL k n o) = 0 := by
  obtain ⟨hv, -, -, -, h8⟩ := mkL_valid (n := n) hk ho
  unfold serV serE
  rw [if_pos hv, if_pos hv, h8, digs_num 8 n (by omega)]
  exact ⟨rfl, rfl⟩

end Id1
end Go.Proofs.YtbgniplhlnipoaaDoor
