/-
  Contracts of the reference implementation: pair, Make, Serial.
-/
import Derived.Test.YtbgniplhlnipoaaDoorRef2
import Derived.Test.YtbgniplhlnipoaaDoorMake
namespace Go.Proofs.YtbgniplhlnipoaaDoor
open Go.RowKit
namespace Id1

set_option maxRecDepth 100000 in
set_option maxHeartbeats 1000000 in
theorem rpair_any (s : ByteArray) (w : World) (hs : s.size ≤ maxLen) :
    Calls Tryd.prog 31 #[.string s] w fun e w' => e = .returned (.bool (lettersB s.data.toList)) ∧ w = w' := by
  unfold maxLen at hs
  by_cases h2 : s.size = 2
  · have i0 : 0 < s.size := by omega
    have i1 : 1 < s.size := by omega
    have hl : lettersB s.data.toList = (capB (s[0]'i0) && capB (s[1]'i1)) := by
      have g0 := Lib.getD_at s 0 i0
      have g1 := Lib.getD_at s 1 i1
      rw [g0, g1]
      have h2l : s.data.toList.length = 2 := by rw [← Lib.size_eq]; exact h2
      match s.data.toList, h2l with
      | [a, b], _ => simp [lettersB]
    have c0 := fun w => rcap_any ((s[0]'i0).toNat : Int) w (by omega) (by have := byte_bd (s[0]'i0); omega)
    have c1 := fun w => rcap_any ((s[1]'i1).toNat : Int) w (by omega) (by have := byte_bd (s[1]'i1); omega)
    rw [capI_byte] at c0 c1
    rw [hl]
    have he : ((s.size : Int) == 2) = true := by rw [h2]; rfl
    have hs2 : s.size ≤ 2 := by omega
    generalize capB (s[0]'i0) = b0 at c0 ⊢
    generalize capB (s[1]'i1) = b1 at c1 ⊢
    have C0 := hid c0
    have C1 := hid c1
    clear c0 c1 hl h2
    go_enter Tryd.func31, Tryd.ntmps31
    cases b0
    · go_wp2_with fail
      refine (C0.out _).mono ?_
      rintro e w1 ⟨rfl, rfl⟩
      go_wp2
      go_ret
      exact ⟨rfl, rfl⟩
    · go_wp2_with fail
      refine (C0.out _).mono ?_
      rintro e w1 ⟨rfl, rfl⟩
      go_wp2_with fail
      refine (C1.out _).mono ?_
      rintro e w1 ⟨rfl, rfl⟩
      go_wp2
      go_ret
      exact ⟨rfl, rfl⟩
  · have hval : lettersB s.data.toList = false := by simp [lettersB, h2]
    have hne : ((s.size : Int) == 2) = false := by simp; omega
    rw [hval]
    clear hval h2
    go_enter Tryd.func31, Tryd.ntmps31
    go_wp2
    go_ret
    exact ⟨rfl, rfl⟩

theorem digs_front : ∀ (k n : Nat), digs (k + 1) n = UInt8.ofNat (48 + n / 10 ^ k % 10) :: digs k n
  | 0, n => by rw [Nat.pow_zero, Nat.div_one]; rfl
  | k + 1, n => by
    rw [digs, digs_front k (n / 10), Nat.div_div_eq_div_mul, Nat.mul_comm 10, ← Nat.pow_succ]
    rfl

set_option maxRecDepth 100000 in
set_option maxHeartbeats 2000000 in
theorem rmake_no (k o : ByteArray) (n : Int) (w : World) (hk : k.size ≤ maxLen) (ho : o.size ≤ maxLen) (hno : mkOk k.data.toList n o.data.toList = false) :
    Calls Tryd.prog 13 #[.string k, .int .i64 n, .string o] w fun e w' => e = .returned (.tuple #[.string ⟨#[]⟩, .int .i64 1]) ∧ Below w.heap.size w w' := by
  have c1 := fun w => rpair_any k w hk
  have c2 := fun w => rpair_any o w ho
  unfold mkOk at hno
  generalize lettersB k.data.toList = b1 at c1 hno
  generalize lettersB o.data.toList = b2 at c2 hno
  have C1 := hid c1
  have C2 := hid c2
  clear c1 c2
  cases b1
  · clear hno hk ho
    go_enter Tryd.func13, Tryd.ntmps13
    go_wp2_with fail
    refine (C1.out _).mono ?_
    rintro e w1 ⟨rfl, rfl⟩
    go_wp2
    go_ret2
    exact ⟨rfl, Below.refl _ _⟩
  cases b2
  · clear hno hk ho
    go_enter Tryd.func13, Tryd.ntmps13
    go_wp2_with fail
    refine (C1.out _).mono ?_
    rintro e w1 ⟨rfl, rfl⟩
    go_wp2_with fail
    refine (C2.out _).mono ?_
    rintro e w1 ⟨rfl, rfl⟩
    go_wp2
    go_ret2
    exact ⟨rfl, Below.refl _ _⟩
  by_cases h0 : n < 0
  · have hd0 : decide (n < 0) = true := decide_eq_true h0
    clear hno hk ho
    go_enter Tryd.func13, Tryd.ntmps13
    go_wp2_with fail
    refine (C1.out _).mono ?_
    rintro e w1 ⟨rfl, rfl⟩
    go_wp2_with fail
    refine (C2.out _).mono ?_
    rintro e w1 ⟨rfl, rfl⟩
    go_wp2
    go_ret2
    exact ⟨rfl, Below.refl _ _⟩
  have hd0 : decide (n < 0) = false := decide_eq_false h0
  have h9 : 99999999 < n := by
    rcases Int.lt_or_le 99999999 n with h | h
    · exact h
    · exfalso
      have e0 : decide (0 ≤ n) = true := by simp; omega
      have e1 : decide (n ≤ 99999999) = true := by simp; omega
      rw [e0, e1] at hno
      simp at hno
  have hd9 : decide (99999999 < n) = true := decide_eq_true h9
  clear hno hk ho
  go_enter Tryd.func13, Tryd.ntmps13
  go_wp2_with fail
  refine (C1.out _).mono ?_
  rintro e w1 ⟨rfl, rfl⟩
  go_wp2_with fail
  refine (C2.out _).mono ?_
  rintro e w1 ⟨rfl, rfl⟩
  go_wp2
  go_ret2
  exact ⟨rfl, Below.refl _ _⟩

set_option maxRecDepth 100000 in
set_option maxHeartbeats 2000000 in
theorem rmake_yes (k o : ByteArray) (n : Nat) (w : World) (hk : lettersB k.data.toList = true) (ho : lettersB o.data.toList = true) (hn : n ≤ 99999999) :
    Calls Tryd.prog 13 #[.string k, .int .i64 n, .string o] w fun e w' => e = .returned (.tuple #[.string ⟨(mkL k.data.toList n o.data.toList).toArray⟩, .int .i64 0]) ∧ Below w.heap.size w w' := by
  have hk2 : k.size = 2 := by rw [Lib.size_eq]; exact letters_len hk
  have ho2 : o.size = 2 := by rw [Lib.size_eq]; exact letters_len ho
  have c1 := fun w => rpair_any k w (by unfold maxLen; omega)
  have c2 := fun w => rpair_any o w (by unfold maxLen; omega)
  rw [hk] at c1
  rw [ho] at c2
  have C1 := hid c1
  have C2 := hid c2
  have hd0 : decide ((n : Int) < 0) = false := decide_eq_false (by omega)
  have hd9 : decide ((99999999 : Int) < (n : Int)) = false := decide_eq_false (by omega)
  have hks : k.size ≤ 2 := by omega
  have hos : o.size ≤ 2 := by omega
  obtain ⟨fin, hf⟩ : ∃ fin : ByteArray, fin = ⟨(mkL k.data.toList n o.data.toList).toArray⟩ := ⟨_, rfl⟩
  rw [← hf]
  have HFin := hid hf
  clear c1 c2 hk2 ho2 hk ho hf
  go_enter Tryd.func13, Tryd.ntmps13
  go_wp2_with fail
  refine (C1.out _).mono ?_
  rintro e w1 ⟨rfl, rfl⟩
  go_wp2_with fail
  refine (C2.out _).mono ?_
  rintro e w1 ⟨rfl, rfl⟩
  go_wp2
  clear hd0 hd9
  go_loop [1, 8, 9] (fun m s i => ∃ (j : Nat) (acc : Int) (t : ByteArray), j ≤ 8 ∧ i = .int .i64 j ∧ m = .int .i64 acc ∧ s = .string t ∧ 0 ≤ acc ∧ acc ≤ 99999999 ∧ t.size ≤ 8 ∧ Hid (acc = ((n / 10 ^ j : Nat) : Int)) ∧ Hid (t.data.toList = digs j n)) (fun _ _ i => 8 - (intOf i).toNat)
  case atStart => exact ⟨0, n, ⟨#[]⟩, by omega, rfl, rfl, rfl, by omega, by omega, by decide, by unfold Hid; rw [Nat.pow_zero, Nat.div_one], rfl⟩
  case round =>
    obtain ⟨j, acc, t, hj, rfl, rfl, rfl, ha0, ha1, ht, hacc, hl⟩ := hrel
    by_cases hlt : j < 8
    · obtain ⟨d, hd⟩ : ∃ d : Nat, (d : Int) = acc % 10 := ⟨(acc % 10).toNat, by omega⟩
      have hd10 : d < 10 := by omega
      have cc := fun w => rchar_any d w hd10
      rw [hd] at cc
      obtain ⟨t1, ht1⟩ : ∃ t1 : ByteArray, t1 = ⟨#[dgt (48 + d)]⟩ := ⟨_, rfl⟩
      rw [← ht1] at cc
      have hes : t1.size ≤ 1 := by rw [ht1]; exact Nat.le_refl 1
      have hnl : (t1 ++ t).data.toList = digs (j + 1) n := by
        have e : d = n / 10 ^ j % 10 := by have := hacc.out; omega
        rw [digs_front, ← e, ByteArray.data_append, Array.toList_append, hl.out, ht1]
        rfl
      have hns : (t1 ++ t).size ≤ 8 := by rw [Lib.size_eq, hnl, digs_length]; omega
      have hna : acc / 10 = ((n / 10 ^ (j + 1) : Nat) : Int) := by
        have h1 := hacc.out
        rw [Nat.pow_succ, ← Nat.div_div_eq_div_mul]
        omega
      have CC := hid cc
      have HNL := hid hnl
      have HNA := hid hna
      clear cc ht1 hnl hna hd
      go_wp2_with (go_at_call 32; refine (CC.out _).mono ?_; rintro e w1 ⟨rfl, rfl⟩)
      go_round
      case rel => exact ⟨j + 1, acc / 10, t1 ++ t, by omega, by go_num, rfl, rfl, by omega, by omega, hns, HNA, HNL⟩
      case measure => simp [intOf]; omega
    · have hj8 : j = 8 := by omega
      subst hj8
      have hlist := hl.out
      have hcs := fun w => rcheck_any t w (by unfold maxLen; omega)
      have hv : chkV (digs 8 n) = chk (digs 8 n) ∧ chkE (digs 8 n) = 0 := by
        unfold chkV chkE
        rw [if_pos ⟨digs_length 8 n, digs_digits 8 n⟩, if_pos ⟨digs_length 8 n, digs_digits 8 n⟩]
        exact ⟨rfl, rfl⟩
      rw [hlist, hv.1, hv.2] at hcs
      have hcb : 0 ≤ chk (digs 8 n) ∧ chk (digs 8 n) ≤ 9 := cdig_bd _
      obtain ⟨d, hd⟩ : ∃ d : Nat, (d : Int) = chk (digs 8 n) := ⟨(chk (digs 8 n)).toNat, by omega⟩
      have hd10 : d < 10 := by omega
      have cc := fun w => rchar_any d w hd10
      obtain ⟨t1, ht1⟩ : ∃ t1 : ByteArray, t1 = ⟨#[dgt (48 + d)]⟩ := ⟨_, rfl⟩
      rw [← ht1] at cc
      rw [← hd] at hcs
      have hes : t1.size ≤ 1 := by rw [ht1]; exact Nat.le_refl 1
      have hfin : fin = k ++ t ++ t1 ++ o := by
        rw [HFin.out]
        refine bytes_ext ?_
        rw [ByteArray.data_append, ByteArray.data_append, ByteArray.data_append, Array.toList_append, Array.toList_append, Array.toList_append, hlist, ht1]
        unfold mkL
        rw [← hd]
        rfl
      have HK := hid hfin
      have CS := hid hcs
      have CC := hid cc
      clear hcs cc hlist hv hcb hd ht1 hfin
      go_wp2_with fail
      refine (CS.out _).mono ?_
      rintro e w2 ⟨rfl, hb2⟩
      go_wp2_with fail
      refine (CC.out _).mono ?_
      rintro e w3 ⟨rfl, rfl⟩
      go_wp2
      go_ret2
      exact ⟨(by rw [HK.out]; try rfl), hb2⟩

theorem rmake_any (k o : ByteArray) (n : Int) (w : World) (hk : k.size ≤ maxLen) (ho : o.size ≤ maxLen) :
    Calls Tryd.prog 13 #[.string k, .int .i64 n, .string o] w fun e w' => e = .returned (.tuple #[.string ⟨(mkV k.data.toList n o.data.toList).toArray⟩, .int .i64 (mkE k.data.toList n o.data.toList)]) ∧ Below w.heap.size w w' := by
  unfold mkV mkE
  by_cases h : mkOk k.data.toList n o.data.toList = true
  · rw [if_pos h, if_pos h]
    have h' := h
    unfold mkOk at h'
    simp only [Bool.and_eq_true, decide_eq_true_eq] at h'
    obtain ⟨⟨⟨h1, h2⟩, h3⟩, h4⟩ := h'
    obtain ⟨m, rfl⟩ := Int.eq_ofNat_of_zero_le h2
    exact rmake_yes k o m w h1 h4 (by omega)
  · rw [if_neg h, if_neg h]
    exact rmake_no k o n w hk ho (by simpa using h)

end Id1
end Go.Proofs.YtbgniplhlnipoaaDoor
