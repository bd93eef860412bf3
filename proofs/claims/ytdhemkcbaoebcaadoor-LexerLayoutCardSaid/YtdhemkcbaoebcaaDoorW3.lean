/-
  Contracts of skip and of the four functions that tell a token's length.
-/
import Derived.Test.YtdhemkcbaoebcaaDoorW2
namespace Go.Proofs.YtdhemkcbaoebcaaDoor
open Go.RowKit
namespace Lx

theorem gl_blank {l : List UInt8} {k : Nat} (hk : k < l.length) (h : blkB (l.getD k 0) = true) : gl (l.drop k) = gl (l.drop (k + 1)) + 1 := by
  rw [drop_cons hk]; unfold gl; rw [gapS_f, if_pos h]
theorem gl_comment {l : List UInt8} {k : Nat} (hk : k < l.length) (h : (l.getD k 0).toNat = 37) : gl (l.drop k) = pre nlfB (l.drop k) + gl (l.drop (k + pre nlfB (l.drop k))) ∧ 0 < pre nlfB (l.drop k) ∧ k + pre nlfB (l.drop k) ≤ l.length := by
  have h1 := gap_percent h (l.drop (k + 1))
  rw [← drop_cons hk, List.drop_drop] at h1
  refine ⟨h1, ?_, ?_⟩
  · rw [drop_cons hk, pre_cons, if_pos]
    · omega
    · rw [nlfB_iff]; omega
  · have := pre_le nlfB (l.drop k)
    rw [List.length_drop] at this; omega
theorem gl_none {l : List UInt8} {k : Nat} (h : blkB (l.getD k 0) = false) (h37 : (l.getD k 0).toNat ≠ 37) : gl (l.drop k) = 0 := by
  rcases Nat.lt_or_ge k l.length with hk | hk
  · rw [drop_cons hk]; exact gap_zero h h37 _
  · rw [List.drop_of_length_le hk]; rfl

set_option maxRecDepth 100000 in
set_option maxHeartbeats 2000000 in
theorem skip_any (s : ByteArray) (a : Nat) (w : World) (hs : s.size ≤ maxLen) (ha : a ≤ s.size) :
    Calls Tryd.prog 23 #[.string s, .int .i64 a] w fun e w' => e = .returned (.int .i64 ((a + gl (s.data.toList.drop a) : Nat) : Int)) ∧ w = w' := by
  have HS := hid hs
  unfold maxLen at hs
  obtain ⟨r, hr⟩ : ∃ r, r = a + gl (s.data.toList.drop a) := ⟨_, rfl⟩
  rw [← hr]
  have HR := hid hr
  clear hr
  go_enter Tryd.func23, Tryd.ntmps23
  go_wp2
  go_loop [1] (fun i => ∃ k : Nat, k ≤ s.size ∧ i = .int .i64 k ∧ Hid (k + gl (s.data.toList.drop k) = r)) (fun i => s.size - (intOf i).toNat)
  case atStart => exact ⟨a, ha, rfl, HR.out.symm⟩
  case round =>
    obtain ⟨k, hk, rfl, hp⟩ := hrel
    by_cases hlt : k < s.size
    · have C := hid (isBlank_any s[k] w)
      have hx := s_at s k hlt
      have hlt2 : k < s.data.toList.length := by rw [s_len]; exact hlt
      by_cases hb : blkB s[k] = true
      · have HN : Hid (k + 1 + gl (s.data.toList.drop (k + 1)) = r) := by
          have h1 := gl_blank hlt2 (by rw [← hx]; exact hb)
          have h2 := hp.out
          show _ = _
          omega
        rw [hb] at C
        clear hx hb hlt2
        go_wp2_with fail
        refine C.out.mono ?_
        rintro e w' ⟨rfl, rfl⟩
        go_wp2
        go_round
        case rel => exact ⟨k + 1, by omega, by go_num, HN⟩
        case measure => simp [intOf]; omega
      · rw [Bool.not_eq_true] at hb
        rw [hb] at C
        by_cases h37 : s[k].toNat = 37
        · have h1 := gl_comment hlt2 (by rw [← hx]; exact h37)
          have CP := prefix_nlf (s.extract k s.size) w (Nat.le_trans (ex_size _ _ _) HS.out)
          rw [ex_drop] at CP
          have HC := hid CP
          clear CP
          obtain ⟨m, hm⟩ : ∃ m, m = pre nlfB (s.data.toList.drop k) := ⟨_, rfl⟩
          rw [← hm] at h1 HC
          obtain ⟨h2, h3, h4⟩ := h1
          rw [s_len] at h4
          have HN : Hid (k + m + gl (s.data.toList.drop (k + m)) = r) := by
            have h5 := hp.out
            show _ = _
            omega
          have e37 : (((s[k].toNat : Nat) : Int) == 37) = true := by simp; omega
          clear hx hb h37 h2 hm
          go_wp2_with fail
          refine C.out.mono ?_
          rintro e w' ⟨rfl, rfl⟩
          go_wp2_with fail
          refine HC.out.mono ?_
          rintro e w' ⟨rfl, rfl⟩
          clear e37
          go_wp2
          go_round
          case rel => exact ⟨k + m, by omega, by go_num, HN⟩
          case measure => simp [intOf]; omega
        · have HN : Hid (r = k) := by
            have h1 := gl_none (l := s.data.toList) (k := k) (by rw [← hx]; exact hb) (by rw [← hx]; exact h37)
            have h2 := hp.out
            show _ = _
            omega
          have e37 : (((s[k].toNat : Nat) : Int) == 37) = false := by simp; omega
          clear hx hb h37
          go_wp2_with fail
          refine C.out.mono ?_
          rintro e w' ⟨rfl, rfl⟩
          go_wp2
          go_ret
          exact ⟨retI (by rw [HN.out]), rfl⟩
    · have HN : Hid (r = k) := by
        have h2 := hp.out
        rw [List.drop_of_length_le (by rw [s_len]; omega)] at h2
        show _ = _
        have : gl [] = 0 := rfl
        omega
      go_wp2
      go_ret
      exact ⟨retI (by rw [HN.out]), rfl⟩

set_option maxRecDepth 100000 in
set_option maxHeartbeats 2000000 in
theorem name_any (s : ByteArray) (w : World) (hs : s.size ≤ maxLen) (h0 : 0 < s.size) :
    Calls Tryd.prog 30 #[.string s] w fun e w' => e = .returned (.int .i64 ((nameL s.data.toList : Nat) : Int)) ∧ w = w' := by
  have C1 := hid (prefix_word s w hs)
  have C2 := hid (prefix_dig s w hs)
  unfold maxLen at hs
  have hx := s_at s 0 h0
  have hle := pre_le wordB s.data.toList
  rw [s_len] at hle
  obtain ⟨r, hr⟩ : ∃ r, r = nameL s.data.toList := ⟨_, rfl⟩
  rw [← hr]
  unfold nameL at hr
  rw [← hx] at hr
  clear hx
  obtain ⟨n, hn⟩ : ∃ n, n = pre wordB s.data.toList := ⟨_, rfl⟩
  obtain ⟨d, hd⟩ : ∃ d, d = pre digB s.data.toList := ⟨_, rfl⟩
  rw [← hn] at C1 hr hle
  rw [← hd] at C2 hr
  clear hn hd
  by_cases h20 : 20 < n
  · rw [if_pos (.inl h20)] at hr
    subst hr
    go_enter Tryd.func30, Tryd.ntmps30
    go_wp2_with fail
    refine C1.out.mono ?_
    rintro e w' ⟨rfl, rfl⟩
    go_wp2
    go_ret
    exact ⟨rfl, rfl⟩
  · by_cases hnd : n = d
    · rw [if_pos (.inr (.inl hnd))] at hr
      subst hr
      have e1 : ((n : Int) == (d : Int)) = true := by simp; omega
      clear hnd
      go_enter Tryd.func30, Tryd.ntmps30
      go_wp2_with fail
      refine C1.out.mono ?_
      rintro e w' ⟨rfl, rfl⟩
      go_wp2_with fail
      refine C2.out.mono ?_
      rintro e w' ⟨rfl, rfl⟩
      go_wp2
      go_ret
      exact ⟨rfl, rfl⟩
    · have e1 : ((n : Int) == (d : Int)) = false := by simp; omega
      by_cases h95 : s[0].toNat = 95
      · rw [if_pos (.inr (.inr h95))] at hr
        subst hr
        have e2 : (((s[0].toNat : Nat) : Int) == 95) = true := by simp; omega
        clear hnd h95
        go_enter Tryd.func30, Tryd.ntmps30
        go_wp2_with fail
        refine C1.out.mono ?_
        rintro e w' ⟨rfl, rfl⟩
        go_wp2_with fail
        refine C2.out.mono ?_
        rintro e w' ⟨rfl, rfl⟩
        go_wp2
        go_ret
        exact ⟨rfl, rfl⟩
      · rw [if_neg (by omega)] at hr
        subst hr
        have e2 : (((s[0].toNat : Nat) : Int) == 95) = false := by simp; omega
        clear hnd h95
        go_enter Tryd.func30, Tryd.ntmps30
        go_wp2_with fail
        refine C1.out.mono ?_
        rintro e w' ⟨rfl, rfl⟩
        go_wp2_with fail
        refine C2.out.mono ?_
        rintro e w' ⟨rfl, rfl⟩
        go_wp2
        go_ret
        exact ⟨rfl, rfl⟩

set_option maxRecDepth 100000 in
set_option maxHeartbeats 2000000 in
theorem num_any (s : ByteArray) (w : World) (hs : s.size ≤ maxLen) :
    Calls Tryd.prog 31 #[.string s] w fun e w' => e = .returned (.int .i64 ((numL s.data.toList : Nat) : Int)) ∧ w = w' := by
  have C1 := hid (prefix_word s w hs)
  have C2 := hid (prefix_dig s w hs)
  unfold maxLen at hs
  have hle := pre_le wordB s.data.toList
  rw [s_len] at hle
  obtain ⟨r, hr⟩ : ∃ r, r = numL s.data.toList := ⟨_, rfl⟩
  rw [← hr]
  unfold numL at hr
  obtain ⟨n, hn⟩ : ∃ n, n = pre wordB s.data.toList := ⟨_, rfl⟩
  obtain ⟨d, hd⟩ : ∃ d, d = pre digB s.data.toList := ⟨_, rfl⟩
  rw [← hn] at C1 hr hle
  rw [← hd] at C2 hr
  clear hn hd
  by_cases h20 : 8 < n
  · rw [if_pos (.inl h20)] at hr
    subst hr
    go_enter Tryd.func31, Tryd.ntmps31
    go_wp2_with fail
    refine C1.out.mono ?_
    rintro e w' ⟨rfl, rfl⟩
    go_wp2
    go_ret
    exact ⟨rfl, rfl⟩
  · by_cases hnd : n = d
    · rw [if_neg (by omega)] at hr
      subst hr
      have e1 : ((r : Int) != (d : Int)) = false := by simp; omega
      clear hnd
      go_enter Tryd.func31, Tryd.ntmps31
      go_wp2_with fail
      refine C1.out.mono ?_
      rintro e w' ⟨rfl, rfl⟩
      go_wp2_with fail
      refine C2.out.mono ?_
      rintro e w' ⟨rfl, rfl⟩
      go_wp2
      go_ret
      exact ⟨rfl, rfl⟩
    · rw [if_pos (.inr hnd)] at hr
      subst hr
      have e1 : ((n : Int) != (d : Int)) = true := by simp; omega
      clear hnd
      go_enter Tryd.func31, Tryd.ntmps31
      go_wp2_with fail
      refine C1.out.mono ?_
      rintro e w' ⟨rfl, rfl⟩
      go_wp2_with fail
      refine C2.out.mono ?_
      rintro e w' ⟨rfl, rfl⟩
      go_wp2
      go_ret
      exact ⟨rfl, rfl⟩

theorem has_any (s : ByteArray) (q : ByteArray) (p : List UInt8) (hq : q.data.toList = p) (w : World) : Calls Tryd.prog 41 #[.string s, .string q] w fun e w' => e = .returned (.bool (Lib.hasPrefix s.data.toList p)) ∧ w = w' := by
  subst hq
  exact (Tryd.strings_HasPrefix s q w).mono fun _ _ h => ⟨h.1, h.2.symm⟩

set_option maxRecDepth 100000 in
set_option maxHeartbeats 2000000 in
theorem quo_any (s : ByteArray) (w : World) (hs : s.size ≤ maxLen) (h0 : 0 < s.size) :
    Calls Tryd.prog 33 #[.string s] w fun e w' => e = .returned (.int .i64 ((quoL s.data.toList : Nat) : Int)) ∧ w = w' := by
  have hx := s_at s 0 h0
  obtain ⟨r, hr⟩ : ∃ r, r = quoL s.data.toList := ⟨_, rfl⟩
  rw [← hr]
  unfold quoL at hr
  rw [← hx] at hr
  clear hx
  by_cases h34 : s[0].toNat = 34
  · have e34 : (((s[0].toNat : Nat) : Int) != 34) = false := by simp; omega
    rw [if_neg (by omega)] at hr
    have C1 := prefix_quo (s.extract 1 s.size) w (Nat.le_trans (ex_size _ _ _) hs)
    rw [ex_drop] at C1
    have hle := pre_le quoB (s.data.toList.drop 1)
    rw [List.length_drop, s_len] at hle
    obtain ⟨n, hn⟩ : ∃ n, n = pre quoB (s.data.toList.drop 1) := ⟨_, rfl⟩
    rw [← hn] at C1 hr hle
    have D1 := hid C1
    clear C1 hn h34
    unfold maxLen at hs
    by_cases h200 : 200 < n
    · rw [if_pos (.inl h200)] at hr
      subst hr
      go_enter Tryd.func33, Tryd.ntmps33
      go_wp2_with fail
      refine D1.out.mono ?_
      rintro e w' ⟨rfl, rfl⟩
      go_wp2
      go_ret
      exact ⟨rfl, rfl⟩
    · have C2 := has_any (s.extract (1 + n) s.size) ⟨#[34]⟩ [34] rfl w
      rw [ex_drop] at C2
      obtain ⟨b, hb⟩ : ∃ b, b = Lib.hasPrefix (s.data.toList.drop (1 + n)) [34] := ⟨_, rfl⟩
      rw [← hb] at C2 hr
      have D2 := hid C2
      clear C2 hb
      have hn1 : 1 + n ≤ s.size := by omega
      have hj0 : 0 ≤ 1 + (n : Int) := by omega
      have hj1 : (1 + (n : Int)).toNat = 1 + n := by omega
      cases b
      · rw [if_pos (.inr rfl)] at hr
        subst hr
        go_enter Tryd.func33, Tryd.ntmps33
        go_wp2_with fail
        refine D1.out.mono ?_
        rintro e w' ⟨rfl, rfl⟩
        go_wp2_with fail
        refine D2.out.mono ?_
        rintro e w' ⟨rfl, rfl⟩
        go_wp2
        go_ret
        exact ⟨rfl, rfl⟩
      · rw [if_neg (by simp; omega)] at hr
        have HR := hid hr
        clear hr
        go_enter Tryd.func33, Tryd.ntmps33
        go_wp2_with fail
        refine D1.out.mono ?_
        rintro e w' ⟨rfl, rfl⟩
        go_wp2_with fail
        refine D2.out.mono ?_
        rintro e w' ⟨rfl, rfl⟩
        go_wp2
        go_ret
        exact ⟨retI (by rw [HR.out]; omega), rfl⟩
  · have e34 : (((s[0].toNat : Nat) : Int) != 34) = true := by simp; omega
    rw [if_pos (by omega)] at hr
    subst hr
    clear h34
    unfold maxLen at hs
    go_enter Tryd.func33, Tryd.ntmps33
    go_wp2
    go_ret
    exact ⟨rfl, rfl⟩

end Lx
end Go.Proofs.YtdhemkcbaoebcaaDoor
