/-
  Contracts of prefix, at each sort of bytes, and of skip.
-/
import Derived.Test.YtdhemkcbaoebcaaDoorW1
namespace Go.Proofs.YtdhemkcbaoebcaaDoor
open Go.RowKit
namespace Lx

theorem s_at (s : ByteArray) (k : Nat) (h : k < s.size) : s[k] = s.data.toList.getD k 0 := by
  rw [List.getD, List.getElem?_eq_getElem (by simpa using h)]; rfl
theorem s_len (s : ByteArray) : s.data.toList.length = s.size := by simp
theorem pre_next {p : UInt8 → Bool} {l : List UInt8} {k : Nat} (hk : k ≤ pre p l) (hl : k < l.length) (h : p (l.getD k 0) = true) : k + 1 ≤ pre p l := by
  rcases Nat.lt_or_ge k (pre p l) with h1 | h1
  · omega
  · obtain rfl : k = pre p l := by omega
    rw [pre_stop hl] at h; cases h
theorem pre_here {p : UInt8 → Bool} {l : List UInt8} {k : Nat} (hk : k ≤ pre p l) (h : p (l.getD k 0) = false) : pre p l = k := by
  rcases Nat.lt_or_ge k (pre p l) with h1 | h1
  · rw [pre_at h1] at h; cases h
  · omega
theorem retI {a b : Int} (h : a = b) : Ending.returned (.int .i64 a) = .returned (.int .i64 b) := by rw [h]
theorem ex_drop (s : ByteArray) (k : Nat) : (s.extract k s.size).data.toList = s.data.toList.drop k := by
  rw [Lib.extract_data, List.take_of_length_le]
  rw [List.length_drop, s_len]; omega
theorem ex_take (s : ByteArray) (k : Nat) : (s.extract 0 k).data.toList = s.data.toList.take k := by
  rw [Lib.extract_data, List.drop_zero]; rfl
theorem ex_size (s : ByteArray) (a b : Nat) : (s.extract a b).size ≤ s.size := by rw [Lib.size_eq, Lib.size_eq, Lib.extract_data, List.length_take, List.length_drop]; omega

set_option maxHeartbeats 1000000 in
theorem prefix_word (s : ByteArray) (w : World) (hs : s.size ≤ maxLen) :
    Calls Tryd.prog 35 #[.string s, .func (.func 39) #[] #[]] w fun e w' => e = .returned (.int .i64 (pre wordB s.data.toList : Nat)) ∧ w = w' := by
  unfold maxLen at hs
  go_enter Tryd.func35, Tryd.ntmps35
  go_wp2
  go_loop [8] (fun i => ∃ k : Nat, k ≤ s.size ∧ i = .int .i64 k ∧ Hid (k ≤ pre wordB s.data.toList)) (fun i => s.size - (intOf i).toNat)
  case atStart => exact ⟨0, Nat.zero_le _, rfl, Nat.zero_le _⟩
  case round =>
    obtain ⟨k, hk, rfl, hp⟩ := hrel
    by_cases hlt : k < s.size
    · have C := hid (isWord_any s[k] w)
      have hx := s_at s k hlt
      by_cases hb : wordB s[k] = true
      · have HN : Hid (k + 1 ≤ pre wordB s.data.toList) := pre_next hp.out (by rw [s_len]; exact hlt) (by rw [← hx]; exact hb)
        rw [hb] at C
        clear hx hb
        go_wp2_with fail
        refine C.out.mono ?_
        rintro e w' ⟨rfl, rfl⟩
        go_wp2
        go_round
        case rel => exact ⟨k + 1, by omega, by go_num, HN⟩
        case measure => simp [intOf]; omega
      · rw [Bool.not_eq_true] at hb
        have HN : Hid (pre wordB s.data.toList = k) := pre_here hp.out (by rw [← hx]; exact hb)
        rw [hb] at C
        clear hx hb
        go_wp2_with fail
        refine C.out.mono ?_
        rintro e w' ⟨rfl, rfl⟩
        go_wp2
        go_ret
        exact ⟨retI (by rw [HN.out]), rfl⟩
    · have HN : Hid (pre wordB s.data.toList = s.size) := by
        have h1 := hp.out
        have h2 := pre_le wordB s.data.toList
        rw [s_len] at h2
        show _ = _
        omega
      go_wp2
      go_ret
      exact ⟨retI (by rw [HN.out]), rfl⟩

set_option maxHeartbeats 1000000 in
theorem prefix_dig (s : ByteArray) (w : World) (hs : s.size ≤ maxLen) :
    Calls Tryd.prog 35 #[.string s, .func (.func 40) #[] #[]] w fun e w' => e = .returned (.int .i64 (pre digB s.data.toList : Nat)) ∧ w = w' := by
  unfold maxLen at hs
  go_enter Tryd.func35, Tryd.ntmps35
  go_wp2
  go_loop [8] (fun i => ∃ k : Nat, k ≤ s.size ∧ i = .int .i64 k ∧ Hid (k ≤ pre digB s.data.toList)) (fun i => s.size - (intOf i).toNat)
  case atStart => exact ⟨0, Nat.zero_le _, rfl, Nat.zero_le _⟩
  case round =>
    obtain ⟨k, hk, rfl, hp⟩ := hrel
    by_cases hlt : k < s.size
    · have C := hid (isDigit_any s[k] w)
      have hx := s_at s k hlt
      by_cases hb : digB s[k] = true
      · have HN : Hid (k + 1 ≤ pre digB s.data.toList) := pre_next hp.out (by rw [s_len]; exact hlt) (by rw [← hx]; exact hb)
        rw [hb] at C
        clear hx hb
        go_wp2_with fail
        refine C.out.mono ?_
        rintro e w' ⟨rfl, rfl⟩
        go_wp2
        go_round
        case rel => exact ⟨k + 1, by omega, by go_num, HN⟩
        case measure => simp [intOf]; omega
      · rw [Bool.not_eq_true] at hb
        have HN : Hid (pre digB s.data.toList = k) := pre_here hp.out (by rw [← hx]; exact hb)
        rw [hb] at C
        clear hx hb
        go_wp2_with fail
        refine C.out.mono ?_
        rintro e w' ⟨rfl, rfl⟩
        go_wp2
        go_ret
        exact ⟨retI (by rw [HN.out]), rfl⟩
    · have HN : Hid (pre digB s.data.toList = s.size) := by
        have h1 := hp.out
        have h2 := pre_le digB s.data.toList
        rw [s_len] at h2
        show _ = _
        omega
      go_wp2
      go_ret
      exact ⟨retI (by rw [HN.out]), rfl⟩

set_option maxHeartbeats 1000000 in
theorem prefix_quo (s : ByteArray) (w : World) (hs : s.size ≤ maxLen) :
    Calls Tryd.prog 35 #[.string s, .func (.func 42) #[] #[]] w fun e w' => e = .returned (.int .i64 (pre quoB s.data.toList : Nat)) ∧ w = w' := by
  unfold maxLen at hs
  go_enter Tryd.func35, Tryd.ntmps35
  go_wp2
  go_loop [8] (fun i => ∃ k : Nat, k ≤ s.size ∧ i = .int .i64 k ∧ Hid (k ≤ pre quoB s.data.toList)) (fun i => s.size - (intOf i).toNat)
  case atStart => exact ⟨0, Nat.zero_le _, rfl, Nat.zero_le _⟩
  case round =>
    obtain ⟨k, hk, rfl, hp⟩ := hrel
    by_cases hlt : k < s.size
    · have C := hid (isQuotable_any s[k] w)
      have hx := s_at s k hlt
      by_cases hb : quoB s[k] = true
      · have HN : Hid (k + 1 ≤ pre quoB s.data.toList) := pre_next hp.out (by rw [s_len]; exact hlt) (by rw [← hx]; exact hb)
        rw [hb] at C
        clear hx hb
        go_wp2_with fail
        refine C.out.mono ?_
        rintro e w' ⟨rfl, rfl⟩
        go_wp2
        go_round
        case rel => exact ⟨k + 1, by omega, by go_num, HN⟩
        case measure => simp [intOf]; omega
      · rw [Bool.not_eq_true] at hb
        have HN : Hid (pre quoB s.data.toList = k) := pre_here hp.out (by rw [← hx]; exact hb)
        rw [hb] at C
        clear hx hb
        go_wp2_with fail
        refine C.out.mono ?_
        rintro e w' ⟨rfl, rfl⟩
        go_wp2
        go_ret
        exact ⟨retI (by rw [HN.out]), rfl⟩
    · have HN : Hid (pre quoB s.data.toList = s.size) := by
        have h1 := hp.out
        have h2 := pre_le quoB s.data.toList
        rw [s_len] at h2
        show _ = _
        omega
      go_wp2
      go_ret
      exact ⟨retI (by rw [HN.out]), rfl⟩

set_option maxHeartbeats 1000000 in
theorem prefix_nlf (s : ByteArray) (w : World) (hs : s.size ≤ maxLen) :
    Calls Tryd.prog 35 #[.string s, .func (.func 36) #[] #[]] w fun e w' => e = .returned (.int .i64 (pre nlfB s.data.toList : Nat)) ∧ w = w' := by
  unfold maxLen at hs
  go_enter Tryd.func35, Tryd.ntmps35
  go_wp2
  go_loop [8] (fun i => ∃ k : Nat, k ≤ s.size ∧ i = .int .i64 k ∧ Hid (k ≤ pre nlfB s.data.toList)) (fun i => s.size - (intOf i).toNat)
  case atStart => exact ⟨0, Nat.zero_le _, rfl, Nat.zero_le _⟩
  case round =>
    obtain ⟨k, hk, rfl, hp⟩ := hrel
    by_cases hlt : k < s.size
    · have C := hid (isNoLineFeed_any s[k] w)
      have hx := s_at s k hlt
      by_cases hb : nlfB s[k] = true
      · have HN : Hid (k + 1 ≤ pre nlfB s.data.toList) := pre_next hp.out (by rw [s_len]; exact hlt) (by rw [← hx]; exact hb)
        rw [hb] at C
        clear hx hb
        go_wp2_with fail
        refine C.out.mono ?_
        rintro e w' ⟨rfl, rfl⟩
        go_wp2
        go_round
        case rel => exact ⟨k + 1, by omega, by go_num, HN⟩
        case measure => simp [intOf]; omega
      · rw [Bool.not_eq_true] at hb
        have HN : Hid (pre nlfB s.data.toList = k) := pre_here hp.out (by rw [← hx]; exact hb)
        rw [hb] at C
        clear hx hb
        go_wp2_with fail
        refine C.out.mono ?_
        rintro e w' ⟨rfl, rfl⟩
        go_wp2
        go_ret
        exact ⟨retI (by rw [HN.out]), rfl⟩
    · have HN : Hid (pre nlfB s.data.toList = s.size) := by
        have h1 := hp.out
        have h2 := pre_le nlfB s.data.toList
        rw [s_len] at h2
        show _ = _
        omega
      go_wp2
      go_ret
      exact ⟨retI (by rw [HN.out]), rfl⟩

end Lx
end Go.Proofs.YtdhemkcbaoebcaaDoor
