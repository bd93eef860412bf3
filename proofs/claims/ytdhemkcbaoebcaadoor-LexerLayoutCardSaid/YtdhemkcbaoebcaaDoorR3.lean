/-
  Contracts of the document's own Gap, next and Lex.
-/
import Derived.Test.YtdhemkcbaoebcaaDoorR1
import Derived.Test.YtdhemkcbaoebcaaDoorLex
namespace Go.Proofs.YtdhemkcbaoebcaaDoor
open Go.RowKit
namespace Lx

set_option maxRecDepth 100000 in
set_option maxHeartbeats 8000000 in
theorem rgap_any (s : ByteArray) (a : Nat) (w : World) (hs : s.size ≤ maxLen) (ha : a ≤ s.size) :
    Calls Tryd.prog 25 #[.string s, .int .i64 a] w fun e w' => e = .returned (.int .i64 ((gl (s.data.toList.drop a) : Nat) : Int)) ∧ w = w' := by
  unfold maxLen at hs
  obtain ⟨z, hz⟩ : ∃ z, z = gl (s.data.toList.drop a) := ⟨_, rfl⟩
  rw [← hz]
  obtain ⟨r, hr⟩ : ∃ r, r = a + z := ⟨_, rfl⟩
  have HR := hid hr
  have HZ := hid hz
  clear hr hz
  go_enter Tryd.func25, Tryd.ntmps25
  go_wp2
  go_loop [5] (fun i => ∃ k : Nat, a ≤ k ∧ k ≤ s.size ∧ i = .int .i64 k ∧ Hid (k + gl (s.data.toList.drop k) = r)) (fun i => s.size - (intOf i).toNat)
  case atStart => exact ⟨a, Nat.le_refl _, ha, rfl, by show _ = _; rw [HR.out, HZ.out]⟩
  case round =>
    obtain ⟨k, hak, hk, rfl, hp⟩ := hrel
    by_cases hlt : k < s.size
    · have hx := s_at s k hlt
      have hlt2 : k < s.data.toList.length := by rw [s_len]; exact hlt
      have step : blkB s[k] = true → Hid (k + 1 + gl (s.data.toList.drop (k + 1)) = r) := fun hb => by
        have h1 := gl_blank hlt2 (by rw [← hx]; exact hb)
        have h2 := hp.out
        show _ = _
        omega
      have hst := hid step
      clear step
      rcases (show s[k].toNat = 32 ∨ s[k].toNat = 9 ∨ s[k].toNat = 10 ∨ s[k].toNat = 13 ∨ (s[k].toNat ≠ 32 ∧ s[k].toNat ≠ 9 ∧ s[k].toNat ≠ 10 ∧ s[k].toNat ≠ 13) by omega) with h | h | h | h | h
      · have HN := hst.out ((blkB_iff _).2 (by omega))
        have e32 : (((s[k].toNat : Nat) : Int) == 32) = true := by simp; omega
        clear h hx hst hp
        go_wp2
        go_round
        case rel => exact ⟨k + 1, by omega, by omega, by go_num, HN⟩
        case measure => simp [intOf]; omega
      · have HN := hst.out ((blkB_iff _).2 (by omega))
        have e32 : (((s[k].toNat : Nat) : Int) == 32) = false := by simp; omega
        have e9 : (((s[k].toNat : Nat) : Int) == 9) = true := by simp; omega
        clear h hx hst hp
        go_wp2
        go_round
        case rel => exact ⟨k + 1, by omega, by omega, by go_num, HN⟩
        case measure => simp [intOf]; omega
      · have HN := hst.out ((blkB_iff _).2 (by omega))
        have e32 : (((s[k].toNat : Nat) : Int) == 32) = false := by simp; omega
        have e9 : (((s[k].toNat : Nat) : Int) == 9) = false := by simp; omega
        have e10 : (((s[k].toNat : Nat) : Int) == 10) = true := by simp; omega
        clear h hx hst hp
        go_wp2
        go_round
        case rel => exact ⟨k + 1, by omega, by omega, by go_num, HN⟩
        case measure => simp [intOf]; omega
      · have HN := hst.out ((blkB_iff _).2 (by omega))
        have e32 : (((s[k].toNat : Nat) : Int) == 32) = false := by simp; omega
        have e9 : (((s[k].toNat : Nat) : Int) == 9) = false := by simp; omega
        have e10 : (((s[k].toNat : Nat) : Int) == 10) = false := by simp; omega
        have e13 : (((s[k].toNat : Nat) : Int) == 13) = true := by simp; omega
        clear h hx hst hp
        go_wp2
        go_round
        case rel => exact ⟨k + 1, by omega, by omega, by go_num, HN⟩
        case measure => simp [intOf]; omega
      · have hnb : blkB s[k] = false := by rw [Bool.eq_false_iff]; intro h2; rw [blkB_iff] at h2; omega
        have e32 : (((s[k].toNat : Nat) : Int) == 32) = false := by simp; omega
        have e9 : (((s[k].toNat : Nat) : Int) == 9) = false := by simp; omega
        have e10 : (((s[k].toNat : Nat) : Int) == 10) = false := by simp; omega
        have e13 : (((s[k].toNat : Nat) : Int) == 13) = false := by simp; omega
        by_cases h37 : s[k].toNat = 37
        · have e37 : (((s[k].toNat : Nat) : Int) != 37) = false := by simp; omega
          obtain ⟨g1, g2, g3⟩ := gl_comment hlt2 (by rw [← hx]; exact h37)
          obtain ⟨m, hm⟩ : ∃ m, m = pre nlfB (s.data.toList.drop k) := ⟨_, rfl⟩
          rw [← hm] at g1 g2 g3
          rw [s_len] at g3
          have HM := hid hm
          have HN : Hid (k + m + gl (s.data.toList.drop (k + m)) = r) := by
            have h2 := hp.out
            show _ = _
            omega
          clear h hx hst hp h37 hnb hm g1
          go_wp2
          clear e32 e9 e10 e13 e37
          go_loop [5] (fun i => ∃ q : Nat, k ≤ q ∧ q ≤ s.size ∧ i = .int .i64 q ∧ Hid (q ≤ k + m)) (fun i => s.size - (intOf i).toNat)
          case atStart => exact ⟨k, Nat.le_refl _, by omega, rfl, Nat.le_add_right _ _⟩
          case round =>
            obtain ⟨q, hkq, hq, rfl, hqm⟩ := hrel
            by_cases hgo : ∃ h : q < s.size, s[q].toNat ≠ 10
            · obtain ⟨hql, hqn⟩ := hgo
              have hqx := s_at s q hql
              have e10 : (((s[q].toNat : Nat) : Int) != 10) = true := by simp; omega
              have hqm2 : Hid (q + 1 ≤ k + m) := by
                have h2 := hqm.out
                have hb : nlfB ((s.data.toList.drop k).getD (q - k) 0) = true := by
                  rw [getD_drop, show k + (q - k) = q by omega, ← hqx, nlfB_iff]; exact hqn
                have := pre_next (p := nlfB) (l := s.data.toList.drop k) (k := q - k) (by rw [← HM.out]; omega) (by rw [List.length_drop, s_len]; omega) hb
                rw [← HM.out] at this
                show _ ≤ _
                omega
              clear hqn hqx hqm
              go_wp2
              go_round
              case rel => exact ⟨q + 1, by omega, by omega, by go_num, hqm2⟩
              case measure => simp [intOf]; omega
            · have hqe : q = k + m := by
                have h2 := hqm.out
                by_cases hql : q < s.size
                · have h10 : s[q].toNat = 10 := Classical.byContradiction fun h => hgo ⟨hql, h⟩
                  have hqx := s_at s q hql
                  have hb : nlfB ((s.data.toList.drop k).getD (q - k) 0) = false := by
                    rw [getD_drop, show k + (q - k) = q by omega, ← hqx, Bool.eq_false_iff]; intro h; rw [nlfB_iff] at h; exact h h10
                  have := pre_here (p := nlfB) (l := s.data.toList.drop k) (k := q - k) (by rw [← HM.out]; omega) hb
                  rw [← HM.out] at this
                  omega
                · omega
              subst hqe
              by_cases hql : k + m < s.size
              · have h10 : s[k + m].toNat = 10 := Classical.byContradiction fun h => hgo ⟨hql, h⟩
                have e10 : (((s[k + m].toNat : Nat) : Int) != 10) = false := by simp; omega
                clear h10 hgo
                go_wp2
                go_round
                case rel => exact ⟨k + m, by omega, by omega, by first | rfl | go_num, HN⟩
                case measure => simp [intOf]; omega
              · clear hgo
                have hql2 : (s.size : Int) ≤ (k : Int) + (m : Int) := by omega
                go_wp2
                go_round
                case rel => exact ⟨k + m, by omega, by omega, by first | rfl | go_num, HN⟩
                case measure => simp [intOf]; omega
        · have e37 : (((s[k].toNat : Nat) : Int) != 37) = true := by simp; omega
          have HN : Hid (r = k) := by
            have h1 := gl_none (l := s.data.toList) (k := k) (by rw [← hx]; exact hnb) (by rw [← hx]; exact h37)
            have h2 := hp.out
            show _ = _
            omega
          clear h hx hst hp h37 hnb
          go_wp2
          go_ret
          exact ⟨retI (by have h1 := HN.out; have h2 := HR.out; omega), rfl⟩
    · have HN : Hid (r = k) := by
        have h2 := hp.out
        rw [List.drop_of_length_le (by rw [s_len]; omega)] at h2
        show _ = _
        have : gl [] = 0 := rfl
        omega
      go_wp2
      go_ret
      exact ⟨retI (by have h1 := HN.out; have h2 := HR.out; omega), rfl⟩

end Lx
end Go.Proofs.YtdhemkcbaoebcaaDoor
