/-
  Contracts of isLetters, isDigits, Check and isShape.
-/
import Derived.Test.YtbgniplhlnipoaaDoorWalk1
import Derived.Deep.QuietTactic
import Derived.BigQuiet
import Derived.Lib.LaidTab
namespace Go.Proofs.YtbgniplhlnipoaaDoor
open Go.RowKit
namespace Id1

theorem byte_bd (b : UInt8) : b.toNat ≤ 255 := by have := UInt8.toNat_lt b; omega
theorem all_snoc (p : UInt8 → Bool) (l : List UInt8) (k : Nat) (h : k < l.length) : (l.take (k + 1)).all p = ((l.take k).all p && p (l.getD k 0)) := by
  rw [take_snoc l k h]; simp [List.all_append]
theorem all_false_take (p : UInt8 → Bool) (l : List UInt8) (k : Nat) (h : (l.take k).all p = false) : l.all p = false := by
  have e : l = l.take k ++ l.drop k := (List.take_append_drop k l).symm
  rw [e, List.all_append, h]; rfl
theorem all_false_at (p : UInt8 → Bool) (l : List UInt8) (k : Nat) (h : k < l.length) (hp : p (l.getD k 0) = false) : l.all p = false :=
  all_false_take p l (k + 1) (by rw [all_snoc p l k h, hp]; simp)

set_option maxRecDepth 100000 in
set_option maxHeartbeats 1000000 in
theorem isLetters_any (s : ByteArray) (w : World) (hs : s.size ≤ maxLen) :
    Calls Tryd.prog 28 #[.string s] w fun e w' => e = .returned (.bool (lettersB s.data.toList)) ∧ Below w.heap.size w w' := by
  unfold maxLen at hs
  obtain ⟨l, hl⟩ : ∃ l, l = s.data.toList := ⟨_, rfl⟩
  have hlen : l.length = s.size := by rw [hl]; simp
  by_cases h2 : s.size = 2
  · obtain ⟨c, W1, hcv, hB, hb⟩ := conv_any w s
    rw [← hl] at hB ⊢
    have hval : lettersB l = l.all capB := by simp [lettersB, hlen, h2]
    rw [hval]
    have hne : ((s.size : Int) != 2) = false := by rw [h2]; rfl
    have HB := hid hB
    have HL := hid hlen
    clear hB hlen hl hval h2
    go_enter Tryd.func28, Tryd.ntmps28
    go_wp2
    clear hne
    go_loop [11] (fun i => ∃ k : Nat, k ≤ s.size ∧ i = .int .i64 k ∧ Hid ((l.take k).all capB = true)) (fun i => s.size - (intOf i).toNat)
    case atStart => exact ⟨0, by omega, rfl, rfl⟩
    case round =>
      obtain ⟨k, hk, rfl, hall⟩ := hrel
      by_cases hlt : k < s.size
      · obtain ⟨x, hx⟩ : ∃ x, x = l.getD k 0 := ⟨_, rfl⟩
        have hc := HB.out k hlt
        rw [← hx] at hc
        have hxb := byte_bd x
        by_cases hcap : capB x = true
        · have HN : Hid ((l.take (k + 1)).all capB = true) := by rw [all_snoc _ _ _ (by rw [HL.out]; exact hlt), hall.out, ← hx, hcap]; rfl
          have h65 : 65 ≤ (x.toNat : Int) ∧ (x.toNat : Int) ≤ 90 := by have : 65 ≤ x.toNat ∧ x.toNat ≤ 90 := by simpa [capB] using hcap
                                                                       omega
          obtain ⟨h65, h90⟩ := h65
          clear hx hcap
          obtain ⟨n, hn⟩ : ∃ n : Int, n = (x.toNat : Int) := ⟨_, rfl⟩
          rw [← hn] at hc h65 h90
          clear hn
          go_wp2
          go_round
          case rel => exact ⟨k + 1, by omega, by go_num, HN⟩
          case measure => simp [intOf]; omega
        · have HN : Hid (l.all capB = false) := all_false_at _ _ k (by rw [HL.out]; exact hlt) (by rw [← hx]; simpa using hcap)
          have h65 : (x.toNat : Int) < 65 ∨ 65 ≤ (x.toNat : Int) ∧ 90 < (x.toNat : Int) := by
            have : ¬ (65 ≤ x.toNat ∧ x.toNat ≤ 90) := by simpa [capB] using hcap
            omega
          clear hx hcap
          obtain ⟨n, hn⟩ : ∃ n : Int, n = (x.toNat : Int) := ⟨_, rfl⟩
          rw [← hn] at hc h65
          clear hn
          rcases h65 with h65 | ⟨h65, h90⟩
          · go_wp2
            go_ret
            exact ⟨by rw [HN.out]; rfl, hb⟩
          · go_wp2
            go_ret
            exact ⟨by rw [HN.out]; rfl, hb⟩
      · have hk2 : k = s.size := by omega
        subst hk2
        have HN : Hid (l.all capB = true) := by have := hall.out; rwa [List.take_of_length_le (by rw [HL.out]; exact Nat.le_refl _)] at this
        go_wp2
        go_ret
        exact ⟨by rw [HN.out]; rfl, hb⟩
  · have hval : lettersB s.data.toList = false := by rw [← hl]; simp [lettersB, hlen, h2]
    rw [hval]
    have hne : ((s.size : Int) != 2) = true := by simp; omega
    clear hval h2 hlen hl
    go_enter Tryd.func28, Tryd.ntmps28
    go_wp2
    go_ret
    exact ⟨rfl, Below.refl _ _⟩

set_option maxHeartbeats 1000000 in
theorem isDigits_any (s : ByteArray) (w : World) (hs : s.size ≤ maxLen) :
    Calls Tryd.prog 46 #[.string s] w fun e w' => e = .returned (.bool (digitsB s.data.toList)) ∧ Below w.heap.size w w' := by
  unfold maxLen at hs
  obtain ⟨l, hl⟩ : ∃ l, l = s.data.toList := ⟨_, rfl⟩
  have hlen : l.length = s.size := by rw [hl]; simp
  obtain ⟨c, W1, hcv, hB, hb⟩ := conv_any w s
  rw [← hl] at hB ⊢
  have HB := hid hB
  have HL := hid hlen
  clear hB hlen hl
  go_enter Tryd.func46, Tryd.ntmps46
  go_wp2
  go_loop [8] (fun i => ∃ k : Nat, k ≤ s.size ∧ i = .int .i64 k ∧ Hid ((l.take k).all digB = true)) (fun i => s.size - (intOf i).toNat)
  case atStart => exact ⟨0, by omega, rfl, rfl⟩
  case round =>
    obtain ⟨k, hk, rfl, hall⟩ := hrel
    by_cases hlt : k < s.size
    · obtain ⟨x, hx⟩ : ∃ x, x = l.getD k 0 := ⟨_, rfl⟩
      have hc := HB.out k hlt
      rw [← hx] at hc
      have hxb := byte_bd x
      have hdi := digI_byte x
      by_cases hcap : digB x = true
      · have HN : Hid ((l.take (k + 1)).all digB = true) := by rw [all_snoc _ _ _ (by rw [HL.out]; exact hlt), hall.out, ← hx, hcap]; rfl
        rw [hcap] at hdi
        have HD := hid hdi
        clear hx hcap hdi
        go_wp2_with (go_at_call 24; refine (isDigit_any _ _ (by omega) (by omega)).mono ?_; rw [HD.out]; rintro e w1 ⟨rfl, rfl⟩)
        go_round
        case rel => exact ⟨k + 1, by omega, by go_num, HN⟩
        case measure => simp [intOf]; omega
      · have HN : Hid (l.all digB = false) := all_false_at _ _ k (by rw [HL.out]; exact hlt) (by rw [← hx]; simpa using hcap)
        have hcap' : digB x = false := by simpa using hcap
        rw [hcap'] at hdi
        have HD := hid hdi
        clear hx hcap hdi hcap'
        go_wp2_with (go_at_call 24; refine (isDigit_any _ _ (by omega) (by omega)).mono ?_; rw [HD.out]; rintro e w1 ⟨rfl, rfl⟩)
        go_ret
        exact ⟨by unfold digitsB; rw [HN.out]; rfl, hb⟩
    · have hk2 : k = s.size := by omega
      subst hk2
      have HN : Hid (l.all digB = true) := by have := hall.out; rwa [List.take_of_length_le (by rw [HL.out]; exact Nat.le_refl _)] at this
      go_wp2
      go_ret
      exact ⟨by unfold digitsB; rw [HN.out]; rfl, hb⟩

end Id1
end Go.Proofs.YtbgniplhlnipoaaDoor
