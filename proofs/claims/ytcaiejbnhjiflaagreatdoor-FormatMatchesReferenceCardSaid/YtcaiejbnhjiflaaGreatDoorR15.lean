/-
  The contract of the document's Number.
-/
import Derived.Test.YtcaiejbnhjiflaaGreatDoorR11
namespace Go.Proofs.YtcaiejbnhjiflaaGreatDoor
open Go.RowKit Go.ChangeMaps
namespace Fm

theorem num_snoc {l : W} {k : Nat} {b : UInt8} (h : l[k]? = some b) : numF 0 (l.take (k + 1)) = 10 * numF 0 (l.take k) + (b.toNat - 48) := by
  rw [List.take_add_one, h, numF_append]
  show numF _ [b] = _
  rw [numF_cons, numF_nil]
theorem num_pos {w : W} (h : isNum w = true) : 0 < numF 0 w := by
  obtain ⟨h1, _, h3, h4⟩ := (isNum_iff w).1 h
  match w, h1, h3, h4 with
  | b :: l, _, h3, h4 =>
    have hb := (digB_iff b).1 (h4 b (List.mem_cons_self ..))
    have h3' : b.toNat ≠ 48 := h3
    rw [numF_cons]
    have := numF_ge l (10 * 0 + (b.toNat - 48))
    omega
theorem numW_gt (w : W) : decide ((0 : Int) < ((numW w : Nat) : Int)) = isNum w := by
  unfold numW
  cases h : isNum w
  · simp
  · have := num_pos h
    rw [if_pos rfl]
    exact decide_eq_true (by omega)
theorem numW_le (w : W) : numW w ≤ 9999 := by
  unfold numW
  split
  · rename_i h
    obtain ⟨_, h2, _, h4⟩ := (isNum_iff w).1 h
    have := numF_lt w h4 0 0 (by decide)
    have h5 : 10 ^ (0 + w.length) ≤ 10 ^ 4 := Nat.pow_le_pow_right (by decide) (by omega)
    omega
  · omega
theorem all_dig_lt {l : W} {k : Nat} (h : (l.take k).all digB = true) (hk : k ≤ 4) : numF 0 (l.take k) ≤ 9999 := by
  have := numF_lt (l.take k) (fun b hb => List.all_eq_true.1 h b hb) 0 0 (by decide)
  have hl : (l.take k).length ≤ 4 := by rw [List.length_take]; omega
  have h5 : 10 ^ (0 + (l.take k).length) ≤ 10 ^ 4 := Nat.pow_le_pow_right (by decide) (by omega)
  omega
theorem numW_no {w : W} (h : isNum w = false) : numW w = 0 := by unfold numW; rw [h]; rfl
theorem isNum_short {w : W} (h : w.length < 1 ∨ 4 < w.length) : isNum w = false := by
  unfold isNum
  rcases h with h | h
  · rw [decide_eq_false (by omega)]; rfl
  · rw [decide_eq_false (show ¬ w.length ≤ 4 by omega)]; simp

set_option maxRecDepth 100000 in
set_option maxHeartbeats 8000000 in
theorem rnumber_any (x : W) (w : World) (hs : x.length ≤ 100000) :
    Calls Tryz.prog 83 #[.string (sB x)] w fun e w' => e = .returned (.int .i64 (numW x : Nat)) ∧ w = w' := by
  have hz := sB_size x
  obtain ⟨s, hsd⟩ : ∃ s, s = sB x := ⟨_, rfl⟩
  rw [← hsd] at hz ⊢
  have hsl : s.data.toList = x := by rw [hsd]; rfl
  obtain ⟨r, hr⟩ : ∃ r, r = numW x := ⟨_, rfl⟩
  rw [← hr]
  have HR := hid hr
  have HX := hid hsl
  have HZ := hid hz
  have hs2 : s.size ≤ 100000 := by omega
  clear hsd hr hsl hz hs
  by_cases h1 : s.size < 1
  · have d1 : decide ((s.size : Int) < 1) = true := decide_eq_true (by omega)
    have HV : Hid (r = 0) := by show _ = _; rw [HR.out]; exact numW_no (isNum_short (.inl (by have := HZ.out; omega)))
    go_enter Tryz.func83, Tryz.ntmps83
    go_wp2
    go_ret
    exact ⟨by rw [HV.out]; try rfl, rfl⟩
  · have d1 : decide ((s.size : Int) < 1) = false := decide_eq_false (by omega)
    by_cases h4 : 4 < s.size
    · have d4 : decide ((4 : Int) < (s.size : Int)) = true := decide_eq_true (by omega)
      have HV : Hid (r = 0) := by show _ = _; rw [HR.out]; exact numW_no (isNum_short (.inr (by have := HZ.out; omega)))
      go_enter Tryz.func83, Tryz.ntmps83
      go_wp2
      go_ret
      exact ⟨by rw [HV.out]; try rfl, rfl⟩
    · have d4 : decide ((4 : Int) < (s.size : Int)) = false := decide_eq_false (by omega)
      have h0 : 0 < s.size := by omega
      have HB0 := hid (at_get HX.out h0)
      by_cases h48 : (s[0]).toNat = 48
      · have a48 : (((s[0]).toNat : Int) == 48) = true := by rw [h48]; rfl
        have HV : Hid (r = 0) := by
          show _ = _
          rw [HR.out]; refine numW_no ?_
          unfold isNum
          rw [List.getD, HB0.out]
          simp [h48]
        clear h48
        go_enter Tryz.func83, Tryz.ntmps83
        go_wp2
        go_ret
        exact ⟨by rw [HV.out]; try rfl, rfl⟩
      · have a48 : (((s[0]).toNat : Int) == 48) = false := by rw [beq_eq_false_iff_ne]; omega
        have HN48 := hid h48
        clear h48
        go_enter Tryz.func83, Tryz.ntmps83
        go_wp2
        clear d1 d4 a48
        go_loop [3, 4] (fun n i => ∃ k : Nat, k ≤ s.size ∧ i = .int .i64 k ∧ n = .int .i64 (numF 0 (x.take k) : Nat) ∧ Hid ((x.take k).all digB = true)) (fun _ i => s.size - (intOf i).toNat)
        case atStart => exact ⟨0, Nat.zero_le _, rfl, rfl, rfl⟩
        case round =>
          obtain ⟨k, hk, rfl, rfl, hA⟩ := hrel
          have hn9 := all_dig_lt hA.out (by omega)
          by_cases hlt : k < s.size
          · have hk0 : 0 ≤ (k : Int) := by omega
            have hk1 : (k : Int) < (s.size : Int) := by omega
            have HB := hid (at_get HX.out hlt)
            have CD := hid (fun w => rdigit_any s[k] w)
            cases hd : digB s[k]
            · rw [hd] at CD
              have HV : Hid (r = 0) := by
                show _ = _
                rw [HR.out]; refine numW_no ?_
                rw [Bool.eq_false_iff]; intro h
                have := ((isNum_iff x).1 h).2.2.2 _ (List.mem_of_getElem? HB.out)
                rw [hd] at this; cases this
              clear hd
              go_wp2_with fail
              refine (CD.out _).mono ?_
              rintro e w2 ⟨rfl, rfl⟩
              go_wp2
              go_ret
              exact ⟨by rw [HV.out]; try rfl, rfl⟩
            · rw [hd] at CD
              have hdd := (digB_iff _).1 hd
              have b48 : (48 : Int) ≤ ((s[k]).toNat : Int) := by omega
              have b57 : ((s[k]).toNat : Int) ≤ 57 := by omega
              have HN : Hid ((10 * ((numF 0 (x.take k) : Nat) : Int) + (((s[k]).toNat : Int) - 48)) = ((numF 0 (x.take (k + 1)) : Nat) : Int)) := by
                show _ = _
                rw [num_snoc HB.out]; omega
              have HY : Hid ((x.take (k + 1)).all digB = true) := by
                show _ = _
                rw [List.take_add_one, HB.out, List.all_append, hA.out]; simp [hd]
              clear hd hdd
              go_wp2_with fail
              refine (CD.out _).mono ?_
              rintro e w2 ⟨rfl, rfl⟩
              go_wp2
              go_round
              case rel => exact ⟨k + 1, by omega, by go_num, by rw [← HN.out]; try go_num, HY⟩
              case measure => simp [intOf]; omega
          · have HV : Hid (r = numF 0 (x.take k)) := by
              have hkx : x.take k = x := List.take_of_length_le (by have := HZ.out; omega)
              have hA' := hA.out
              rw [hkx] at hA'
              show _ = _
              rw [hkx, HR.out]
              unfold numW
              rw [if_pos]
              rw [isNum_iff]
              refine ⟨by have := HZ.out; omega, by have := HZ.out; omega, ?_, fun b hb => List.all_eq_true.1 hA' b hb⟩
              rw [List.getD, HB0.out]
              exact HN48.out
            go_wp2
            go_ret
            exact ⟨by rw [HV.out]; try rfl, rfl⟩

end Fm
end Go.Proofs.YtcaiejbnhjiflaaGreatDoor
