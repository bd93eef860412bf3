/-
  Contracts of the reference implementation: Shape, Valid.
-/
import Derived.Test.YtbgniplhlnipoaaDoorRef1
namespace Go.Proofs.YtbgniplhlnipoaaDoor
open Go.RowKit
namespace Id1

set_option maxRecDepth 100000 in
set_option maxHeartbeats 2000000 in
theorem rshape_any (s : ByteArray) (w : World) (hs : s.size ≤ maxLen) :
    Calls Tryd.prog 22 #[.string s] w fun e w' => e = .returned (.bool (shapeB s.data.toList)) ∧ w = w' := by
  unfold maxLen at hs
  obtain ⟨l, hl⟩ : ∃ l, l = s.data.toList := ⟨_, rfl⟩
  have hlen : l.length = s.size := by rw [hl]; simp
  by_cases h2 : s.size = 13
  · have hval : shapeB s.data.toList = okTo l 13 := by rw [← hl]; exact shape_okTo l (by omega)
    rw [hval]
    have hne : ((s.size : Int) != 13) = false := by rw [h2]; rfl
    have HLL := hid hl
    have hs8 : s.size ≤ 13 := by omega
    have hs9 : 13 ≤ s.size := by omega
    clear hlen hl h2 hval
    go_enter Tryd.func22, Tryd.ntmps22
    go_wp2
    clear hne
    go_loop [3] (fun i => ∃ k : Nat, k ≤ 13 ∧ i = .int .i64 k ∧ Hid (okTo l k = true)) (fun i => 13 - (intOf i).toNat)
    case atStart => exact ⟨0, by omega, rfl, rfl⟩
    case round =>
      obtain ⟨k, hk, rfl, hok⟩ := hrel
      by_cases hlt : k < 13
      · have hks : k < s.size := by omega
        have hgx : s[k]'hks = l.getD k 0 := by rw [HLL.out]; exact Lib.getD_at s k hks
        have hxb := byte_bd (s[k]'hks)
        have hdi := digI_byte (s[k]'hks)
        have hci := capI_byte (s[k]'hks)
        have hnext := okTo_succ l k
        rw [hok.out, Bool.true_and] at hnext
        by_cases hlet : k < 2 ∨ 10 < k
        · have hat : okAt l k = capB (s[k]'hks) := by unfold okAt; rw [if_pos hlet, hgx]
          rw [hat] at hnext
          by_cases hcap : capB (s[k]'hks) = true
          · rw [hcap] at hci hnext
            have HN := hid hnext
            have HD := hid hci
            clear hgx hcap hdi hci hnext hat
            rcases hlet with hlet | hlet
            · go_wp2_with (go_at_call 38; refine (rcap_any _ _ (by omega) (by omega)).mono ?_; rw [HD.out]; rintro e w1 ⟨rfl, rfl⟩)
              go_round
              case rel => exact ⟨k + 1, by omega, by go_num, HN⟩
              case measure => simp [intOf]; omega
            · have hlet2 : ¬ k < 2 := by omega
              go_wp2_with (go_at_call 38; refine (rcap_any _ _ (by omega) (by omega)).mono ?_; rw [HD.out]; rintro e w1 ⟨rfl, rfl⟩)
              go_round
              case rel => exact ⟨k + 1, by omega, by go_num, HN⟩
              case measure => simp [intOf]; omega
          · have hcap' : capB (s[k]'hks) = false := by simpa using hcap
            rw [hcap'] at hci hnext
            have HF := hid (okTo_mono l (k + 1) 13 (by omega) hnext)
            have HD := hid hci
            clear hgx hcap hcap' hdi hci hnext hat
            rcases hlet with hlet | hlet
            · go_wp2_with (go_at_call 38; refine (rcap_any _ _ (by omega) (by omega)).mono ?_; rw [HD.out]; rintro e w1 ⟨rfl, rfl⟩)
              go_ret
              exact ⟨by rw [HF.out]; rfl, rfl⟩
            · have hlet2 : ¬ k < 2 := by omega
              go_wp2_with (go_at_call 38; refine (rcap_any _ _ (by omega) (by omega)).mono ?_; rw [HD.out]; rintro e w1 ⟨rfl, rfl⟩)
              go_ret
              exact ⟨by rw [HF.out]; rfl, rfl⟩
        · have hat : okAt l k = digB (s[k]'hks) := by unfold okAt; rw [if_neg hlet, hgx]
          have hlet2 : ¬ k < 2 := by omega
          have hlet3 : ¬ 10 < k := by omega
          have hb1 : decide ((k : Int) < 2) = false := by simp; omega
          have hb2 : decide (10 < (k : Int)) = false := by simp; omega
          rw [hat] at hnext
          by_cases hcap : digB (s[k]'hks) = true
          · rw [hcap] at hdi hnext
            have HN := hid hnext
            have HD := hid hdi
            clear hgx hcap hdi hci hnext hat hlet
            go_wp2_with (go_at_call 26; refine (rdigit_any _ _ (by omega) (by omega)).mono ?_; rw [HD.out]; rintro e w1 ⟨rfl, rfl⟩)
            go_round
            case rel => exact ⟨k + 1, by omega, by go_num, HN⟩
            case measure => simp [intOf]; omega
          · have hcap' : digB (s[k]'hks) = false := by simpa using hcap
            rw [hcap'] at hdi hnext
            have HF := hid (okTo_mono l (k + 1) 13 (by omega) hnext)
            have HD := hid hdi
            clear hgx hcap hcap' hdi hci hnext hat hlet
            go_wp2_with (go_at_call 26; refine (rdigit_any _ _ (by omega) (by omega)).mono ?_; rw [HD.out]; rintro e w1 ⟨rfl, rfl⟩)
            go_ret
            exact ⟨by rw [HF.out]; rfl, rfl⟩
      · have hk2 : k = 13 := by omega
        subst hk2
        go_wp2
        go_ret
        exact ⟨by rw [hok.out]; rfl, rfl⟩
  · have hval : shapeB s.data.toList = false := by simp [shapeB, h2]
    rw [hval]
    have hne : ((s.size : Int) != 13) = true := by simp; omega
    clear hval h2 hlen hl
    go_enter Tryd.func22, Tryd.ntmps22
    go_wp2
    go_ret
    exact ⟨rfl, rfl⟩

set_option maxRecDepth 100000 in
set_option maxHeartbeats 1000000 in
theorem rvalid_any (s : ByteArray) (w : World) (hs : s.size ≤ maxLen) :
    Calls Tryd.prog 17 #[.string s] w fun e w' => e = .returned (.bool (validB s.data.toList)) ∧ Below w.heap.size w w' := by
  have hm := hs
  unfold maxLen at hm
  have C1 := hid (fun w => rshape_any s w hs)
  by_cases hsh : shapeB s.data.toList = true
  · obtain ⟨h13, -, -, -⟩ := shape_parts hsh
    obtain ⟨hdg, hd8⟩ := shape_digits hsh
    have h13s : s.size = 13 := by rw [← h13]; simp
    have hi10 : 10 < s.size := by omega
    have hx10 := digB_bd (shape_digit hsh 10 (by omega) (by omega))
    have hgx : s.data.toList.getD 10 0 = s[10]'hi10 := (Lib.getD_at s 10 hi10).symm
    have hex : (s.extract 2 10).data.toList = (s.data.toList.drop 2).take 8 := by rw [Lib.extract_data]
    have hesz : (s.extract 2 10).size = 8 := by rw [Lib.size_eq, hex, hd8]
    have C2 := hid (fun w => rcheck_any (s.extract 2 10) w (by rw [hesz]; unfold maxLen; omega))
    rw [hsh] at C1
    rw [hex] at C2
    have hcv : chkV ((s.data.toList.drop 2).take 8) = chk ((s.data.toList.drop 2).take 8) := by unfold chkV; rw [if_pos ⟨hd8, hdg⟩]
    have hce : chkE ((s.data.toList.drop 2).take 8) = 0 := by unfold chkE; rw [if_pos ⟨hd8, hdg⟩]
    rw [hcv, hce] at C2
    have hcb : 0 ≤ chk ((s.data.toList.drop 2).take 8) ∧ chk ((s.data.toList.drop 2).take 8) ≤ 9 := cdig_bd _
    have hval : validB s.data.toList = decide ((((s[10]'hi10).toNat : Int) - 48) = chk ((s.data.toList.drop 2).take 8)) := by unfold validB; rw [hsh, hgx]; rfl
    rw [hgx] at hx10
    obtain ⟨c, hc⟩ : ∃ c, c = chk ((s.data.toList.drop 2).take 8) := ⟨_, rfl⟩
    rw [← hc] at hval C2 hcb
    obtain ⟨hx0, hx1⟩ := hx10
    obtain ⟨hc0, hc1⟩ := hcb
    have hs13 : 13 ≤ s.size := by omega
    have HV := hid hval
    clear hc hval hce hcv hesz hex hgx hd8 hdg h13 hsh h13s hs
    go_enter Tryd.func17, Tryd.ntmps17
    go_wp2_with fail
    refine (C1.out _).mono ?_
    rintro e w1 ⟨rfl, rfl⟩
    go_wp2_with fail
    refine (C2.out _).mono ?_
    rintro e w2 ⟨rfl, hb2⟩
    go_wp2
    go_ret
    exact ⟨by rw [HV.out]; rfl, hb2⟩
  · have hf : shapeB s.data.toList = false := by simpa using hsh
    have hv : validB s.data.toList = false := by unfold validB; rw [hf]; rfl
    rw [hf] at C1
    rw [hv]
    clear hf hsh hs hv
    go_enter Tryd.func17, Tryd.ntmps17
    go_wp2_with fail
    refine (C1.out _).mono ?_
    rintro e w1 ⟨rfl, rfl⟩
    go_wp2
    go_ret
    exact ⟨rfl, Below.refl _ _⟩

end Id1
end Go.Proofs.YtbgniplhlnipoaaDoor
