/-
  The contract of the document's Fit.
-/
import Derived.Test.YtcaiejbnhjiflaaGreatDoorP3
namespace Go.Proofs.YtcaiejbnhjiflaaGreatDoor
open Go.RowKit Go.ChangeMaps
namespace Fm

theorem all_snoc {l : W} {p : UInt8 → Bool} {k : Nat} {b : UInt8} (h : (l.take k).all p = true) (hb : l[k]? = some b) (hp : p b = true) : (l.take (k + 1)).all p = true := by
  rw [List.take_add_one, hb, List.all_append, h]; simp [hp]
theorem all_no {l : W} {p : UInt8 → Bool} {k : Nat} {b : UInt8} (hb : l[k]? = some b) (hp : p b = false) : l.all p = false := by
  rw [Bool.eq_false_iff]; intro h
  rw [List.all_eq_true] at h
  have := h b (List.mem_of_getElem? hb)
  rw [hp] at this; cases this
theorem fitB_split (b : UInt8) : fitB b = (letB b || digB b || decide (b.toNat = 45) || decide (b.toNat = 39) || decide (b.toNat = 46)) := by
  unfold fitB letB; rfl

set_option maxRecDepth 100000 in
set_option maxHeartbeats 8000000 in
theorem rfit_any (s : ByteArray) (w : World) (hs : s.size ≤ 100000) :
    Calls Tryz.prog 26 #[.string s] w fun e w' => e = .returned (.bool (fitW s.data.toList)) ∧ w = w' := by
  by_cases h0 : s.size < 1
  · have d0 : decide ((s.size : Int) < 1) = true := decide_eq_true (by omega)
    have hv : fitW s.data.toList = false := by rw [Bool.eq_false_iff, Ne, fitW_iff, size_len]; omega
    rw [hv]
    clear hv h0
    go_enter Tryz.func26, Tryz.ntmps26
    go_wp2
    go_ret
    exact ⟨rfl, rfl⟩
  · have d0 : decide ((s.size : Int) < 1) = false := decide_eq_false (by omega)
    by_cases h1 : 20 < s.size
    · have d1 : decide ((20 : Int) < (s.size : Int)) = true := decide_eq_true (by omega)
      have hv : fitW s.data.toList = false := by rw [Bool.eq_false_iff, Ne, fitW_iff, size_len]; omega
      rw [hv]
      clear hv h1
      go_enter Tryz.func26, Tryz.ntmps26
      go_wp2
      go_ret
      exact ⟨rfl, rfl⟩
    · have d1 : decide ((20 : Int) < (s.size : Int)) = false := decide_eq_false (by omega)
      have hv : fitW s.data.toList = s.data.toList.all fitB := by
        unfold fitW
        rw [size_len, decide_eq_true (show s.size ≤ 20 by omega), decide_eq_true (show 1 ≤ s.size by omega)]; rfl
      rw [hv]
      have hll := size_len s
      obtain ⟨l, hl⟩ : ∃ l, l = s.data.toList := ⟨_, rfl⟩
      rw [← hl] at hll ⊢
      have HL := hid hl
      clear hl hv h1 h0
      obtain ⟨r, hr⟩ : ∃ r, r = l.all fitB := ⟨_, rfl⟩
      rw [← hr]
      have HR := hid hr
      clear hr
      go_enter Tryz.func26, Tryz.ntmps26
      go_wp2
      clear d0 d1
      go_loop [3] (fun i => ∃ k : Nat, k ≤ s.size ∧ i = .int .i64 k ∧ Hid ((l.take k).all fitB = true)) (fun i => s.size - (intOf i).toNat)
      case atStart => exact ⟨0, Nat.zero_le _, rfl, rfl⟩
      case round =>
        obtain ⟨k, hk, rfl, hA⟩ := hrel
        by_cases hlt : k < s.size
        · have hk0 : 0 ≤ (k : Int) := by omega
          have hk1 : (k : Int) < (s.size : Int) := by omega
          have HBT := hid (at_get HL.out.symm hlt)
          have CL := hid (fun w => rletter_any s[k] w)
          have CD := hid (fun w => rdigit_any s[k] w)
          have hsp := fitB_split s[k]
          have HYES : Hid (fitB s[k] = true → (l.take (k + 1)).all fitB = true) := fun h => all_snoc hA.out HBT.out h
          have HNO : Hid (fitB s[k] = false → r = false) := fun h => HR.out.trans (all_no HBT.out h)
          cases hlet : letB s[k]
          · cases hdig : digB s[k]
            · rw [hlet] at CL
              rw [hdig] at CD
              by_cases h45 : (s[k]).toNat = 45
              · have HN := hid (HYES.out (by rw [hsp, h45]; simp))
                have a1 : (((s[k]).toNat : Int) != 45) = false := by rw [h45]; rfl
                clear hlet hdig hsp h45
                go_wp2_with fail
                refine (CL.out _).mono ?_
                rintro e w2 ⟨rfl, rfl⟩
                go_wp2_with fail
                refine (CD.out _).mono ?_
                rintro e w2 ⟨rfl, rfl⟩
                go_wp2
                go_round
                case rel => exact ⟨k + 1, by omega, by go_num, HN⟩
                case measure => simp [intOf]; omega
              · have a1 : (((s[k]).toNat : Int) != 45) = true := by simp; omega
                by_cases h39 : (s[k]).toNat = 39
                · have HN := hid (HYES.out (by rw [hsp, h39]; simp))
                  have a2 : (((s[k]).toNat : Int) != 39) = false := by rw [h39]; rfl
                  clear hlet hdig hsp h45 h39
                  go_wp2_with fail
                  refine (CL.out _).mono ?_
                  rintro e w2 ⟨rfl, rfl⟩
                  go_wp2_with fail
                  refine (CD.out _).mono ?_
                  rintro e w2 ⟨rfl, rfl⟩
                  go_wp2
                  go_round
                  case rel => exact ⟨k + 1, by omega, by go_num, HN⟩
                  case measure => simp [intOf]; omega
                · have a2 : (((s[k]).toNat : Int) != 39) = true := by simp; omega
                  by_cases h46 : (s[k]).toNat = 46
                  · have HN := hid (HYES.out (by rw [hsp, h46]; simp))
                    have a3 : (((s[k]).toNat : Int) != 46) = false := by rw [h46]; rfl
                    clear hlet hdig hsp h45 h39 h46
                    go_wp2_with fail
                    refine (CL.out _).mono ?_
                    rintro e w2 ⟨rfl, rfl⟩
                    go_wp2_with fail
                    refine (CD.out _).mono ?_
                    rintro e w2 ⟨rfl, rfl⟩
                    go_wp2
                    go_round
                    case rel => exact ⟨k + 1, by omega, by go_num, HN⟩
                    case measure => simp [intOf]; omega
                  · have a3 : (((s[k]).toNat : Int) != 46) = true := by simp; omega
                    have HN := hid (HNO.out (by rw [hsp, hlet, hdig]; simp [h45, h39, h46]))
                    clear hlet hdig hsp h45 h39 h46
                    go_wp2_with fail
                    refine (CL.out _).mono ?_
                    rintro e w2 ⟨rfl, rfl⟩
                    go_wp2_with fail
                    refine (CD.out _).mono ?_
                    rintro e w2 ⟨rfl, rfl⟩
                    go_wp2
                    go_ret
                    exact ⟨by rw [HN.out]; rfl, rfl⟩
            · have HN := hid (HYES.out (by rw [hsp, hdig]; simp))
              rw [hlet] at CL
              rw [hdig] at CD
              clear hlet hdig hsp
              go_wp2_with fail
              refine (CL.out _).mono ?_
              rintro e w2 ⟨rfl, rfl⟩
              go_wp2_with fail
              refine (CD.out _).mono ?_
              rintro e w2 ⟨rfl, rfl⟩
              go_wp2
              go_round
              case rel => exact ⟨k + 1, by omega, by go_num, HN⟩
              case measure => simp [intOf]; omega
          · have HN := hid (HYES.out (by rw [hsp, hlet]; simp))
            rw [hlet] at CL
            clear hlet hsp
            go_wp2_with fail
            refine (CL.out _).mono ?_
            rintro e w2 ⟨rfl, rfl⟩
            go_wp2
            go_round
            case rel => exact ⟨k + 1, by omega, by go_num, HN⟩
            case measure => simp [intOf]; omega
        · have hkn : k = s.size := by omega
          have HN : Hid (r = true) := by
            show _ = _
            rw [HR.out]
            have := hA.out
            rwa [List.take_of_length_le (by omega)] at this
          clear hkn
          go_wp2
          go_ret
          exact ⟨by rw [HN.out]; rfl, rfl⟩

end Fm
end Go.Proofs.YtcaiejbnhjiflaaGreatDoor
