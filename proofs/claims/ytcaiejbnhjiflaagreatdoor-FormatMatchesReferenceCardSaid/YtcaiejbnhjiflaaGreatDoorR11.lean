/-
  The contract of the document's Code.
-/
import Derived.Test.YtcaiejbnhjiflaaGreatDoorR10
namespace Go.Proofs.YtcaiejbnhjiflaaGreatDoor
open Go.RowKit Go.ChangeMaps
namespace Fm

theorem okC_dig {b q : UInt8} (h : q.toNat = 57) : okC b q = digB b := ok_dig b h
theorem okC_let {b q : UInt8} (h : q.toNat = 65) : okC b q = letB b := by unfold okC letB; rw [h]; simp
theorem okC_any {b q : UInt8} (h : q.toNat ≠ 57) (h2 : q.toNat ≠ 65) : okC b q = true := by unfold okC; simp [h, h2]
set_option maxRecDepth 100000 in
set_option maxHeartbeats 8000000 in
theorem rcode_any (s p : ByteArray) (w : World) (_hs : s.size ≤ 100000) (hp : p.size ≤ 100000) :
    Calls Tryz.prog 44 #[.string s, .string p] w fun e w' => e = .returned (.bool (codeW s.data.toList p.data.toList)) ∧ w = w' := by
  obtain ⟨x, hx⟩ : ∃ x, x = s.data.toList := ⟨_, rfl⟩
  obtain ⟨t, ht⟩ : ∃ t, t = p.data.toList := ⟨_, rfl⟩
  have hxz : x.length = s.size := by rw [hx, size_len]
  have htz : t.length = p.size := by rw [ht, size_len]
  rw [← hx, ← ht]
  have HX := hid hx
  have HT := hid ht
  obtain ⟨r, hr⟩ : ∃ r, r = codeW x t := ⟨_, rfl⟩
  rw [← hr]
  have HR := hid hr
  have HXZ := hid hxz
  have HTZ := hid htz
  clear hx ht hr hxz htz
  by_cases hl : s.size = p.size
  · have e0 : ((s.size : Int) != (p.size : Int)) = false := by rw [hl]; simp
    have HL : Hid (x.length = t.length) := by show _ = _; rw [HXZ.out, HTZ.out, hl]
    have hle : s.size ≤ p.size := by omega
    clear hl
    go_enter Tryz.func44, Tryz.ntmps44
    go_wp2
    clear e0
    go_loop [5] (fun i => ∃ k : Nat, k ≤ s.size ∧ i = .int .i64 k ∧ Hid (codeW (x.take k) (t.take k) = true)) (fun i => s.size - (intOf i).toNat)
    case atStart => exact ⟨0, Nat.zero_le _, rfl, rfl⟩
    case round =>
      obtain ⟨k, hk, rfl, hC⟩ := hrel
      by_cases hlt : k < s.size
      · have hlp : k < p.size := by omega
        have hk0 : 0 ≤ (k : Int) := by omega
        have hk1 : (k : Int) < (s.size : Int) := by omega
        have hk2 : (k : Int) < (p.size : Int) := by omega
        have HB := hid (at_get HX.out.symm hlt)
        have HQ := hid (at_get HT.out.symm hlp)
        have CD := hid (fun w => rdigit_any s[k] w)
        have CL := hid (fun w => rletter_any s[k] w)
        have HY : Hid (okC s[k] p[k] = true → codeW (x.take (k + 1)) (t.take (k + 1)) = true) := fun h => (code_snoc HB.out HQ.out hC.out).trans h
        have HN : Hid (okC s[k] p[k] = false → r = false) := fun h => HR.out.trans (code_no HL.out HB.out HQ.out h)
        by_cases h57 : (p[k]).toNat = 57
        · have a57 : (((p[k]).toNat : Int) == 57) = true := by rw [h57]; rfl
          have a65 : (((p[k]).toNat : Int) == 65) = false := by rw [h57]; rfl
          have hok := okC_dig (b := s[k]) h57
          cases hd : digB s[k]
          · have HV := hid (HN.out (hok.trans hd))
            rw [hd] at CD
            clear hd hok h57
            go_wp2_with fail
            refine (CD.out _).mono ?_
            rintro e w2 ⟨rfl, rfl⟩
            go_wp2
            go_ret
            exact ⟨by rw [HV.out]; try rfl, rfl⟩
          · have HV := hid (HY.out (hok.trans hd))
            rw [hd] at CD
            clear hd hok h57
            go_wp2_with fail
            refine (CD.out _).mono ?_
            rintro e w2 ⟨rfl, rfl⟩
            go_wp2
            go_round
            case rel => exact ⟨k + 1, by omega, by go_num, HV⟩
            case measure => simp [intOf]; omega
        · have a57 : (((p[k]).toNat : Int) == 57) = false := by simp; omega
          by_cases h65 : (p[k]).toNat = 65
          · have a65 : (((p[k]).toNat : Int) == 65) = true := by rw [h65]; rfl
            have hok := okC_let (b := s[k]) h65
            cases hd : letB s[k]
            · have HV := hid (HN.out (hok.trans hd))
              rw [hd] at CL
              clear hd hok h57 h65
              go_wp2_with fail
              refine (CL.out _).mono ?_
              rintro e w2 ⟨rfl, rfl⟩
              go_wp2
              go_ret
              exact ⟨by rw [HV.out]; try rfl, rfl⟩
            · have HV := hid (HY.out (hok.trans hd))
              rw [hd] at CL
              clear hd hok h57 h65
              go_wp2_with fail
              refine (CL.out _).mono ?_
              rintro e w2 ⟨rfl, rfl⟩
              go_wp2
              go_round
              case rel => exact ⟨k + 1, by omega, by go_num, HV⟩
              case measure => simp [intOf]; omega
          · have a65 : (((p[k]).toNat : Int) == 65) = false := by simp; omega
            have HV := hid (HY.out (okC_any h57 h65))
            clear h57 h65
            go_wp2
            go_round
            case rel => exact ⟨k + 1, by omega, by go_num, HV⟩
            case measure => simp [intOf]; omega
      · have HV : Hid (r = true) := by
          show _ = _
          have := hC.out
          rw [List.take_of_length_le (by have := HXZ.out; omega), List.take_of_length_le (by have := HL.out; have := HXZ.out; omega)] at this
          exact HR.out.trans this
        go_wp2
        go_ret
        exact ⟨by rw [HV.out]; try rfl, rfl⟩
  · have e0 : ((s.size : Int) != (p.size : Int)) = true := by simp; omega
    have HV : Hid (r = false) := by
      show _ = _
      rw [HR.out, Bool.eq_false_iff]
      intro h
      have := codeW_len h
      have := HXZ.out
      have := HTZ.out
      omega
    clear hl
    go_enter Tryz.func44, Tryz.ntmps44
    go_wp2
    go_ret
    exact ⟨by rw [HV.out]; try rfl, rfl⟩

end Fm
end Go.Proofs.YtcaiejbnhjiflaaGreatDoor
