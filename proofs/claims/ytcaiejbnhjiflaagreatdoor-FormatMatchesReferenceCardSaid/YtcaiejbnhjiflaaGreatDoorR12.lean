/-
  The contract of the document's several.
-/
import Derived.Test.YtcaiejbnhjiflaaGreatDoorR11
import Derived.Test.YtcaiejbnhjiflaaGreatDoorR5
namespace Go.Proofs.YtcaiejbnhjiflaaGreatDoor
open Go.RowKit Go.ChangeMaps
namespace Fm

set_option maxRecDepth 100000 in
set_option maxHeartbeats 8000000 in
theorem rseveral_any (z : W) (w : World) (hz : z.length ≤ 1000) :
    Calls Tryz.prog 45 #[.string (sB z)] w fun e w' => e = .returned (.bool (sevT z)) ∧ Below w.heap.size w w' := by
  have CW := hid (rwords_any (sB z) w (by rw [sB_size]; omega))
  rw [sB_list] at CW
  have hwl := words_len z
  have hsum : ((wordsL z).map List.length).sum ≤ z.length := by have := (wordsF_len [] z).1; simpa [wordsL] using this
  obtain ⟨r, hr⟩ : ∃ r, r = sevT z := ⟨_, rfl⟩
  rw [← hr]
  have HR : Hid (r = ((wordsL z).all fitW && decide (1 ≤ (wordsL z).length) && decide ((wordsL z).length ≤ 4) && decide (joinW (wordsL z) = z))) := hr
  obtain ⟨ws, hws⟩ : ∃ ws, ws = wordsL z := ⟨_, rfl⟩
  rw [← hws] at hwl hsum HR
  have CW2 : Hid (Calls Tryz.prog 18 #[.string (sB z)] w fun e w' => ∃ v, e = .returned v ∧ IsW w' v ws ∧ Below w.heap.size w w') := by rw [hws]; exact CW.out
  obtain ⟨s, hs⟩ : ∃ s, s = sB z := ⟨_, rfl⟩
  rw [← hs] at CW2 ⊢
  have HSZ : Hid (s = sB z) := hs
  clear CW hr hws hs
  go_enter Tryz.func45, Tryz.ntmps45
  go_wp2_with fail
  refine CW2.out.mono ?_
  rintro e w1 ⟨v, rfl, hW, hb1⟩
  obtain ⟨A, cap, rfl, hRd⟩ := id hW
  have HRd := hid hRd
  have HW := hid hW
  have HB1 := hid hb1
  clear hRd hb1 hW CW2
  go_wp2
  go_loop [4] (fun i => ∃ k : Nat, k ≤ ws.length ∧ i = .int .i64 k ∧ Hid ((ws.take k).all fitW = true)) (fun i => ws.length - (intOf i).toNat)
  case atStart => exact ⟨0, Nat.zero_le _, rfl, rfl⟩
  case round =>
    obtain ⟨k, hk, rfl, hA⟩ := hrel
    by_cases hlt : k < ws.length
    · obtain ⟨x, hx⟩ : ∃ x, ws[k]? = some x := ⟨_, List.getElem?_eq_getElem hlt⟩
      obtain ⟨g, o, rfl, hg, hc⟩ := HRd.out.at (k := k) (u := sV x) (by rw [List.getElem?_map, hx]; rfl)
      unfold sV at hc
      have hxl : x.length ≤ 1000 := by have := le_sum (List.mem_of_getElem? hx); omega
      have CF : Hid (∀ u, Calls Tryz.prog 26 #[.string (sB x)] u fun e w' => e = .returned (.bool (fitW x)) ∧ u = w') := fun u => by have := rfit_any (sB x) u (by rw [sB_size]; omega); rwa [sB_list] at this
      have hkk : (k : Int) < (ws.length : Int) := by omega
      have hk0 : 0 ≤ (k : Int) := by omega
      obtain ⟨t, ht⟩ : ∃ t, t = sB x := ⟨_, rfl⟩
      rw [← ht] at hc CF
      have HX := hid hx
      clear hx ht
      cases hf : fitW x
      · rw [hf] at CF
        have HV : Hid (r = false) := by
          show _ = _
          rw [HR.out]
          have : ws.all fitW = false := by
            rw [Bool.eq_false_iff]; intro h
            rw [List.all_eq_true] at h
            have := h x (List.mem_of_getElem? HX.out)
            rw [hf] at this; cases this
          rw [this]; rfl
        clear hf
        go_wp2_with fail
        refine (CF.out _).mono ?_
        rintro e w2 ⟨rfl, rfl⟩
        go_wp2
        go_ret
        exact ⟨by rw [HV.out]; try rfl, HB1.out⟩
      · rw [hf] at CF
        have HN : Hid ((ws.take (k + 1)).all fitW = true) := by
          show _ = _
          rw [List.take_add_one, HX.out, List.all_append, hA.out]; simp [hf]
        clear hf
        go_wp2_with fail
        refine (CF.out _).mono ?_
        rintro e w2 ⟨rfl, rfl⟩
        go_wp2
        go_round
        case rel => exact ⟨k + 1, by omega, by go_num, HN⟩
        case measure => simp [intOf]; omega
    · obtain rfl : k = ws.length := by omega
      have HALL : Hid (ws.all fitW = true) := by have := hA.out; rwa [List.take_length] at this
      by_cases h1 : 1 ≤ ws.length
      · have d1 : decide ((1 : Int) ≤ (ws.length : Int)) = true := decide_eq_true (by omega)
        have d1' : decide (1 ≤ ws.length) = true := decide_eq_true h1
        by_cases h4 : ws.length ≤ 4
        · have d4 : decide ((ws.length : Int) ≤ 4) = true := decide_eq_true (by omega)
          have d4' : decide (ws.length ≤ 4) = true := decide_eq_true h4
          have CJ := hid (rjoined_any (.slice A ws.length cap) ws w1 HW.out (by omega) (by omega))
          have hbe : ((sB (joinW ws)).toList == s.toList) = decide (joinW ws = z) := by rw [HSZ.out, sB_beq]
          have HV : Hid (r = decide (joinW ws = z)) := by
            show _ = _
            rw [HR.out, HALL.out, d1', d4']; simp
          obtain ⟨q, hq⟩ : ∃ q, q = decide (joinW ws = z) := ⟨_, rfl⟩
          rw [← hq] at hbe HV
          obtain ⟨y, hy⟩ : ∃ y, y = sB (joinW ws) := ⟨_, rfl⟩
          rw [← hy] at CJ hbe
          clear hq hy h1 h4
          go_wp2_with fail
          refine CJ.out.mono ?_
          rintro e w2 ⟨rfl, rfl⟩
          go_wp2
          go_ret
          exact ⟨by rw [HV.out, ← hbe]; try rfl, HB1.out⟩
        · have d4 : decide ((ws.length : Int) ≤ 4) = false := decide_eq_false (by omega)
          have HV : Hid (r = false) := by show _ = _; rw [HR.out, decide_eq_false h4]; simp
          clear h1 h4
          go_wp2
          go_ret
          exact ⟨by rw [HV.out]; try rfl, HB1.out⟩
      · have d1 : decide ((1 : Int) ≤ (ws.length : Int)) = false := decide_eq_false (by omega)
        have HV : Hid (r = false) := by show _ = _; rw [HR.out, decide_eq_false h1]; simp
        clear h1
        go_wp2
        go_ret
        exact ⟨by rw [HV.out]; try rfl, HB1.out⟩

end Fm
end Go.Proofs.YtcaiejbnhjiflaaGreatDoor
