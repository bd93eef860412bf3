/-
  Contracts of the document's pattern, named, part and Has.
-/
import Derived.Test.YtcaiejbnhjiflaaGreatDoorR3
import Derived.Test.YtcaiejbnhjiflaaGreatDoorR5
namespace Go.Proofs.YtcaiejbnhjiflaaGreatDoor
open Go.RowKit Go.ChangeMaps
namespace Fm

set_option maxRecDepth 100000 in
set_option maxHeartbeats 8000000 in
theorem rpattern_any (s : ByteArray) (w : World) (hs : s.size ≤ 100000) :
    Calls Tryz.prog 72 #[.string s] w fun e w' => e = .returned (.bool (patW s.data.toList)) ∧ w = w' := by
  have hll := size_len s
  obtain ⟨l, hl⟩ : ∃ l, l = s.data.toList := ⟨_, rfl⟩
  rw [← hl] at hll ⊢
  have HL := hid hl
  have HLL := hid hll
  clear hl hll
  go_enter Tryz.func72, Tryz.ntmps72
  go_wp2
  go_loop [3] (fun i => ∃ k : Nat, k ≤ s.size ∧ i = .int .i64 k ∧ Hid ((l.take k).all patB = true)) (fun i => s.size - (intOf i).toNat)
  case atStart => exact ⟨0, Nat.zero_le _, rfl, rfl⟩
  case round =>
    obtain ⟨k, hk, rfl, hA⟩ := hrel
    by_cases hlt : k < s.size
    · have hk0 : 0 ≤ (k : Int) := by omega
      have hk1 : (k : Int) < (s.size : Int) := by omega
      have HBT := hid (at_get HL.out.symm hlt)
      by_cases h57 : (s[k]).toNat = 57
      · have a1 : (((s[k]).toNat : Int) != 57) = false := by rw [h57]; rfl
        have HN : Hid ((l.take (k + 1)).all patB = true) := all_snoc hA.out HBT.out (by rw [patB_iff]; exact .inl h57)
        clear h57
        go_wp2
        go_round
        case rel => exact ⟨k + 1, by omega, by go_num, HN⟩
        case measure => simp [intOf]; omega
      · have a1 : (((s[k]).toNat : Int) != 57) = true := by simp; omega
        by_cases h65 : (s[k]).toNat = 65
        · have a2 : (((s[k]).toNat : Int) != 65) = false := by rw [h65]; rfl
          have HN : Hid ((l.take (k + 1)).all patB = true) := all_snoc hA.out HBT.out (by rw [patB_iff]; exact .inr h65)
          clear h57 h65
          go_wp2
          go_round
          case rel => exact ⟨k + 1, by omega, by go_num, HN⟩
          case measure => simp [intOf]; omega
        · have a2 : (((s[k]).toNat : Int) != 65) = true := by simp; omega
          have HN : Hid (patW l = false) := by
            show _ = _
            unfold patW
            rw [all_no HBT.out (by rw [Bool.eq_false_iff]; intro h; rw [patB_iff] at h; omega), Bool.and_false]
          clear h57 h65
          go_wp2
          go_ret
          exact ⟨by rw [HN.out]; try rfl, rfl⟩
    · have hkn : k = s.size := by omega
      have HP : Hid (patW l = (decide (1 ≤ s.size) && decide (s.size ≤ 8))) := by
        show _ = _
        have := hA.out
        rw [List.take_of_length_le (by have := HLL.out; omega)] at this
        unfold patW
        rw [this, HLL.out, Bool.and_true]
      clear hkn
      by_cases h1 : 1 ≤ s.size
      · have d1 : decide ((1 : Int) ≤ (s.size : Int)) = true := decide_eq_true (by omega)
        by_cases h8 : s.size ≤ 8
        · have d8 : decide ((s.size : Int) ≤ 8) = true := decide_eq_true (by omega)
          have HV : Hid (patW l = true) := by show _ = _; rw [HP.out, decide_eq_true h1, decide_eq_true h8]; rfl
          clear h1 h8
          go_wp2
          go_ret
          exact ⟨by rw [HV.out]; try rfl, rfl⟩
        · have d8 : decide ((s.size : Int) ≤ 8) = false := decide_eq_false (by omega)
          have HV : Hid (patW l = false) := by show _ = _; rw [HP.out, decide_eq_false h8, Bool.and_false]
          clear h1 h8
          go_wp2
          go_ret
          exact ⟨by rw [HV.out]; try rfl, rfl⟩
      · have d1 : decide ((1 : Int) ≤ (s.size : Int)) = false := decide_eq_false (by omega)
        have HV : Hid (patW l = false) := by show _ = _; rw [HP.out, decide_eq_false h1, Bool.false_and]
        clear h1
        go_wp2
        go_ret
        exact ⟨by rw [HV.out]; try rfl, rfl⟩

/-- Where named stands. -/
structure NamAt (l : W) (k : Nat) : Prop where
  all : (l.take k).all namB = true
  one : 0 < k → smaB (l.getD 0 0) = true
theorem NamAt.next {l : W} {k : Nat} {b : UInt8} (h : NamAt l k) (hb : l[k]? = some b) (hn : namB b = true) (h0 : k = 0 → smaB b = true) : NamAt l (k + 1) := by
  refine ⟨all_snoc h.all hb hn, fun _ => ?_⟩
  rcases Nat.eq_zero_or_pos k with e | e
  · subst e; rw [List.getD, hb]; exact h0 rfl
  · exact h.one e
theorem nam_no {l : W} {k : Nat} {b : UInt8} (hb : l[k]? = some b) (h : namB b = false ∨ (k = 0 ∧ smaB b = false)) : nameW l = false := by
  unfold nameW
  rcases h with h | ⟨rfl, h⟩
  · rw [all_no hb h, Bool.and_false]
  · rw [List.getD, hb]
    show (_ && _ && smaB b && _) = _
    rw [h, Bool.and_false, Bool.false_and]
theorem namB_split (b : UInt8) : namB b = (smaB b || digB b || decide (b.toNat = 95)) := rfl

set_option maxRecDepth 100000 in
set_option maxHeartbeats 8000000 in
theorem rnamed_any (s : ByteArray) (w : World) (hs : s.size ≤ 100000) :
    Calls Tryz.prog 41 #[.string s] w fun e w' => e = .returned (.bool (nameW s.data.toList)) ∧ w = w' := by
  have hll := size_len s
  obtain ⟨l, hl⟩ : ∃ l, l = s.data.toList := ⟨_, rfl⟩
  rw [← hl] at hll ⊢
  have HL := hid hl
  have HLL := hid hll
  clear hl hll
  obtain ⟨r, hr⟩ : ∃ r, r = nameW l := ⟨_, rfl⟩
  rw [← hr]
  have HR := hid hr
  clear hr
  go_enter Tryz.func41, Tryz.ntmps41
  go_wp2
  go_loop [3] (fun i => ∃ k : Nat, k ≤ s.size ∧ i = .int .i64 k ∧ Hid (NamAt l k)) (fun i => s.size - (intOf i).toNat)
  case atStart => exact ⟨0, Nat.zero_le _, rfl, ⟨rfl, fun h => absurd h (by omega)⟩⟩
  case round =>
    obtain ⟨k, hk, rfl, hA⟩ := hrel
    by_cases hlt : k < s.size
    · have hk0 : 0 ≤ (k : Int) := by omega
      have hk1 : (k : Int) < (s.size : Int) := by omega
      have HBT := hid (at_get HL.out.symm hlt)
      have CD := hid (fun w => rdigit_any s[k] w)
      have hsm := smaB_iff s[k]
      have hsp := namB_split s[k]
      by_cases h97 : 97 ≤ (s[k]).toNat ∧ (s[k]).toNat ≤ 122
      · have d1 : decide ((97 : Int) ≤ ((s[k]).toNat : Int)) = true := decide_eq_true (by omega)
        have d2 : decide (((s[k]).toNat : Int) ≤ 122) = true := decide_eq_true (by omega)
        have hsy : smaB s[k] = true := hsm.2 h97
        have HN := hid (hA.out.next HBT.out (by rw [hsp, hsy]; rfl) (fun _ => hsy))
        clear hsm hsp h97 hsy
        go_wp2
        go_round
        case rel => exact ⟨k + 1, by omega, by go_num, HN⟩
        case measure => simp [intOf]; omega
      · have hsn : smaB s[k] = false := by rw [Bool.eq_false_iff]; exact fun h => h97 (hsm.1 h)
        have hq : Hid (k = 0 → r = false) := fun e => HR.out.trans (nam_no HBT.out (.inr ⟨e, hsn⟩))
        have hq2 : Hid (namB s[k] = false → r = false) := fun e => HR.out.trans (nam_no HBT.out (.inl e))
        have hq3 : Hid (k ≠ 0 → namB s[k] = true → NamAt l (k + 1)) := fun e h => hA.out.next HBT.out h (fun e2 => absurd e2 e)
        by_cases h1 : 97 ≤ (s[k]).toNat
        · have d1 : decide ((97 : Int) ≤ ((s[k]).toNat : Int)) = true := decide_eq_true (by omega)
          have d2 : decide (((s[k]).toNat : Int) ≤ 122) = false := decide_eq_false (by omega)
          by_cases hz : k = 0
          · have e0 : ((k : Int) == 0) = true := by simp [hz]
            have HN := hid (hq.out hz)
            clear hsm hsp h97 hsn hz
            go_wp2
            go_ret
            exact ⟨by rw [HN.out]; try rfl, rfl⟩
          · have e0 : ((k : Int) == 0) = false := by simp [hz]
            have hdg : digB s[k] = false := by rw [Bool.eq_false_iff]; intro h; rw [digB_iff] at h; omega
            have e95 : (((s[k]).toNat : Int) != 95) = true := by simp; omega
            have HN := hid (hq2.out (by rw [hsp, hsn, hdg]; simp; omega))
            rw [hdg] at CD
            clear hsm hsp h97 hsn hz hdg
            go_wp2_with fail
            refine (CD.out _).mono ?_
            rintro e w2 ⟨rfl, rfl⟩
            go_wp2
            go_ret
            exact ⟨by rw [HN.out]; try rfl, rfl⟩
        · have d1 : decide ((97 : Int) ≤ ((s[k]).toNat : Int)) = false := decide_eq_false (by omega)
          by_cases hz : k = 0
          · have e0 : ((k : Int) == 0) = true := by simp [hz]
            have HN := hid (hq.out hz)
            clear hsm hsp h97 hsn hz
            go_wp2
            go_ret
            exact ⟨by rw [HN.out]; try rfl, rfl⟩
          · have e0 : ((k : Int) == 0) = false := by simp [hz]
            cases hdg : digB s[k]
            · rw [hdg] at CD
              by_cases h95 : (s[k]).toNat = 95
              · have e95 : (((s[k]).toNat : Int) != 95) = false := by rw [h95]; rfl
                have HN := hid (hq3.out hz (by rw [hsp, h95]; simp))
                clear hsm hsp h97 hsn hz hdg h95
                go_wp2_with fail
                refine (CD.out _).mono ?_
                rintro e w2 ⟨rfl, rfl⟩
                go_wp2
                go_round
                case rel => exact ⟨k + 1, by omega, by go_num, HN⟩
                case measure => simp [intOf]; omega
              · have e95 : (((s[k]).toNat : Int) != 95) = true := by simp; omega
                have HN := hid (hq2.out (by rw [hsp, hsn, hdg]; simp; exact h95))
                clear hsm hsp h97 hsn hz hdg h95
                go_wp2_with fail
                refine (CD.out _).mono ?_
                rintro e w2 ⟨rfl, rfl⟩
                go_wp2
                go_ret
                exact ⟨by rw [HN.out]; try rfl, rfl⟩
            · rw [hdg] at CD
              have HN := hid (hq3.out hz (by rw [hsp, hdg]; simp))
              clear hsm hsp h97 hsn hz hdg
              go_wp2_with fail
              refine (CD.out _).mono ?_
              rintro e w2 ⟨rfl, rfl⟩
              go_wp2
              go_round
              case rel => exact ⟨k + 1, by omega, by go_num, HN⟩
              case measure => simp [intOf]; omega
    · have hkn : k = s.size := by omega
      have HP : Hid (1 ≤ s.size → r = decide (s.size ≤ 16)) := by
        intro h1
        have h := hA.out
        have e1 := h.all
        rw [List.take_of_length_le (by have := HLL.out; omega)] at e1
        rw [HR.out]
        unfold nameW
        rw [e1, h.one (by omega), HLL.out, decide_eq_true h1]; simp
      have HP0 : Hid (s.size = 0 → r = false) := by
        intro h0
        rw [HR.out]
        unfold nameW
        rw [HLL.out, h0]; rfl
      clear hkn
      by_cases h1 : 1 ≤ s.size
      · have d1 : decide ((1 : Int) ≤ (s.size : Int)) = true := decide_eq_true (by omega)
        by_cases h8 : s.size ≤ 16
        · have d8 : decide ((s.size : Int) ≤ 16) = true := decide_eq_true (by omega)
          have HV : Hid (r = true) := (HP.out h1).trans (decide_eq_true h8)
          clear h1 h8
          go_wp2
          go_ret
          exact ⟨by rw [HV.out]; try rfl, rfl⟩
        · have d8 : decide ((s.size : Int) ≤ 16) = false := decide_eq_false (by omega)
          have HV : Hid (r = false) := (HP.out h1).trans (decide_eq_false h8)
          clear h1 h8
          go_wp2
          go_ret
          exact ⟨by rw [HV.out]; try rfl, rfl⟩
      · have d1 : decide ((1 : Int) ≤ (s.size : Int)) = false := decide_eq_false (by omega)
        have HV : Hid (r = false) := HP0.out (by omega)
        clear h1
        go_wp2
        go_ret
        exact ⟨by rw [HV.out]; try rfl, rfl⟩

end Fm
end Go.Proofs.YtcaiejbnhjiflaaGreatDoor
