/-
  Contracts of the document's IsCode and IsName.
-/
import Derived.Test.YtaeljmiklalpnaaGreatDoorR1
namespace Go.Proofs.YtaeljmiklalpnaaGreatDoor
open Go.RowKit Go.ChangeMaps Gn
namespace Rg

theorem cod_not {x : W} {k : Nat} {b : UInt8} (h : x[k]? = some b) (hb : codB b = false) : codeW x = false := by
  rw [Bool.eq_false_iff]; intro hc
  unfold codeW at hc
  simp only [Bool.and_eq_true, List.all_eq_true] at hc
  have := hc.2 b (List.mem_of_getElem? h)
  rw [hb] at this; cases this
theorem cod_snoc {x : W} {k : Nat} {b : UInt8} (h : x[k]? = some b) (ha : (x.take k).all codB = true) (hb : codB b = true) : (x.take (k + 1)).all codB = true := by
  rw [List.take_add_one, h, List.all_append, ha]; simp [hb]
set_option maxRecDepth 100000 in
set_option maxHeartbeats 4000000 in
theorem riscode_any (x : W) (w : World) (hx : x.length ≤ 100000) : Calls Tryz.prog 62 #[.string (sB x)] w fun e w' => e = .returned (.bool (codeW x)) ∧ w = w' := by
  obtain ⟨r, hr⟩ : ∃ r, r = codeW x := ⟨_, rfl⟩
  rw [← hr]
  have HR := hid hr
  have zx := sB_size x
  obtain ⟨s, hs⟩ : ∃ s, s = sB x := ⟨_, rfl⟩
  rw [← hs] at zx ⊢
  have HS : Hid (s.data.toList = x) := by show _ = _; rw [hs]; rfl
  have HZ := hid zx
  have z1 : s.size ≤ 100000 := by omega
  clear hr hs zx hx
  go_enter Tryz.func62, Tryz.ntmps62
  go_wp2
  go_loop [3] (fun i => ∃ k : Nat, k ≤ s.size ∧ i = .int .i64 k ∧ Hid ((x.take k).all codB = true)) (fun i => s.size - (intOf i).toNat)
  case atStart => exact ⟨0, Nat.zero_le _, rfl, rfl⟩
  case round =>
    obtain ⟨k, hk, rfl, hA⟩ := hrel
    by_cases hlt : k < s.size
    · have hk0 : 0 ≤ (k : Int) := by omega
      have hk1 : (k : Int) < (s.size : Int) := by omega
      have HX := hid (at_get HS.out hlt)
      by_cases h65 : (s[k]).toNat < 65
      · have d1 : decide (((s[k]).toNat : Int) < 65) = true := decide_eq_true (by omega)
        by_cases h48 : (s[k]).toNat < 48
        · have d3 : decide (((s[k]).toNat : Int) < 48) = true := decide_eq_true (by omega)
          have HV : Hid (r = false) := HR.out.trans (cod_not HX.out (by unfold codB digB; simp; omega))
          clear h65 h48
          go_wp2
          go_ret
          exact ⟨by rw [HV.out]; try rfl, rfl⟩
        · have d3 : decide (((s[k]).toNat : Int) < 48) = false := decide_eq_false (by omega)
          by_cases h57 : 57 < (s[k]).toNat
          · have d4 : decide ((57 : Int) < ((s[k]).toNat : Int)) = true := decide_eq_true (by omega)
            have HV : Hid (r = false) := HR.out.trans (cod_not HX.out (by unfold codB digB; simp; omega))
            clear h65 h48 h57
            go_wp2
            go_ret
            exact ⟨by rw [HV.out]; try rfl, rfl⟩
          · have d4 : decide ((57 : Int) < ((s[k]).toNat : Int)) = false := decide_eq_false (by omega)
            have HN : Hid ((x.take (k + 1)).all codB = true) := cod_snoc HX.out hA.out (by unfold codB digB; simp; omega)
            clear h65 h48 h57
            go_wp2
            go_round
            case rel => exact ⟨k + 1, by omega, by go_num, HN⟩
            case measure => simp [intOf]; omega
      · have d1 : decide (((s[k]).toNat : Int) < 65) = false := decide_eq_false (by omega)
        by_cases h90 : 90 < (s[k]).toNat
        · have d2 : decide ((90 : Int) < ((s[k]).toNat : Int)) = true := decide_eq_true (by omega)
          have d3 : decide (((s[k]).toNat : Int) < 48) = false := decide_eq_false (by omega)
          have d4 : decide ((57 : Int) < ((s[k]).toNat : Int)) = true := decide_eq_true (by omega)
          have HV : Hid (r = false) := HR.out.trans (cod_not HX.out (by unfold codB digB; simp; omega))
          clear h65 h90
          go_wp2
          go_ret
          exact ⟨by rw [HV.out]; try rfl, rfl⟩
        · have d2 : decide ((90 : Int) < ((s[k]).toNat : Int)) = false := decide_eq_false (by omega)
          have HN : Hid ((x.take (k + 1)).all codB = true) := cod_snoc HX.out hA.out (by unfold codB digB; simp; omega)
          clear h65 h90
          go_wp2
          go_round
          case rel => exact ⟨k + 1, by omega, by go_num, HN⟩
          case measure => simp [intOf]; omega
    · have HALL : Hid (x.all codB = true) := by
        have := hA.out
        rwa [List.take_of_length_le (by have := HZ.out; omega)] at this
      have HV : Hid (r = (decide (1 ≤ s.size) && decide (s.size ≤ 8))) := by
        show _ = _; rw [HR.out]; unfold codeW; rw [HALL.out, HZ.out, Bool.and_true]
      by_cases h1 : 1 ≤ s.size
      · have d1 : decide ((1 : Int) ≤ (s.size : Int)) = true := decide_eq_true (by omega)
        by_cases h8 : s.size ≤ 8
        · have d8 : decide ((s.size : Int) ≤ 8) = true := decide_eq_true (by omega)
          have HW : Hid (r = true) := by show _ = _; rw [HV.out, decide_eq_true h1, decide_eq_true h8]; rfl
          clear h1 h8
          go_wp2
          go_ret
          exact ⟨by rw [HW.out]; try rfl, rfl⟩
        · have d8 : decide ((s.size : Int) ≤ 8) = false := decide_eq_false (by omega)
          have HW : Hid (r = false) := by show _ = _; rw [HV.out, decide_eq_false h8, Bool.and_false]
          clear h1 h8
          go_wp2
          go_ret
          exact ⟨by rw [HW.out]; try rfl, rfl⟩
      · have d1 : decide ((1 : Int) ≤ (s.size : Int)) = false := decide_eq_false (by omega)
        have HW : Hid (r = false) := by show _ = _; rw [HV.out, decide_eq_false h1]; rfl
        clear h1
        go_wp2
        go_ret
        exact ⟨by rw [HW.out]; try rfl, rfl⟩

theorem low_32 (b : UInt8) : (lowB b).toNat = 32 ↔ b.toNat = 32 := by rw [lowB_nat]; split <;> omega
theorem nam_low (b : UInt8) : namB b = (decide (97 ≤ (lowB b).toNat ∧ (lowB b).toNat ≤ 122) || decide (48 ≤ (lowB b).toNat ∧ (lowB b).toNat ≤ 57) || decide ((lowB b).toNat = 45) || decide ((lowB b).toNat = 39)) := by
  unfold namB letB digB
  rw [Bool.eq_iff_iff]
  simp only [Bool.or_eq_true, Bool.and_eq_true, decide_eq_true_eq]
  rw [lowB_nat]
  split <;> omega
theorem name_blank {k n : Nat} {b : UInt8} {l : W} (h : (lowB b).toNat = 32) : nameF k n (b :: l) = (decide (0 < n) && nameF (k + 1) 0 l) := by rw [nameF, if_pos ((low_32 b).1 h)]
theorem name_byte {k n : Nat} {b : UInt8} {l : W} (h : ¬ (lowB b).toNat = 32) : nameF k n (b :: l) = (namB b && decide (n + 1 ≤ 20) && nameF k (n + 1) l) := by rw [nameF, if_neg (fun q => h ((low_32 b).2 q))]
theorem drop_at {x : W} {k : Nat} {b : UInt8} (h : x[k]? = some b) : x.drop k = b :: x.drop (k + 1) := by
  obtain ⟨hk, e⟩ := List.getElem?_eq_some_iff.1 h
  rw [List.drop_eq_getElem_cons hk, e]
set_option maxRecDepth 100000 in
set_option maxHeartbeats 8000000 in
theorem risname_any (x : W) (w : World) (hx : x.length ≤ 100000) : Calls Tryz.prog 61 #[.string (sB x)] w fun e w' => e = .returned (.bool (nameW x)) ∧ w = w' := by
  obtain ⟨r, hr⟩ : ∃ r, r = nameW x := ⟨_, rfl⟩
  rw [← hr]
  have HR : Hid (nameF 1 0 x = r) := hr.symm
  have zx := sB_size x
  obtain ⟨s, hs⟩ : ∃ s, s = sB x := ⟨_, rfl⟩
  rw [← hs] at zx ⊢
  have HS : Hid (s.data.toList = x) := by show _ = _; rw [hs]; rfl
  have HZ := hid zx
  have z1 : s.size ≤ 100000 := by omega
  clear hr hs zx hx
  go_enter Tryz.func61, Tryz.ntmps61
  go_wp2
  go_loop [3, 4, 5, 6] (fun c n i _ => ∃ k q m : Nat, k ≤ s.size ∧ i = .int .i64 k ∧ c = .int .i64 q ∧ n = .int .i64 m ∧ q ≤ k + 1 ∧ m ≤ 20 ∧ Hid (nameF q m (x.drop k) = r)) (fun _ _ i _ => s.size - (intOf i).toNat)
  case atStart => exact ⟨0, 1, 0, Nat.zero_le _, rfl, rfl, rfl, by omega, by omega, HR⟩
  case round =>
    obtain ⟨k, q, m, hk, rfl, rfl, rfl, hq, hm, hN⟩ := hrel
    by_cases hlt : k < s.size
    · have hk0 : 0 ≤ (k : Int) := by omega
      have hk1 : (k : Int) < (s.size : Int) := by omega
      have HX := hid (at_get HS.out hlt)
      have CX := hid (fun u => rsmall_any s[k] u)
      have HD : Hid (nameF q m (s[k] :: x.drop (k + 1)) = r) := by show _ = _; rw [← drop_at HX.out]; exact hN.out
      obtain ⟨b, hb⟩ : ∃ b, b = s[k] := ⟨_, rfl⟩
      rw [← hb] at CX HD
      have HNB := hid (nam_low b)
      have HBL := hid (fun h => name_blank (k := q) (n := m) (b := b) (l := x.drop (k + 1)) h)
      have HBY := hid (fun h => name_byte (k := q) (n := m) (b := b) (l := x.drop (k + 1)) h)
      obtain ⟨v, hv⟩ : ∃ v, v = (lowB b).toNat := ⟨_, rfl⟩
      rw [← hv] at CX HNB HBL HBY
      rw [hb] at CX
      clear hN hv hb
      by_cases h32 : v = 32
      · have d32 : ((v : Int) == 32) = true := by rw [h32]; rfl
        have HD2 := HBL.out h32
        rw [HD.out] at HD2
        have HD3 := hid HD2
        clear h32 HD2
        by_cases h0 : m = 0
        · have d0 : ((m : Int) == 0) = true := by rw [h0]; rfl
          have HV : Hid (r = false) := by show _ = _; rw [HD3.out, decide_eq_false (by omega)]; rfl
          clear h0
          go_wp2_with fail
          refine (CX.out _).mono ?_
          rintro e w2 ⟨rfl, rfl⟩
          go_wp2
          go_ret
          exact ⟨by rw [HV.out]; try rfl, rfl⟩
        · have d0 : ((m : Int) == 0) = false := by rw [beq_eq_false_iff_ne]; omega
          have HN2 : Hid (nameF (q + 1) 0 (x.drop (k + 1)) = r) := by show _ = _; rw [HD3.out, decide_eq_true (show 0 < m by omega)]; rfl
          clear h0
          go_wp2_with fail
          refine (CX.out _).mono ?_
          rintro e w2 ⟨rfl, rfl⟩
          go_wp2
          go_round
          case rel => exact ⟨k + 1, q + 1, 0, by omega, by go_num, by go_num, rfl, by omega, by omega, HN2⟩
          case measure => simp [intOf]; omega
      · have d32 : ((v : Int) == 32) = false := by rw [beq_eq_false_iff_ne]; omega
        have HD2 := HBY.out h32
        rw [HD.out] at HD2
        have HD3 := hid HD2
        clear h32 HD2
        have no : ¬ ((97 ≤ v ∧ v ≤ 122) ∨ (48 ≤ v ∧ v ≤ 57) ∨ v = 45 ∨ v = 39) → r = false := fun hno => by
          rw [HD3.out, HNB.out, decide_eq_false (fun h => hno (.inl h)), decide_eq_false (fun h => hno (.inr (.inl h))), decide_eq_false (fun h => hno (.inr (.inr (.inl h)))), decide_eq_false (fun h => hno (.inr (.inr (.inr h))))]; rfl
        have yes : (97 ≤ v ∧ v ≤ 122) ∨ (48 ≤ v ∧ v ≤ 57) ∨ v = 45 ∨ v = 39 → r = (decide (m + 1 ≤ 20) && nameF q (m + 1) (x.drop (k + 1))) := fun hy => by
          have hnb : namB b = true := by
            rw [HNB.out]
            simp only [Bool.or_eq_true, decide_eq_true_eq]
            rcases hy with h | h | h | h
            · exact .inl (.inl (.inl h))
            · exact .inl (.inl (.inr h))
            · exact .inl (.inr h)
            · exact .inr h
          rw [HD3.out, hnb, Bool.true_and]
        have NO := hid no
        have YES := hid yes
        clear no yes
        by_cases hy : (97 ≤ v ∧ v ≤ 122) ∨ (48 ≤ v ∧ v ≤ 57) ∨ v = 45 ∨ v = 39
        · have HY := hid (YES.out hy)
          by_cases h20 : m + 1 ≤ 20
          · have d20 : decide ((20 : Int) < (m : Int) + 1) = false := decide_eq_false (by omega)
            have HN2 : Hid (nameF q (m + 1) (x.drop (k + 1)) = r) := by show _ = _; rw [HY.out, decide_eq_true h20]; rfl
            rcases hy with hy | hy | hy | hy
            · have d97 : decide (((v : Int)) < (97 : Int)) = false := decide_eq_false (by omega)
              have d122 : decide ((122 : Int) < (v : Int)) = false := decide_eq_false (by omega)
              clear hy
              go_wp2_with fail
              refine (CX.out _).mono ?_
              rintro e w2 ⟨rfl, rfl⟩
              go_wp2
              go_round
              case rel => exact ⟨k + 1, q, m + 1, by omega, by go_num, rfl, by go_num, by omega, h20, HN2⟩
              case measure => simp [intOf]; omega
            · have d97 : decide (((v : Int)) < (97 : Int)) = true := decide_eq_true (by omega)
              have d48 : decide (((v : Int)) < (48 : Int)) = false := decide_eq_false (by omega)
              have d57 : decide ((57 : Int) < (v : Int)) = false := decide_eq_false (by omega)
              clear hy
              go_wp2_with fail
              refine (CX.out _).mono ?_
              rintro e w2 ⟨rfl, rfl⟩
              go_wp2
              go_round
              case rel => exact ⟨k + 1, q, m + 1, by omega, by go_num, rfl, by go_num, by omega, h20, HN2⟩
              case measure => simp [intOf]; omega
            · have d97 : decide (((v : Int)) < (97 : Int)) = true := decide_eq_true (by omega)
              have d48 : decide (((v : Int)) < (48 : Int)) = true := decide_eq_true (by omega)
              have e45 : ((v : Int) != 45) = false := by simp; omega
              clear hy
              go_wp2_with fail
              refine (CX.out _).mono ?_
              rintro e w2 ⟨rfl, rfl⟩
              go_wp2
              go_round
              case rel => exact ⟨k + 1, q, m + 1, by omega, by go_num, rfl, by go_num, by omega, h20, HN2⟩
              case measure => simp [intOf]; omega
            · have d97 : decide (((v : Int)) < (97 : Int)) = true := decide_eq_true (by omega)
              have d48 : decide (((v : Int)) < (48 : Int)) = true := decide_eq_true (by omega)
              have e45 : ((v : Int) != 45) = true := by simp; omega
              have e39 : ((v : Int) != 39) = false := by simp; omega
              clear hy
              go_wp2_with fail
              refine (CX.out _).mono ?_
              rintro e w2 ⟨rfl, rfl⟩
              go_wp2
              go_round
              case rel => exact ⟨k + 1, q, m + 1, by omega, by go_num, rfl, by go_num, by omega, h20, HN2⟩
              case measure => simp [intOf]; omega
          · have d20 : decide ((20 : Int) < (m : Int) + 1) = true := decide_eq_true (by omega)
            have HV : Hid (r = false) := by show _ = _; rw [HY.out, decide_eq_false h20]; rfl
            rcases hy with hy | hy | hy | hy
            · have d97 : decide (((v : Int)) < (97 : Int)) = false := decide_eq_false (by omega)
              have d122 : decide ((122 : Int) < (v : Int)) = false := decide_eq_false (by omega)
              clear hy h20
              go_wp2_with fail
              refine (CX.out _).mono ?_
              rintro e w2 ⟨rfl, rfl⟩
              go_wp2
              go_ret
              exact ⟨by rw [HV.out]; try rfl, rfl⟩
            · have d97 : decide (((v : Int)) < (97 : Int)) = true := decide_eq_true (by omega)
              have d48 : decide (((v : Int)) < (48 : Int)) = false := decide_eq_false (by omega)
              have d57 : decide ((57 : Int) < (v : Int)) = false := decide_eq_false (by omega)
              clear hy h20
              go_wp2_with fail
              refine (CX.out _).mono ?_
              rintro e w2 ⟨rfl, rfl⟩
              go_wp2
              go_ret
              exact ⟨by rw [HV.out]; try rfl, rfl⟩
            · have d97 : decide (((v : Int)) < (97 : Int)) = true := decide_eq_true (by omega)
              have d48 : decide (((v : Int)) < (48 : Int)) = true := decide_eq_true (by omega)
              have e45 : ((v : Int) != 45) = false := by simp; omega
              clear hy h20
              go_wp2_with fail
              refine (CX.out _).mono ?_
              rintro e w2 ⟨rfl, rfl⟩
              go_wp2
              go_ret
              exact ⟨by rw [HV.out]; try rfl, rfl⟩
            · have d97 : decide (((v : Int)) < (97 : Int)) = true := decide_eq_true (by omega)
              have d48 : decide (((v : Int)) < (48 : Int)) = true := decide_eq_true (by omega)
              have e45 : ((v : Int) != 45) = true := by simp; omega
              have e39 : ((v : Int) != 39) = false := by simp; omega
              clear hy h20
              go_wp2_with fail
              refine (CX.out _).mono ?_
              rintro e w2 ⟨rfl, rfl⟩
              go_wp2
              go_ret
              exact ⟨by rw [HV.out]; try rfl, rfl⟩
        · have HV : Hid (r = false) := NO.out hy
          have e45 : ((v : Int) != 45) = true := by simp; omega
          have e39 : ((v : Int) != 39) = true := by simp; omega
          by_cases h97 : v < 97
          · have d97 : decide (((v : Int)) < (97 : Int)) = true := decide_eq_true (by omega)
            by_cases h48 : v < 48
            · have d48 : decide (((v : Int)) < (48 : Int)) = true := decide_eq_true (by omega)
              clear hy h97 h48
              go_wp2_with fail
              refine (CX.out _).mono ?_
              rintro e w2 ⟨rfl, rfl⟩
              go_wp2
              go_ret
              exact ⟨by rw [HV.out]; try rfl, rfl⟩
            · have d48 : decide (((v : Int)) < (48 : Int)) = false := decide_eq_false (by omega)
              have d57 : decide ((57 : Int) < (v : Int)) = true := decide_eq_true (by omega)
              clear hy h97 h48
              go_wp2_with fail
              refine (CX.out _).mono ?_
              rintro e w2 ⟨rfl, rfl⟩
              go_wp2
              go_ret
              exact ⟨by rw [HV.out]; try rfl, rfl⟩
          · have d97 : decide (((v : Int)) < (97 : Int)) = false := decide_eq_false (by omega)
            have d122 : decide ((122 : Int) < (v : Int)) = true := decide_eq_true (by omega)
            have d48 : decide (((v : Int)) < (48 : Int)) = false := decide_eq_false (by omega)
            have d57 : decide ((57 : Int) < (v : Int)) = true := decide_eq_true (by omega)
            clear hy h97
            go_wp2_with fail
            refine (CX.out _).mono ?_
            rintro e w2 ⟨rfl, rfl⟩
            go_wp2
            go_ret
            exact ⟨by rw [HV.out]; try rfl, rfl⟩
    · have hkl : x.drop k = [] := List.drop_eq_nil_of_le (by have := HZ.out; omega)
      have HV : Hid (r = (decide (0 < m) && decide (q ≤ 4))) := by have := hN.out; rw [hkl] at this; exact this.symm
      clear hkl hN
      by_cases h0 : 0 < m
      · have d0 : decide ((0 : Int) < (m : Int)) = true := decide_eq_true (by omega)
        by_cases h4 : q ≤ 4
        · have d4 : decide ((q : Int) ≤ 4) = true := decide_eq_true (by omega)
          have HW : Hid (r = true) := by show _ = _; rw [HV.out, decide_eq_true h0, decide_eq_true h4]; rfl
          clear h4
          go_wp2
          go_ret
          exact ⟨by rw [HW.out]; try rfl, rfl⟩
        · have d4 : decide ((q : Int) ≤ 4) = false := decide_eq_false (by omega)
          have HW : Hid (r = false) := by show _ = _; rw [HV.out, decide_eq_false h4, Bool.and_false]
          clear h4
          go_wp2
          go_ret
          exact ⟨by rw [HW.out]; try rfl, rfl⟩
      · have d0 : decide ((0 : Int) < (m : Int)) = false := decide_eq_false (by omega)
        have d0' : ¬ 0 < m := h0
        have HW : Hid (r = false) := by show _ = _; rw [HV.out, decide_eq_false h0]; rfl
        clear h0
        go_wp2
        go_ret
        exact ⟨by rw [HW.out]; try rfl, rfl⟩

end Rg
end Go.Proofs.YtaeljmiklalpnaaGreatDoor
