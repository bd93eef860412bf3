/-
  RegisterBeginnings: the law's walk.
-/
import Derived.Test.YtaeljmiklalpnaaGreatDoorQl
import Derived.Test.YtaeljmiklalpnaaGreatDoorQa
import Derived.BigQuiet
namespace Go.Proofs.YtaeljmiklalpnaaGreatDoor
open Go.RowKit Go.ChangeMaps Gn
namespace Rg

set_option maxRecDepth 100000 in
set_option maxHeartbeats 16000000 in
theorem law_begin (HD : HeadOk) (r : List Ch) (nb : Int) (rv : Value) (w : World) (hr : IsChs w rv r) (ht : Tb w) (hn0 : 0 ≤ nb) (hn1 : nb ≤ 255) :
    Calls Tryz.prog 3 #[rv, .int .u8 nb] w fun e w' => e = .returned (.bool true) ∧ Below w.heap.size w w' := by
  have HB1 : Hid (Below w.heap.size w w) := Below.refl _ _
  obtain ⟨A, cap, hrv, hR⟩ := id hr
  obtain ⟨m, hm⟩ : ∃ m, m = r.length := ⟨_, rfl⟩
  rw [← hm] at hrv
  subst hrv
  have HM := hid hm
  have HRR := hid hR
  have HR := hid hr
  have HT := hid ht
  clear hr ht hR hm
  go_enter Tryz.func3, Tryz.ntmps3
  go_wp2_with fail
  refine (HD w HT.out).mono ?_
  rintro e w2 ⟨rfl, hb2⟩
  have HB2 := hid hb2
  clear hb2
  go_wp2_with fail
  refine (rsound_any r _ w2 (HR.out.on HB2.out) clash_ok).mono ?_
  rintro e w3 ⟨b, rfl, hb3, hS⟩
  have HB3 := hid (bt HB2.out hb3)
  have HSS := hid hS
  clear hb3 hS
  cases b
  · clear HSS
    go_wp2
    go_ret
    exact ⟨rfl, HB3.out⟩
  · have HSD := hid (HSS.out rfl)
    clear HSS
    have hm60 : m ≤ 60 := by rw [HM.out]; exact HSD.out.few
    by_cases h0 : m = 0
    · subst h0
      go_wp2
      go_ret
      exact ⟨rfl, HB3.out⟩
    · have hmp : 0 < m := by omega
      obtain ⟨k, hk⟩ : ∃ k : Nat, k = nb.toNat % m := ⟨_, rfl⟩
      have hkm : k < m := by rw [hk]; exact Nat.mod_lt _ hmp
      have hkv : nb % (m : Int) = (k : Int) := by
        rw [hk, Int.natCast_emod, Int.toNat_of_nonneg hn0]
      have z1 : ((m : Int) == 0) = false := by
        rw [beq_eq_false_iff_ne]; omega
      have hm1 : 1 ≤ (m : Int) := by omega
      have hkt : nb.tmod (m : Int) = (k : Int) := by rw [← hkv]; exact Int.tmod_eq_emod_of_nonneg hn0
      have hsl := fun u => run_upto (P := Tryz.prog) 22 Tryz.underlying22 9 size9 A m cap (k + 1) (by have := HRR.out.2.1; have := HM.out; omega) u
      simp only [upto_same] at hsl
      rw [show ((k + 1 : Nat) : Int) = (k : Int) + 1 by omega] at hsl
      clear hk h0
      obtain ⟨c, hc⟩ : ∃ c, r[k]? = some c := ⟨_, List.getElem?_eq_getElem (by have := HM.out; omega)⟩
      have CK := hid (pcheck_any (r.take (k + 1)) _ 0 (-1) (.slice A (k + 1) cap) w3 ⟨A, cap, by rw [List.length_take, Nat.min_eq_left (by have := HM.out; omega)], slr_upto (HRR.out.on HB3.out) (by have := HM.out; omega)⟩ (HSD.out.take _).fol (HT.out.on HB3.out))
      have hday := ((formed_iff c).1 (HSD.out.ok k c hc).formed).day
      obtain ⟨day, hdy⟩ : ∃ d, d = c.day := ⟨_, rfl⟩
      rw [← hdy] at hday
      obtain ⟨hd1, hd2⟩ := hday
      have HC := hid hc
      have HDY := hid hdy
      clear hc hdy
      go_wp2_with fail
      refine CK.out.mono ?_
      rintro e w4 ⟨rfl, hb4⟩
      have HB4 := hid (bt HB3.out hb4)
      clear hb4 hsl CK
      have HA : Hid (∀ u, Below w.heap.size w u → ∀ (i : Nat) (d : Ch), r[i]? = some d → ∃ g o, A = some ⟨g, o, none⟩ ∧ u.cell? ⟨g, o + i * 9, none⟩ = some (.int .i64 d.day) ∧ u.cell? ⟨g, o + i * 9 + 1, none⟩ = some (.int .i64 d.kind)) := fun u hu i d hd => by
        obtain ⟨g, o, e, -, h⟩ := slr_ch (HRR.out.on hu) hd
        exact ⟨g, o, e, h.c0, h.c1⟩
      obtain ⟨g, o, hg, c0, -⟩ := HA.out w4 HB4.out k c HC.out
      rw [← HDY.out] at c0
      subst hg
      have hk0 : 0 ≤ (k : Int) := by omega
      have hk1 : (k : Int) < (m : Int) := by omega
      go_wp2_with fail
      clear c0
      go_loop [10] (fun s10 => ∃ j : Nat, s10 = .int .i64 (j : Int) ∧ k + 1 ≤ j ∧ j ≤ m ∧ Hid (∀ d, r[j - 1]? = some d → d.day = day)) (fun s10 => m - (intOf s10).toNat)
      case atStart => exact ⟨k + 1, by go_num, Nat.le_refl _, by omega, fun d hd => by
        rw [Nat.add_sub_cancel, HC.out] at hd
        cases hd
        exact HDY.out.symm⟩
      case round =>
        obtain ⟨j, rfl, hj1, hj2, HJ⟩ := hrel
        have hj0 : 0 ≤ (j : Int) := by omega
        by_cases hlt : j < m
        · obtain ⟨d, hd⟩ : ∃ d, r[j]? = some d := ⟨_, List.getElem?_eq_getElem (by have := HM.out; omega)⟩
          obtain ⟨g', o', hg, c0, -⟩ := HA.out w4 HB4.out j d hd
          cases hg
          have hjm : (j : Int) < (m : Int) := by omega
          have hjd : decide (j < m) = true := decide_eq_true hlt
          have hjd2 : decide ((j : Int) < (m : Int)) = true := decide_eq_true hjm
          by_cases he : d.day = day
          · have f1 : (d.day == day) = true := by simpa using he
            have HJ2 : Hid (∀ x, r[j + 1 - 1]? = some x → x.day = day) := fun x hx => by
              rw [Nat.add_sub_cancel, hd] at hx
              cases hx
              exact he
            clear hd he
            go_wp2_with fail
            go_round
            case rel => exact ⟨j + 1, by go_num, by omega, by omega, HJ2⟩
            case measure => simp [intOf]; omega
          · have f1 : (d.day == day) = false := by simpa using he
            have HE : Hid (j = atN r day) := end_is HSD.out (by omega) (by have := HM.out; omega) HJ.out (fun x hx => by rw [hd] at hx; cases hx; exact he)
            clear hd he
            go_wp2_with fail
            refine (pat_any r day _ w4 (HR.out.on HB4.out) HSD.out (HT.out.on HB4.out)).mono ?_
            rintro e w5 ⟨v, vs, rfl, hst, hb5⟩
            have HB5 := hid (bt HB4.out hb5)
            obtain ⟨A2, cap2, rfl, hL⟩ := hst.parts
            obtain ⟨ln, hln⟩ : ∃ x, x = (atL r day).length := ⟨_, rfl⟩
            rw [← hln] at hL
            rw [← hln]
            have HL := hid hL
            have HLN := hid hln
            have hj60 : j ≤ 60 := by omega
            clear hst hL hln hb5 hjd hjd2 f1 c0 hjm hlt
            have hsl := fun u => run_upto (P := Tryz.prog) 22 Tryz.underlying22 9 size9 (some ⟨g, o, none⟩) m cap j (by have := HRR.out.2.1; have := HM.out; omega) u
            simp only [upto_same] at hsl
            have CA := hid (fun e (he : day ≤ e) u (hu : Below w.heap.size w u) => by
              have h := pat_any (r.take j) e (.slice (some ⟨g, o, none⟩) j cap) u ⟨_, cap, by rw [List.length_take, Nat.min_eq_left (by have := HM.out; omega)], slr_upto (HRR.out.on hu) (by have := HM.out; omega)⟩ (HSD.out.take _) (HT.out.on hu)
              rw [HE.out, at_begin HSD.out he] at h
              exact h)
            rw [← HE.out] at CA
            have CS := hid (fun v2 vs2 u (hu : Below w5.heap.size w5 u) (h2 : IsSts u v2 (atL r day) vs2) => by
              have h1 := HL.out.on hu
              have hfew : (atL r day).length ≤ 100000 := by
                have := run_few (r.take (atN r day)); have h2 := HSD.out.few
                rw [List.length_take] at this
                unfold atL; omega
              exact rsame_eq (atL r day) vs vs2 _ v2 u h1 h2 hfew (fun s hs => by
                have := al_few _ s hs
                have h3 := HSD.out.few
                rw [List.length_take] at this
                omega))
            go_wp2_with fail
            go_loop [12, 13] (fun s12 s13 => ∃ i : Nat, s13 = .int .i64 (i : Int) ∧ i ≤ j ∧ s12 = .int .i64 ((opN r i : Nat) : Int)) (fun _ s13 => j - (intOf s13).toNat)
            case atStart => exact ⟨0, rfl, Nat.zero_le _, rfl⟩
            case round =>
              obtain ⟨i, rfl, hi, rfl⟩ := hrel
              have hi0 : 0 ≤ (i : Int) := by omega
              have hop := opN_le r i
              obtain ⟨q, hq⟩ : ∃ q, q = opN r i := ⟨_, rfl⟩
              rw [← hq] at hop ⊢
              have HQ := hid hq
              clear hq
              by_cases hlt2 : i < j
              · obtain ⟨d, hd⟩ : ∃ d, r[i]? = some d := ⟨_, List.getElem?_eq_getElem (by have := HM.out; omega)⟩
                obtain ⟨g', o', hg, -, c1⟩ := HA.out w5 HB5.out i d hd
                cases hg
                have him : (i : Int) < (m : Int) := by omega
                by_cases he : d.kind = 1
                · have f2 : (d.kind == 1) = true := by simpa using he
                  have HO := hid (opN_yes hd he)
                  clear hd he
                  go_wp2_with fail
                  go_round
                  case rel => exact ⟨i + 1, by go_num, by omega, by rw [HO.out, ← HQ.out]; go_num⟩
                  case measure => simp [intOf]; omega
                · have f2 : (d.kind == 1) = false := by simpa using he
                  have HO := hid (opN_no hd he)
                  clear hd he
                  go_wp2_with fail
                  go_round
                  case rel => exact ⟨i + 1, by go_num, by omega, by rw [HO.out, ← HQ.out]⟩
                  case measure => simp [intOf]; omega
              · have hql : q = ln := by
                  rw [HQ.out, HLN.out, at_len, ← HE.out, show i = j by omega]
                  rfl
                subst hql
                go_wp2_with fail
                refine (CA.out day (Int.le_refl _) w5 HB5.out).mono ?_
                rintro e w6 ⟨v2, vs2, rfl, hst2, hb6⟩
                have HST2 := hid hst2
                have HB6 := hid hb6
                clear hst2 hb6
                go_wp2_with fail
                refine (CS.out v2 vs2 w6 HB6.out HST2.out).mono ?_
                rintro e w7 ⟨rfl, hb7⟩
                have HB7 := hid (bt HB6.out hb7)
                clear hb7
                go_wp2_with fail
                refine (CA.out (day + 100) (by omega) w7 (bt HB5.out HB7.out)).mono ?_
                rintro e w8 ⟨v3, vs3, rfl, hst3, hb8⟩
                have HST3 := hid hst3
                have HB8 := hid (bt HB7.out hb8)
                clear hst3 hb8
                go_wp2_with fail
                refine (CS.out v3 vs3 w8 HB8.out HST3.out).mono ?_
                rintro e w9 ⟨rfl, hb9⟩
                have HB9 := hid (bt HB8.out hb9)
                clear hb9
                go_wp2
                go_ret
                exact ⟨by first | rfl | simp, bt HB5.out HB9.out⟩
        · have hjd : decide (j < m) = false := decide_eq_false hlt
          have hjd2 : decide ((j : Int) < (m : Int)) = false := decide_eq_false (by omega)
          have HE : Hid (j = atN r day) := end_is HSD.out (by omega) (by have := HM.out; omega) HJ.out (fun x hx => by
            have := (List.getElem?_eq_some_iff.1 hx).1
            have := HM.out
            omega)
          go_wp2_with fail
          refine (pat_any r day _ w4 (HR.out.on HB4.out) HSD.out (HT.out.on HB4.out)).mono ?_
          rintro e w5 ⟨v, vs, rfl, hst, hb5⟩
          have HB5 := hid (bt HB4.out hb5)
          obtain ⟨A2, cap2, rfl, hL⟩ := hst.parts
          obtain ⟨ln, hln⟩ : ∃ x, x = (atL r day).length := ⟨_, rfl⟩
          rw [← hln] at hL
          rw [← hln]
          have HL := hid hL
          have HLN := hid hln
          have hj60 : j ≤ 60 := by omega
          clear hst hL hln hb5 hjd hjd2 hlt
          have hsl := fun u => run_upto (P := Tryz.prog) 22 Tryz.underlying22 9 size9 (some ⟨g, o, none⟩) m cap j (by have := HRR.out.2.1; have := HM.out; omega) u
          simp only [upto_same] at hsl
          have CA := hid (fun e (he : day ≤ e) u (hu : Below w.heap.size w u) => by
            have h := pat_any (r.take j) e (.slice (some ⟨g, o, none⟩) j cap) u ⟨_, cap, by rw [List.length_take, Nat.min_eq_left (by have := HM.out; omega)], slr_upto (HRR.out.on hu) (by have := HM.out; omega)⟩ (HSD.out.take _) (HT.out.on hu)
            rw [HE.out, at_begin HSD.out he] at h
            exact h)
          rw [← HE.out] at CA
          have CS := hid (fun v2 vs2 u (hu : Below w5.heap.size w5 u) (h2 : IsSts u v2 (atL r day) vs2) => by
            have h1 := HL.out.on hu
            have hfew : (atL r day).length ≤ 100000 := by
              have := run_few (r.take (atN r day)); have h2 := HSD.out.few
              rw [List.length_take] at this
              unfold atL; omega
            exact rsame_eq (atL r day) vs vs2 _ v2 u h1 h2 hfew (fun s hs => by
              have := al_few _ s hs
              have h3 := HSD.out.few
              rw [List.length_take] at this
              omega))
          go_wp2_with fail
          go_loop [12, 13] (fun s12 s13 => ∃ i : Nat, s13 = .int .i64 (i : Int) ∧ i ≤ j ∧ s12 = .int .i64 ((opN r i : Nat) : Int)) (fun _ s13 => j - (intOf s13).toNat)
          case atStart => exact ⟨0, rfl, Nat.zero_le _, rfl⟩
          case round =>
            obtain ⟨i, rfl, hi, rfl⟩ := hrel
            have hi0 : 0 ≤ (i : Int) := by omega
            have hop := opN_le r i
            obtain ⟨q, hq⟩ : ∃ q, q = opN r i := ⟨_, rfl⟩
            rw [← hq] at hop ⊢
            have HQ := hid hq
            clear hq
            by_cases hlt2 : i < j
            · obtain ⟨d, hd⟩ : ∃ d, r[i]? = some d := ⟨_, List.getElem?_eq_getElem (by have := HM.out; omega)⟩
              obtain ⟨g', o', hg, -, c1⟩ := HA.out w5 HB5.out i d hd
              cases hg
              have him : (i : Int) < (m : Int) := by omega
              by_cases he : d.kind = 1
              · have f2 : (d.kind == 1) = true := by simpa using he
                have HO := hid (opN_yes hd he)
                clear hd he
                go_wp2_with fail
                go_round
                case rel => exact ⟨i + 1, by go_num, by omega, by rw [HO.out, ← HQ.out]; go_num⟩
                case measure => simp [intOf]; omega
              · have f2 : (d.kind == 1) = false := by simpa using he
                have HO := hid (opN_no hd he)
                clear hd he
                go_wp2_with fail
                go_round
                case rel => exact ⟨i + 1, by go_num, by omega, by rw [HO.out, ← HQ.out]⟩
                case measure => simp [intOf]; omega
            · have hql : q = ln := by
                rw [HQ.out, HLN.out, at_len, ← HE.out, show i = j by omega]
                rfl
              subst hql
              go_wp2_with fail
              refine (CA.out day (Int.le_refl _) w5 HB5.out).mono ?_
              rintro e w6 ⟨v2, vs2, rfl, hst2, hb6⟩
              have HST2 := hid hst2
              have HB6 := hid hb6
              clear hst2 hb6
              go_wp2_with fail
              refine (CS.out v2 vs2 w6 HB6.out HST2.out).mono ?_
              rintro e w7 ⟨rfl, hb7⟩
              have HB7 := hid (bt HB6.out hb7)
              clear hb7
              go_wp2_with fail
              refine (CA.out (day + 100) (by omega) w7 (bt HB5.out HB7.out)).mono ?_
              rintro e w8 ⟨v3, vs3, rfl, hst3, hb8⟩
              have HST3 := hid hst3
              have HB8 := hid (bt HB7.out hb8)
              clear hst3 hb8
              go_wp2_with fail
              refine (CS.out v3 vs3 w8 HB8.out HST3.out).mono ?_
              rintro e w9 ⟨rfl, hb9⟩
              have HB9 := hid (bt HB8.out hb9)
              clear hb9
              go_wp2
              go_ret
              exact ⟨by first | rfl | simp, bt HB5.out HB9.out⟩

end Rg
end Go.Proofs.YtaeljmiklalpnaaGreatDoor
