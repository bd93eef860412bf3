/-
  RegisterAddresses: the law's walk.
-/
import Derived.Test.YtaeljmiklalpnaaGreatDoorQl
import Derived.BigQuiet
import Derived.Deep.RegionHeld3
namespace Go.Proofs.YtaeljmiklalpnaaGreatDoor
open Go.RowKit Go.ChangeMaps Gn
namespace Rg

set_option maxRecDepth 100000 in
set_option maxHeartbeats 16000000 in
theorem law_addresses (HD : HeadOk) (r : List Ch) (day k n num : Int) (pe st co to' : W) (rv : Value) (w : World) (hr : IsChs w rv r) (ht : Tb w) (hn1 : -9223372036854775808 ≤ n) (hn2 : n ≤ 9223372036854775807) :
    Calls Tryz.prog 4 #[rv, .int .i64 day, .agg #[.int .i64 k, .int .i64 n], .agg #[.string (sB pe), .string (sB st), .int .i64 num, .string (sB co), .string (sB to')]] w fun e w' => e = .returned (.bool true) ∧ Below w.heap.size w w' := by
  obtain ⟨tp, htp⟩ : ∃ x, x = sB pe := ⟨_, rfl⟩
  obtain ⟨ts, hts⟩ : ∃ x, x = sB st := ⟨_, rfl⟩
  obtain ⟨tc, htc⟩ : ∃ x, x = sB co := ⟨_, rfl⟩
  obtain ⟨tt, htt⟩ : ∃ x, x = sB to' := ⟨_, rfl⟩
  rw [← htp, ← hts, ← htc, ← htt]
  have HP := hid htp
  have HS := hid hts
  have HC := hid htc
  have HTO := hid htt
  have hsz : ts.size = st.length := by rw [hts]; exact sB_size st
  obtain ⟨w1, hw1⟩ : ∃ u, u = (w.alloc (.cells #[.int .i64 k, .int .i64 n] 35)).alloc (.cells #[.string tp, .string ts, .int .i64 num, .string tc, .string tt] 37) := ⟨_, rfl⟩
  obtain ⟨hb1, hx1, hx2⟩ := two_boxes w (.cells #[.int .i64 k, .int .i64 n] 35) (.cells #[.string tp, .string ts, .int .i64 num, .string tc, .string tt] 37)
  rw [← hw1] at hb1 hx1 hx2
  have SK : Hid (∀ u, Below w1.heap.size w1 u → u.cell? ⟨w.heap.size, 0, none⟩ = some (.int .i64 k) ∧ u.cell? ⟨w.heap.size, 1, none⟩ = some (.int .i64 n) ∧ u.cell? ⟨w.heap.size + 1, 0, none⟩ = some (.string tp) ∧ u.cell? ⟨w.heap.size + 1, 1, none⟩ = some (.string ts) ∧ u.cell? ⟨w.heap.size + 1, 2, none⟩ = some (.int .i64 num) ∧ u.cell? ⟨w.heap.size + 1, 3, none⟩ = some (.string tc) ∧ u.cell? ⟨w.heap.size + 1, 4, none⟩ = some (.string tt)) := fun u hu => by
    have h1 := (hu.block _ (heap_lt hx1)).trans hx1
    have h2 := (hu.block _ (heap_lt hx2)).trans hx2
    refine ⟨?_, ?_, ?_, ?_, ?_, ?_, ?_⟩ <;> first | (rw [cell_at h1]; rfl) | (rw [cell_at h2]; rfl)
  have HB1 := hid hb1
  have HR := hid hr
  have HT := hid ht
  clear hb1 hx1 hx2 hr ht htp hts htc htt
  go_enter Tryz.func4, Tryz.ntmps4
  go_wp2_with fail
  rw [← hw1]
  clear hw1
  refine (HD w1 (HT.out.on HB1.out)).mono ?_
  rintro e w2 ⟨rfl, hb2⟩
  have HB2 := hid hb2
  clear hb2
  go_wp2_with fail
  refine (rsound_any r rv w2 (HR.out.on (bt HB1.out HB2.out)) clash_ok).mono ?_
  rintro e w3 ⟨b, rfl, hb3, hS⟩
  have HB3 := hid (bt HB2.out hb3)
  have HSS := hid hS
  clear hb3 hS
  obtain ⟨p0, p1, a0, a1, a2, a3, a4⟩ := SK.out _ HB3.out
  cases b
  · clear HSS
    go_wp2
    go_ret
    exact ⟨rfl, bt HB1.out HB3.out⟩
  · have HSD := hid (HSS.out rfl)
    clear HSS
    by_cases h100 : st.length ≤ 100
    · have e1 : decide ((st.length : Int) > 100) = false := decide_eq_false (by omega)
      have e2 : ¬ 100 < st.length := by omega
      go_wp2_with fail
      clear p0 p1 a0 a1 a2 a3 a4 e1 e2
      refine (pname_any r day k n rv w3 (HR.out.on (bt HB1.out HB3.out)) HSD.out (HT.out.on (bt HB1.out HB3.out)) hn1 hn2).mono ?_
      rintro e w4 ⟨rfl, hb⟩
      obtain ⟨o1, ho1⟩ : ∃ o, o = nameR (atL r day) k n := ⟨_, rfl⟩
      rw [← ho1]
      have HO1 := hid ho1
      obtain ⟨q1p, q1a, q1m, q1c, q1t, hq1, hqs1⟩ := adV_parts o1
      rw [hq1]
      have HQ1 := hid hqs1
      obtain ⟨E1, hE1⟩ : ∃ x, x = adE o1 := ⟨_, rfl⟩
      rw [← hE1]
      have HE1 := hid hE1
      have HB4 := hid (bt HB3.out hb)
      clear ho1 hq1 hqs1 hE1 hb
      obtain ⟨w5, hw5⟩ : ∃ u, u = w4.alloc (.cells #[.string q1p, .string q1a, .int .i64 q1m, .string q1c, .string q1t] 37) := ⟨_, rfl⟩
      have HB5 : Hid (Below w1.heap.size w1 w5) := by
        show Below _ _ _
        rw [hw5]
        exact HB4.out.alloc HB4.out.size _
      have HX5 : Hid (w5.heap[w4.heap.size]? = some (.cells #[.string q1p, .string q1a, .int .i64 q1m, .string q1c, .string q1t] 37 (0, 0))) := by show _ = _; rw [hw5]; exact heap_new _ _
      obtain ⟨p0, p1, a0, a1, a2, a3, a4⟩ := SK.out _ HB5.out
      rw [hw5] at p0 p1 a0 a1 a2 a3 a4
      rcases o1 with _ | x1
      · have hE : E1 = 3 := HE1.out
        subst hE
        clear HE1
        go_wp2_with fail
        rw [← hw5]
        clear hw5 p0 p1 a0 a1 a2 a3 a4
        have CF := pfind_any r day num pe st co to' rv w5 (HR.out.on (bt HB1.out HB5.out)) HSD.out (HT.out.on (bt HB1.out HB5.out)) (by omega)
        rw [← HP.out, ← HS.out, ← HC.out, ← HTO.out] at CF
        refine CF.mono ?_
        rintro e x1 ⟨rfl, hbx⟩
        obtain ⟨o2, ho2⟩ : ∃ o, o = findR (atL r day) co st num := ⟨_, rfl⟩
        rw [← ho2]
        have HO2 := hid ho2
        have HBX := hid (bt HB5.out hbx)
        clear ho2 hbx CF
        rcases o2 with _ | ⟨i, n2⟩
        · simp only [ptV, ptE]
          have HB9 : Hid (Below w1.heap.size w1 (x1.alloc (.cells #[.int .i64 0, .int .i64 0] 35))) := HBX.out.alloc HBX.out.size _
          go_wp2
          go_ret
          exact ⟨by first | rfl | simp, bt HB1.out HB9.out⟩
        · simp only [ptV, ptE]
          obtain ⟨s, hs, hnm, hnd⟩ := name_find HO2.out.symm
          obtain ⟨s', hs', hit, hn2⟩ := find_some HO2.out.symm
          rw [hs] at hs'
          cases hs'
          obtain ⟨-, -, -, l1, l2⟩ := (hit_iff ..).1 hit
          have gs := (HSD.out.atInv day).good s (List.mem_of_getElem? hs)
          have hsft := gs.shift
          have hlo := gs.lo
          have hhi := gs.hi
          have b1 : -9223372036854775808 ≤ n2 := by omega
          have b2 : n2 ≤ 9223372036854775807 := by omega
          have sm := sm_of (HSD.out.atInv day) (fun s hs => by
            have := al_few _ s hs
            have h3 := HSD.out.few
            rw [List.length_take] at this
            show s.al.length ≤ 900
            omega) s (List.mem_of_getElem? hs)
          have CN := hid (fun u al (h : IsW u al s.al) => rnamed_any s al st u h sm (by omega))
          rw [hnd] at CN
          have HSL := hid hs
          have HNM := hid hnm
          obtain ⟨x2, hx2⟩ : ∃ u, u = x1.alloc (.cells #[.int .i64 (i : Int), .int .i64 n2] 35) := ⟨_, rfl⟩
          have HB2X : Hid (Below w1.heap.size w1 x2) := by
            show Below _ _ _
            rw [hx2]
            exact HBX.out.alloc HBX.out.size _
          have HXQ : Hid (x2.heap[x1.heap.size]? = some (.cells #[.int .i64 (i : Int), .int .i64 n2] 35 (0, 0))) := by show _ = _; rw [hx2]; exact heap_new _ _
          clear hs hnm hnd hit hn2 l1 l2 gs hsft hlo hhi sm
          go_wp2_with fail
          rw [← hx2]
          clear hx2
          refine (pat_any r day rv x2 (HR.out.on (bt HB1.out HB2X.out)) HSD.out (HT.out.on (bt HB1.out HB2X.out))).mono ?_
          rintro e x3 ⟨v, vs, rfl, hst, hb3⟩
          have HXQ3 := hid ((hb3.block _ (heap_lt HXQ.out)).trans HXQ.out)
          have HB3X := hid (bt HB2X.out hb3)
          obtain ⟨A, cap, rfl, hL⟩ := hst.parts
          obtain ⟨g, oo, u, rfl, hg, hu, hcc, hal⟩ := hL.at HSL.out
          have hil := (List.getElem?_eq_some_iff.1 HSL.out).1
          have hfew : (atL r day).length ≤ 1000 := by
            have := run_few (r.take (atN r day)); have h2 := HSD.out.few
            rw [List.length_take] at this
            unfold atL; omega
          obtain ⟨ln, hln⟩ : ∃ x, x = (atL r day).length := ⟨_, rfl⟩
          rw [← hln] at hil hfew ⊢
          obtain ⟨aA, ac, hua, hsR⟩ := id hal
          have HCC := hid hcc
          have HAL := hid hal
          have HG := hid hg
          obtain ⟨⟨y0, y1⟩, -⟩ := blk2 HXQ3.out
          have HLN := hid hln
          clear hst hL hb3 hu hcc hal hsR hg hln
          go_wp2_with fail
          clear y0 y1
          refine (pname_any r day (i : Int) n2 rv x3 (HR.out.on (bt HB1.out HB3X.out)) HSD.out (HT.out.on (bt HB1.out HB3X.out)) b1 b2).mono ?_
          rw [HNM.out]
          rintro e x4 ⟨rfl, hb4⟩
          simp only [adV, adE]
          rw [← HC.out]
          obtain ⟨tn, htn⟩ : ∃ x, x = sB s.name := ⟨_, rfl⟩
          obtain ⟨tw, htw⟩ : ∃ x, x = sB s.town := ⟨_, rfl⟩
          obtain ⟨sc, hsc⟩ : ∃ x, x = sB s.code := ⟨_, rfl⟩
          obtain ⟨na, hna⟩ : ∃ x, x = s.al.length := ⟨_, rfl⟩
          obtain ⟨lo, hlo⟩ : ∃ x, x = s.low := ⟨_, rfl⟩
          obtain ⟨hi, hhi⟩ : ∃ x, x = s.high := ⟨_, rfl⟩
          obtain ⟨sh, hsh⟩ : ∃ x, x = s.shift := ⟨_, rfl⟩
          obtain ⟨op, hop⟩ : ∃ x, x = s.isOpen := ⟨_, rfl⟩
          have HXQ4 := (hb4.block _ (heap_lt HXQ3.out)).trans HXQ3.out
          have HCC4 := HCC.out.on hb4 HG.out
          have HAL4 := HAL.out.on hb4
          have HG4 := Nat.lt_of_lt_of_le HG.out hb4.size
          rw [← htn, ← htw]
          obtain ⟨x5, hx5⟩ : ∃ u, u = x4.alloc (.cells #[.string ⟨#[]⟩, .string tn, .int .i64 num, .string tc, .string tw] 37) := ⟨_, rfl⟩
          have hb45 : Below x4.heap.size x4 x5 := by rw [hx5]; exact b0 _ _
          have hb5 := bt (bt HB3X.out hb4) hb45
          have HB5X := hid hb5
          have hxc : x5.heap[x4.heap.size]? = some (.cells #[.string ⟨#[]⟩, .string tn, .int .i64 num, .string tc, .string tw] 37 (0, 0)) := by rw [hx5]; exact heap_new _ _
          have hxq := (hb45.block _ (heap_lt HXQ4)).trans HXQ4
          have hst5 := HCC4.on hb45 HG4
          have hg5 := Nat.lt_of_lt_of_le HG4 hb45.size
          have hal5 := HAL4.on hb45
          have SKK : Hid (∀ u', Below x5.heap.size x5 u' → (u'.cell? ⟨x4.heap.size, 1, none⟩ = some (.string tn) ∧ u'.cell? ⟨x4.heap.size, 2, none⟩ = some (.int .i64 num) ∧ u'.cell? ⟨x4.heap.size, 3, none⟩ = some (.string tc) ∧ u'.cell? ⟨w.heap.size + 1, 1, none⟩ = some (.string ts) ∧ u'.cell? ⟨w.heap.size + 1, 2, none⟩ = some (.int .i64 num) ∧ u'.cell? ⟨w.heap.size + 1, 3, none⟩ = some (.string tc) ∧ u'.cell? ⟨x1.heap.size, 0, none⟩ = some (.int .i64 (i : Int)) ∧ u'.cell? ⟨g, oo + i * 8, none⟩ = some (.string sc) ∧ u'.cell? ⟨g, oo + i * 8 + 1, none⟩ = some (.string tw) ∧ u'.cell? ⟨g, oo + i * 8 + 2, none⟩ = some (.string tn) ∧ u'.cell? ⟨g, oo + i * 8 + 3, none⟩ = some (.slice aA na ac) ∧ u'.cell? ⟨g, oo + i * 8 + 4, none⟩ = some (.int .i64 lo) ∧ u'.cell? ⟨g, oo + i * 8 + 5, none⟩ = some (.int .i64 hi) ∧ u'.cell? ⟨g, oo + i * 8 + 6, none⟩ = some (.int .i64 sh) ∧ u'.cell? ⟨g, oo + i * 8 + 7, none⟩ = some (.bool op))) := fun u' hu' => by
            have e1 := (hu'.block _ (heap_lt hxc)).trans hxc
            obtain ⟨⟨_, d1, d2, d3, _⟩, -⟩ := blk5 e1
            obtain ⟨⟨q0, _⟩, -⟩ := blk2 ((hu'.block _ (heap_lt hxq)).trans hxq)
            obtain ⟨-, -, -, a1, a2, a3, -⟩ := SK.out u' (bt HB5X.out hu')
            obtain ⟨s0, s1, s2, s3, s4, s5, s6, s7⟩ := hst5.on hu' hg5
            rw [← hsc] at s0
            rw [← htw] at s1
            rw [← htn] at s2
            rw [hua, ← hna] at s3
            rw [← hlo] at s4
            rw [← hhi] at s5
            rw [← hsh] at s6
            rw [← hop] at s7
            exact ⟨d1, d2, d3, a1, a2, a3, q0, s0, s1, s2, s3, s4, s5, s6, s7⟩
          have CN2 : Hid (∀ u', Below x5.heap.size x5 u' → Calls Tryz.prog 17 #[.agg #[.string sc, .string tw, .string tn, .slice aA na ac, .int .i64 lo, .int .i64 hi, .int .i64 sh, .bool op], .string ts] u' fun e w' => e = .returned (.bool true) ∧ Below u'.heap.size u' w') := fun u' hu' => by
            have h := CN.out u' u (hal5.on hu')
            unfold stA at h
            rw [hua, ← hsc, ← htw, ← htn, ← hna, ← hlo, ← hhi, ← hsh, ← hop, ← HS.out] at h
            exact h
          have hi0 : 0 ≤ (i : Int) := by omega
          have hi1 : (i : Int) < (ln : Int) := by omega
          obtain ⟨c0, c1, c2, c3, c4, c5, c6, c7, c8, c9, c10, c11, c12, c13, c14⟩ := SKK.out x5 (Below.refl _ _)
          have HI1 := hid hil
          have hw0 : Below x5.heap.size x5 x5.drew := (Below.refl _ _).drew
          clear hb4 hb45 hb5 hxc hxq hst5 hg5 hal5 HXQ4 HCC4 HAL4 HG4 htn htw hsc hna hlo hhi hsh hop hua b1 b2
          go_wp2_with fail
          rw [← hx5]
          clear hx5
          refine wp_region_held_drew (S := fun w' => w'.cell? ⟨x4.heap.size, 1, none⟩ = some (.string tn) ∧ w'.cell? ⟨x4.heap.size, 2, none⟩ = some (.int .i64 num) ∧ w'.cell? ⟨x4.heap.size, 3, none⟩ = some (.string tc) ∧ w'.cell? ⟨w.heap.size + 1, 1, none⟩ = some (.string ts) ∧ w'.cell? ⟨w.heap.size + 1, 2, none⟩ = some (.int .i64 num) ∧ w'.cell? ⟨w.heap.size + 1, 3, none⟩ = some (.string tc) ∧ w'.cell? ⟨x1.heap.size, 0, none⟩ = some (.int .i64 (i : Int)) ∧ w'.cell? ⟨g, oo + i * 8, none⟩ = some (.string sc) ∧ w'.cell? ⟨g, oo + i * 8 + 1, none⟩ = some (.string tw) ∧ w'.cell? ⟨g, oo + i * 8 + 2, none⟩ = some (.string tn) ∧ w'.cell? ⟨g, oo + i * 8 + 3, none⟩ = some (.slice aA na ac) ∧ w'.cell? ⟨g, oo + i * 8 + 4, none⟩ = some (.int .i64 lo) ∧ w'.cell? ⟨g, oo + i * 8 + 5, none⟩ = some (.int .i64 hi) ∧ w'.cell? ⟨g, oo + i * 8 + 6, none⟩ = some (.int .i64 sh) ∧ w'.cell? ⟨g, oo + i * 8 + 7, none⟩ = some (.bool op)) (by kernel_rfl) (by refine ⟨?_, ?_, ?_, ?_, ?_, ?_, ?_, ?_, ?_, ?_, ?_, ?_, ?_, ?_, ?_⟩ <;> first | simpa using c0 | simpa using c1 | simpa using c2 | simpa using c3 | simpa using c4 | simpa using c5 | simpa using c6 | simpa using c7 | simpa using c8 | simpa using c9 | simpa using c10 | simpa using c11 | simpa using c12 | simpa using c13 | simpa using c14) (fun hHeld => ?_)
          obtain ⟨wd, hwd⟩ : ∃ u, u = x5.drew := ⟨_, rfl⟩
          rw [← hwd] at hw0 hHeld ⊢
          clear hwd
          refine wpAnyH_take (i := 0) (oi := ⟨some 87, _, _, _, _, _⟩) (v := .bool true) rfl (by kernel_rfl) (by kernel_rfl) (by kernel_rfl) (fun _ _ _ h => h) (Or.inl ⟨by rfl, ?_⟩) hHeld ?_
          · intro u hu
            go_simp
          try simp only [Act.put, List.setIfInBounds_toArray, List.set_cons_zero, List.set_cons_succ]
          refine wpAnyH_take (i := 1) (oi := ⟨some 88, _, _, _, _, _⟩) (v := .bool true) rfl (by kernel_rfl) (by kernel_rfl) (by kernel_rfl) (fun _ _ _ h => h) (Or.inl ⟨by rfl, ?_⟩) hHeld ?_
          · intro u hu
            go_simp
          try simp only [Act.put, List.setIfInBounds_toArray, List.set_cons_zero, List.set_cons_succ]
          refine wpAnyH_take (i := 2) (oi := ⟨some 89, _, _, _, _, _⟩) (v := .int .i64 0) rfl (by kernel_rfl) (by kernel_rfl) (by kernel_rfl) (fun _ _ _ h => h) (Or.inl ⟨by rfl, ?_⟩) hHeld ?_
          · intro u hu
            go_simp
          try simp only [Act.put, List.setIfInBounds_toArray, List.set_cons_zero, List.set_cons_succ]
          refine wpAnyH_take (i := 3) (oi := ⟨some 90, _, _, _, _, _⟩) (v := .bool true) rfl (by kernel_rfl) (by kernel_rfl) (by kernel_rfl) (fun _ _ _ h => h) (Or.inl ⟨by rfl, ?_⟩) hHeld ?_
          · intro u hu
            go_simp
          try simp only [Act.put, List.setIfInBounds_toArray, List.set_cons_zero, List.set_cons_succ]
          refine wpAnyH_take (i := 4) (oi := ⟨some 91, _, _, _, _, _⟩) (v := .bool true) rfl (by kernel_rfl) (by kernel_rfl) (by kernel_rfl) (fun _ _ _ h => h) (Or.inl ⟨by rfl, ?_⟩) hHeld ?_
          · intro u hu
            go_simp
          try simp only [Act.put, List.setIfInBounds_toArray, List.set_cons_zero, List.set_cons_succ]
          refine wpAnyH_take (i := 5) (oi := ⟨some 92, _, _, _, _, _⟩) (v := .bool true) rfl (by kernel_rfl) (by kernel_rfl) (by kernel_rfl) (fun _ _ _ h => h) (Or.inl ⟨by rfl, ?_⟩) hHeld ?_
          · intro u hu
            go_simp
          try simp only [Act.put, List.setIfInBounds_toArray, List.set_cons_zero, List.set_cons_succ]
          refine wpAnyH_take (i := 6) (oi := ⟨some 93, _, _, _, _, _⟩) (v := .pointer (some ⟨x4.heap.size, 3, none⟩)) rfl (by kernel_rfl) (by kernel_rfl) (by kernel_rfl) (fun _ _ _ h => h) (Or.inl ⟨by rfl, ?_⟩) hHeld ?_
          · intro u hu
            go_simp
          try simp only [Act.put, List.setIfInBounds_toArray, List.set_cons_zero, List.set_cons_succ]
          refine wpAnyH_take (i := 7) (oi := ⟨some 94, _, _, _, _, _⟩) (v := .string tc) rfl (by kernel_rfl) (by kernel_rfl) (by kernel_rfl) (fun _ _ _ h => h) (Or.inl ⟨by rfl, ?_⟩) hHeld ?_
          · intro u hu
            go_simp
          try simp only [Act.put, List.setIfInBounds_toArray, List.set_cons_zero, List.set_cons_succ]
          refine wpAnyH_take (i := 8) (oi := ⟨some 95, _, _, _, _, _⟩) (v := .pointer (some ⟨w.heap.size + 1, 3, none⟩)) rfl (by kernel_rfl) (by kernel_rfl) (by kernel_rfl) (fun _ _ _ h => h) (Or.inl ⟨by rfl, ?_⟩) hHeld ?_
          · intro u hu
            go_simp
          try simp only [Act.put, List.setIfInBounds_toArray, List.set_cons_zero, List.set_cons_succ]
          refine wpAnyH_take (i := 9) (oi := ⟨some 96, _, _, _, _, _⟩) (v := .string tc) rfl (by kernel_rfl) (by kernel_rfl) (by kernel_rfl) (fun _ _ _ h => h) (Or.inl ⟨by rfl, ?_⟩) hHeld ?_
          · intro u hu
            go_simp
          try simp only [Act.put, List.setIfInBounds_toArray, List.set_cons_zero, List.set_cons_succ]
          refine wpAnyH_take (i := 10) (oi := ⟨some 97, _, _, _, _, _⟩) (v := .bool true) rfl (by kernel_rfl) (by kernel_rfl) (by kernel_rfl) (fun _ _ _ h => h) (Or.inl ⟨by rfl, ?_⟩) hHeld ?_
          · intro u hu
            go_simp
          try simp only [Act.put, List.setIfInBounds_toArray, List.set_cons_zero, List.set_cons_succ]
          refine wpAnyH_take (i := 11) (oi := ⟨some 98, _, _, _, _, _⟩) (v := .bool true) rfl (by kernel_rfl) (by kernel_rfl) (by kernel_rfl) (fun _ _ _ h => h) (Or.inl ⟨by rfl, ?_⟩) hHeld ?_
          · intro u hu
            go_simp
          try simp only [Act.put, List.setIfInBounds_toArray, List.set_cons_zero, List.set_cons_succ]
          refine wpAnyH_take (i := 12) (oi := ⟨some 99, _, _, _, _, _⟩) (v := .bool true) rfl (by kernel_rfl) (by kernel_rfl) (by kernel_rfl) (fun _ _ _ h => h) (Or.inl ⟨by rfl, ?_⟩) hHeld ?_
          · intro u hu
            go_simp
          try simp only [Act.put, List.setIfInBounds_toArray, List.set_cons_zero, List.set_cons_succ]
          refine wpAnyH_take (i := 13) (oi := ⟨some 100, _, _, _, _, _⟩) (v := .pointer (some ⟨x4.heap.size, 2, none⟩)) rfl (by kernel_rfl) (by kernel_rfl) (by kernel_rfl) (fun _ _ _ h => h) (Or.inl ⟨by rfl, ?_⟩) hHeld ?_
          · intro u hu
            go_simp
          try simp only [Act.put, List.setIfInBounds_toArray, List.set_cons_zero, List.set_cons_succ]
          refine wpAnyH_take (i := 14) (oi := ⟨some 101, _, _, _, _, _⟩) (v := .int .i64 num) rfl (by kernel_rfl) (by kernel_rfl) (by kernel_rfl) (fun _ _ _ h => h) (Or.inl ⟨by rfl, ?_⟩) hHeld ?_
          · intro u hu
            go_simp
          try simp only [Act.put, List.setIfInBounds_toArray, List.set_cons_zero, List.set_cons_succ]
          refine wpAnyH_take (i := 15) (oi := ⟨some 102, _, _, _, _, _⟩) (v := .pointer (some ⟨w.heap.size + 1, 2, none⟩)) rfl (by kernel_rfl) (by kernel_rfl) (by kernel_rfl) (fun _ _ _ h => h) (Or.inl ⟨by rfl, ?_⟩) hHeld ?_
          · intro u hu
            go_simp
          try simp only [Act.put, List.setIfInBounds_toArray, List.set_cons_zero, List.set_cons_succ]
          refine wpAnyH_take (i := 16) (oi := ⟨some 103, _, _, _, _, _⟩) (v := .int .i64 num) rfl (by kernel_rfl) (by kernel_rfl) (by kernel_rfl) (fun _ _ _ h => h) (Or.inl ⟨by rfl, ?_⟩) hHeld ?_
          · intro u hu
            go_simp
          try simp only [Act.put, List.setIfInBounds_toArray, List.set_cons_zero, List.set_cons_succ]
          refine wpAnyH_take (i := 17) (oi := ⟨some 104, _, _, _, _, _⟩) (v := .bool true) rfl (by kernel_rfl) (by kernel_rfl) (by kernel_rfl) (fun _ _ _ h => h) (Or.inl ⟨by rfl, ?_⟩) hHeld ?_
          · intro u hu
            go_simp
          try simp only [Act.put, List.setIfInBounds_toArray, List.set_cons_zero, List.set_cons_succ]
          refine wpAnyH_take (i := 18) (oi := ⟨some 105, _, _, _, _, _⟩) (v := .bool true) rfl (by kernel_rfl) (by kernel_rfl) (by kernel_rfl) (fun _ _ _ h => h) (Or.inl ⟨by rfl, ?_⟩) hHeld ?_
          · intro u hu
            go_simp
          try simp only [Act.put, List.setIfInBounds_toArray, List.set_cons_zero, List.set_cons_succ]
          refine wpAnyH_take (i := 19) (oi := ⟨some 106, _, _, _, _, _⟩) (v := .bool true) rfl (by kernel_rfl) (by kernel_rfl) (by kernel_rfl) (fun _ _ _ h => h) (Or.inl ⟨by rfl, ?_⟩) hHeld ?_
          · intro u hu
            go_simp
          try simp only [Act.put, List.setIfInBounds_toArray, List.set_cons_zero, List.set_cons_succ]
          refine wpAnyH_take (i := 20) (oi := ⟨some 107, _, _, _, _, _⟩) (v := .pointer (some ⟨x1.heap.size, 0, none⟩)) rfl (by kernel_rfl) (by kernel_rfl) (by kernel_rfl) (fun _ _ _ h => h) (Or.inl ⟨by rfl, ?_⟩) hHeld ?_
          · intro u hu
            go_simp
          try simp only [Act.put, List.setIfInBounds_toArray, List.set_cons_zero, List.set_cons_succ]
          refine wpAnyH_take (i := 21) (oi := ⟨some 108, _, _, _, _, _⟩) (v := .int .i64 (i : Int)) rfl (by kernel_rfl) (by kernel_rfl) (by kernel_rfl) (fun _ _ _ h => h) (Or.inl ⟨by rfl, ?_⟩) hHeld ?_
          · intro u hu
            go_simp
          try simp only [Act.put, List.setIfInBounds_toArray, List.set_cons_zero, List.set_cons_succ]
          refine wpAnyH_take (i := 22) (oi := ⟨some 109, _, _, _, _, _⟩) (v := .bool true) rfl (by kernel_rfl) (by kernel_rfl) (by kernel_rfl) (fun _ _ _ h => h) (Or.inl ⟨by rfl, ?_⟩) hHeld ?_
          · intro u hu
            go_simp
          try simp only [Act.put, List.setIfInBounds_toArray, List.set_cons_zero, List.set_cons_succ]
          refine wpAnyH_take (i := 23) (oi := ⟨some 110, _, _, _, _, _⟩) (v := .bool true) rfl (by kernel_rfl) (by kernel_rfl) (by kernel_rfl) (fun _ _ _ h => h) (Or.inl ⟨by rfl, ?_⟩) hHeld ?_
          · intro u hu
            go_simp
          try simp only [Act.put, List.setIfInBounds_toArray, List.set_cons_zero, List.set_cons_succ]
          refine wpAnyH_take (i := 24) (oi := ⟨some 111, _, _, _, _, _⟩) (v := .bool true) rfl (by kernel_rfl) (by kernel_rfl) (by kernel_rfl) (fun _ _ _ h => h) (Or.inl ⟨by rfl, ?_⟩) hHeld ?_
          · intro u hu
            go_simp
          try simp only [Act.put, List.setIfInBounds_toArray, List.set_cons_zero, List.set_cons_succ]
          refine wpAnyH_take (i := 25) (oi := ⟨some 112, _, _, _, _, _⟩) (v := .pointer (some ⟨x1.heap.size, 0, none⟩)) rfl (by kernel_rfl) (by kernel_rfl) (by kernel_rfl) (fun _ _ _ h => h) (Or.inl ⟨by rfl, ?_⟩) hHeld ?_
          · intro u hu
            go_simp
          try simp only [Act.put, List.setIfInBounds_toArray, List.set_cons_zero, List.set_cons_succ]
          refine wpAnyH_take (i := 26) (oi := ⟨some 113, _, _, _, _, _⟩) (v := .int .i64 (i : Int)) rfl (by kernel_rfl) (by kernel_rfl) (by kernel_rfl) (fun _ _ _ h => h) (Or.inl ⟨by rfl, ?_⟩) hHeld ?_
          · intro u hu
            go_simp
          try simp only [Act.put, List.setIfInBounds_toArray, List.set_cons_zero, List.set_cons_succ]
          refine wpAnyH_take (i := 27) (oi := ⟨some 114, _, _, _, _, _⟩) (v := .slice (some ⟨g, oo, none⟩) ln cap) rfl (by kernel_rfl) (by kernel_rfl) (by kernel_rfl) (fun _ _ _ h => h) (Or.inl ⟨by rfl, ?_⟩) hHeld ?_
          · intro u hu
            go_simp
          try simp only [Act.put, List.setIfInBounds_toArray, List.set_cons_zero, List.set_cons_succ]
          refine wpAnyH_take (i := 28) (oi := ⟨some 115, _, _, _, _, _⟩) (v := .int .i64 (ln : Int)) rfl (by kernel_rfl) (by kernel_rfl) (by kernel_rfl) (fun _ _ _ h => h) (Or.inl ⟨by rfl, ?_⟩) hHeld ?_
          · intro u hu
            go_simp
          try simp only [Act.put, List.setIfInBounds_toArray, List.set_cons_zero, List.set_cons_succ]
          refine wpAnyH_take (i := 29) (oi := ⟨some 116, _, _, _, _, _⟩) (v := .bool true) rfl (by kernel_rfl) (by kernel_rfl) (by kernel_rfl) (fun _ _ _ h => h) (Or.inl ⟨by rfl, ?_⟩) hHeld ?_
          · intro u hu
            go_simp
          try simp only [Act.put, List.setIfInBounds_toArray, List.set_cons_zero, List.set_cons_succ]
          refine wpAnyH_take (i := 30) (oi := ⟨some 117, _, _, _, _, _⟩) (v := .bool true) rfl (by kernel_rfl) (by kernel_rfl) (by kernel_rfl) (fun _ _ _ h => h) (Or.inl ⟨by rfl, ?_⟩) hHeld ?_
          · intro u hu
            go_simp
          try simp only [Act.put, List.setIfInBounds_toArray, List.set_cons_zero, List.set_cons_succ]
          refine wpAnyH_take (i := 31) (oi := ⟨some 118, _, _, _, _, _⟩) (v := .bool true) rfl (by kernel_rfl) (by kernel_rfl) (by kernel_rfl) (fun _ _ _ h => h) (Or.inl ⟨by rfl, ?_⟩) hHeld ?_
          · intro u hu
            go_simp
          try simp only [Act.put, List.setIfInBounds_toArray, List.set_cons_zero, List.set_cons_succ]
          refine wpAnyH_take (i := 32) (oi := ⟨some 119, _, _, _, _, _⟩) (v := .slice (some ⟨g, oo, none⟩) ln cap) rfl (by kernel_rfl) (by kernel_rfl) (by kernel_rfl) (fun _ _ _ h => h) (Or.inl ⟨by rfl, ?_⟩) hHeld ?_
          · intro u hu
            go_simp
          try simp only [Act.put, List.setIfInBounds_toArray, List.set_cons_zero, List.set_cons_succ]
          refine wpAnyH_take (i := 33) (oi := ⟨some 120, _, _, _, _, _⟩) (v := .pointer (some ⟨x1.heap.size, 0, none⟩)) rfl (by kernel_rfl) (by kernel_rfl) (by kernel_rfl) (fun _ _ _ h => h) (Or.inl ⟨by rfl, ?_⟩) hHeld ?_
          · intro u hu
            go_simp
          try simp only [Act.put, List.setIfInBounds_toArray, List.set_cons_zero, List.set_cons_succ]
          refine wpAnyH_take (i := 34) (oi := ⟨some 121, _, _, _, _, _⟩) (v := .int .i64 (i : Int)) rfl (by kernel_rfl) (by kernel_rfl) (by kernel_rfl) (fun _ _ _ h => h) (Or.inl ⟨by rfl, ?_⟩) hHeld ?_
          · intro u hu
            go_simp
          try simp only [Act.put, List.setIfInBounds_toArray, List.set_cons_zero, List.set_cons_succ]
          refine wpAnyH_take (i := 35) (oi := ⟨some 122, _, _, _, _, _⟩) (v := .pointer (some ⟨g, oo + i * 8, none⟩)) rfl (by kernel_rfl) (by kernel_rfl) (by kernel_rfl) (fun _ _ _ h => h) (Or.inl ⟨by rfl, ?_⟩) hHeld ?_
          · intro u hu
            go_simp
          try simp only [Act.put, List.setIfInBounds_toArray, List.set_cons_zero, List.set_cons_succ]
          refine wpAnyH_take (i := 36) (oi := ⟨some 123, _, _, _, _, _⟩) (v := .pointer (some ⟨g, oo + i * 8 + 2, none⟩)) rfl (by kernel_rfl) (by kernel_rfl) (by kernel_rfl) (fun _ _ _ h => h) (Or.inl ⟨by rfl, ?_⟩) hHeld ?_
          · intro u hu
            go_simp
          try simp only [Act.put, List.setIfInBounds_toArray, List.set_cons_zero, List.set_cons_succ]
          refine wpAnyH_take (i := 37) (oi := ⟨some 124, _, _, _, _, _⟩) (v := .string tn) rfl (by kernel_rfl) (by kernel_rfl) (by kernel_rfl) (fun _ _ _ h => h) (Or.inl ⟨by rfl, ?_⟩) hHeld ?_
          · intro u hu
            go_simp
          try simp only [Act.put, List.setIfInBounds_toArray, List.set_cons_zero, List.set_cons_succ]
          refine wpAnyH_take (i := 38) (oi := ⟨some 125, _, _, _, _, _⟩) (v := .pointer (some ⟨x4.heap.size, 1, none⟩)) rfl (by kernel_rfl) (by kernel_rfl) (by kernel_rfl) (fun _ _ _ h => h) (Or.inl ⟨by rfl, ?_⟩) hHeld ?_
          · intro u hu
            go_simp
          try simp only [Act.put, List.setIfInBounds_toArray, List.set_cons_zero, List.set_cons_succ]
          refine wpAnyH_take (i := 39) (oi := ⟨some 126, _, _, _, _, _⟩) (v := .string tn) rfl (by kernel_rfl) (by kernel_rfl) (by kernel_rfl) (fun _ _ _ h => h) (Or.inl ⟨by rfl, ?_⟩) hHeld ?_
          · intro u hu
            go_simp
          try simp only [Act.put, List.setIfInBounds_toArray, List.set_cons_zero, List.set_cons_succ]
          refine wpAnyH_take (i := 40) (oi := ⟨some 127, _, _, _, _, _⟩) (v := .bool true) rfl (by kernel_rfl) (by kernel_rfl) (by kernel_rfl) (fun _ _ _ h => h) (Or.inl ⟨by rfl, ?_⟩) hHeld ?_
          · intro u hu
            go_simp
          try simp only [Act.put, List.setIfInBounds_toArray, List.set_cons_zero, List.set_cons_succ]
          refine wpAnyH_take (i := 41) (oi := ⟨some 128, _, _, _, _, _⟩) (v := .bool true) rfl (by kernel_rfl) (by kernel_rfl) (by kernel_rfl) (fun _ _ _ h => h) (Or.inl ⟨by rfl, ?_⟩) hHeld ?_
          · intro u hu
            go_simp
          try simp only [Act.put, List.setIfInBounds_toArray, List.set_cons_zero, List.set_cons_succ]
          refine wpAnyH_take (i := 42) (oi := ⟨some 129, _, _, _, _, _⟩) (v := .bool true) rfl (by kernel_rfl) (by kernel_rfl) (by kernel_rfl) (fun _ _ _ h => h) (Or.inl ⟨by rfl, ?_⟩) hHeld ?_
          · intro u hu
            go_simp
          try simp only [Act.put, List.setIfInBounds_toArray, List.set_cons_zero, List.set_cons_succ]
          refine wpAnyH_take (i := 43) (oi := ⟨some 130, _, _, _, _, _⟩) (v := .slice (some ⟨g, oo, none⟩) ln cap) rfl (by kernel_rfl) (by kernel_rfl) (by kernel_rfl) (fun _ _ _ h => h) (Or.inl ⟨by rfl, ?_⟩) hHeld ?_
          · intro u hu
            go_simp
          try simp only [Act.put, List.setIfInBounds_toArray, List.set_cons_zero, List.set_cons_succ]
          refine wpAnyH_take (i := 44) (oi := ⟨some 131, _, _, _, _, _⟩) (v := .pointer (some ⟨x1.heap.size, 0, none⟩)) rfl (by kernel_rfl) (by kernel_rfl) (by kernel_rfl) (fun _ _ _ h => h) (Or.inl ⟨by rfl, ?_⟩) hHeld ?_
          · intro u hu
            go_simp
          try simp only [Act.put, List.setIfInBounds_toArray, List.set_cons_zero, List.set_cons_succ]
          refine wpAnyH_take (i := 45) (oi := ⟨some 132, _, _, _, _, _⟩) (v := .int .i64 (i : Int)) rfl (by kernel_rfl) (by kernel_rfl) (by kernel_rfl) (fun _ _ _ h => h) (Or.inl ⟨by rfl, ?_⟩) hHeld ?_
          · intro u hu
            go_simp
          try simp only [Act.put, List.setIfInBounds_toArray, List.set_cons_zero, List.set_cons_succ]
          refine wpAnyH_take (i := 46) (oi := ⟨some 133, _, _, _, _, _⟩) (v := .pointer (some ⟨g, oo + i * 8, none⟩)) rfl (by kernel_rfl) (by kernel_rfl) (by kernel_rfl) (fun _ _ _ h => h) (Or.inl ⟨by rfl, ?_⟩) hHeld ?_
          · intro u hu
            go_simp
          try simp only [Act.put, List.setIfInBounds_toArray, List.set_cons_zero, List.set_cons_succ]
          refine wpAnyH_take (i := 47) (oi := ⟨some 134, _, _, _, _, _⟩) (v := .agg #[.string sc, .string tw, .string tn, .slice aA na ac, .int .i64 lo, .int .i64 hi, .int .i64 sh, .bool op]) rfl (by kernel_rfl) (by kernel_rfl) (by kernel_rfl) (fun _ _ _ h => h) (Or.inl ⟨by rfl, ?_⟩) hHeld ?_
          · intro u hu
            go_simp
          try simp only [Act.put, List.setIfInBounds_toArray, List.set_cons_zero, List.set_cons_succ]
          refine wpAnyH_take (i := 48) (oi := ⟨some 135, _, _, _, _, _⟩) (v := .pointer (some ⟨w.heap.size + 1, 1, none⟩)) rfl (by kernel_rfl) (by kernel_rfl) (by kernel_rfl) (fun _ _ _ h => h) (Or.inl ⟨by rfl, ?_⟩) hHeld ?_
          · intro u hu
            go_simp
          try simp only [Act.put, List.setIfInBounds_toArray, List.set_cons_zero, List.set_cons_succ]
          refine wpAnyH_take (i := 49) (oi := ⟨some 136, _, _, _, _, _⟩) (v := .string ts) rfl (by kernel_rfl) (by kernel_rfl) (by kernel_rfl) (fun _ _ _ h => h) (Or.inl ⟨by rfl, ?_⟩) hHeld ?_
          · intro u hu
            go_simp
          try simp only [Act.put, List.setIfInBounds_toArray, List.set_cons_zero, List.set_cons_succ]
          refine wpAnyH_ready (rs := [50]) (by kernel_rfl) (by simp) ?_
          refine AllReadyH.cons (o := ⟨some 137, _, _, _, _, _⟩) rfl (fun K hK => ?_) AllReadyH.nil
          go_simp
          go_at_call 17
          refine (CN2.out _ hw0).mono ?_
          rintro e x6 ⟨rfl, hb6⟩
          have HB6 := hid (bt hw0 hb6)
          refine hK.out _ _ (SKK.out _ HB6.out) (fun hHeld => ?_)
          clear hK K hb6
          try simp only [Act.put, List.setIfInBounds_toArray, List.set_cons_zero, List.set_cons_succ]
          refine wpAnyH_take (i := 51) (oi := ⟨some 138, _, _, _, _, _⟩) (v := .bool true) rfl (by kernel_rfl) (by kernel_rfl) (by kernel_rfl) (fun _ _ _ h => h) (Or.inl ⟨by rfl, ?_⟩) hHeld ?_
          · intro u hu
            go_simp
          try simp only [Act.put, List.setIfInBounds_toArray, List.set_cons_zero, List.set_cons_succ]
          refine wpAnyH_take (i := 52) (oi := ⟨some 8, _, _, _, _, _⟩) (v := .bool true) rfl (by kernel_rfl) (by kernel_rfl) (by kernel_rfl) (fun _ _ _ h => h) (Or.inl ⟨by rfl, ?_⟩) hHeld ?_
          · intro u hu
            go_simp
          try simp only [Act.put, List.setIfInBounds_toArray, List.set_cons_zero, List.set_cons_succ]
          refine wpAnyH_done (by kernel_rfl) ?_ _
          clear hHeld
          clear c0 c1 c2 c3 c4 c5 c6 c7 c8 c9 c10 c11 c12 c13 c14
          go_wp2_with fail
          go_ret
          exact ⟨rfl, bt HB1.out (bt HB5X.out HB6.out)⟩
      · have hE : E1 = 0 := HE1.out
        subst hE
        clear HE1
        obtain ⟨hk0, s1, hs1, _, _, _, ex⟩ := name_some HO1.out.symm
        obtain ⟨kk, hkk⟩ : ∃ kk : Nat, k = kk := ⟨k.toNat, by omega⟩
        subst hkk
        have hfnd := find_name (HSD.out.atInv day) HO1.out.symm (z := x1.1) (fun s' hs' => by
          rw [hs1] at hs'
          cases hs'
          rw [ex]
          exact named_self s1)
        rw [Int.toNat_natCast] at hfnd
        have hx1l : x1.1.length ≤ 100000 := by
          have gs := (HSD.out.atInv day).good s1 (List.mem_of_getElem? hs1)
          have := name_len gs.name
          rw [ex]
          show s1.name.length ≤ 100000
          omega
        obtain ⟨r1p, r1a, r1m, r1c, r1t⟩ := HQ1.out.1 x1 rfl
        have CF0 := pfind_any r day x1.2.1 [] x1.1 x1.2.2.1 x1.2.2.2 rv w5 (HR.out.on (bt HB1.out HB5.out)) HSD.out (HT.out.on (bt HB1.out HB5.out)) hx1l
        rw [hfnd, ← r1m, ← r1a, ← r1c, ← r1t] at CF0
        have CF0 := hid CF0
        subst r1p
        clear hk0 hs1 ex hfnd hx1l r1a r1m r1c r1t
        go_wp2_with fail
        rw [← hw5]
        clear hw5 p0 p1 a0 a1 a2 a3 a4
        refine CF0.out.mono ?_
        rintro e w6 ⟨rfl, hb6⟩
        simp only [ptV, ptE]
        have hx6 := (hb6.block _ (heap_lt HX5.out)).trans HX5.out
        obtain ⟨w7, hw7⟩ : ∃ u, u = w6.alloc (.cells #[.int .i64 (kk : Int), .int .i64 n] 35) := ⟨_, rfl⟩
        have HB7 : Hid (Below w1.heap.size w1 w7) := by
          show Below _ _ _
          rw [hw7]
          exact (bt HB5.out hb6).alloc (bt HB5.out hb6).size _
        have hx7 := ((b0 w6 (.cells #[.int .i64 (kk : Int), .int .i64 n] 35)).block _ (heap_lt hx6)).trans hx6
        obtain ⟨⟨z0, _, _, _, _⟩, -⟩ := blk5 hx7
        obtain ⟨p0, p1, a0, a1, a2, a3, a4⟩ := SK.out _ HB7.out
        rw [hw7] at p0 p1 a0 a1 a2 a3 a4
        clear hx6 hx7 hb6
        go_wp2_with fail
        rw [← hw7]
        clear hw7 p0 p1 a0 a1 a2 a3 a4 z0
        have CF := pfind_any r day num pe st co to' rv w7 (HR.out.on (bt HB1.out HB7.out)) HSD.out (HT.out.on (bt HB1.out HB7.out)) (by omega)
        rw [← HP.out, ← HS.out, ← HC.out, ← HTO.out] at CF
        refine CF.mono ?_
        rintro e x1 ⟨rfl, hbx⟩
        obtain ⟨o2, ho2⟩ : ∃ o, o = findR (atL r day) co st num := ⟨_, rfl⟩
        rw [← ho2]
        have HO2 := hid ho2
        have HBX := hid (bt HB7.out hbx)
        clear ho2 hbx CF
        rcases o2 with _ | ⟨i, n2⟩
        · simp only [ptV, ptE]
          have HB9 : Hid (Below w1.heap.size w1 (x1.alloc (.cells #[.int .i64 0, .int .i64 0] 35))) := HBX.out.alloc HBX.out.size _
          go_wp2
          go_ret
          exact ⟨by first | rfl | simp, bt HB1.out HB9.out⟩
        · simp only [ptV, ptE]
          obtain ⟨s, hs, hnm, hnd⟩ := name_find HO2.out.symm
          obtain ⟨s', hs', hit, hn2⟩ := find_some HO2.out.symm
          rw [hs] at hs'
          cases hs'
          obtain ⟨-, -, -, l1, l2⟩ := (hit_iff ..).1 hit
          have gs := (HSD.out.atInv day).good s (List.mem_of_getElem? hs)
          have hsft := gs.shift
          have hlo := gs.lo
          have hhi := gs.hi
          have b1 : -9223372036854775808 ≤ n2 := by omega
          have b2 : n2 ≤ 9223372036854775807 := by omega
          have sm := sm_of (HSD.out.atInv day) (fun s hs => by
            have := al_few _ s hs
            have h3 := HSD.out.few
            rw [List.length_take] at this
            show s.al.length ≤ 900
            omega) s (List.mem_of_getElem? hs)
          have CN := hid (fun u al (h : IsW u al s.al) => rnamed_any s al st u h sm (by omega))
          rw [hnd] at CN
          have HSL := hid hs
          have HNM := hid hnm
          obtain ⟨x2, hx2⟩ : ∃ u, u = x1.alloc (.cells #[.int .i64 (i : Int), .int .i64 n2] 35) := ⟨_, rfl⟩
          have HB2X : Hid (Below w1.heap.size w1 x2) := by
            show Below _ _ _
            rw [hx2]
            exact HBX.out.alloc HBX.out.size _
          have HXQ : Hid (x2.heap[x1.heap.size]? = some (.cells #[.int .i64 (i : Int), .int .i64 n2] 35 (0, 0))) := by show _ = _; rw [hx2]; exact heap_new _ _
          clear hs hnm hnd hit hn2 l1 l2 gs hsft hlo hhi sm
          go_wp2_with fail
          rw [← hx2]
          clear hx2
          refine (pat_any r day rv x2 (HR.out.on (bt HB1.out HB2X.out)) HSD.out (HT.out.on (bt HB1.out HB2X.out))).mono ?_
          rintro e x3 ⟨v, vs, rfl, hst, hb3⟩
          have HXQ3 := hid ((hb3.block _ (heap_lt HXQ.out)).trans HXQ.out)
          have HB3X := hid (bt HB2X.out hb3)
          obtain ⟨A, cap, rfl, hL⟩ := hst.parts
          obtain ⟨g, oo, u, rfl, hg, hu, hcc, hal⟩ := hL.at HSL.out
          have hil := (List.getElem?_eq_some_iff.1 HSL.out).1
          have hfew : (atL r day).length ≤ 1000 := by
            have := run_few (r.take (atN r day)); have h2 := HSD.out.few
            rw [List.length_take] at this
            unfold atL; omega
          obtain ⟨ln, hln⟩ : ∃ x, x = (atL r day).length := ⟨_, rfl⟩
          rw [← hln] at hil hfew ⊢
          obtain ⟨aA, ac, hua, hsR⟩ := id hal
          have HCC := hid hcc
          have HAL := hid hal
          have HG := hid hg
          obtain ⟨⟨y0, y1⟩, -⟩ := blk2 HXQ3.out
          have HLN := hid hln
          clear hst hL hb3 hu hcc hal hsR hg hln
          go_wp2_with fail
          clear y0 y1
          refine (pname_any r day (i : Int) n2 rv x3 (HR.out.on (bt HB1.out HB3X.out)) HSD.out (HT.out.on (bt HB1.out HB3X.out)) b1 b2).mono ?_
          rw [HNM.out]
          rintro e x4 ⟨rfl, hb4⟩
          simp only [adV, adE]
          rw [← HC.out]
          obtain ⟨tn, htn⟩ : ∃ x, x = sB s.name := ⟨_, rfl⟩
          obtain ⟨tw, htw⟩ : ∃ x, x = sB s.town := ⟨_, rfl⟩
          obtain ⟨sc, hsc⟩ : ∃ x, x = sB s.code := ⟨_, rfl⟩
          obtain ⟨na, hna⟩ : ∃ x, x = s.al.length := ⟨_, rfl⟩
          obtain ⟨lo, hlo⟩ : ∃ x, x = s.low := ⟨_, rfl⟩
          obtain ⟨hi, hhi⟩ : ∃ x, x = s.high := ⟨_, rfl⟩
          obtain ⟨sh, hsh⟩ : ∃ x, x = s.shift := ⟨_, rfl⟩
          obtain ⟨op, hop⟩ : ∃ x, x = s.isOpen := ⟨_, rfl⟩
          have HXQ4 := (hb4.block _ (heap_lt HXQ3.out)).trans HXQ3.out
          have HCC4 := HCC.out.on hb4 HG.out
          have HAL4 := HAL.out.on hb4
          have HG4 := Nat.lt_of_lt_of_le HG.out hb4.size
          rw [← htn, ← htw]
          obtain ⟨x5, hx5⟩ : ∃ u, u = x4.alloc (.cells #[.string ⟨#[]⟩, .string tn, .int .i64 num, .string tc, .string tw] 37) := ⟨_, rfl⟩
          have hb45 : Below x4.heap.size x4 x5 := by rw [hx5]; exact b0 _ _
          have hb5 := bt (bt HB3X.out hb4) hb45
          have HB5X := hid hb5
          have hxc : x5.heap[x4.heap.size]? = some (.cells #[.string ⟨#[]⟩, .string tn, .int .i64 num, .string tc, .string tw] 37 (0, 0)) := by rw [hx5]; exact heap_new _ _
          have hxq := (hb45.block _ (heap_lt HXQ4)).trans HXQ4
          have hst5 := HCC4.on hb45 HG4
          have hg5 := Nat.lt_of_lt_of_le HG4 hb45.size
          have hal5 := HAL4.on hb45
          have SKK : Hid (∀ u', Below x5.heap.size x5 u' → (u'.cell? ⟨x4.heap.size, 1, none⟩ = some (.string tn) ∧ u'.cell? ⟨x4.heap.size, 2, none⟩ = some (.int .i64 num) ∧ u'.cell? ⟨x4.heap.size, 3, none⟩ = some (.string tc) ∧ u'.cell? ⟨w.heap.size + 1, 1, none⟩ = some (.string ts) ∧ u'.cell? ⟨w.heap.size + 1, 2, none⟩ = some (.int .i64 num) ∧ u'.cell? ⟨w.heap.size + 1, 3, none⟩ = some (.string tc) ∧ u'.cell? ⟨x1.heap.size, 0, none⟩ = some (.int .i64 (i : Int)) ∧ u'.cell? ⟨g, oo + i * 8, none⟩ = some (.string sc) ∧ u'.cell? ⟨g, oo + i * 8 + 1, none⟩ = some (.string tw) ∧ u'.cell? ⟨g, oo + i * 8 + 2, none⟩ = some (.string tn) ∧ u'.cell? ⟨g, oo + i * 8 + 3, none⟩ = some (.slice aA na ac) ∧ u'.cell? ⟨g, oo + i * 8 + 4, none⟩ = some (.int .i64 lo) ∧ u'.cell? ⟨g, oo + i * 8 + 5, none⟩ = some (.int .i64 hi) ∧ u'.cell? ⟨g, oo + i * 8 + 6, none⟩ = some (.int .i64 sh) ∧ u'.cell? ⟨g, oo + i * 8 + 7, none⟩ = some (.bool op))) := fun u' hu' => by
            have e1 := (hu'.block _ (heap_lt hxc)).trans hxc
            obtain ⟨⟨_, d1, d2, d3, _⟩, -⟩ := blk5 e1
            obtain ⟨⟨q0, _⟩, -⟩ := blk2 ((hu'.block _ (heap_lt hxq)).trans hxq)
            obtain ⟨-, -, -, a1, a2, a3, -⟩ := SK.out u' (bt HB5X.out hu')
            obtain ⟨s0, s1, s2, s3, s4, s5, s6, s7⟩ := hst5.on hu' hg5
            rw [← hsc] at s0
            rw [← htw] at s1
            rw [← htn] at s2
            rw [hua, ← hna] at s3
            rw [← hlo] at s4
            rw [← hhi] at s5
            rw [← hsh] at s6
            rw [← hop] at s7
            exact ⟨d1, d2, d3, a1, a2, a3, q0, s0, s1, s2, s3, s4, s5, s6, s7⟩
          have CN2 : Hid (∀ u', Below x5.heap.size x5 u' → Calls Tryz.prog 17 #[.agg #[.string sc, .string tw, .string tn, .slice aA na ac, .int .i64 lo, .int .i64 hi, .int .i64 sh, .bool op], .string ts] u' fun e w' => e = .returned (.bool true) ∧ Below u'.heap.size u' w') := fun u' hu' => by
            have h := CN.out u' u (hal5.on hu')
            unfold stA at h
            rw [hua, ← hsc, ← htw, ← htn, ← hna, ← hlo, ← hhi, ← hsh, ← hop, ← HS.out] at h
            exact h
          have hi0 : 0 ≤ (i : Int) := by omega
          have hi1 : (i : Int) < (ln : Int) := by omega
          obtain ⟨c0, c1, c2, c3, c4, c5, c6, c7, c8, c9, c10, c11, c12, c13, c14⟩ := SKK.out x5 (Below.refl _ _)
          have HI1 := hid hil
          have hw0 : Below x5.heap.size x5 x5.drew := (Below.refl _ _).drew
          clear hb4 hb45 hb5 hxc hxq hst5 hg5 hal5 HXQ4 HCC4 HAL4 HG4 htn htw hsc hna hlo hhi hsh hop hua b1 b2
          go_wp2_with fail
          rw [← hx5]
          clear hx5
          refine wp_region_held_drew (S := fun w' => w'.cell? ⟨x4.heap.size, 1, none⟩ = some (.string tn) ∧ w'.cell? ⟨x4.heap.size, 2, none⟩ = some (.int .i64 num) ∧ w'.cell? ⟨x4.heap.size, 3, none⟩ = some (.string tc) ∧ w'.cell? ⟨w.heap.size + 1, 1, none⟩ = some (.string ts) ∧ w'.cell? ⟨w.heap.size + 1, 2, none⟩ = some (.int .i64 num) ∧ w'.cell? ⟨w.heap.size + 1, 3, none⟩ = some (.string tc) ∧ w'.cell? ⟨x1.heap.size, 0, none⟩ = some (.int .i64 (i : Int)) ∧ w'.cell? ⟨g, oo + i * 8, none⟩ = some (.string sc) ∧ w'.cell? ⟨g, oo + i * 8 + 1, none⟩ = some (.string tw) ∧ w'.cell? ⟨g, oo + i * 8 + 2, none⟩ = some (.string tn) ∧ w'.cell? ⟨g, oo + i * 8 + 3, none⟩ = some (.slice aA na ac) ∧ w'.cell? ⟨g, oo + i * 8 + 4, none⟩ = some (.int .i64 lo) ∧ w'.cell? ⟨g, oo + i * 8 + 5, none⟩ = some (.int .i64 hi) ∧ w'.cell? ⟨g, oo + i * 8 + 6, none⟩ = some (.int .i64 sh) ∧ w'.cell? ⟨g, oo + i * 8 + 7, none⟩ = some (.bool op)) (by kernel_rfl) (by refine ⟨?_, ?_, ?_, ?_, ?_, ?_, ?_, ?_, ?_, ?_, ?_, ?_, ?_, ?_, ?_⟩ <;> first | simpa using c0 | simpa using c1 | simpa using c2 | simpa using c3 | simpa using c4 | simpa using c5 | simpa using c6 | simpa using c7 | simpa using c8 | simpa using c9 | simpa using c10 | simpa using c11 | simpa using c12 | simpa using c13 | simpa using c14) (fun hHeld => ?_)
          obtain ⟨wd, hwd⟩ : ∃ u, u = x5.drew := ⟨_, rfl⟩
          rw [← hwd] at hw0 hHeld ⊢
          clear hwd
          refine wpAnyH_take (i := 0) (oi := ⟨some 87, _, _, _, _, _⟩) (v := .bool true) rfl (by kernel_rfl) (by kernel_rfl) (by kernel_rfl) (fun _ _ _ h => h) (Or.inl ⟨by rfl, ?_⟩) hHeld ?_
          · intro u hu
            go_simp
          try simp only [Act.put, List.setIfInBounds_toArray, List.set_cons_zero, List.set_cons_succ]
          refine wpAnyH_take (i := 1) (oi := ⟨some 88, _, _, _, _, _⟩) (v := .bool true) rfl (by kernel_rfl) (by kernel_rfl) (by kernel_rfl) (fun _ _ _ h => h) (Or.inl ⟨by rfl, ?_⟩) hHeld ?_
          · intro u hu
            go_simp
          try simp only [Act.put, List.setIfInBounds_toArray, List.set_cons_zero, List.set_cons_succ]
          refine wpAnyH_take (i := 2) (oi := ⟨some 89, _, _, _, _, _⟩) (v := .int .i64 0) rfl (by kernel_rfl) (by kernel_rfl) (by kernel_rfl) (fun _ _ _ h => h) (Or.inl ⟨by rfl, ?_⟩) hHeld ?_
          · intro u hu
            go_simp
          try simp only [Act.put, List.setIfInBounds_toArray, List.set_cons_zero, List.set_cons_succ]
          refine wpAnyH_take (i := 3) (oi := ⟨some 90, _, _, _, _, _⟩) (v := .bool true) rfl (by kernel_rfl) (by kernel_rfl) (by kernel_rfl) (fun _ _ _ h => h) (Or.inl ⟨by rfl, ?_⟩) hHeld ?_
          · intro u hu
            go_simp
          try simp only [Act.put, List.setIfInBounds_toArray, List.set_cons_zero, List.set_cons_succ]
          refine wpAnyH_take (i := 4) (oi := ⟨some 91, _, _, _, _, _⟩) (v := .bool true) rfl (by kernel_rfl) (by kernel_rfl) (by kernel_rfl) (fun _ _ _ h => h) (Or.inl ⟨by rfl, ?_⟩) hHeld ?_
          · intro u hu
            go_simp
          try simp only [Act.put, List.setIfInBounds_toArray, List.set_cons_zero, List.set_cons_succ]
          refine wpAnyH_take (i := 5) (oi := ⟨some 92, _, _, _, _, _⟩) (v := .bool true) rfl (by kernel_rfl) (by kernel_rfl) (by kernel_rfl) (fun _ _ _ h => h) (Or.inl ⟨by rfl, ?_⟩) hHeld ?_
          · intro u hu
            go_simp
          try simp only [Act.put, List.setIfInBounds_toArray, List.set_cons_zero, List.set_cons_succ]
          refine wpAnyH_take (i := 6) (oi := ⟨some 93, _, _, _, _, _⟩) (v := .pointer (some ⟨x4.heap.size, 3, none⟩)) rfl (by kernel_rfl) (by kernel_rfl) (by kernel_rfl) (fun _ _ _ h => h) (Or.inl ⟨by rfl, ?_⟩) hHeld ?_
          · intro u hu
            go_simp
          try simp only [Act.put, List.setIfInBounds_toArray, List.set_cons_zero, List.set_cons_succ]
          refine wpAnyH_take (i := 7) (oi := ⟨some 94, _, _, _, _, _⟩) (v := .string tc) rfl (by kernel_rfl) (by kernel_rfl) (by kernel_rfl) (fun _ _ _ h => h) (Or.inl ⟨by rfl, ?_⟩) hHeld ?_
          · intro u hu
            go_simp
          try simp only [Act.put, List.setIfInBounds_toArray, List.set_cons_zero, List.set_cons_succ]
          refine wpAnyH_take (i := 8) (oi := ⟨some 95, _, _, _, _, _⟩) (v := .pointer (some ⟨w.heap.size + 1, 3, none⟩)) rfl (by kernel_rfl) (by kernel_rfl) (by kernel_rfl) (fun _ _ _ h => h) (Or.inl ⟨by rfl, ?_⟩) hHeld ?_
          · intro u hu
            go_simp
          try simp only [Act.put, List.setIfInBounds_toArray, List.set_cons_zero, List.set_cons_succ]
          refine wpAnyH_take (i := 9) (oi := ⟨some 96, _, _, _, _, _⟩) (v := .string tc) rfl (by kernel_rfl) (by kernel_rfl) (by kernel_rfl) (fun _ _ _ h => h) (Or.inl ⟨by rfl, ?_⟩) hHeld ?_
          · intro u hu
            go_simp
          try simp only [Act.put, List.setIfInBounds_toArray, List.set_cons_zero, List.set_cons_succ]
          refine wpAnyH_take (i := 10) (oi := ⟨some 97, _, _, _, _, _⟩) (v := .bool true) rfl (by kernel_rfl) (by kernel_rfl) (by kernel_rfl) (fun _ _ _ h => h) (Or.inl ⟨by rfl, ?_⟩) hHeld ?_
          · intro u hu
            go_simp
          try simp only [Act.put, List.setIfInBounds_toArray, List.set_cons_zero, List.set_cons_succ]
          refine wpAnyH_take (i := 11) (oi := ⟨some 98, _, _, _, _, _⟩) (v := .bool true) rfl (by kernel_rfl) (by kernel_rfl) (by kernel_rfl) (fun _ _ _ h => h) (Or.inl ⟨by rfl, ?_⟩) hHeld ?_
          · intro u hu
            go_simp
          try simp only [Act.put, List.setIfInBounds_toArray, List.set_cons_zero, List.set_cons_succ]
          refine wpAnyH_take (i := 12) (oi := ⟨some 99, _, _, _, _, _⟩) (v := .bool true) rfl (by kernel_rfl) (by kernel_rfl) (by kernel_rfl) (fun _ _ _ h => h) (Or.inl ⟨by rfl, ?_⟩) hHeld ?_
          · intro u hu
            go_simp
          try simp only [Act.put, List.setIfInBounds_toArray, List.set_cons_zero, List.set_cons_succ]
          refine wpAnyH_take (i := 13) (oi := ⟨some 100, _, _, _, _, _⟩) (v := .pointer (some ⟨x4.heap.size, 2, none⟩)) rfl (by kernel_rfl) (by kernel_rfl) (by kernel_rfl) (fun _ _ _ h => h) (Or.inl ⟨by rfl, ?_⟩) hHeld ?_
          · intro u hu
            go_simp
          try simp only [Act.put, List.setIfInBounds_toArray, List.set_cons_zero, List.set_cons_succ]
          refine wpAnyH_take (i := 14) (oi := ⟨some 101, _, _, _, _, _⟩) (v := .int .i64 num) rfl (by kernel_rfl) (by kernel_rfl) (by kernel_rfl) (fun _ _ _ h => h) (Or.inl ⟨by rfl, ?_⟩) hHeld ?_
          · intro u hu
            go_simp
          try simp only [Act.put, List.setIfInBounds_toArray, List.set_cons_zero, List.set_cons_succ]
          refine wpAnyH_take (i := 15) (oi := ⟨some 102, _, _, _, _, _⟩) (v := .pointer (some ⟨w.heap.size + 1, 2, none⟩)) rfl (by kernel_rfl) (by kernel_rfl) (by kernel_rfl) (fun _ _ _ h => h) (Or.inl ⟨by rfl, ?_⟩) hHeld ?_
          · intro u hu
            go_simp
          try simp only [Act.put, List.setIfInBounds_toArray, List.set_cons_zero, List.set_cons_succ]
          refine wpAnyH_take (i := 16) (oi := ⟨some 103, _, _, _, _, _⟩) (v := .int .i64 num) rfl (by kernel_rfl) (by kernel_rfl) (by kernel_rfl) (fun _ _ _ h => h) (Or.inl ⟨by rfl, ?_⟩) hHeld ?_
          · intro u hu
            go_simp
          try simp only [Act.put, List.setIfInBounds_toArray, List.set_cons_zero, List.set_cons_succ]
          refine wpAnyH_take (i := 17) (oi := ⟨some 104, _, _, _, _, _⟩) (v := .bool true) rfl (by kernel_rfl) (by kernel_rfl) (by kernel_rfl) (fun _ _ _ h => h) (Or.inl ⟨by rfl, ?_⟩) hHeld ?_
          · intro u hu
            go_simp
          try simp only [Act.put, List.setIfInBounds_toArray, List.set_cons_zero, List.set_cons_succ]
          refine wpAnyH_take (i := 18) (oi := ⟨some 105, _, _, _, _, _⟩) (v := .bool true) rfl (by kernel_rfl) (by kernel_rfl) (by kernel_rfl) (fun _ _ _ h => h) (Or.inl ⟨by rfl, ?_⟩) hHeld ?_
          · intro u hu
            go_simp
          try simp only [Act.put, List.setIfInBounds_toArray, List.set_cons_zero, List.set_cons_succ]
          refine wpAnyH_take (i := 19) (oi := ⟨some 106, _, _, _, _, _⟩) (v := .bool true) rfl (by kernel_rfl) (by kernel_rfl) (by kernel_rfl) (fun _ _ _ h => h) (Or.inl ⟨by rfl, ?_⟩) hHeld ?_
          · intro u hu
            go_simp
          try simp only [Act.put, List.setIfInBounds_toArray, List.set_cons_zero, List.set_cons_succ]
          refine wpAnyH_take (i := 20) (oi := ⟨some 107, _, _, _, _, _⟩) (v := .pointer (some ⟨x1.heap.size, 0, none⟩)) rfl (by kernel_rfl) (by kernel_rfl) (by kernel_rfl) (fun _ _ _ h => h) (Or.inl ⟨by rfl, ?_⟩) hHeld ?_
          · intro u hu
            go_simp
          try simp only [Act.put, List.setIfInBounds_toArray, List.set_cons_zero, List.set_cons_succ]
          refine wpAnyH_take (i := 21) (oi := ⟨some 108, _, _, _, _, _⟩) (v := .int .i64 (i : Int)) rfl (by kernel_rfl) (by kernel_rfl) (by kernel_rfl) (fun _ _ _ h => h) (Or.inl ⟨by rfl, ?_⟩) hHeld ?_
          · intro u hu
            go_simp
          try simp only [Act.put, List.setIfInBounds_toArray, List.set_cons_zero, List.set_cons_succ]
          refine wpAnyH_take (i := 22) (oi := ⟨some 109, _, _, _, _, _⟩) (v := .bool true) rfl (by kernel_rfl) (by kernel_rfl) (by kernel_rfl) (fun _ _ _ h => h) (Or.inl ⟨by rfl, ?_⟩) hHeld ?_
          · intro u hu
            go_simp
          try simp only [Act.put, List.setIfInBounds_toArray, List.set_cons_zero, List.set_cons_succ]
          refine wpAnyH_take (i := 23) (oi := ⟨some 110, _, _, _, _, _⟩) (v := .bool true) rfl (by kernel_rfl) (by kernel_rfl) (by kernel_rfl) (fun _ _ _ h => h) (Or.inl ⟨by rfl, ?_⟩) hHeld ?_
          · intro u hu
            go_simp
          try simp only [Act.put, List.setIfInBounds_toArray, List.set_cons_zero, List.set_cons_succ]
          refine wpAnyH_take (i := 24) (oi := ⟨some 111, _, _, _, _, _⟩) (v := .bool true) rfl (by kernel_rfl) (by kernel_rfl) (by kernel_rfl) (fun _ _ _ h => h) (Or.inl ⟨by rfl, ?_⟩) hHeld ?_
          · intro u hu
            go_simp
          try simp only [Act.put, List.setIfInBounds_toArray, List.set_cons_zero, List.set_cons_succ]
          refine wpAnyH_take (i := 25) (oi := ⟨some 112, _, _, _, _, _⟩) (v := .pointer (some ⟨x1.heap.size, 0, none⟩)) rfl (by kernel_rfl) (by kernel_rfl) (by kernel_rfl) (fun _ _ _ h => h) (Or.inl ⟨by rfl, ?_⟩) hHeld ?_
          · intro u hu
            go_simp
          try simp only [Act.put, List.setIfInBounds_toArray, List.set_cons_zero, List.set_cons_succ]
          refine wpAnyH_take (i := 26) (oi := ⟨some 113, _, _, _, _, _⟩) (v := .int .i64 (i : Int)) rfl (by kernel_rfl) (by kernel_rfl) (by kernel_rfl) (fun _ _ _ h => h) (Or.inl ⟨by rfl, ?_⟩) hHeld ?_
          · intro u hu
            go_simp
          try simp only [Act.put, List.setIfInBounds_toArray, List.set_cons_zero, List.set_cons_succ]
          refine wpAnyH_take (i := 27) (oi := ⟨some 114, _, _, _, _, _⟩) (v := .slice (some ⟨g, oo, none⟩) ln cap) rfl (by kernel_rfl) (by kernel_rfl) (by kernel_rfl) (fun _ _ _ h => h) (Or.inl ⟨by rfl, ?_⟩) hHeld ?_
          · intro u hu
            go_simp
          try simp only [Act.put, List.setIfInBounds_toArray, List.set_cons_zero, List.set_cons_succ]
          refine wpAnyH_take (i := 28) (oi := ⟨some 115, _, _, _, _, _⟩) (v := .int .i64 (ln : Int)) rfl (by kernel_rfl) (by kernel_rfl) (by kernel_rfl) (fun _ _ _ h => h) (Or.inl ⟨by rfl, ?_⟩) hHeld ?_
          · intro u hu
            go_simp
          try simp only [Act.put, List.setIfInBounds_toArray, List.set_cons_zero, List.set_cons_succ]
          refine wpAnyH_take (i := 29) (oi := ⟨some 116, _, _, _, _, _⟩) (v := .bool true) rfl (by kernel_rfl) (by kernel_rfl) (by kernel_rfl) (fun _ _ _ h => h) (Or.inl ⟨by rfl, ?_⟩) hHeld ?_
          · intro u hu
            go_simp
          try simp only [Act.put, List.setIfInBounds_toArray, List.set_cons_zero, List.set_cons_succ]
          refine wpAnyH_take (i := 30) (oi := ⟨some 117, _, _, _, _, _⟩) (v := .bool true) rfl (by kernel_rfl) (by kernel_rfl) (by kernel_rfl) (fun _ _ _ h => h) (Or.inl ⟨by rfl, ?_⟩) hHeld ?_
          · intro u hu
            go_simp
          try simp only [Act.put, List.setIfInBounds_toArray, List.set_cons_zero, List.set_cons_succ]
          refine wpAnyH_take (i := 31) (oi := ⟨some 118, _, _, _, _, _⟩) (v := .bool true) rfl (by kernel_rfl) (by kernel_rfl) (by kernel_rfl) (fun _ _ _ h => h) (Or.inl ⟨by rfl, ?_⟩) hHeld ?_
          · intro u hu
            go_simp
          try simp only [Act.put, List.setIfInBounds_toArray, List.set_cons_zero, List.set_cons_succ]
          refine wpAnyH_take (i := 32) (oi := ⟨some 119, _, _, _, _, _⟩) (v := .slice (some ⟨g, oo, none⟩) ln cap) rfl (by kernel_rfl) (by kernel_rfl) (by kernel_rfl) (fun _ _ _ h => h) (Or.inl ⟨by rfl, ?_⟩) hHeld ?_
          · intro u hu
            go_simp
          try simp only [Act.put, List.setIfInBounds_toArray, List.set_cons_zero, List.set_cons_succ]
          refine wpAnyH_take (i := 33) (oi := ⟨some 120, _, _, _, _, _⟩) (v := .pointer (some ⟨x1.heap.size, 0, none⟩)) rfl (by kernel_rfl) (by kernel_rfl) (by kernel_rfl) (fun _ _ _ h => h) (Or.inl ⟨by rfl, ?_⟩) hHeld ?_
          · intro u hu
            go_simp
          try simp only [Act.put, List.setIfInBounds_toArray, List.set_cons_zero, List.set_cons_succ]
          refine wpAnyH_take (i := 34) (oi := ⟨some 121, _, _, _, _, _⟩) (v := .int .i64 (i : Int)) rfl (by kernel_rfl) (by kernel_rfl) (by kernel_rfl) (fun _ _ _ h => h) (Or.inl ⟨by rfl, ?_⟩) hHeld ?_
          · intro u hu
            go_simp
          try simp only [Act.put, List.setIfInBounds_toArray, List.set_cons_zero, List.set_cons_succ]
          refine wpAnyH_take (i := 35) (oi := ⟨some 122, _, _, _, _, _⟩) (v := .pointer (some ⟨g, oo + i * 8, none⟩)) rfl (by kernel_rfl) (by kernel_rfl) (by kernel_rfl) (fun _ _ _ h => h) (Or.inl ⟨by rfl, ?_⟩) hHeld ?_
          · intro u hu
            go_simp
          try simp only [Act.put, List.setIfInBounds_toArray, List.set_cons_zero, List.set_cons_succ]
          refine wpAnyH_take (i := 36) (oi := ⟨some 123, _, _, _, _, _⟩) (v := .pointer (some ⟨g, oo + i * 8 + 2, none⟩)) rfl (by kernel_rfl) (by kernel_rfl) (by kernel_rfl) (fun _ _ _ h => h) (Or.inl ⟨by rfl, ?_⟩) hHeld ?_
          · intro u hu
            go_simp
          try simp only [Act.put, List.setIfInBounds_toArray, List.set_cons_zero, List.set_cons_succ]
          refine wpAnyH_take (i := 37) (oi := ⟨some 124, _, _, _, _, _⟩) (v := .string tn) rfl (by kernel_rfl) (by kernel_rfl) (by kernel_rfl) (fun _ _ _ h => h) (Or.inl ⟨by rfl, ?_⟩) hHeld ?_
          · intro u hu
            go_simp
          try simp only [Act.put, List.setIfInBounds_toArray, List.set_cons_zero, List.set_cons_succ]
          refine wpAnyH_take (i := 38) (oi := ⟨some 125, _, _, _, _, _⟩) (v := .pointer (some ⟨x4.heap.size, 1, none⟩)) rfl (by kernel_rfl) (by kernel_rfl) (by kernel_rfl) (fun _ _ _ h => h) (Or.inl ⟨by rfl, ?_⟩) hHeld ?_
          · intro u hu
            go_simp
          try simp only [Act.put, List.setIfInBounds_toArray, List.set_cons_zero, List.set_cons_succ]
          refine wpAnyH_take (i := 39) (oi := ⟨some 126, _, _, _, _, _⟩) (v := .string tn) rfl (by kernel_rfl) (by kernel_rfl) (by kernel_rfl) (fun _ _ _ h => h) (Or.inl ⟨by rfl, ?_⟩) hHeld ?_
          · intro u hu
            go_simp
          try simp only [Act.put, List.setIfInBounds_toArray, List.set_cons_zero, List.set_cons_succ]
          refine wpAnyH_take (i := 40) (oi := ⟨some 127, _, _, _, _, _⟩) (v := .bool true) rfl (by kernel_rfl) (by kernel_rfl) (by kernel_rfl) (fun _ _ _ h => h) (Or.inl ⟨by rfl, ?_⟩) hHeld ?_
          · intro u hu
            go_simp
          try simp only [Act.put, List.setIfInBounds_toArray, List.set_cons_zero, List.set_cons_succ]
          refine wpAnyH_take (i := 41) (oi := ⟨some 128, _, _, _, _, _⟩) (v := .bool true) rfl (by kernel_rfl) (by kernel_rfl) (by kernel_rfl) (fun _ _ _ h => h) (Or.inl ⟨by rfl, ?_⟩) hHeld ?_
          · intro u hu
            go_simp
          try simp only [Act.put, List.setIfInBounds_toArray, List.set_cons_zero, List.set_cons_succ]
          refine wpAnyH_take (i := 42) (oi := ⟨some 129, _, _, _, _, _⟩) (v := .bool true) rfl (by kernel_rfl) (by kernel_rfl) (by kernel_rfl) (fun _ _ _ h => h) (Or.inl ⟨by rfl, ?_⟩) hHeld ?_
          · intro u hu
            go_simp
          try simp only [Act.put, List.setIfInBounds_toArray, List.set_cons_zero, List.set_cons_succ]
          refine wpAnyH_take (i := 43) (oi := ⟨some 130, _, _, _, _, _⟩) (v := .slice (some ⟨g, oo, none⟩) ln cap) rfl (by kernel_rfl) (by kernel_rfl) (by kernel_rfl) (fun _ _ _ h => h) (Or.inl ⟨by rfl, ?_⟩) hHeld ?_
          · intro u hu
            go_simp
          try simp only [Act.put, List.setIfInBounds_toArray, List.set_cons_zero, List.set_cons_succ]
          refine wpAnyH_take (i := 44) (oi := ⟨some 131, _, _, _, _, _⟩) (v := .pointer (some ⟨x1.heap.size, 0, none⟩)) rfl (by kernel_rfl) (by kernel_rfl) (by kernel_rfl) (fun _ _ _ h => h) (Or.inl ⟨by rfl, ?_⟩) hHeld ?_
          · intro u hu
            go_simp
          try simp only [Act.put, List.setIfInBounds_toArray, List.set_cons_zero, List.set_cons_succ]
          refine wpAnyH_take (i := 45) (oi := ⟨some 132, _, _, _, _, _⟩) (v := .int .i64 (i : Int)) rfl (by kernel_rfl) (by kernel_rfl) (by kernel_rfl) (fun _ _ _ h => h) (Or.inl ⟨by rfl, ?_⟩) hHeld ?_
          · intro u hu
            go_simp
          try simp only [Act.put, List.setIfInBounds_toArray, List.set_cons_zero, List.set_cons_succ]
          refine wpAnyH_take (i := 46) (oi := ⟨some 133, _, _, _, _, _⟩) (v := .pointer (some ⟨g, oo + i * 8, none⟩)) rfl (by kernel_rfl) (by kernel_rfl) (by kernel_rfl) (fun _ _ _ h => h) (Or.inl ⟨by rfl, ?_⟩) hHeld ?_
          · intro u hu
            go_simp
          try simp only [Act.put, List.setIfInBounds_toArray, List.set_cons_zero, List.set_cons_succ]
          refine wpAnyH_take (i := 47) (oi := ⟨some 134, _, _, _, _, _⟩) (v := .agg #[.string sc, .string tw, .string tn, .slice aA na ac, .int .i64 lo, .int .i64 hi, .int .i64 sh, .bool op]) rfl (by kernel_rfl) (by kernel_rfl) (by kernel_rfl) (fun _ _ _ h => h) (Or.inl ⟨by rfl, ?_⟩) hHeld ?_
          · intro u hu
            go_simp
          try simp only [Act.put, List.setIfInBounds_toArray, List.set_cons_zero, List.set_cons_succ]
          refine wpAnyH_take (i := 48) (oi := ⟨some 135, _, _, _, _, _⟩) (v := .pointer (some ⟨w.heap.size + 1, 1, none⟩)) rfl (by kernel_rfl) (by kernel_rfl) (by kernel_rfl) (fun _ _ _ h => h) (Or.inl ⟨by rfl, ?_⟩) hHeld ?_
          · intro u hu
            go_simp
          try simp only [Act.put, List.setIfInBounds_toArray, List.set_cons_zero, List.set_cons_succ]
          refine wpAnyH_take (i := 49) (oi := ⟨some 136, _, _, _, _, _⟩) (v := .string ts) rfl (by kernel_rfl) (by kernel_rfl) (by kernel_rfl) (fun _ _ _ h => h) (Or.inl ⟨by rfl, ?_⟩) hHeld ?_
          · intro u hu
            go_simp
          try simp only [Act.put, List.setIfInBounds_toArray, List.set_cons_zero, List.set_cons_succ]
          refine wpAnyH_ready (rs := [50]) (by kernel_rfl) (by simp) ?_
          refine AllReadyH.cons (o := ⟨some 137, _, _, _, _, _⟩) rfl (fun K hK => ?_) AllReadyH.nil
          go_simp
          go_at_call 17
          refine (CN2.out _ hw0).mono ?_
          rintro e x6 ⟨rfl, hb6⟩
          have HB6 := hid (bt hw0 hb6)
          refine hK.out _ _ (SKK.out _ HB6.out) (fun hHeld => ?_)
          clear hK K hb6
          try simp only [Act.put, List.setIfInBounds_toArray, List.set_cons_zero, List.set_cons_succ]
          refine wpAnyH_take (i := 51) (oi := ⟨some 138, _, _, _, _, _⟩) (v := .bool true) rfl (by kernel_rfl) (by kernel_rfl) (by kernel_rfl) (fun _ _ _ h => h) (Or.inl ⟨by rfl, ?_⟩) hHeld ?_
          · intro u hu
            go_simp
          try simp only [Act.put, List.setIfInBounds_toArray, List.set_cons_zero, List.set_cons_succ]
          refine wpAnyH_take (i := 52) (oi := ⟨some 8, _, _, _, _, _⟩) (v := .bool true) rfl (by kernel_rfl) (by kernel_rfl) (by kernel_rfl) (fun _ _ _ h => h) (Or.inl ⟨by rfl, ?_⟩) hHeld ?_
          · intro u hu
            go_simp
          try simp only [Act.put, List.setIfInBounds_toArray, List.set_cons_zero, List.set_cons_succ]
          refine wpAnyH_done (by kernel_rfl) ?_ _
          clear hHeld
          clear c0 c1 c2 c3 c4 c5 c6 c7 c8 c9 c10 c11 c12 c13 c14
          go_wp2_with fail
          go_ret
          exact ⟨rfl, bt HB1.out (bt HB5X.out HB6.out)⟩
    · have e1 : decide ((st.length : Int) > 100) = true := decide_eq_true (by omega)
      have e2 : 100 < st.length := by omega
      clear h100
      go_wp2
      go_ret
      exact ⟨rfl, bt HB1.out HB3.out⟩

end Rg
end Go.Proofs.YtaeljmiklalpnaaGreatDoor
