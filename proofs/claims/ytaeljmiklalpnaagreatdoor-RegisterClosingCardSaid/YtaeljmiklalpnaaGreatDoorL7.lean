/-
  RegisterClosing: the law's walk.
-/
import Derived.Test.YtaeljmiklalpnaaGreatDoorQl
import Derived.Test.YtaeljmiklalpnaaGreatDoorHd
import Derived.BigQuiet
import Derived.Deep.RegionHeld3
namespace Go.Proofs.YtaeljmiklalpnaaGreatDoor
open Go.RowKit Go.ChangeMaps Gn
namespace Rg

theorem slr_blk {w : World} {X : Nat} {xs : Array Value} {T : TypeId} {n size : Nat} (h : w.heap[X]? = some (.cells xs T (0, 0))) (hs : xs.size = n * size) : SlR w (some ⟨X, 0, none⟩) n n size xs.toList :=
  ⟨by rw [Array.length_toList]; exact hs, Nat.le_refl _, fun _ => ⟨X, 0, rfl, heap_lt h, fun j u hu => by
    rw [Nat.zero_add, cell_at h]
    simpa using hu⟩⟩
theorem first_opens {r : List Ch} (h : Sound r) (h0 : 0 < r.length) : 1 ≤ (runL r).length := by
  have hc : r[0]? = some r[0] := List.getElem?_eq_getElem h0
  have ok := h.ok 0 _ hc
  have hk : (r[0]).kind = 1 := by
    apply Classical.byContradiction
    intro q
    obtain ⟨_, s, hs, _⟩ := ok.has q
    simp [runL] at hs
  rw [run_len]
  have : r[0] ∈ r.filter fun c => decide (c.kind = 1) := List.mem_filter.2 ⟨List.getElem_mem h0, by simpa using hk⟩
  exact List.length_pos_of_mem this

set_option maxRecDepth 100000 in
set_option maxHeartbeats 16000000 in
theorem law_closing (HD : HeadOk) (r : List Ch) (nb z : Int) (rv : Value) (w : World) (hr : IsChs w rv r) (ht : Tb w) (hn0 : 0 ≤ nb) (hn1 : nb ≤ 255) (hz0 : 0 ≤ z) (hz1 : z ≤ 65535) :
    Calls Tryz.prog 9 #[rv, .int .u8 nb, .int .u16 z] w fun e w' => e = .returned (.bool true) ∧ Below w.heap.size w w' := by
  obtain ⟨A, cap, hrv, hR⟩ := id hr
  obtain ⟨m, hm⟩ : ∃ m, m = r.length := ⟨_, rfl⟩
  rw [← hm] at hrv
  subst hrv
  have HM := hid hm
  have HRR := hid hR
  have HR := hid hr
  have HT := hid ht
  clear hr ht hR hm
  go_enter Tryz.func9, Tryz.ntmps9
  go_wp2_with fail
  refine (HD w HT.out).mono ?_
  rintro e w2 ⟨rfl, hb2⟩
  have HB2 := hid hb2
  clear hb2
  go_wp2_with fail
  refine (rsound_any r _ w2 (HR.out.on HB2.out) clash_ok).mono ?_
  rintro e w3 ⟨b, rfl, hb3, hS⟩
  have HB3 := hid (bt HB2.out hb3)
  have HSS := hid hS
  clear hb3 hS
  cases b
  · clear HSS
    go_wp2
    go_ret
    exact ⟨rfl, HB3.out⟩
  · have HSD := hid (HSS.out rfl)
    clear HSS
    have hm60 : m ≤ 60 := by rw [HM.out]; exact HSD.out.few
    by_cases h0 : m = 0
    · subst h0
      go_wp2
      go_ret
      exact ⟨rfl, HB3.out⟩
    · have z1 : ((m : Int) == 0) = false := by
        rw [beq_eq_false_iff_ne]; omega
      by_cases h58 : m ≤ 58
      · have z2 : decide ((m : Int) > 58) = false := decide_eq_false (by omega)
        have z3 : ¬ 58 < m := by omega
        obtain ⟨j, hj⟩ : ∃ j : Nat, j = m - 1 := ⟨_, rfl⟩
        have hjm : (m : Int) - 1 = (j : Int) := by omega
        have hj0 : 0 ≤ (j : Int) := by omega
        have hj1 : (j : Int) < (m : Int) := by omega
        obtain ⟨c, hc⟩ : ∃ c, r[j]? = some c := ⟨_, List.getElem?_eq_getElem (by have := HM.out; omega)⟩
        have HJ : Hid (r[r.length - 1]? = some c) := by
          show _ = _
          rw [← HM.out, ← hj]; exact hc
        obtain ⟨g, oo, rfl, hg, hch⟩ := slr_ch (HRR.out.on HB3.out) hc
        have c0 := hch.c0
        have hday := ((formed_iff c).1 (HSD.out.ok j c hc).formed).day
        obtain ⟨day, hdy⟩ : ∃ d, d = c.day := ⟨_, rfl⟩
        rw [← hdy] at hday c0
        obtain ⟨hd1, hd2⟩ := hday
        have HDY := hid hdy
        have hm1 : 1 ≤ m := by omega
        clear hc hdy hg hch h0 hj
        go_wp2_with fail
        clear c0 z1 z2 z3 hjm hj0 hj1
        refine (pat_any r day _ w3 (HR.out.on HB3.out) HSD.out (HT.out.on HB3.out)).mono ?_
        rintro e w5 ⟨v, vs, rfl, hst, hb5⟩
        have HB5 := hid (bt HB3.out hb5)
        have HAT : Hid (atL r day = runL r) := at_last HSD.out HJ.out (by rw [HDY.out]; exact Int.le_refl _)
        rw [HAT.out] at hst
        obtain ⟨A2, cap2, rfl, hL⟩ := hst.parts
        have hln1 := first_opens HSD.out (by have := HM.out; omega)
        have hln2 := run_few r
        obtain ⟨ln, hln⟩ : ∃ x, x = (runL r).length := ⟨_, rfl⟩
        rw [← hln] at hL hln1 hln2 ⊢
        have hln3 : ln ≤ 60 := by have := HM.out; omega
        have HLN := hid hln
        obtain ⟨k, hk⟩ : ∃ k : Nat, k = nb.toNat % ln := ⟨_, rfl⟩
        have hkm : k < ln := by rw [hk]; exact Nat.mod_lt _ (by omega)
        have hkv : nb % (ln : Int) = (k : Int) := by
          rw [hk, Int.natCast_emod, Int.toNat_of_nonneg hn0]
        have hkt : nb.tmod (ln : Int) = (k : Int) := by rw [← hkv]; exact Int.tmod_eq_emod_of_nonneg hn0
        have z1 : ((ln : Int) == 0) = false := by
          rw [beq_eq_false_iff_ne]; omega
        have hk0 : 0 ≤ (k : Int) := by omega
        have hk1 : (k : Int) < (ln : Int) := by omega
        obtain ⟨s, hs⟩ : ∃ s, (runL r)[k]? = some s := ⟨_, List.getElem?_eq_getElem (by rw [← hln]; exact hkm)⟩
        have gs := HSD.out.inv.good s (List.mem_of_getElem? hs)
        have glo := gs.lo
        have gle := gs.le
        have ghi := gs.hi
        have gsh := gs.shift
        rw [hln] at hL
        obtain ⟨g2, o2, u, hg2, hgl2, hu, hcc, aA, ac, hua, -⟩ := hL.at hs
        subst hg2
        obtain ⟨s0, s1, s2, s3, s4, s5, s6, s7⟩ := hcc
        obtain ⟨tc, htc⟩ : ∃ x, x = sB s.code := ⟨_, rfl⟩
        obtain ⟨tw, htw⟩ : ∃ x, x = sB s.town := ⟨_, rfl⟩
        obtain ⟨tn, htn⟩ : ∃ x, x = sB s.name := ⟨_, rfl⟩
        obtain ⟨na, hna⟩ : ∃ x, x = s.al.length := ⟨_, rfl⟩
        obtain ⟨lo, hlo⟩ : ∃ x, x = s.low := ⟨_, rfl⟩
        obtain ⟨hi, hhi⟩ : ∃ x, x = s.high := ⟨_, rfl⟩
        obtain ⟨sh, hsh⟩ : ∃ x, x = s.shift := ⟨_, rfl⟩
        obtain ⟨op, hop⟩ : ∃ x, x = s.isOpen := ⟨_, rfl⟩
        rw [hua] at s3
        rw [← htc] at s0
        rw [← htw] at s1
        rw [← htn] at s2
        rw [← hna] at s3
        rw [← hlo] at s4 glo gle
        rw [← hhi] at s5 gle ghi
        rw [← hsh] at s6 gsh
        rw [← hop] at s7
        obtain ⟨gsh1, gsh2⟩ := gsh
        have HSS := hid hs
        have HLT := hid (And.intro htc (And.intro htw (And.intro htn (And.intro hlo (And.intro hhi (And.intro hsh hop))))))
        have hnl : ((ln : Int) == 0) = false := z1
        obtain ⟨w6, hw6⟩ : ∃ u, u = w5 := ⟨_, rfl⟩
        subst hw6
        clear hst hL hln hk hs gs hu hua htc htw htn hna hlo hhi hsh hop hb5 hgl2
        cases op
        · have HB7 : Hid (Below w6.heap.size w6 (w6.alloc (.cells #[.string tc, .string tw, .string tn, .slice aA na ac, .int .i64 lo, .int .i64 hi, .int .i64 sh, .bool false] 44))) := b0 _ _
          go_wp2
          go_ret
          exact ⟨rfl, bt HB5.out HB7.out⟩
        · obtain ⟨w7, hw7⟩ : ∃ u, u = w6.alloc (.cells #[.string tc, .string tw, .string tn, .slice aA na ac, .int .i64 lo, .int .i64 hi, .int .i64 sh, .bool true] 44) := ⟨_, rfl⟩
          have HB7 : Hid (Below w6.heap.size w6 w7) := by show Below _ _ _; rw [hw7]; exact b0 _ _
          have HX7 : Hid (w7.heap[w6.heap.size]? = some (.cells #[.string tc, .string tw, .string tn, .slice aA na ac, .int .i64 lo, .int .i64 hi, .int .i64 sh, .bool true] 44 (0, 0))) := by show _ = _; rw [hw7]; exact heap_new _ _
          obtain ⟨c0, c1, c2, c3, c4, c5, c6, c7⟩ := blk_cells HX7.out
          go_wp2_with fail
          rw [← hw7]
          clear hw7 s0 s1 s2 s3 s4 s5 s6 s7 z1 hnl hkv hkt
          obtain ⟨q, hq⟩ : ∃ q, q = z % (hi - lo + 1) := ⟨_, rfl⟩
          have hq0 : 0 ≤ q := by rw [hq]; exact Int.emod_nonneg _ (by omega)
          have hq1 : q < hi - lo + 1 := by rw [hq]; exact Int.emod_lt_of_pos _ (by omega)
          have hqt : z.tmod (hi - lo + 1) = q := by rw [hq]; exact Int.tmod_eq_emod_of_nonneg hz0
          have hqe : z % (hi - lo + 1) = q := hq.symm
          obtain ⟨nn, hnn⟩ : ∃ x, x = lo + q := ⟨_, rfl⟩
          have hnn2 : lo + q = nn := hnn.symm
          have hnn0 : lo ≤ nn := by omega
          have hnn1 : nn ≤ hi := by omega
          have HNN := hid hnn
          have hv1 : IntKind.i64.wrap z = z := IntWalk.i64_in _ (by omega)
          have hv2 : IntKind.i64.wrap (hi - lo) = hi - lo := IntWalk.i64_in _ (by omega)
          have hv3 : IntKind.i64.wrap (hi - lo + 1) = hi - lo + 1 := IntWalk.i64_in _ (by omega)
          have hv4 : IntKind.i64.wrap q = q := IntWalk.i64_in _ (by omega)
          have hv5 : IntKind.i64.wrap nn = nn := IntWalk.i64_in _ (by omega)
          have hv6 : ¬ hi - lo + 1 = 0 := by omega
          clear hq hnn
          refine wp_region_held_drew (S := fun w' => w'.cell? ⟨w6.heap.size, 4, none⟩ = some (.int .i64 lo) ∧ w'.cell? ⟨w6.heap.size, 5, none⟩ = some (.int .i64 hi)) (by kernel_rfl) (by refine ⟨?_, ?_⟩ <;> first | simpa using c4 | simpa using c5) (fun hHeld => ?_)
          obtain ⟨wd, hwd⟩ : ∃ u, u = w7.drew := ⟨_, rfl⟩
          have bd : Below w7.heap.size w7 wd := by rw [hwd]; exact (Below.refl _ _).drew
          rw [← hwd] at hHeld ⊢
          clear hwd
          refine wpAnyH_take (i := 0) (oi := ⟨some 64, _, _, _, _, _⟩) (v := .pointer (some ⟨w6.heap.size, 4, none⟩)) rfl (by kernel_rfl) (by kernel_rfl) (by kernel_rfl) (fun _ _ _ h => h) (Or.inl ⟨by rfl, ?_⟩) hHeld ?_
          · intro u hu
            go_simp
          try simp only [Act.put, List.setIfInBounds_toArray, List.set_cons_zero, List.set_cons_succ]
          refine wpAnyH_take (i := 1) (oi := ⟨some 65, _, _, _, _, _⟩) (v := .int .i64 lo) rfl (by kernel_rfl) (by kernel_rfl) (by kernel_rfl) (fun _ _ _ h => h) (Or.inl ⟨by rfl, ?_⟩) hHeld ?_
          · intro u hu
            go_simp
          try simp only [Act.put, List.setIfInBounds_toArray, List.set_cons_zero, List.set_cons_succ]
          refine wpAnyH_take (i := 2) (oi := ⟨some 66, _, _, _, _, _⟩) (v := .int .u16 z) rfl (by kernel_rfl) (by kernel_rfl) (by kernel_rfl) (fun _ _ _ h => h) (Or.inl ⟨by rfl, ?_⟩) hHeld ?_
          · intro u hu
            go_simp
          try simp only [Act.put, List.setIfInBounds_toArray, List.set_cons_zero, List.set_cons_succ]
          refine wpAnyH_take (i := 3) (oi := ⟨some 67, _, _, _, _, _⟩) (v := .int .i64 z) rfl (by kernel_rfl) (by kernel_rfl) (by kernel_rfl) (fun _ _ _ h => h) (Or.inl ⟨by rfl, ?_⟩) hHeld ?_
          · intro u hu
            go_simp
          try simp only [Act.put, List.setIfInBounds_toArray, List.set_cons_zero, List.set_cons_succ]
          refine wpAnyH_take (i := 4) (oi := ⟨some 68, _, _, _, _, _⟩) (v := .pointer (some ⟨w6.heap.size, 5, none⟩)) rfl (by kernel_rfl) (by kernel_rfl) (by kernel_rfl) (fun _ _ _ h => h) (Or.inl ⟨by rfl, ?_⟩) hHeld ?_
          · intro u hu
            go_simp
          try simp only [Act.put, List.setIfInBounds_toArray, List.set_cons_zero, List.set_cons_succ]
          refine wpAnyH_take (i := 5) (oi := ⟨some 69, _, _, _, _, _⟩) (v := .int .i64 hi) rfl (by kernel_rfl) (by kernel_rfl) (by kernel_rfl) (fun _ _ _ h => h) (Or.inl ⟨by rfl, ?_⟩) hHeld ?_
          · intro u hu
            go_simp
          try simp only [Act.put, List.setIfInBounds_toArray, List.set_cons_zero, List.set_cons_succ]
          refine wpAnyH_take (i := 6) (oi := ⟨some 70, _, _, _, _, _⟩) (v := .pointer (some ⟨w6.heap.size, 4, none⟩)) rfl (by kernel_rfl) (by kernel_rfl) (by kernel_rfl) (fun _ _ _ h => h) (Or.inl ⟨by rfl, ?_⟩) hHeld ?_
          · intro u hu
            go_simp
          try simp only [Act.put, List.setIfInBounds_toArray, List.set_cons_zero, List.set_cons_succ]
          refine wpAnyH_take (i := 7) (oi := ⟨some 71, _, _, _, _, _⟩) (v := .int .i64 lo) rfl (by kernel_rfl) (by kernel_rfl) (by kernel_rfl) (fun _ _ _ h => h) (Or.inl ⟨by rfl, ?_⟩) hHeld ?_
          · intro u hu
            go_simp
          try simp only [Act.put, List.setIfInBounds_toArray, List.set_cons_zero, List.set_cons_succ]
          refine wpAnyH_take (i := 8) (oi := ⟨some 72, _, _, _, _, _⟩) (v := .int .i64 (hi - lo)) rfl (by kernel_rfl) (by kernel_rfl) (by kernel_rfl) (fun _ _ _ h => h) (Or.inl ⟨by rfl, ?_⟩) hHeld ?_
          · intro u hu
            go_simp
          try simp only [Act.put, List.setIfInBounds_toArray, List.set_cons_zero, List.set_cons_succ]
          refine wpAnyH_take (i := 9) (oi := ⟨some 73, _, _, _, _, _⟩) (v := .int .i64 (hi - lo + 1)) rfl (by kernel_rfl) (by kernel_rfl) (by kernel_rfl) (fun _ _ _ h => h) (Or.inl ⟨by rfl, ?_⟩) hHeld ?_
          · intro u hu
            go_simp
          try simp only [Act.put, List.setIfInBounds_toArray, List.set_cons_zero, List.set_cons_succ]
          refine wpAnyH_take (i := 10) (oi := ⟨some 74, _, _, _, _, _⟩) (v := .int .i64 q) rfl (by kernel_rfl) (by kernel_rfl) (by kernel_rfl) (fun _ _ _ h => h) (Or.inl ⟨by rfl, ?_⟩) hHeld ?_
          · intro u hu
            go_simp
          try simp only [Act.put, List.setIfInBounds_toArray, List.set_cons_zero, List.set_cons_succ]
          refine wpAnyH_take (i := 11) (oi := ⟨some 75, _, _, _, _, _⟩) (v := .int .i64 nn) rfl (by kernel_rfl) (by kernel_rfl) (by kernel_rfl) (fun _ _ _ h => h) (Or.inl ⟨by rfl, ?_⟩) hHeld ?_
          · intro u hu
            go_simp
          try simp only [Act.put, List.setIfInBounds_toArray, List.set_cons_zero, List.set_cons_succ]
          refine wpAnyH_take (i := 12) (oi := ⟨some 12, _, _, _, _, _⟩) (v := .int .i64 nn) rfl (by kernel_rfl) (by kernel_rfl) (by kernel_rfl) (fun _ _ _ h => h) (Or.inl ⟨by rfl, ?_⟩) hHeld ?_
          · intro u hu
            go_simp
          try simp only [Act.put, List.setIfInBounds_toArray, List.set_cons_zero, List.set_cons_succ]
          refine wpAnyH_done (by kernel_rfl) ?_ _
          clear hHeld
          clear hv1 hv2 hv3 hv4 hv5 hv6 hqt hqe hnn2 c0 c1 c2 c3 c4 c5 c6 c7
          have HBD := hid bd
          have HX8 := hid ((bd.block _ (heap_lt HX7.out)).trans HX7.out)
          have HB8 : Hid (Below w.heap.size w wd) := bt HB5.out (bt HB7.out bd)
          obtain ⟨-, -, -, -, -, -, c6, -⟩ := blk_cells HX8.out
          obtain ⟨w9, hw9⟩ : ∃ u, u = wd.alloc (.cells #[.int .i64 (k : Int), .int .i64 (nn - sh)] 35) := ⟨_, rfl⟩
          have HB9 : Hid (Below wd.heap.size wd w9) := by show Below _ _ _; rw [hw9]; exact b0 _ _
          have HXP : Hid (w9.heap[wd.heap.size]? = some (.cells #[.int .i64 (k : Int), .int .i64 (nn - sh)] 35 (0, 0))) := by show _ = _; rw [hw9]; exact heap_new _ _
          have HX9 := hid ((HB9.out.block _ (heap_lt HX8.out)).trans HX8.out)
          obtain ⟨⟨x0, x1⟩, -⟩ := blk2 HXP.out
          rw [hw9] at x0 x1
          clear bd
          go_wp2_with fail
          rw [← hw9]
          clear hw9 x0 x1 c6
          obtain ⟨etc, etw, etn, elo, ehi, esh, eop⟩ := HLT.out
          have hnm := name_yes (l := atL r day) (k := (k : Int)) (n := nn - sh) (s := s) hk0 (by rw [HAT.out, Int.toNat_natCast]; exact HSS.out) eop.symm (by rw [← esh, ← elo]; omega) (by rw [← esh, ← ehi]; omega)
          rw [← esh, show nn - sh + sh = nn by omega] at hnm
          have CN := pname_any r day (k : Int) (nn - sh) _ w9 (HR.out.on (bt HB8.out HB9.out)) HSD.out (HT.out.on (bt HB8.out HB9.out)) (by omega) (by omega)
          rw [hnm] at CN
          refine CN.mono ?_
          rintro e w10 ⟨rfl, hb10⟩
          simp only [adV, adE]
          rw [← etc, ← etw, ← etn]
          obtain ⟨wm, hwm⟩ : ∃ u, u = w10.alloc (.cells #[.string ⟨#[]⟩, .string tn, .int .i64 nn, .string tc, .string tw] 37) := ⟨_, rfl⟩
          have hbm : Below w10.heap.size w10 wm := by rw [hwm]; exact b0 _ _
          have HBM : Hid (Below w.heap.size w wm) := bt HB8.out (bt HB9.out (bt hb10 hbm))
          have HXA : Hid (wm.heap[w10.heap.size]? = some (.cells #[.string ⟨#[]⟩, .string tn, .int .i64 nn, .string tc, .string tw] 37 (0, 0))) := by show _ = _; rw [hwm]; exact heap_new _ _
          have HXPm := hid (((bt hb10 hbm).block _ (heap_lt HXP.out)).trans HXP.out)
          have HXSm := hid (((bt hb10 hbm).block _ (heap_lt HX9.out)).trans HX9.out)
          have SM : Hid (∀ w', Below wm.heap.size wm w' → w'.cell? ⟨w6.heap.size, 0, none⟩ = some (.string tc) ∧ w'.cell? ⟨w6.heap.size, 1, none⟩ = some (.string tw) ∧ w'.cell? ⟨w6.heap.size, 2, none⟩ = some (.string tn) ∧ w'.cell? ⟨w6.heap.size, 4, none⟩ = some (.int .i64 lo) ∧ w'.cell? ⟨w6.heap.size, 5, none⟩ = some (.int .i64 hi)) := fun w' hu => by
            obtain ⟨c0, c1, c2, c3, c4, c5, c6, c7⟩ := blk_cells ((hu.block _ (heap_lt HXSm.out)).trans HXSm.out)
            exact ⟨c0, c1, c2, c4, c5⟩
          have SQ : Hid (∀ u, Below wm.heap.size wm u → (u.cell? ⟨wd.heap.size, 0, none⟩ = some (.int .i64 (k : Int)) ∧ u.cell? ⟨wd.heap.size, 1, none⟩ = some (.int .i64 (nn - sh))) ∧ u.cell? ⟨w10.heap.size, 0, none⟩ = some (.string ⟨#[]⟩) ∧ u.cell? ⟨w10.heap.size, 1, none⟩ = some (.string tn) ∧ u.cell? ⟨w10.heap.size, 2, none⟩ = some (.int .i64 nn) ∧ u.cell? ⟨w10.heap.size, 3, none⟩ = some (.string tc) ∧ u.cell? ⟨w10.heap.size, 4, none⟩ = some (.string tw)) := fun u hu => by
            obtain ⟨h1, -⟩ := blk2 ((hu.block _ (heap_lt HXPm.out)).trans HXPm.out)
            obtain ⟨⟨h2, h3, h4, h5, h6⟩, -⟩ := blk5 ((hu.block _ (heap_lt HXA.out)).trans HXA.out)
            exact ⟨h1, h2, h3, h4, h5, h6⟩
          have HRM : Hid (∀ u, Below wm.heap.size wm u → SlR u (some ⟨g, oo, none⟩) m cap 9 (cellsC r)) := fun u hu => by
            have h := HRR.out.on (bt HBM.out hu)
            rw [← HM.out] at h
            exact h
          have hcl := closing HSD.out (by have := HM.out; omega) HJ.out HSS.out eop.symm
          rw [← HDY.out, ← HLN.out] at hcl
          have HCL := hid hcl
          have HEND : Hid (∀ u A19 c19, u.ownsRow wm.heap.size 29 9 (.slice A19 (m + 2) c19) (m + 2) (cellsC r ++ #[.int .i64 day, .int .i64 6, .int .i64 (k : Int), .string ⟨#[]⟩, .string ⟨#[]⟩, .string ⟨#[]⟩, .int .i64 0, .int .i64 0, .int .i64 0, .int .i64 day, .int .i64 1, .int .i64 0, .string tc, .string tw, .string tn, .int .i64 lo, .int .i64 hi, .int .i64 0].toList) → IsChs u (.slice A19 (m + 2) c19) (r ++ [closeC day k, openC day s])) := fun u A19 c19 h => by
            obtain ⟨A0, c0, e0, h2⟩ := SlR.of_own h
            cases e0
            refine ⟨_, _, by rw [List.length_append, ← HM.out]; rfl, ?_⟩
            rw [List.length_append, ← HM.out]
            have ec : cellsC (r ++ [closeC day k, openC day s]) = cellsC r ++ #[.int .i64 day, .int .i64 6, .int .i64 (k : Int), .string ⟨#[]⟩, .string ⟨#[]⟩, .string ⟨#[]⟩, .int .i64 0, .int .i64 0, .int .i64 0, .int .i64 day, .int .i64 1, .int .i64 0, .string tc, .string tw, .string tn, .int .i64 lo, .int .i64 hi, .int .i64 0].toList := by
              unfold cellsC
              rw [List.flatMap_append, etc, etw, etn, elo, ehi]
              rfl
            rw [ec]
            exact h2
          have hlen : s.name.length ≤ 100000 := by
            have := name_len (HSD.out.inv.good s (List.mem_of_getElem? HSS.out)).name
            omega
          have CFI : Hid (∀ v u, IsChs u v (r ++ [closeC day k, openC day s]) → Tb u → Calls Tryz.prog 16 #[v, .int .i64 day, .agg #[.string ⟨#[]⟩, .string tn, .int .i64 nn, .string tc, .string tw]] u fun e w' => e = .returned (.tuple #[.agg #[.int .i64 (ln : Int), .int .i64 nn], .int .i64 0]) ∧ Below u.heap.size u w') := fun v u h1 h2 => by
            have h := pfind_any (r ++ [closeC day k, openC day s]) day nn [] s.name s.code s.town v u h1 HCL.out.1 h2 hlen
            rw [HCL.out.2.2 nn (by rw [← elo]; exact hnn0) (by rw [← ehi]; exact hnn1), ← etc, ← etw, ← etn] at h
            exact h
          obtain ⟨i0, hi0, hy0, hy1, hy2⟩ := info_parts infoCh
          obtain ⟨c0, c1, c2, c4, c5⟩ := SM.out wm (Below.refl _ _)
          clear etc etw etn elo ehi esh eop hnm CN hb10 hbm hcl hlen
          go_wp2_with fail
          rw [← hwm]
          clear hwm
          refine wp_region_held_drew (S := fun w' => w'.cell? ⟨w6.heap.size, 0, none⟩ = some (.string tc) ∧ w'.cell? ⟨w6.heap.size, 1, none⟩ = some (.string tw) ∧ w'.cell? ⟨w6.heap.size, 2, none⟩ = some (.string tn) ∧ w'.cell? ⟨w6.heap.size, 4, none⟩ = some (.int .i64 lo) ∧ w'.cell? ⟨w6.heap.size, 5, none⟩ = some (.int .i64 hi)) (by kernel_rfl) (by refine ⟨?_, ?_, ?_, ?_, ?_⟩ <;> first | simpa using c0 | simpa using c1 | simpa using c2 | simpa using c4 | simpa using c5) (fun hHeld => ?_)
          obtain ⟨wd, hwd⟩ : ∃ u, u = wm.drew := ⟨_, rfl⟩
          have bd : Below wm.heap.size wm wd := by rw [hwd]; exact (Below.refl _ _).drew
          rw [← hwd] at hHeld ⊢
          clear hwd c0 c1 c2 c4 c5
          refine wpAnyH_take (i := 1) (oi := ⟨some 90, _, _, _, _, _⟩) (v := .slice (some ⟨g, oo, none⟩) m cap) rfl (by kernel_rfl) (by kernel_rfl) (by kernel_rfl) (fun _ _ _ h => h) (Or.inl ⟨by rfl, ?_⟩) hHeld ?_
          · intro u hu
            go_simp
          try simp only [Act.put, List.setIfInBounds_toArray, List.set_cons_zero, List.set_cons_succ]
          refine wpAnyH_take (i := 3) (oi := ⟨some 92, _, _, _, _, _⟩) (v := .int .i64 day) rfl (by kernel_rfl) (by kernel_rfl) (by kernel_rfl) (fun _ _ _ h => h) (Or.inl ⟨by rfl, ?_⟩) hHeld ?_
          · intro u hu
            go_simp
          try simp only [Act.put, List.setIfInBounds_toArray, List.set_cons_zero, List.set_cons_succ]
          refine wpAnyH_take (i := 4) (oi := ⟨some 93, _, _, _, _, _⟩) (v := .int .i64 (k : Int)) rfl (by kernel_rfl) (by kernel_rfl) (by kernel_rfl) (fun _ _ _ h => h) (Or.inl ⟨by rfl, ?_⟩) hHeld ?_
          · intro u hu
            go_simp
          try simp only [Act.put, List.setIfInBounds_toArray, List.set_cons_zero, List.set_cons_succ]
          refine wpAnyH_take (i := 5) (oi := ⟨some 94, _, _, _, _, _⟩) (v := .agg #[.int .i64 day, .int .i64 6, .int .i64 (k : Int), .string ⟨#[]⟩, .string ⟨#[]⟩, .string ⟨#[]⟩, .int .i64 0, .int .i64 0, .int .i64 0]) rfl (by kernel_rfl) (by kernel_rfl) (by kernel_rfl) (fun _ _ _ h => h) (Or.inl ⟨by rfl, ?_⟩) hHeld ?_
          · intro u hu
            go_simp
          try simp only [Act.put, List.setIfInBounds_toArray, List.set_cons_zero, List.set_cons_succ]
          refine wpAnyH_take (i := 6) (oi := ⟨some 95, _, _, _, _, _⟩) (v := .int .i64 day) rfl (by kernel_rfl) (by kernel_rfl) (by kernel_rfl) (fun _ _ _ h => h) (Or.inl ⟨by rfl, ?_⟩) hHeld ?_
          · intro u hu
            go_simp
          try simp only [Act.put, List.setIfInBounds_toArray, List.set_cons_zero, List.set_cons_succ]
          refine wpAnyH_take (i := 7) (oi := ⟨some 96, _, _, _, _, _⟩) (v := .pointer (some ⟨w6.heap.size, 0, none⟩)) rfl (by kernel_rfl) (by kernel_rfl) (by kernel_rfl) (fun _ _ _ h => h) (Or.inl ⟨by rfl, ?_⟩) hHeld ?_
          · intro u hu
            go_simp
          try simp only [Act.put, List.setIfInBounds_toArray, List.set_cons_zero, List.set_cons_succ]
          refine wpAnyH_take (i := 8) (oi := ⟨some 97, _, _, _, _, _⟩) (v := .string tc) rfl (by kernel_rfl) (by kernel_rfl) (by kernel_rfl) (fun _ _ _ h => h) (Or.inl ⟨by rfl, ?_⟩) hHeld ?_
          · intro u hu
            go_simp
          try simp only [Act.put, List.setIfInBounds_toArray, List.set_cons_zero, List.set_cons_succ]
          refine wpAnyH_take (i := 9) (oi := ⟨some 98, _, _, _, _, _⟩) (v := .pointer (some ⟨w6.heap.size, 1, none⟩)) rfl (by kernel_rfl) (by kernel_rfl) (by kernel_rfl) (fun _ _ _ h => h) (Or.inl ⟨by rfl, ?_⟩) hHeld ?_
          · intro u hu
            go_simp
          try simp only [Act.put, List.setIfInBounds_toArray, List.set_cons_zero, List.set_cons_succ]
          refine wpAnyH_take (i := 10) (oi := ⟨some 99, _, _, _, _, _⟩) (v := .string tw) rfl (by kernel_rfl) (by kernel_rfl) (by kernel_rfl) (fun _ _ _ h => h) (Or.inl ⟨by rfl, ?_⟩) hHeld ?_
          · intro u hu
            go_simp
          try simp only [Act.put, List.setIfInBounds_toArray, List.set_cons_zero, List.set_cons_succ]
          refine wpAnyH_take (i := 11) (oi := ⟨some 100, _, _, _, _, _⟩) (v := .pointer (some ⟨w6.heap.size, 2, none⟩)) rfl (by kernel_rfl) (by kernel_rfl) (by kernel_rfl) (fun _ _ _ h => h) (Or.inl ⟨by rfl, ?_⟩) hHeld ?_
          · intro u hu
            go_simp
          try simp only [Act.put, List.setIfInBounds_toArray, List.set_cons_zero, List.set_cons_succ]
          refine wpAnyH_take (i := 12) (oi := ⟨some 101, _, _, _, _, _⟩) (v := .string tn) rfl (by kernel_rfl) (by kernel_rfl) (by kernel_rfl) (fun _ _ _ h => h) (Or.inl ⟨by rfl, ?_⟩) hHeld ?_
          · intro u hu
            go_simp
          try simp only [Act.put, List.setIfInBounds_toArray, List.set_cons_zero, List.set_cons_succ]
          refine wpAnyH_take (i := 13) (oi := ⟨some 102, _, _, _, _, _⟩) (v := .pointer (some ⟨w6.heap.size, 4, none⟩)) rfl (by kernel_rfl) (by kernel_rfl) (by kernel_rfl) (fun _ _ _ h => h) (Or.inl ⟨by rfl, ?_⟩) hHeld ?_
          · intro u hu
            go_simp
          try simp only [Act.put, List.setIfInBounds_toArray, List.set_cons_zero, List.set_cons_succ]
          refine wpAnyH_take (i := 14) (oi := ⟨some 103, _, _, _, _, _⟩) (v := .int .i64 lo) rfl (by kernel_rfl) (by kernel_rfl) (by kernel_rfl) (fun _ _ _ h => h) (Or.inl ⟨by rfl, ?_⟩) hHeld ?_
          · intro u hu
            go_simp
          try simp only [Act.put, List.setIfInBounds_toArray, List.set_cons_zero, List.set_cons_succ]
          refine wpAnyH_take (i := 15) (oi := ⟨some 104, _, _, _, _, _⟩) (v := .pointer (some ⟨w6.heap.size, 5, none⟩)) rfl (by kernel_rfl) (by kernel_rfl) (by kernel_rfl) (fun _ _ _ h => h) (Or.inl ⟨by rfl, ?_⟩) hHeld ?_
          · intro u hu
            go_simp
          try simp only [Act.put, List.setIfInBounds_toArray, List.set_cons_zero, List.set_cons_succ]
          refine wpAnyH_take (i := 16) (oi := ⟨some 105, _, _, _, _, _⟩) (v := .int .i64 hi) rfl (by kernel_rfl) (by kernel_rfl) (by kernel_rfl) (fun _ _ _ h => h) (Or.inl ⟨by rfl, ?_⟩) hHeld ?_
          · intro u hu
            go_simp
          try simp only [Act.put, List.setIfInBounds_toArray, List.set_cons_zero, List.set_cons_succ]
          refine wpAnyH_take (i := 17) (oi := ⟨some 106, _, _, _, _, _⟩) (v := .agg #[.int .i64 day, .int .i64 1, .int .i64 0, .string tc, .string tw, .string tn, .int .i64 lo, .int .i64 hi, .int .i64 0]) rfl (by kernel_rfl) (by kernel_rfl) (by kernel_rfl) (fun _ _ _ h => h) (Or.inl ⟨by rfl, ?_⟩) hHeld ?_
          · intro u hu
            go_simp
          try simp only [Act.put, List.setIfInBounds_toArray, List.set_cons_zero, List.set_cons_succ]
          refine wpAnyH_ready (rs := [0, 18]) (by kernel_rfl) (by simp) ?_
          refine AllReadyH.cons (o := ⟨some 89, _, _, _, _, _⟩) rfl (fun K hK => ?_) ?_
          · obtain ⟨w_1, hw_1⟩ : ∃ u, u = wd.alloc (.cells #[] 29) := ⟨_, rfl⟩
            obtain ⟨N, hN⟩ : ∃ N, N = wd.heap.size := ⟨_, rfl⟩
            have b_1 : Below wm.heap.size wm w_1 := by rw [hw_1]; exact bd.alloc bd.size _
            have HN : Hid (w_1.ownsRow wm.heap.size 29 9 (.slice (some ⟨N, 0, none⟩) 0 0) 0 []) := by show World.ownsRow _ _ _ _ _ _ _; rw [hw_1]; exact own_empty2 wd _ _ 9 (by rw [hN]; exact bd.size) hN _
            go_simp
            rw [← hw_1, ← hN]
            clear hw_1 hN
            refine hK.out _ _ (SM.out _ b_1) (fun hHeld => ?_)
            clear hK K
            try simp only [Act.put, List.setIfInBounds_toArray, List.set_cons_zero, List.set_cons_succ]
            refine wpAnyH_ready (rs := [2, 18]) (by kernel_rfl) (by simp) ?_
            refine AllReadyH.cons (o := ⟨some 91, _, _, _, _, _⟩) rfl (fun K hK => ?_) ?_
            · refine step_app_gen rfl (.tmp 89) (.tmp 90) 22 rfl 29 i0 _ 9 96 Tryz.underlying22 hi0 hy0 hy1 hy2 rfl (by decide) wm.heap.size 0 (.slice (some ⟨N, 0, none⟩) 0 0) [] rfl HN.out b_1.size (some ⟨g, oo, none⟩) m cap (cellsC r) rfl (HRM.out _ b_1) (one_chs r) (by omega) (by decide) ?_
              intro v9 w_2 HGo hgrow
              rw [Nat.zero_add, List.nil_append] at HGo
              obtain ⟨A9, c9, rfl⟩ := own_shape HGo
              have HG := hid HGo
              have b_2 : Below wm.heap.size wm w_2 := Below.grown b_1 hgrow b_1.size (fun j e => by cases e; exact (HN.out.lt N rfl).1)
              clear HN hgrow HGo
              refine hK.out _ _ (SM.out _ b_2) (fun hHeld => ?_)
              clear hK K
              try simp only [Act.put, List.setIfInBounds_toArray, List.set_cons_zero, List.set_cons_succ]
              refine wpAnyH_ready (rs := [18]) (by kernel_rfl) (by simp) ?_
              refine AllReadyH.cons (o := ⟨some 107, _, _, _, _, _⟩) rfl (fun K hK => ?_) AllReadyH.nil
              obtain ⟨w_3, hw_3⟩ : ∃ u, u = w_2.alloc (.cells #[.int .i64 day, .int .i64 6, .int .i64 (k : Int), .string ⟨#[]⟩, .string ⟨#[]⟩, .string ⟨#[]⟩, .int .i64 0, .int .i64 0, .int .i64 0, .int .i64 day, .int .i64 1, .int .i64 0, .string tc, .string tw, .string tn, .int .i64 lo, .int .i64 hi, .int .i64 0] 29) := ⟨_, rfl⟩
              obtain ⟨X, hX⟩ : ∃ X, X = w_2.heap.size := ⟨_, rfl⟩
              have b_3 : Below wm.heap.size wm w_3 := by rw [hw_3]; exact b_2.alloc b_2.size _
              have HX : Hid (w_3.heap[X]? = some (.cells #[.int .i64 day, .int .i64 6, .int .i64 (k : Int), .string ⟨#[]⟩, .string ⟨#[]⟩, .string ⟨#[]⟩, .int .i64 0, .int .i64 0, .int .i64 0, .int .i64 day, .int .i64 1, .int .i64 0, .string tc, .string tw, .string tn, .int .i64 lo, .int .i64 hi, .int .i64 0] 29 (0, 0))) := by show _ = _; rw [hw_3, hX]; exact heap_new w_2 _
              have hXs : X < w_3.heap.size := by rw [hw_3, hX, sz1]; omega
              have HG := hid (by have := HG.out.alloc (.cells #[.int .i64 day, .int .i64 6, .int .i64 (k : Int), .string ⟨#[]⟩, .string ⟨#[]⟩, .string ⟨#[]⟩, .int .i64 0, .int .i64 0, .int .i64 0, .int .i64 day, .int .i64 1, .int .i64 0, .string tc, .string tw, .string tn, .int .i64 lo, .int .i64 hi, .int .i64 0] 29); rwa [← hw_3] at this : w_3.ownsRow wm.heap.size 29 9 (.slice A9 m c9) m (cellsC r))
              go_simp
              rw [← hw_3, ← hX]
              clear hw_3 hX
              refine hK.out _ _ (SM.out _ b_3) (fun hHeld => ?_)
              clear hK K
              try simp only [Act.put, List.setIfInBounds_toArray, List.set_cons_zero, List.set_cons_succ]
              refine wpAnyH_ready (rs := [19]) (by kernel_rfl) (by simp) ?_
              refine AllReadyH.cons (o := ⟨some 108, _, _, _, _, _⟩) rfl (fun K hK => ?_) AllReadyH.nil
              refine step_app_gen rfl (.tmp 91) (.tmp 107) 22 rfl 29 i0 _ 9 96 Tryz.underlying22 hi0 hy0 hy1 hy2 rfl (by decide) wm.heap.size m (.slice A9 m c9) (cellsC r) rfl HG.out b_3.size (some ⟨X, 0, none⟩) 2 2 #[.int .i64 day, .int .i64 6, .int .i64 (k : Int), .string ⟨#[]⟩, .string ⟨#[]⟩, .string ⟨#[]⟩, .int .i64 0, .int .i64 0, .int .i64 0, .int .i64 day, .int .i64 1, .int .i64 0, .string tc, .string tw, .string tn, .int .i64 lo, .int .i64 hi, .int .i64 0].toList rfl (slr_blk HX.out rfl) (by simp [Value.oneCell']) (by omega) (by decide) ?_
              intro v19 w_4 HGo hgrow
              obtain ⟨A19, c19, rfl⟩ := own_shape HGo
              have HO := hid HGo
              have b_4 : Below wm.heap.size wm w_4 := Below.grown b_3 hgrow b_3.size (fun j e => (HG.out.lt j e).1)
              clear hgrow HGo
              refine hK.out _ _ (SM.out _ b_4) (fun hHeld => ?_)
              clear hK K
              try simp only [Act.put, List.setIfInBounds_toArray, List.set_cons_zero, List.set_cons_succ]
              refine wpAnyH_take (i := 20) (oi := ⟨some 16, _, _, _, _, _⟩) (v := .slice A19 (m + 2) c19) rfl (by kernel_rfl) (by kernel_rfl) (by kernel_rfl) (fun _ _ _ h => h) (Or.inl ⟨by rfl, ?_⟩) hHeld ?_
              · intro u hu
                go_simp
              try simp only [Act.put, List.setIfInBounds_toArray, List.set_cons_zero, List.set_cons_succ]
              refine wpAnyH_done (by kernel_rfl) ?_ _
              clear hHeld
              have hmo := HEND.out _ _ _ HO.out
              have Hb_4 := hid b_4
              have HMO := hid hmo
              have HM1 : Hid (∀ u, Below w_4.heap.size w_4 u → IsChs u (.slice A19 (m + 2) c19) (r ++ [closeC day k, openC day s])) := fun u hu => HMO.out.on hu
              clear hmo
              go_wp2_with fail
              refine (pcheck_any _ _ 0 (-1) _ w_4 (HM1.out _ (Below.refl _ _)) HCL.out.1.fol (HT.out.on (bt HBM.out Hb_4.out))).mono ?_
              rintro e y1 ⟨rfl, hy1⟩
              have HY1 := hid hy1
              obtain ⟨⟨x0, x1⟩, a0, a1, a2, a3, a4⟩ := SQ.out _ (bt Hb_4.out hy1)
              clear hy1
              go_wp2_with fail
              clear x0 x1 a0 a1 a2 a3 a4
              have CN := pname_any _ day (k : Int) (nn - sh) _ y1 (HM1.out _ HY1.out) HCL.out.1 (HT.out.on (bt HBM.out (bt Hb_4.out HY1.out))) (by omega) (by omega)
              rw [HCL.out.2.1] at CN
              refine CN.mono ?_
              rintro e y2 ⟨rfl, hy2⟩
              simp only [adV, adE]
              have HY2 : Hid (Below w_4.heap.size w_4 (y2.alloc (.cells #[.string ⟨#[]⟩, .string ⟨#[]⟩, .int .i64 0, .string ⟨#[]⟩, .string ⟨#[]⟩] 37))) := (bt HY1.out hy2).alloc (bt HY1.out hy2).size _
              obtain ⟨y3, hy3⟩ : ∃ u, u = y2.alloc (.cells #[.string ⟨#[]⟩, .string ⟨#[]⟩, .int .i64 0, .string ⟨#[]⟩, .string ⟨#[]⟩] 37) := ⟨_, rfl⟩
              rw [← hy3] at HY2
              obtain ⟨⟨x0, x1⟩, a0, a1, a2, a3, a4⟩ := SQ.out _ (bt Hb_4.out HY2.out)
              rw [hy3] at x0 x1 a0 a1 a2 a3 a4
              clear hy2 CN
              go_wp2_with fail
              rw [← hy3]
              clear hy3 x0 x1 a0 a1 a2 a3 a4
              refine (CFI.out _ y3 (HM1.out _ HY2.out) (HT.out.on (bt HBM.out (bt Hb_4.out HY2.out)))).mono ?_
              rintro e y4 ⟨rfl, hy4⟩
              have HY4 : Hid (Below w.heap.size w (y4.alloc (.cells #[.int .i64 (ln : Int), .int .i64 nn] 35))) := (bt HBM.out (bt Hb_4.out (bt HY2.out hy4))).alloc (bt HBM.out (bt Hb_4.out (bt HY2.out hy4))).size _
              clear hy4
              go_wp2
              go_ret
              exact ⟨by first | rfl | simp, HY4.out⟩
            refine AllReadyH.cons (o := ⟨some 107, _, _, _, _, _⟩) rfl (fun K hK => ?_) AllReadyH.nil
            obtain ⟨w_5, hw_5⟩ : ∃ u, u = w_1.alloc (.cells #[.int .i64 day, .int .i64 6, .int .i64 (k : Int), .string ⟨#[]⟩, .string ⟨#[]⟩, .string ⟨#[]⟩, .int .i64 0, .int .i64 0, .int .i64 0, .int .i64 day, .int .i64 1, .int .i64 0, .string tc, .string tw, .string tn, .int .i64 lo, .int .i64 hi, .int .i64 0] 29) := ⟨_, rfl⟩
            obtain ⟨X, hX⟩ : ∃ X, X = w_1.heap.size := ⟨_, rfl⟩
            have b_5 : Below wm.heap.size wm w_5 := by rw [hw_5]; exact b_1.alloc b_1.size _
            have HX : Hid (w_5.heap[X]? = some (.cells #[.int .i64 day, .int .i64 6, .int .i64 (k : Int), .string ⟨#[]⟩, .string ⟨#[]⟩, .string ⟨#[]⟩, .int .i64 0, .int .i64 0, .int .i64 0, .int .i64 day, .int .i64 1, .int .i64 0, .string tc, .string tw, .string tn, .int .i64 lo, .int .i64 hi, .int .i64 0] 29 (0, 0))) := by show _ = _; rw [hw_5, hX]; exact heap_new w_1 _
            have hXs : X < w_5.heap.size := by rw [hw_5, hX, sz1]; omega
            have hNX : X ≠ N := by have := (HN.out.lt N rfl).2; omega
            have HN := hid (by have := HN.out.alloc (.cells #[.int .i64 day, .int .i64 6, .int .i64 (k : Int), .string ⟨#[]⟩, .string ⟨#[]⟩, .string ⟨#[]⟩, .int .i64 0, .int .i64 0, .int .i64 0, .int .i64 day, .int .i64 1, .int .i64 0, .string tc, .string tw, .string tn, .int .i64 lo, .int .i64 hi, .int .i64 0] 29); rwa [← hw_5] at this : w_5.ownsRow wm.heap.size 29 9 (.slice (some ⟨N, 0, none⟩) 0 0) 0 [])
            go_simp
            rw [← hw_5, ← hX]
            clear hw_5 hX
            refine hK.out _ _ (SM.out _ b_5) (fun hHeld => ?_)
            clear hK K
            try simp only [Act.put, List.setIfInBounds_toArray, List.set_cons_zero, List.set_cons_succ]
            refine wpAnyH_ready (rs := [2]) (by kernel_rfl) (by simp) ?_
            refine AllReadyH.cons (o := ⟨some 91, _, _, _, _, _⟩) rfl (fun K hK => ?_) AllReadyH.nil
            refine step_app_gen rfl (.tmp 89) (.tmp 90) 22 rfl 29 i0 _ 9 96 Tryz.underlying22 hi0 hy0 hy1 hy2 rfl (by decide) wm.heap.size 0 (.slice (some ⟨N, 0, none⟩) 0 0) [] rfl HN.out b_5.size (some ⟨g, oo, none⟩) m cap (cellsC r) rfl (HRM.out _ b_5) (one_chs r) (by omega) (by decide) ?_
            intro v9 w_6 HGo hgrow
            rw [Nat.zero_add, List.nil_append] at HGo
            obtain ⟨A9, c9, rfl⟩ := own_shape HGo
            have HG := hid HGo
            have b_6 : Below wm.heap.size wm w_6 := Below.grown b_5 hgrow b_5.size (fun j e => by cases e; exact (HN.out.lt N rfl).1)
            have HX := hid ((hgrow.block X hXs (fun e => hNX (by cases e; rfl))).trans HX.out)
            have hXs : X < w_6.heap.size := Nat.lt_of_lt_of_le hXs hgrow.size
            clear hNX
            clear HN hgrow HGo
            refine hK.out _ _ (SM.out _ b_6) (fun hHeld => ?_)
            clear hK K
            try simp only [Act.put, List.setIfInBounds_toArray, List.set_cons_zero, List.set_cons_succ]
            refine wpAnyH_ready (rs := [19]) (by kernel_rfl) (by simp) ?_
            refine AllReadyH.cons (o := ⟨some 108, _, _, _, _, _⟩) rfl (fun K hK => ?_) AllReadyH.nil
            refine step_app_gen rfl (.tmp 91) (.tmp 107) 22 rfl 29 i0 _ 9 96 Tryz.underlying22 hi0 hy0 hy1 hy2 rfl (by decide) wm.heap.size m (.slice A9 m c9) (cellsC r) rfl HG.out b_6.size (some ⟨X, 0, none⟩) 2 2 #[.int .i64 day, .int .i64 6, .int .i64 (k : Int), .string ⟨#[]⟩, .string ⟨#[]⟩, .string ⟨#[]⟩, .int .i64 0, .int .i64 0, .int .i64 0, .int .i64 day, .int .i64 1, .int .i64 0, .string tc, .string tw, .string tn, .int .i64 lo, .int .i64 hi, .int .i64 0].toList rfl (slr_blk HX.out rfl) (by simp [Value.oneCell']) (by omega) (by decide) ?_
            intro v19 w_7 HGo hgrow
            obtain ⟨A19, c19, rfl⟩ := own_shape HGo
            have HO := hid HGo
            have b_7 : Below wm.heap.size wm w_7 := Below.grown b_6 hgrow b_6.size (fun j e => (HG.out.lt j e).1)
            clear hgrow HGo
            refine hK.out _ _ (SM.out _ b_7) (fun hHeld => ?_)
            clear hK K
            try simp only [Act.put, List.setIfInBounds_toArray, List.set_cons_zero, List.set_cons_succ]
            refine wpAnyH_take (i := 20) (oi := ⟨some 16, _, _, _, _, _⟩) (v := .slice A19 (m + 2) c19) rfl (by kernel_rfl) (by kernel_rfl) (by kernel_rfl) (fun _ _ _ h => h) (Or.inl ⟨by rfl, ?_⟩) hHeld ?_
            · intro u hu
              go_simp
            try simp only [Act.put, List.setIfInBounds_toArray, List.set_cons_zero, List.set_cons_succ]
            refine wpAnyH_done (by kernel_rfl) ?_ _
            clear hHeld
            have hmo := HEND.out _ _ _ HO.out
            have Hb_7 := hid b_7
            have HMO := hid hmo
            have HM1 : Hid (∀ u, Below w_7.heap.size w_7 u → IsChs u (.slice A19 (m + 2) c19) (r ++ [closeC day k, openC day s])) := fun u hu => HMO.out.on hu
            clear hmo
            go_wp2_with fail
            refine (pcheck_any _ _ 0 (-1) _ w_7 (HM1.out _ (Below.refl _ _)) HCL.out.1.fol (HT.out.on (bt HBM.out Hb_7.out))).mono ?_
            rintro e y1 ⟨rfl, hy1⟩
            have HY1 := hid hy1
            obtain ⟨⟨x0, x1⟩, a0, a1, a2, a3, a4⟩ := SQ.out _ (bt Hb_7.out hy1)
            clear hy1
            go_wp2_with fail
            clear x0 x1 a0 a1 a2 a3 a4
            have CN := pname_any _ day (k : Int) (nn - sh) _ y1 (HM1.out _ HY1.out) HCL.out.1 (HT.out.on (bt HBM.out (bt Hb_7.out HY1.out))) (by omega) (by omega)
            rw [HCL.out.2.1] at CN
            refine CN.mono ?_
            rintro e y2 ⟨rfl, hy2⟩
            simp only [adV, adE]
            have HY2 : Hid (Below w_7.heap.size w_7 (y2.alloc (.cells #[.string ⟨#[]⟩, .string ⟨#[]⟩, .int .i64 0, .string ⟨#[]⟩, .string ⟨#[]⟩] 37))) := (bt HY1.out hy2).alloc (bt HY1.out hy2).size _
            obtain ⟨y3, hy3⟩ : ∃ u, u = y2.alloc (.cells #[.string ⟨#[]⟩, .string ⟨#[]⟩, .int .i64 0, .string ⟨#[]⟩, .string ⟨#[]⟩] 37) := ⟨_, rfl⟩
            rw [← hy3] at HY2
            obtain ⟨⟨x0, x1⟩, a0, a1, a2, a3, a4⟩ := SQ.out _ (bt Hb_7.out HY2.out)
            rw [hy3] at x0 x1 a0 a1 a2 a3 a4
            clear hy2 CN
            go_wp2_with fail
            rw [← hy3]
            clear hy3 x0 x1 a0 a1 a2 a3 a4
            refine (CFI.out _ y3 (HM1.out _ HY2.out) (HT.out.on (bt HBM.out (bt Hb_7.out HY2.out)))).mono ?_
            rintro e y4 ⟨rfl, hy4⟩
            have HY4 : Hid (Below w.heap.size w (y4.alloc (.cells #[.int .i64 (ln : Int), .int .i64 nn] 35))) := (bt HBM.out (bt Hb_7.out (bt HY2.out hy4))).alloc (bt HBM.out (bt Hb_7.out (bt HY2.out hy4))).size _
            clear hy4
            go_wp2
            go_ret
            exact ⟨by first | rfl | simp, HY4.out⟩
          refine AllReadyH.cons (o := ⟨some 107, _, _, _, _, _⟩) rfl (fun K hK => ?_) AllReadyH.nil
          obtain ⟨w_8, hw_8⟩ : ∃ u, u = wd.alloc (.cells #[.int .i64 day, .int .i64 6, .int .i64 (k : Int), .string ⟨#[]⟩, .string ⟨#[]⟩, .string ⟨#[]⟩, .int .i64 0, .int .i64 0, .int .i64 0, .int .i64 day, .int .i64 1, .int .i64 0, .string tc, .string tw, .string tn, .int .i64 lo, .int .i64 hi, .int .i64 0] 29) := ⟨_, rfl⟩
          obtain ⟨X, hX⟩ : ∃ X, X = wd.heap.size := ⟨_, rfl⟩
          have b_8 : Below wm.heap.size wm w_8 := by rw [hw_8]; exact bd.alloc bd.size _
          have HX : Hid (w_8.heap[X]? = some (.cells #[.int .i64 day, .int .i64 6, .int .i64 (k : Int), .string ⟨#[]⟩, .string ⟨#[]⟩, .string ⟨#[]⟩, .int .i64 0, .int .i64 0, .int .i64 0, .int .i64 day, .int .i64 1, .int .i64 0, .string tc, .string tw, .string tn, .int .i64 lo, .int .i64 hi, .int .i64 0] 29 (0, 0))) := by show _ = _; rw [hw_8, hX]; exact heap_new wd _
          have hXs : X < w_8.heap.size := by rw [hw_8, hX, sz1]; omega
          go_simp
          rw [← hw_8, ← hX]
          clear hw_8 hX
          refine hK.out _ _ (SM.out _ b_8) (fun hHeld => ?_)
          clear hK K
          try simp only [Act.put, List.setIfInBounds_toArray, List.set_cons_zero, List.set_cons_succ]
          refine wpAnyH_ready (rs := [0]) (by kernel_rfl) (by simp) ?_
          refine AllReadyH.cons (o := ⟨some 89, _, _, _, _, _⟩) rfl (fun K hK => ?_) AllReadyH.nil
          obtain ⟨w_9, hw_9⟩ : ∃ u, u = w_8.alloc (.cells #[] 29) := ⟨_, rfl⟩
          obtain ⟨N, hN⟩ : ∃ N, N = w_8.heap.size := ⟨_, rfl⟩
          have b_9 : Below wm.heap.size wm w_9 := by rw [hw_9]; exact b_8.alloc b_8.size _
          have HN : Hid (w_9.ownsRow wm.heap.size 29 9 (.slice (some ⟨N, 0, none⟩) 0 0) 0 []) := by show World.ownsRow _ _ _ _ _ _ _; rw [hw_9]; exact own_empty2 w_8 _ _ 9 (by rw [hN]; exact b_8.size) hN _
          have HX := hid (by rw [hw_9, (b0 w_8 _).block _ (heap_lt HX.out)]; exact HX.out : w_9.heap[X]? = some (.cells #[.int .i64 day, .int .i64 6, .int .i64 (k : Int), .string ⟨#[]⟩, .string ⟨#[]⟩, .string ⟨#[]⟩, .int .i64 0, .int .i64 0, .int .i64 0, .int .i64 day, .int .i64 1, .int .i64 0, .string tc, .string tw, .string tn, .int .i64 lo, .int .i64 hi, .int .i64 0] 29 (0, 0)))
          have hNX : X ≠ N := by rw [hN]; have := hXs; omega
          have hXs : X < w_9.heap.size := heap_lt HX.out
          go_simp
          rw [← hw_9, ← hN]
          clear hw_9 hN
          refine hK.out _ _ (SM.out _ b_9) (fun hHeld => ?_)
          clear hK K
          try simp only [Act.put, List.setIfInBounds_toArray, List.set_cons_zero, List.set_cons_succ]
          refine wpAnyH_ready (rs := [2]) (by kernel_rfl) (by simp) ?_
          refine AllReadyH.cons (o := ⟨some 91, _, _, _, _, _⟩) rfl (fun K hK => ?_) AllReadyH.nil
          refine step_app_gen rfl (.tmp 89) (.tmp 90) 22 rfl 29 i0 _ 9 96 Tryz.underlying22 hi0 hy0 hy1 hy2 rfl (by decide) wm.heap.size 0 (.slice (some ⟨N, 0, none⟩) 0 0) [] rfl HN.out b_9.size (some ⟨g, oo, none⟩) m cap (cellsC r) rfl (HRM.out _ b_9) (one_chs r) (by omega) (by decide) ?_
          intro v9 w_10 HGo hgrow
          rw [Nat.zero_add, List.nil_append] at HGo
          obtain ⟨A9, c9, rfl⟩ := own_shape HGo
          have HG := hid HGo
          have b_10 : Below wm.heap.size wm w_10 := Below.grown b_9 hgrow b_9.size (fun j e => by cases e; exact (HN.out.lt N rfl).1)
          have HX := hid ((hgrow.block X hXs (fun e => hNX (by cases e; rfl))).trans HX.out)
          have hXs : X < w_10.heap.size := Nat.lt_of_lt_of_le hXs hgrow.size
          clear hNX
          clear HN hgrow HGo
          refine hK.out _ _ (SM.out _ b_10) (fun hHeld => ?_)
          clear hK K
          try simp only [Act.put, List.setIfInBounds_toArray, List.set_cons_zero, List.set_cons_succ]
          refine wpAnyH_ready (rs := [19]) (by kernel_rfl) (by simp) ?_
          refine AllReadyH.cons (o := ⟨some 108, _, _, _, _, _⟩) rfl (fun K hK => ?_) AllReadyH.nil
          refine step_app_gen rfl (.tmp 91) (.tmp 107) 22 rfl 29 i0 _ 9 96 Tryz.underlying22 hi0 hy0 hy1 hy2 rfl (by decide) wm.heap.size m (.slice A9 m c9) (cellsC r) rfl HG.out b_10.size (some ⟨X, 0, none⟩) 2 2 #[.int .i64 day, .int .i64 6, .int .i64 (k : Int), .string ⟨#[]⟩, .string ⟨#[]⟩, .string ⟨#[]⟩, .int .i64 0, .int .i64 0, .int .i64 0, .int .i64 day, .int .i64 1, .int .i64 0, .string tc, .string tw, .string tn, .int .i64 lo, .int .i64 hi, .int .i64 0].toList rfl (slr_blk HX.out rfl) (by simp [Value.oneCell']) (by omega) (by decide) ?_
          intro v19 w_11 HGo hgrow
          obtain ⟨A19, c19, rfl⟩ := own_shape HGo
          have HO := hid HGo
          have b_11 : Below wm.heap.size wm w_11 := Below.grown b_10 hgrow b_10.size (fun j e => (HG.out.lt j e).1)
          clear hgrow HGo
          refine hK.out _ _ (SM.out _ b_11) (fun hHeld => ?_)
          clear hK K
          try simp only [Act.put, List.setIfInBounds_toArray, List.set_cons_zero, List.set_cons_succ]
          refine wpAnyH_take (i := 20) (oi := ⟨some 16, _, _, _, _, _⟩) (v := .slice A19 (m + 2) c19) rfl (by kernel_rfl) (by kernel_rfl) (by kernel_rfl) (fun _ _ _ h => h) (Or.inl ⟨by rfl, ?_⟩) hHeld ?_
          · intro u hu
            go_simp
          try simp only [Act.put, List.setIfInBounds_toArray, List.set_cons_zero, List.set_cons_succ]
          refine wpAnyH_done (by kernel_rfl) ?_ _
          clear hHeld
          have hmo := HEND.out _ _ _ HO.out
          have Hb_11 := hid b_11
          have HMO := hid hmo
          have HM1 : Hid (∀ u, Below w_11.heap.size w_11 u → IsChs u (.slice A19 (m + 2) c19) (r ++ [closeC day k, openC day s])) := fun u hu => HMO.out.on hu
          clear hmo
          go_wp2_with fail
          refine (pcheck_any _ _ 0 (-1) _ w_11 (HM1.out _ (Below.refl _ _)) HCL.out.1.fol (HT.out.on (bt HBM.out Hb_11.out))).mono ?_
          rintro e y1 ⟨rfl, hy1⟩
          have HY1 := hid hy1
          obtain ⟨⟨x0, x1⟩, a0, a1, a2, a3, a4⟩ := SQ.out _ (bt Hb_11.out hy1)
          clear hy1
          go_wp2_with fail
          clear x0 x1 a0 a1 a2 a3 a4
          have CN := pname_any _ day (k : Int) (nn - sh) _ y1 (HM1.out _ HY1.out) HCL.out.1 (HT.out.on (bt HBM.out (bt Hb_11.out HY1.out))) (by omega) (by omega)
          rw [HCL.out.2.1] at CN
          refine CN.mono ?_
          rintro e y2 ⟨rfl, hy2⟩
          simp only [adV, adE]
          have HY2 : Hid (Below w_11.heap.size w_11 (y2.alloc (.cells #[.string ⟨#[]⟩, .string ⟨#[]⟩, .int .i64 0, .string ⟨#[]⟩, .string ⟨#[]⟩] 37))) := (bt HY1.out hy2).alloc (bt HY1.out hy2).size _
          obtain ⟨y3, hy3⟩ : ∃ u, u = y2.alloc (.cells #[.string ⟨#[]⟩, .string ⟨#[]⟩, .int .i64 0, .string ⟨#[]⟩, .string ⟨#[]⟩] 37) := ⟨_, rfl⟩
          rw [← hy3] at HY2
          obtain ⟨⟨x0, x1⟩, a0, a1, a2, a3, a4⟩ := SQ.out _ (bt Hb_11.out HY2.out)
          rw [hy3] at x0 x1 a0 a1 a2 a3 a4
          clear hy2 CN
          go_wp2_with fail
          rw [← hy3]
          clear hy3 x0 x1 a0 a1 a2 a3 a4
          refine (CFI.out _ y3 (HM1.out _ HY2.out) (HT.out.on (bt HBM.out (bt Hb_11.out HY2.out)))).mono ?_
          rintro e y4 ⟨rfl, hy4⟩
          have HY4 : Hid (Below w.heap.size w (y4.alloc (.cells #[.int .i64 (ln : Int), .int .i64 nn] 35))) := (bt HBM.out (bt Hb_11.out (bt HY2.out hy4))).alloc (bt HBM.out (bt Hb_11.out (bt HY2.out hy4))).size _
          clear hy4
          go_wp2
          go_ret
          exact ⟨by first | rfl | simp, HY4.out⟩
      · have z2 : decide ((m : Int) > 58) = true := decide_eq_true (by omega)
        have z3 : 58 < m := by omega
        clear h58 h0
        go_wp2
        go_ret
        exact ⟨rfl, HB3.out⟩

end Rg
end Go.Proofs.YtaeljmiklalpnaaGreatDoor
