/-
  RegisterPointsStay: the law's walk.
-/
import Derived.Test.YtaeljmiklalpnaaGreatDoorQl
import Derived.Test.YtaeljmiklalpnaaGreatDoorQa
import Derived.Test.YtaeljmiklalpnaaGreatDoorEq
import Derived.BigQuiet
namespace Go.Proofs.YtaeljmiklalpnaaGreatDoor
open Go.RowKit Go.ChangeMaps Gn
namespace Rg

set_option maxRecDepth 100000 in
set_option maxHeartbeats 16000000 in
theorem law_pstay (HD : HeadOk) (r : List Ch) (day lt k n : Int) (rv : Value) (w : World) (hr : IsChs w rv r) (ht : Tb w) (hl0 : 0 ≤ lt) (hl1 : lt ≤ 255) (hn1 : -9223372036854775808 ≤ n) (hn2 : n ≤ 9223372036854775807) :
    Calls Tryz.prog 6 #[rv, .int .i64 day, .int .u8 lt, .agg #[.int .i64 k, .int .i64 n]] w fun e w' => e = .returned (.bool true) ∧ Below w.heap.size w w' := by
  obtain ⟨w1, hw1⟩ : ∃ u, u = w.alloc (.cells #[.int .i64 k, .int .i64 n] 35) := ⟨_, rfl⟩
  have HB1 : Hid (Below w.heap.size w w1) := by show Below _ _ _; rw [hw1]; exact b0 _ _
  have HX1 : Hid (w1.heap[w.heap.size]? = some (.cells #[.int .i64 k, .int .i64 n] 35 (0, 0))) := by show _ = _; rw [hw1]; exact heap_new _ _
  have SK : Hid (∀ u, Below w1.heap.size w1 u → u.cell? ⟨w.heap.size, 0, none⟩ = some (.int .i64 k) ∧ u.cell? ⟨w.heap.size, 1, none⟩ = some (.int .i64 n)) := fun u hu => by
    have h1 := (hu.block _ (heap_lt HX1.out)).trans HX1.out
    exact ⟨by rw [cell_at h1]; rfl, by rw [cell_at h1]; rfl⟩
  have HR := hid hr
  have HT := hid ht
  clear hr ht
  go_enter Tryz.func6, Tryz.ntmps6
  go_wp2_with fail
  rw [← hw1]
  clear hw1
  refine (HD w1 (HT.out.on HB1.out)).mono ?_
  rintro e w2 ⟨rfl, hb2⟩
  have HB2 := hid hb2
  clear hb2
  go_wp2_with fail
  refine (rsound_any r rv w2 (HR.out.on (bt HB1.out HB2.out)) clash_ok).mono ?_
  rintro e w3 ⟨b, rfl, hb3, hS⟩
  have HB3 := hid (bt HB2.out hb3)
  have HSS := hid hS
  clear hb3 hS
  cases b
  · clear HSS
    go_wp2
    go_ret
    exact ⟨rfl, bt HB1.out HB3.out⟩
  · have HSD := hid (HSS.out rfl)
    clear HSS
    by_cases hlo : day < -1000000
    · have e1 : decide (day < -1000000) = true := decide_eq_true hlo
      go_wp2
      go_ret
      exact ⟨rfl, bt HB1.out HB3.out⟩
    · have e1 : decide (day < -1000000) = false := decide_eq_false hlo
      by_cases hhi : day > 1000000
      · have e2 : decide (day > 1000000) = true := decide_eq_true hhi
        go_wp2
        go_ret
        exact ⟨rfl, bt HB1.out HB3.out⟩
      · have e2 : decide (day > 1000000) = false := decide_eq_false hhi
        have hd1 : -1000000 ≤ day := by omega
        have hd2 : day ≤ 1000000 := by omega
        obtain ⟨p0, p1⟩ := SK.out _ HB3.out
        go_wp2_with fail
        clear e1 e2 p0 p1 hlo hhi
        refine (pname_any r (day) k n rv w3 (HR.out.on (bt HB1.out HB3.out)) HSD.out (HT.out.on (bt HB1.out HB3.out)) hn1 hn2).mono ?_
        rintro e w4 ⟨rfl, hb⟩
        obtain ⟨o1, ho1⟩ : ∃ o, o = nameR (atL r (day)) k n := ⟨_, rfl⟩
        rw [← ho1]
        have HO1 := hid ho1
        obtain ⟨q1p, q1a, q1m, q1c, q1t, hq1, hqs1⟩ := adV_parts o1
        rw [hq1]
        have HQ1 := hid hqs1
        obtain ⟨E1, hE1⟩ : ∃ x, x = adE o1 := ⟨_, rfl⟩
        rw [← hE1]
        have HE1 := hid hE1
        clear ho1 hq1 hqs1 hE1
        obtain ⟨w5, hw5⟩ : ∃ u, u = w4.alloc (.cells #[.string q1p, .string q1a, .int .i64 q1m, .string q1c, .string q1t] 37) := ⟨_, rfl⟩
        have HBw5 : Hid (Below w1.heap.size w1 w5) := by
          show Below _ _ _
          rw [hw5]
          exact (bt HB3.out hb).alloc (bt HB3.out hb).size _
        have HXw5 : Hid (w5.heap[w4.heap.size]? = some (.cells #[.string q1p, .string q1a, .int .i64 q1m, .string q1c, .string q1t] 37 (0, 0))) := by show _ = _; rw [hw5]; exact heap_new _ _
        clear hb
        obtain ⟨p0, p1⟩ := SK.out _ HBw5.out
        rw [hw5] at p0 p1
        go_wp2_with fail
        rw [← hw5]
        clear hw5 p0 p1
        refine (pname_any r (day + lt) k n rv w5 (HR.out.on (bt HB1.out HBw5.out)) HSD.out (HT.out.on (bt HB1.out HBw5.out)) hn1 hn2).mono ?_
        rintro e w6 ⟨rfl, hb⟩
        obtain ⟨o2, ho2⟩ : ∃ o, o = nameR (atL r (day + lt)) k n := ⟨_, rfl⟩
        rw [← ho2]
        have HO2 := hid ho2
        obtain ⟨q2p, q2a, q2m, q2c, q2t, hq2, hqs2⟩ := adV_parts o2
        rw [hq2]
        have HQ2 := hid hqs2
        obtain ⟨E2, hE2⟩ : ∃ x, x = adE o2 := ⟨_, rfl⟩
        rw [← hE2]
        have HE2 := hid hE2
        clear ho2 hq2 hqs2 hE2
        obtain ⟨w7, hw7⟩ : ∃ u, u = w6.alloc (.cells #[.string q2p, .string q2a, .int .i64 q2m, .string q2c, .string q2t] 37) := ⟨_, rfl⟩
        have HBw7 : Hid (Below w1.heap.size w1 w7) := by
          show Below _ _ _
          rw [hw7]
          exact (bt HBw5.out hb).alloc (bt HBw5.out hb).size _
        have HXw7 : Hid (w7.heap[w6.heap.size]? = some (.cells #[.string q2p, .string q2a, .int .i64 q2m, .string q2c, .string q2t] 37 (0, 0))) := by show _ = _; rw [hw7]; exact heap_new _ _
        have HX5 : Hid (w7.heap[w4.heap.size]? = some (.cells #[.string q1p, .string q1a, .int .i64 q1m, .string q1c, .string q1t] 37 (0, 0))) := by
          show _ = _
          have h := (hb.block _ (heap_lt HXw5.out)).trans HXw5.out
          rw [hw7, hpk, if_neg (by have := heap_lt h; omega)]
          exact h
        clear hb
        have SA : Hid (∀ u, Below w7.heap.size w7 u → u.cell? ⟨w4.heap.size, 0, none⟩ = some (.string q1p) ∧ u.cell? ⟨w4.heap.size, 1, none⟩ = some (.string q1a) ∧ u.cell? ⟨w4.heap.size, 2, none⟩ = some (.int .i64 q1m) ∧ u.cell? ⟨w4.heap.size, 3, none⟩ = some (.string q1c) ∧ u.cell? ⟨w4.heap.size, 4, none⟩ = some (.string q1t)) := fun u hu => by
          have h1 := (hu.block _ (heap_lt HX5.out)).trans HX5.out
          exact ⟨by rw [cell_at h1]; rfl, by rw [cell_at h1]; rfl, by rw [cell_at h1]; rfl, by rw [cell_at h1]; rfl, by rw [cell_at h1]; rfl⟩
        have SB : Hid (∀ u, Below w7.heap.size w7 u → u.cell? ⟨w6.heap.size, 0, none⟩ = some (.string q2p) ∧ u.cell? ⟨w6.heap.size, 1, none⟩ = some (.string q2a) ∧ u.cell? ⟨w6.heap.size, 2, none⟩ = some (.int .i64 q2m) ∧ u.cell? ⟨w6.heap.size, 3, none⟩ = some (.string q2c) ∧ u.cell? ⟨w6.heap.size, 4, none⟩ = some (.string q2t)) := fun u hu => by
          have h1 := (hu.block _ (heap_lt HXw7.out)).trans HXw7.out
          exact ⟨by rw [cell_at h1]; rfl, by rw [cell_at h1]; rfl, by rw [cell_at h1]; rfl, by rw [cell_at h1]; rfl, by rw [cell_at h1]; rfl⟩
        rcases o1 with _ | x1
        · have hE : E1 = 3 := HE1.out
          subst hE
          go_wp2
          go_ret
          rw [← hw7]
          exact ⟨rfl, bt HB1.out HBw7.out⟩
        · have hE : E1 = 0 := HE1.out
          subst hE
          clear HE1
          go_wp2_with fail
          rw [← hw7]
          clear hw7
          obtain ⟨A, cap, hrv, hR⟩ := HR.out
          obtain ⟨m, hm⟩ : ∃ m, m = r.length := ⟨_, rfl⟩
          have HRR := hid hR
          rw [← hm] at hrv
          subst hrv
          have HM := hid hm
          have hm60 : m ≤ 60 := by rw [hm]; exact HSD.out.few
          clear hm hR
          go_loopw [15, 16, 17, 18] (fun s15 s16 s17 s18 wr => ∃ (j : Nat) (sh : Int) (cg cl : Bool), j ≤ m ∧ s15 = .int .i64 sh ∧ s16 = .bool cg ∧ s17 = .bool cl ∧ s18 = .int .i64 (j : Int) ∧ Hid (sh = shS (segL r day (day + lt) k j)) ∧ Hid (cg = chG (segL r day (day + lt) k j)) ∧ Hid (cl = clG (segL r day (day + lt) k j)) ∧ Hid (Below w7.heap.size w7 wr)) (fun _ _ _ s18 _ => m - (intOf s18).toNat)
          case atStart => exact ⟨0, 0, false, false, Nat.zero_le _, rfl, rfl, rfl, rfl, rfl, rfl, rfl, Below.refl _ _⟩
          case round =>
            obtain ⟨j, sh, cg, cl, hj, rfl, rfl, rfl, rfl, hs1, hs2, hs3, hB⟩ := hrel
            have hshb : -600000 ≤ sh ∧ sh ≤ 600000 := by
              have := shS_bd HSD.out day (day + lt) k j
              rw [← hs1.out] at this
              omega
            obtain ⟨hsh1, hsh2⟩ := hshb
            by_cases hlt : j < m
            · obtain ⟨c, hc⟩ : ∃ c, r[j]? = some c := ⟨_, List.getElem?_eq_getElem (by have := HM.out; omega)⟩
              obtain ⟨g, o, rfl, hg, hch⟩ := slr_ch (HRR.out.on (bt HB1.out (bt HBw7.out hB.out))) hc
              obtain ⟨c0, c1, c2, -, -, -, -, -, c8⟩ := hch
              obtain ⟨p0, -⟩ := SK.out _ (bt HBw7.out hB.out)
              have hj0 : 0 ≤ (j : Int) := by omega
              have hj1 : (j : Int) < (m : Int) := by omega
              obtain ⟨hb1, hb2⟩ := shift_bd HSD.out hc
              clear hg
              rcases (Decidable.em (c.day > day)).symm with h1 | h1
              · have f1 : decide (c.day > day) = false := decide_eq_false h1
                have hno : segB day (day + lt) k c = false := by
                  rw [Bool.eq_false_iff]
                  intro q
                  obtain ⟨z1, z2, z3, z4⟩ := (seg_conds _ _ _ _).1 q
                  exact h1 z1
                have HS2 := hid (segL_no hc hno)
                clear hno hc
                go_wp2_with fail
                go_quiet (fail)
                clear c0 c1 c2 c8 p0
                go_wp2_with fail
                go_roundw
                case rel => exact ⟨j + 1, sh, cg, cl, by omega, rfl, rfl, rfl, by go_num, by rw [HS2.out]; exact hs1, by rw [HS2.out]; exact hs2, by rw [HS2.out]; exact hs3, below_drewN' hB.out _⟩
                case measure => simp [intOf]; omega
              · have f1 : decide (c.day > day) = true := decide_eq_true h1
                rcases (Decidable.em (c.day ≤ day + lt)).symm with h2 | h2
                · have f2 : decide (c.day ≤ day + lt) = false := decide_eq_false h2
                  have hno : segB day (day + lt) k c = false := by
                    rw [Bool.eq_false_iff]
                    intro q
                    obtain ⟨z1, z2, z3, z4⟩ := (seg_conds _ _ _ _).1 q
                    exact h2 z2
                  have HS2 := hid (segL_no hc hno)
                  clear hno hc
                  go_wp2_with fail
                  go_quiet (fail)
                  clear c0 c1 c2 c8 p0
                  go_wp2_with fail
                  go_roundw
                  case rel => exact ⟨j + 1, sh, cg, cl, by omega, rfl, rfl, rfl, by go_num, by rw [HS2.out]; exact hs1, by rw [HS2.out]; exact hs2, by rw [HS2.out]; exact hs3, below_drewN' hB.out _⟩
                  case measure => simp [intOf]; omega
                · have f2 : decide (c.day ≤ day + lt) = true := decide_eq_true h2
                  by_cases h3 : c.kind = 1
                  · have f3 : (c.kind != 1) = false := by simp [h3]
                    have hno : segB day (day + lt) k c = false := by
                      rw [Bool.eq_false_iff]
                      intro q
                      obtain ⟨z1, z2, z3, z4⟩ := (seg_conds _ _ _ _).1 q
                      exact z3 h3
                    have HS2 := hid (segL_no hc hno)
                    clear hno hc
                    go_wp2_with fail
                    go_quiet (fail)
                    clear c0 c1 c2 c8 p0
                    go_wp2_with fail
                    go_roundw
                    case rel => exact ⟨j + 1, sh, cg, cl, by omega, rfl, rfl, rfl, by go_num, by rw [HS2.out]; exact hs1, by rw [HS2.out]; exact hs2, by rw [HS2.out]; exact hs3, below_drewN' hB.out _⟩
                    case measure => simp [intOf]; omega
                  · have f3 : (c.kind != 1) = true := by simpa using h3
                    rcases (Decidable.em (c.street = k)).symm with h4 | h4
                    · have f4 : (c.street == k) = false := by simpa using h4
                      have hno : segB day (day + lt) k c = false := by
                        rw [Bool.eq_false_iff]
                        intro q
                        obtain ⟨z1, z2, z3, z4⟩ := (seg_conds _ _ _ _).1 q
                        exact h4 z4
                      have HS2 := hid (segL_no hc hno)
                      clear hno hc
                      go_wp2_with fail
                      go_quiet (fail)
                      clear c0 c1 c2 c8 p0
                      go_wp2_with fail
                      go_roundw
                      case rel => exact ⟨j + 1, sh, cg, cl, by omega, rfl, rfl, rfl, by go_num, by rw [HS2.out]; exact hs1, by rw [HS2.out]; exact hs2, by rw [HS2.out]; exact hs3, below_drewN' hB.out _⟩
                      case measure => simp [intOf]; omega
                    · have f4 : (c.street == k) = true := by simpa using h4
                      have hyes : segB day (day + lt) k c = true := (seg_conds _ _ _ _).2 ⟨h1, h2, h3, h4⟩
                      have HS2 := hid (segL_yes hc hyes)
                      obtain ⟨b5, hb5⟩ : ∃ b, (c.kind != 5) = b := ⟨_, rfl⟩
                      obtain ⟨b6, hb6⟩ : ∃ b, (c.kind == 6) = b := ⟨_, rfl⟩
                      have HB5 : Hid ((false || decide (c.kind ≠ 5)) = b5) := by
                        show _ = _
                        rw [← hb5, Bool.false_or, Bool.eq_iff_iff]; simp
                      have HB6 : Hid ((false || decide (c.kind = 6)) = b6) := by
                        show _ = _
                        rw [← hb6, Bool.false_or, Bool.eq_iff_iff]; simp
                      clear hyes hc h1 h2 h3 h4
                      cases cg
                      · cases cl
                        · go_wp2_with fail
                          go_quiet (fail)
                          go_wp2_with fail
                          go_roundw
                          case rel => exact ⟨j + 1, sh + c.shift, b5, b6, by omega, rfl, rfl, rfl, by go_num, by rw [HS2.out, shS_snoc, ← hs1.out]; exact rfl, by rw [HS2.out, chG_snoc, ← hs2.out]; first | exact HB5.out.symm | exact rfl, by rw [HS2.out, clG_snoc, ← hs3.out]; first | exact HB6.out.symm | exact rfl, below_drewN' hB.out _⟩
                          case measure => simp [intOf]; omega
                        · go_wp2_with fail
                          go_quiet (fail)
                          go_wp2_with fail
                          go_roundw
                          case rel => exact ⟨j + 1, sh + c.shift, b5, true, by omega, rfl, rfl, rfl, by go_num, by rw [HS2.out, shS_snoc, ← hs1.out]; exact rfl, by rw [HS2.out, chG_snoc, ← hs2.out]; first | exact HB5.out.symm | exact rfl, by rw [HS2.out, clG_snoc, ← hs3.out]; first | exact HB6.out.symm | exact rfl, below_drewN' hB.out _⟩
                          case measure => simp [intOf]; omega
                      · cases cl
                        · go_wp2_with fail
                          go_quiet (fail)
                          go_wp2_with fail
                          go_roundw
                          case rel => exact ⟨j + 1, sh + c.shift, true, b6, by omega, rfl, rfl, rfl, by go_num, by rw [HS2.out, shS_snoc, ← hs1.out]; exact rfl, by rw [HS2.out, chG_snoc, ← hs2.out]; first | exact HB5.out.symm | exact rfl, by rw [HS2.out, clG_snoc, ← hs3.out]; first | exact HB6.out.symm | exact rfl, below_drewN' hB.out _⟩
                          case measure => simp [intOf]; omega
                        · go_wp2_with fail
                          go_quiet (fail)
                          go_wp2_with fail
                          go_roundw
                          case rel => exact ⟨j + 1, sh + c.shift, true, true, by omega, rfl, rfl, rfl, by go_num, by rw [HS2.out, shS_snoc, ← hs1.out]; exact rfl, by rw [HS2.out, chG_snoc, ← hs2.out]; first | exact HB5.out.symm | exact rfl, by rw [HS2.out, clG_snoc, ← hs3.out]; first | exact HB6.out.symm | exact rfl, below_drewN' hB.out _⟩
                          case measure => simp [intOf]; omega
            · have ej : j = r.length := by have := HM.out; omega
              rw [ej] at hs1 hs2 hs3
              have ST := stay_words HSD.out (by omega : day ≤ day + lt) HO1.out.symm
              rw [← hs1.out, ← hs2.out, ← hs3.out, ← HO2.out] at ST
              obtain ⟨_, s, hs, _, l1, l2, ex⟩ := name_some HO1.out.symm
              have gs := (HSD.out.atInv day).good s (List.mem_of_getElem? hs)
              obtain ⟨r1p, r1a, r1m, r1c, r1t⟩ := HQ1.out.1 x1 rfl
              have hm1 : 1 ≤ q1m ∧ q1m ≤ 9999 := by
                have g1 := gs.lo
                have g2 := gs.hi
                rw [r1m, ex]
                show 1 ≤ n + s.shift ∧ n + s.shift ≤ 9999
                omega
              obtain ⟨hm1, hm2⟩ := hm1
              have HST := hid ST
              have HR1 := hid (And.intro r1p (And.intro r1a (And.intro r1m (And.intro r1c r1t))))
              clear ST hs l1 l2 ex gs r1p r1a r1m r1c r1t ej
              cases cl
              · obtain ⟨b, hb0, hbm, hbt, hbs⟩ := HST.out.2 rfl
                obtain ⟨r2p, r2a, r2m, r2c, r2t⟩ := HQ2.out.1 b hb0
                obtain ⟨r1p, r1a, r1m, r1c, r1t⟩ := HR1.out
                have e0 : E2 = 0 := by rw [HE2.out, hb0]; rfl
                have em : q2m = q1m + sh := by rw [r2m, r1m, hbm]
                have et : q2t = q1t := by rw [r2t, r1t, hbt]
                have HA : Hid (cg = false → q2p = q1p ∧ q2a = q1a ∧ q2c = q1c ∧ sh = 0) := fun q => by
                  have hz : sh = 0 := by
                    have h := hbm
                    rw [← hbs q] at h
                    omega
                  rw [r2p, r2a, r2c, r1p, r1a, r1c, ← hbs q]
                  exact ⟨rfl, rfl, rfl, hz⟩
                clear hb0 hbm hbt hbs r1p r1a r1m r1c r1t r2p r2a r2m r2c r2t
                subst e0 et
                cases cg
                · obtain ⟨a1, a2, a3, a4⟩ := HA.out rfl
                  subst a1 a2 a3 a4
                  rw [Int.add_zero] at em
                  subst em
                  clear HA
                  have hsame := ad_same q2p q2a q2m q2c q2t
                  obtain ⟨c0, c1, c2, c3, c4⟩ := SA.out _ hB.out
                  obtain ⟨d0, d1, d2, d3, d4⟩ := SB.out _ hB.out
                  go_wp2
                  go_ret
                  exact ⟨by first | rfl | simp, bt HB1.out (bt HBw7.out hB.out)⟩
                · subst em
                  clear HA
                  obtain ⟨c0, c1, c2, c3, c4⟩ := SA.out _ hB.out
                  obtain ⟨d0, d1, d2, d3, d4⟩ := SB.out _ hB.out
                  go_wp2
                  go_ret
                  exact ⟨by first | rfl | simp, bt HB1.out (bt HBw7.out hB.out)⟩
              · have hn := HST.out.1 rfl
                have e0 : E2 = 3 := by rw [HE2.out, hn]; rfl
                clear hn
                subst e0
                go_wp2
                go_ret
                exact ⟨by first | rfl | simp, bt HB1.out (bt HBw7.out hB.out)⟩

end Rg
end Go.Proofs.YtaeljmiklalpnaaGreatDoor
