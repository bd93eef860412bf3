/-
  RegisterOnePoint: the law's walk.
-/
import Derived.Test.YtaeljmiklalpnaaGreatDoorQl
namespace Go.Proofs.YtaeljmiklalpnaaGreatDoor
open Go.RowKit Go.ChangeMaps Gn
namespace Rg

set_option maxRecDepth 100000 in
set_option maxHeartbeats 8000000 in
theorem law_onepoint (HD : HeadOk) (r : List Ch) (day k n k' n' : Int) (rv : Value) (w : World) (hr : IsChs w rv r) (ht : Tb w) (hn1 : -9223372036854775808 ≤ n) (hn2 : n ≤ 9223372036854775807) (hn3 : -9223372036854775808 ≤ n') (hn4 : n' ≤ 9223372036854775807) :
    Calls Tryz.prog 5 #[rv, .int .i64 day, .agg #[.int .i64 k, .int .i64 n], .agg #[.int .i64 k', .int .i64 n']] w fun e w' => e = .returned (.bool true) ∧ Below w.heap.size w w' := by
  obtain ⟨w1, hw1⟩ : ∃ u, u = (w.alloc (.cells #[.int .i64 k, .int .i64 n] 35)).alloc (.cells #[.int .i64 k', .int .i64 n'] 35) := ⟨_, rfl⟩
  obtain ⟨hb1, hx1, hx2⟩ := two_boxes w (.cells #[.int .i64 k, .int .i64 n] 35) (.cells #[.int .i64 k', .int .i64 n'] 35)
  rw [← hw1] at hb1 hx1 hx2
  have SK : Hid (∀ u, Below w1.heap.size w1 u → u.cell? ⟨w.heap.size, 0, none⟩ = some (.int .i64 k) ∧ u.cell? ⟨w.heap.size, 1, none⟩ = some (.int .i64 n) ∧ u.cell? ⟨w.heap.size + 1, 0, none⟩ = some (.int .i64 k') ∧ u.cell? ⟨w.heap.size + 1, 1, none⟩ = some (.int .i64 n')) := fun u hu => by
    have h1 := (hu.block _ (heap_lt hx1)).trans hx1
    have h2 := (hu.block _ (heap_lt hx2)).trans hx2
    refine ⟨?_, ?_, ?_, ?_⟩ <;> first | (rw [cell_at h1]; rfl) | (rw [cell_at h2]; rfl)
  have HB1 := hid hb1
  have HR := hid (hr.on hb1)
  have HT := hid (ht.on hb1)
  clear hb1 hx1 hx2 hr ht
  go_enter Tryz.func5, Tryz.ntmps5
  go_wp2_with fail
  rw [← hw1]
  clear hw1
  refine (HD w1 HT.out).mono ?_
  rintro e w2 ⟨rfl, hb2⟩
  have HB2 := hid hb2
  clear hb2
  go_wp2_with fail
  refine (rsound_any r rv w2 (HR.out.on HB2.out) clash_ok).mono ?_
  rintro e w3 ⟨b, rfl, hb3, hS⟩
  have HB3 := hid (bt HB2.out hb3)
  have HS := hid hS
  clear hb3 hS
  cases b
  · clear HS
    go_wp2
    go_ret
    exact ⟨rfl, bt HB1.out HB3.out⟩
  · have HSD := hid (HS.out rfl)
    clear HS
    obtain ⟨p0, p1, q0, q1⟩ := SK.out _ HB3.out
    go_wp2_with fail
    refine (pname_any r day k n rv w3 (HR.out.on HB3.out) HSD.out (HT.out.on HB3.out) hn1 hn2).mono ?_
    rintro e w4 ⟨rfl, hb4⟩
    have HB4 := hid (bt HB3.out hb4)
    obtain ⟨o1, ho1⟩ : ∃ o, o = nameR (atL r day) k n := ⟨_, rfl⟩
    rw [← ho1]
    have HO1 := hid ho1
    clear ho1 hb4 p0 p1 q0 q1
    rcases o1 with _ | ⟨a1, m1, c1, t1⟩
    · simp only [adV, adE]
      obtain ⟨w5, hw5⟩ : ∃ u, u = w4.alloc (.cells #[.string ⟨#[]⟩, .string ⟨#[]⟩, .int .i64 0, .string ⟨#[]⟩, .string ⟨#[]⟩] 37) := ⟨_, rfl⟩
      have hb5 : Below w4.heap.size w4 w5 := by rw [hw5]; exact b0 _ _
      have hx5 : w5.heap[w4.heap.size]? = some (.cells #[.string ⟨#[]⟩, .string ⟨#[]⟩, .int .i64 0, .string ⟨#[]⟩, .string ⟨#[]⟩] 37 (0, 0)) := by rw [hw5]; exact heap_new _ _
      have HB5 := hid (bt HB4.out hb5)
      obtain ⟨p0, p1, q0, q1⟩ := SK.out _ HB5.out
      rw [hw5] at p0 p1 q0 q1
      go_wp2_with fail
      rw [← hw5]
      clear hw5
      refine (pname_any r day k' n' rv w5 (HR.out.on HB5.out) HSD.out (HT.out.on HB5.out) hn3 hn4).mono ?_
      rintro e w6 ⟨rfl, hb6⟩
      have hx6 := (hb6.block _ (heap_lt hx5)).trans hx5
      have HX6 := hid hx6
      have HB6 := hid (bt HB5.out hb6)
      have h45 : w4.heap.size < w6.heap.size := heap_lt hx6
      obtain ⟨o2, ho2⟩ : ∃ o, o = nameR (atL r day) k' n' := ⟨_, rfl⟩
      rw [← ho2]
      have HO2 := hid ho2
      clear ho2 hb5 hx5 hb6 hx6 p0 p1 q0 q1
      obtain ⟨p0, p1, q0, q1⟩ := SK.out _ HB6.out
      rcases o2 with _ | ⟨a2, m2, c2, t2⟩
      · simp only [adV, adE]
        go_wp2
        go_ret
        exact ⟨rfl, bt HB1.out (HB6.out.alloc HB6.out.size _)⟩
      · simp only [adV, adE]
        go_wp2
        go_ret
        exact ⟨rfl, bt HB1.out (HB6.out.alloc HB6.out.size _)⟩
    · simp only [adV, adE]
      obtain ⟨t1a, ht1a⟩ : ∃ x, x = sB a1 := ⟨_, rfl⟩
      obtain ⟨t1c, ht1c⟩ : ∃ x, x = sB c1 := ⟨_, rfl⟩
      obtain ⟨t1t, ht1t⟩ : ∃ x, x = sB t1 := ⟨_, rfl⟩
      rw [← ht1a, ← ht1c, ← ht1t]
      have HT1 := hid (And.intro ht1a (And.intro ht1c ht1t))
      clear ht1a ht1c ht1t
      obtain ⟨w5, hw5⟩ : ∃ u, u = w4.alloc (.cells #[.string ⟨#[]⟩, .string t1a, .int .i64 m1, .string t1c, .string t1t] 37) := ⟨_, rfl⟩
      have hb5 : Below w4.heap.size w4 w5 := by rw [hw5]; exact b0 _ _
      have hx5 : w5.heap[w4.heap.size]? = some (.cells #[.string ⟨#[]⟩, .string t1a, .int .i64 m1, .string t1c, .string t1t] 37 (0, 0)) := by rw [hw5]; exact heap_new _ _
      have HB5 := hid (bt HB4.out hb5)
      obtain ⟨p0, p1, q0, q1⟩ := SK.out _ HB5.out
      rw [hw5] at p0 p1 q0 q1
      go_wp2_with fail
      rw [← hw5]
      clear hw5
      refine (pname_any r day k' n' rv w5 (HR.out.on HB5.out) HSD.out (HT.out.on HB5.out) hn3 hn4).mono ?_
      rintro e w6 ⟨rfl, hb6⟩
      have hx6 := (hb6.block _ (heap_lt hx5)).trans hx5
      have HX6 := hid hx6
      have HB6 := hid (bt HB5.out hb6)
      have h45 : w4.heap.size < w6.heap.size := heap_lt hx6
      obtain ⟨o2, ho2⟩ : ∃ o, o = nameR (atL r day) k' n' := ⟨_, rfl⟩
      rw [← ho2]
      have HO2 := hid ho2
      clear ho2 hb5 hx5 hb6 hx6 p0 p1 q0 q1
      obtain ⟨p0, p1, q0, q1⟩ := SK.out _ HB6.out
      rcases o2 with _ | ⟨a2, m2, c2, t2⟩
      · simp only [adV, adE]
        go_wp2
        go_ret
        exact ⟨rfl, bt HB1.out (HB6.out.alloc HB6.out.size _)⟩
      · simp only [adV, adE]
        obtain ⟨t2a, ht2a⟩ : ∃ x, x = sB a2 := ⟨_, rfl⟩
        obtain ⟨t2c, ht2c⟩ : ∃ x, x = sB c2 := ⟨_, rfl⟩
        obtain ⟨t2t, ht2t⟩ : ∃ x, x = sB t2 := ⟨_, rfl⟩
        rw [← ht2a, ← ht2c, ← ht2t]
        have ONE := name_one (HSD.out.atInv day) HO1.out.symm HO2.out.symm
        have LA : a1.length ≤ 100000 ∧ a2.length ≤ 100000 := by
          obtain ⟨_, s, hs, _, _, _, e1⟩ := name_some HO1.out.symm
          obtain ⟨_, s2, hs2, _, _, _, e2⟩ := name_some HO2.out.symm
          have g1 := name_len ((HSD.out.atInv day).good s (List.mem_of_getElem? hs)).name
          have g2 := name_len ((HSD.out.atInv day).good s2 (List.mem_of_getElem? hs2)).name
          cases e1
          cases e2
          omega
        have CE := hid (fun u => requal_any a1 a2 u LA.1 LA.2)
        rw [← HT1.out.1, ← ht2a] at CE
        have d1 : c1 ≠ c2 → (¬ t1c.toList = t2c.toList) ∧ (t1c.toList == t2c.toList) = false := fun h => by
          rw [HT1.out.2.1, ht2c]
          exact ⟨fun q => h (sB_eq.1 q), by rw [sB_beq]; simpa using h⟩
        have d2 : c1 = c2 → t1c = t2c := fun h => by rw [HT1.out.2.1, ht2c, h]
        obtain ⟨w7, hw7⟩ : ∃ u, u = w6.alloc (.cells #[.string ⟨#[]⟩, .string t2a, .int .i64 m2, .string t2c, .string t2t] 37) := ⟨_, rfl⟩
        have hb7 : Below w6.heap.size w6 w7 := by rw [hw7]; exact b0 _ _
        have HB7 := hid (bt HB6.out hb7)
        have HBX := hid (HB6.out.alloc HB6.out.size (.cells #[.string ⟨#[]⟩, .string t2a, .int .i64 m2, .string t2c, .string t2t] 37))
        have hx7 := (hb7.block _ h45).trans HX6.out
        have r1 : w7.cell? ⟨w4.heap.size, 1, none⟩ = some (.string t1a) := by rw [cell_at hx7]; rfl
        have r2 : w7.cell? ⟨w4.heap.size, 2, none⟩ = some (.int .i64 m1) := by rw [cell_at hx7]; rfl
        have r3 : w7.cell? ⟨w4.heap.size, 3, none⟩ = some (.string t1c) := by rw [cell_at hx7]; rfl
        clear p0 p1 q0 q1
        obtain ⟨p0, p1, q0, q1⟩ := SK.out _ HB7.out
        rw [hw7] at p0 p1 q0 q1 r1 r2 r3
        have ONE2 := hid ONE
        have D1 := hid d1
        have D2 := hid d2
        obtain ⟨ev, hev⟩ : ∃ b, b = eqW a1 a2 := ⟨_, rfl⟩
        rw [← hev] at CE
        have HEV := hid hev
        clear hev ONE d1 d2 LA ht2a ht2c ht2t hb7 hx7
        by_cases hpq : k = k' ∧ n = n'
        · obtain ⟨g1, g2, g3⟩ := ONE2.out.1 hpq
          have g1' := D2.out g1
          obtain ⟨rfl, rfl⟩ := hpq
          have g2' : m1 = m2 := g2
          have g4 : ev = true := HEV.out.trans g3
          subst g1' g2' g4
          clear g1 g2 g3
          go_wp2_with fail
          rw [← hw7]
          clear hw7
          refine (CE.out _).mono ?_
          rintro e w8 ⟨rfl, hb8⟩
          have HB8 := hid (bt HB7.out hb8)
          clear p0 p1 q0 q1 r1 r2 r3 hb8
          obtain ⟨p0, p1, q0, q1⟩ := SK.out _ HB8.out
          go_wp2
          go_ret
          exact ⟨by first | rfl | simp, bt HB1.out HB8.out⟩
        · rcases (Decidable.em (c1 = c2)).symm with hc | hc
          · obtain ⟨e1, e2⟩ := D1.out hc
            clear hc
            rcases (Decidable.em (k = k')).symm with hk | hk
            · have f1 : (k == k') = false := by simpa using hk
              clear hpq
              go_wp2
              go_ret
              exact ⟨by first | rfl | simp, bt HB1.out HBX.out⟩
            · have hn : ¬ n = n' := fun q => hpq ⟨hk, q⟩
              have f1 : (n == n') = false := by simpa using hn
              subst hk
              clear hpq
              go_wp2
              go_ret
              exact ⟨by first | rfl | simp, bt HB1.out HBX.out⟩
          · have g1' := D2.out hc
            subst g1'
            rcases (Decidable.em (m1 = m2)).symm with hm | hm
            · have e1 : (m1 == m2) = false := by simpa using hm
              rcases (Decidable.em (k = k')).symm with hk | hk
              · have f1 : (k == k') = false := by simpa using hk
                clear hpq
                go_wp2
                go_ret
                exact ⟨by first | rfl | simp, bt HB1.out HBX.out⟩
              · have hn : ¬ n = n' := fun q => hpq ⟨hk, q⟩
                have f1 : (n == n') = false := by simpa using hn
                subst hk
                clear hpq
                go_wp2
                go_ret
                exact ⟨by first | rfl | simp, bt HB1.out HBX.out⟩
            · have HG : Hid (ev = false) := by
                show _ = _
                rw [HEV.out, Bool.eq_false_iff]
                exact fun q => hpq (ONE2.out.2 ⟨hc, hm, q⟩)
              subst hm
              clear hc
              rcases (Decidable.em (k = k')).symm with hk | hk
              · have f1 : (k == k') = false := by simpa using hk
                clear hpq
                go_wp2_with fail
                rw [← hw7]
                clear hw7
                refine (CE.out _).mono ?_
                rintro e w8 ⟨rfl, hb8⟩
                have HB8 := hid (bt HB7.out hb8)
                clear p0 p1 q0 q1 r1 r2 r3 hb8
                obtain ⟨p0, p1, q0, q1⟩ := SK.out _ HB8.out
                have hg := HG.out
                subst hg
                go_wp2
                go_ret
                exact ⟨by first | rfl | simp, bt HB1.out HB8.out⟩
              · have hn : ¬ n = n' := fun q => hpq ⟨hk, q⟩
                have f1 : (n == n') = false := by simpa using hn
                subst hk
                clear hpq
                go_wp2_with fail
                rw [← hw7]
                clear hw7
                refine (CE.out _).mono ?_
                rintro e w8 ⟨rfl, hb8⟩
                have HB8 := hid (bt HB7.out hb8)
                clear p0 p1 q0 q1 r1 r2 r3 hb8
                obtain ⟨p0, p1, q0, q1⟩ := SK.out _ HB8.out
                have hg := HG.out
                subst hg
                go_wp2
                go_ret
                exact ⟨by first | rfl | simp, bt HB1.out HB8.out⟩

end Rg
end Go.Proofs.YtaeljmiklalpnaaGreatDoor
