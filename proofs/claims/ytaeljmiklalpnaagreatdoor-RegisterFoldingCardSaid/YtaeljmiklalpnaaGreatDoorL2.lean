/-
  RegisterFolding: the law's walk, over what turned answers.
-/
import Derived.Test.YtaeljmiklalpnaaGreatDoorQl
namespace Go.Proofs.YtaeljmiklalpnaaGreatDoor
open Go.RowKit Go.ChangeMaps Gn
namespace Rg

def TurnedOk : Prop := ∀ (x : W) (bits : Int) (w : World), 0 ≤ bits → bits ≤ 4294967295 → x.length ≤ 100 → Calls Tryz.prog 19 #[.string (sB x), .int .u32 bits] w fun e w' => ∃ y, e = .returned (.string (sB y)) ∧ eqW x y = true ∧ y.length = x.length ∧ Below w.heap.size w w'
set_option maxRecDepth 100000 in
set_option maxHeartbeats 8000000 in
theorem law_folding (HD : HeadOk) (TO : TurnedOk) (r : List Ch) (day num bits : Int) (pe st co to' other : W) (rv : Value) (w : World) (hr : IsChs w rv r) (ht : Tb w) (hb1 : 0 ≤ bits) (hb2 : bits ≤ 4294967295) :
    Calls Tryz.prog 7 #[rv, .int .i64 day, .agg #[.string (sB pe), .string (sB st), .int .i64 num, .string (sB co), .string (sB to')], .int .u32 bits, .string (sB other)] w fun e w' => e = .returned (.bool true) ∧ Below w.heap.size w w' := by
  obtain ⟨tp, htp⟩ : ∃ x, x = sB pe := ⟨_, rfl⟩
  obtain ⟨ts, hts⟩ : ∃ x, x = sB st := ⟨_, rfl⟩
  obtain ⟨tc, htc⟩ : ∃ x, x = sB co := ⟨_, rfl⟩
  obtain ⟨tt, htt⟩ : ∃ x, x = sB to' := ⟨_, rfl⟩
  obtain ⟨tq, htq⟩ : ∃ x, x = sB other := ⟨_, rfl⟩
  rw [← htp, ← hts, ← htc, ← htt, ← htq]
  have HP := hid htp
  have HS := hid hts
  have HC := hid htc
  have HTO := hid htt
  have HQ := hid htq
  have hsz : ts.size = st.length := by rw [hts]; exact sB_size st
  have TO := fun x w hx => TO x bits w hb1 hb2 hx
  clear hb1 hb2
  obtain ⟨w1, hw1⟩ : ∃ u, u = w.alloc (.cells #[.string tp, .string ts, .int .i64 num, .string tc, .string tt] 37) := ⟨_, rfl⟩
  have HB1 : Hid (Below w.heap.size w w1) := by show Below _ _ _; rw [hw1]; exact b0 _ _
  have HX1 : Hid (w1.heap[w.heap.size]? = some (.cells #[.string tp, .string ts, .int .i64 num, .string tc, .string tt] 37 (0, 0))) := by show _ = _; rw [hw1]; exact heap_new _ _
  have SK : Hid (∀ u, Below w1.heap.size w1 u → (u.cell? ⟨w.heap.size, 0, none⟩ = some (.string tp) ∧ u.cell? ⟨w.heap.size, 1, none⟩ = some (.string ts) ∧ u.cell? ⟨w.heap.size, 2, none⟩ = some (.int .i64 num) ∧ u.cell? ⟨w.heap.size, 3, none⟩ = some (.string tc) ∧ u.cell? ⟨w.heap.size, 4, none⟩ = some (.string tt)) ∧
      u.frozen? ⟨w.heap.size, 0, none⟩ = false ∧ u.frozen? ⟨w.heap.size, 1, none⟩ = false ∧ u.frozen? ⟨w.heap.size, 2, none⟩ = false ∧ u.frozen? ⟨w.heap.size, 3, none⟩ = false ∧ u.frozen? ⟨w.heap.size, 4, none⟩ = false) := fun u hu => by
    have h1 := (hu.block _ (heap_lt HX1.out)).trans HX1.out
    refine ⟨⟨?_, ?_, ?_, ?_, ?_⟩, free_at (i := 0) h1 rfl, free_at (i := 1) h1 rfl, free_at (i := 2) h1 rfl, free_at (i := 3) h1 rfl, free_at (i := 4) h1 rfl⟩ <;> (rw [cell_at h1]; rfl)
  have HR := hid hr
  have HT := hid ht
  clear hr ht htp hts htc htt htq
  go_enter Tryz.func7, Tryz.ntmps7
  go_wp2_with fail
  rw [← hw1]
  clear hw1
  refine (HD w1 (HT.out.on HB1.out)).mono ?_
  rintro e w2 ⟨rfl, hb2⟩
  have HB2 := hid hb2
  clear hb2
  go_wp2_with fail
  refine (rsound_any r rv w2 (HR.out.on (bt HB1.out HB2.out)) clash_ok).mono ?_
  rintro e w3 ⟨b, rfl, hb3, hS⟩
  have HB3 := hid (bt HB2.out hb3)
  have HSS := hid hS
  clear hb3 hS
  obtain ⟨⟨p0, p1, p2, p3, p4⟩, -⟩ := SK.out _ HB3.out
  cases b
  · clear HSS
    go_wp2
    go_ret
    exact ⟨rfl, bt HB1.out HB3.out⟩
  · have HSD := hid (HSS.out rfl)
    clear HSS
    by_cases h100 : st.length ≤ 100
    · have e1 : decide ((st.length : Int) > 100) = false := decide_eq_false (by omega)
      have e2 : ¬ 100 < st.length := by omega
      go_wp2_with fail
      have CF := pfind_any r day num pe st co to' rv w3 (HR.out.on (bt HB1.out HB3.out)) HSD.out (HT.out.on (bt HB1.out HB3.out)) (by omega)
      rw [← HP.out, ← HS.out, ← HC.out, ← HTO.out] at CF
      refine CF.mono ?_
      rintro e w4 ⟨rfl, hb4⟩
      have HB4 := hid (bt HB3.out hb4)
      obtain ⟨o, ho⟩ : ∃ o, o = findR (atL r day) co st num := ⟨_, rfl⟩
      rw [← ho]
      have HO := hid ho
      have TO := hid (fun u => TO st u h100)
      rw [← HS.out] at TO
      clear ho hb4 p0 p1 p2 p3 p4 CF
      rcases o with _ | ⟨i, n⟩
      · simp only [ptV, ptE]
        obtain ⟨w5, hw5⟩ : ∃ u, u = w4.alloc (.cells #[.int .i64 0, .int .i64 0] 35) := ⟨_, rfl⟩
        have HB5 : Hid (Below w1.heap.size w1 w5) := by
          show Below _ _ _
          rw [hw5]
          exact HB4.out.alloc HB4.out.size _
        have hx5 : w5.heap[w4.heap.size]? = some (.cells #[.int .i64 0, .int .i64 0] 35 (0, 0)) := by rw [hw5]; exact heap_new _ _
        obtain ⟨⟨p0, p1, p2, p3, p4⟩, -⟩ := SK.out _ HB5.out
        rw [hw5] at p0 p1 p2 p3 p4
        go_wp2_with fail
        rw [← hw5]
        clear hw5 p0 p1 p2 p3 p4
        refine (TO.out w5).mono ?_
        rintro e w6 ⟨y, rfl, hy, hyl, hb6⟩
        have HB6 := hid (bt HB5.out hb6)
        have hx6 := (hb6.block _ (heap_lt hx5)).trans hx5
        have HB4S : Hid (w.heap.size < w4.heap.size) := Nat.lt_of_lt_of_le (heap_lt HX1.out) HB4.out.size
        obtain ⟨ty, hty⟩ : ∃ x, x = sB y := ⟨_, rfl⟩
        rw [← hty]
        have HTY := hid hty
        obtain ⟨⟨p0, p1, p2, p3, p4⟩, z0, z1, z2, z3, z4⟩ := SK.out _ HB6.out
        clear hx5 hb6 hty
        go_wp2_with fail
        obtain ⟨w7, hw7⟩ : ∃ u, u = ((w6.setCell ⟨w.heap.size, 1, none⟩ (.string ty)).setCell ⟨w.heap.size, 0, none⟩ (.string tq)).setCell ⟨w.heap.size, 4, none⟩ (.string tq) := ⟨_, rfl⟩
        rw [← hw7]
        have HB7 : Hid (Below w.heap.size w w7) := by
          show Below _ _ _
          rw [hw7]
          exact (((bt HB1.out HB6.out).setCell (Nat.le_refl _) _).setCell (Nat.le_refl _) _).setCell (Nat.le_refl _) _
        have hx7 : w7.heap[w4.heap.size]? = some (.cells #[.int .i64 0, .int .i64 0] 35 (0, 0)) := by
          have := HB4S.out
          rw [hw7, Below.heap_setCell _ _ _ _ (by show w4.heap.size ≠ w.heap.size; omega), Below.heap_setCell _ _ _ _ (by show w4.heap.size ≠ w.heap.size; omega), Below.heap_setCell _ _ _ _ (by show w4.heap.size ≠ w.heap.size; omega)]
          exact hx6
        clear hw7 p0 p1 p2 p3 p4 z0 z1 z2 z3 z4 hx6
        have CF := pfind_any r day num other y co other rv w7 (HR.out.on HB7.out) HSD.out (HT.out.on HB7.out) (by omega)
        rw [← find_fold hy, ← HO.out, ← HTY.out, ← HQ.out, ← HC.out] at CF
        refine CF.mono ?_
        rintro e w8 ⟨rfl, hb8⟩
        simp only [ptV, ptE]
        obtain ⟨w9, hw9⟩ : ∃ u, u = w8.alloc (.cells #[.int .i64 0, .int .i64 0] 35) := ⟨_, rfl⟩
        have hx8 := (hb8.block _ (heap_lt hx7)).trans hx7
        have hx9 : w9.heap[w4.heap.size]? = some (.cells #[.int .i64 0, .int .i64 0] 35 (0, 0)) := by rw [hw9, (b0 w8 _).block _ (heap_lt hx8)]; exact hx8
        obtain ⟨⟨c0, c1⟩, -⟩ := blk2 hx9
        rw [hw9] at c0 c1
        have HB9 := hid ((bt HB7.out hb8).alloc (bt HB7.out hb8).size (.cells #[.int .i64 0, .int .i64 0] 35))
        clear hx7 hx8 hx9 hw9 hb8
        go_wp2
        go_ret
        exact ⟨by first | rfl | simp, HB9.out⟩
      · simp only [ptV, ptE]
        obtain ⟨w5, hw5⟩ : ∃ u, u = w4.alloc (.cells #[.int .i64 (i : Int), .int .i64 n] 35) := ⟨_, rfl⟩
        have HB5 : Hid (Below w1.heap.size w1 w5) := by
          show Below _ _ _
          rw [hw5]
          exact HB4.out.alloc HB4.out.size _
        have hx5 : w5.heap[w4.heap.size]? = some (.cells #[.int .i64 (i : Int), .int .i64 n] 35 (0, 0)) := by rw [hw5]; exact heap_new _ _
        obtain ⟨⟨p0, p1, p2, p3, p4⟩, -⟩ := SK.out _ HB5.out
        rw [hw5] at p0 p1 p2 p3 p4
        go_wp2_with fail
        rw [← hw5]
        clear hw5 p0 p1 p2 p3 p4
        refine (TO.out w5).mono ?_
        rintro e w6 ⟨y, rfl, hy, hyl, hb6⟩
        have HB6 := hid (bt HB5.out hb6)
        have hx6 := (hb6.block _ (heap_lt hx5)).trans hx5
        have HB4S : Hid (w.heap.size < w4.heap.size) := Nat.lt_of_lt_of_le (heap_lt HX1.out) HB4.out.size
        obtain ⟨ty, hty⟩ : ∃ x, x = sB y := ⟨_, rfl⟩
        rw [← hty]
        have HTY := hid hty
        obtain ⟨⟨p0, p1, p2, p3, p4⟩, z0, z1, z2, z3, z4⟩ := SK.out _ HB6.out
        clear hx5 hb6 hty
        go_wp2_with fail
        obtain ⟨w7, hw7⟩ : ∃ u, u = ((w6.setCell ⟨w.heap.size, 1, none⟩ (.string ty)).setCell ⟨w.heap.size, 0, none⟩ (.string tq)).setCell ⟨w.heap.size, 4, none⟩ (.string tq) := ⟨_, rfl⟩
        rw [← hw7]
        have HB7 : Hid (Below w.heap.size w w7) := by
          show Below _ _ _
          rw [hw7]
          exact (((bt HB1.out HB6.out).setCell (Nat.le_refl _) _).setCell (Nat.le_refl _) _).setCell (Nat.le_refl _) _
        have hx7 : w7.heap[w4.heap.size]? = some (.cells #[.int .i64 (i : Int), .int .i64 n] 35 (0, 0)) := by
          have := HB4S.out
          rw [hw7, Below.heap_setCell _ _ _ _ (by show w4.heap.size ≠ w.heap.size; omega), Below.heap_setCell _ _ _ _ (by show w4.heap.size ≠ w.heap.size; omega), Below.heap_setCell _ _ _ _ (by show w4.heap.size ≠ w.heap.size; omega)]
          exact hx6
        clear hw7 p0 p1 p2 p3 p4 z0 z1 z2 z3 z4 hx6
        have CF := pfind_any r day num other y co other rv w7 (HR.out.on HB7.out) HSD.out (HT.out.on HB7.out) (by omega)
        rw [← find_fold hy, ← HO.out, ← HTY.out, ← HQ.out, ← HC.out] at CF
        refine CF.mono ?_
        rintro e w8 ⟨rfl, hb8⟩
        simp only [ptV, ptE]
        obtain ⟨w9, hw9⟩ : ∃ u, u = w8.alloc (.cells #[.int .i64 (i : Int), .int .i64 n] 35) := ⟨_, rfl⟩
        have hx8 := (hb8.block _ (heap_lt hx7)).trans hx7
        have hx9 : w9.heap[w4.heap.size]? = some (.cells #[.int .i64 (i : Int), .int .i64 n] 35 (0, 0)) := by rw [hw9, (b0 w8 _).block _ (heap_lt hx8)]; exact hx8
        obtain ⟨⟨c0, c1⟩, -⟩ := blk2 hx9
        rw [hw9] at c0 c1
        have HB9 := hid ((bt HB7.out hb8).alloc (bt HB7.out hb8).size (.cells #[.int .i64 (i : Int), .int .i64 n] 35))
        clear hx7 hx8 hx9 hw9 hb8
        go_wp2
        go_ret
        exact ⟨by first | rfl | simp, HB9.out⟩
    · have e1 : decide ((st.length : Int) > 100) = true := decide_eq_true (by omega)
      have e2 : 100 < st.length := by omega
      clear h100
      go_wp2
      go_ret
      exact ⟨rfl, bt HB1.out HB3.out⟩

end Rg
end Go.Proofs.YtaeljmiklalpnaaGreatDoor
