/-
  RegisterAliases: the law's walk.
-/
import Derived.Test.YtaeljmiklalpnaaGreatDoorQl
import Derived.Test.YtaeljmiklalpnaaGreatDoorQc
import Derived.Test.YtaeljmiklalpnaaGreatDoorM7
import Derived.BigQuiet
namespace Go.Proofs.YtaeljmiklalpnaaGreatDoor
open Go.RowKit Go.ChangeMaps Gn
namespace Rg

set_option maxRecDepth 100000 in
set_option maxHeartbeats 16000000 in
theorem law_aliases (HD : HeadOk) (r : List Ch) (day k n : Int) (rv : Value) (w : World) (hr : IsChs w rv r) (ht : Tb w) (hn1 : -9223372036854775808 ≤ n) (hn2 : n ≤ 9223372036854775807) :
    Calls Tryz.prog 8 #[rv, .int .i64 day, .agg #[.int .i64 k, .int .i64 n]] w fun e w' => e = .returned (.bool true) ∧ Below w.heap.size w w' := by
  obtain ⟨w1, hw1⟩ : ∃ u, u = w.alloc (.cells #[.int .i64 k, .int .i64 n] 35) := ⟨_, rfl⟩
  have HB1 : Hid (Below w.heap.size w w1) := by show Below _ _ _; rw [hw1]; exact b0 _ _
  have HX1 : Hid (w1.heap[w.heap.size]? = some (.cells #[.int .i64 k, .int .i64 n] 35 (0, 0))) := by show _ = _; rw [hw1]; exact heap_new _ _
  have SK : Hid (∀ u, Below w1.heap.size w1 u → u.cell? ⟨w.heap.size, 0, none⟩ = some (.int .i64 k) ∧ u.cell? ⟨w.heap.size, 1, none⟩ = some (.int .i64 n)) := fun u hu => by
    have h1 := (hu.block _ (heap_lt HX1.out)).trans HX1.out
    exact ⟨by rw [cell_at h1]; rfl, by rw [cell_at h1]; rfl⟩
  have HR := hid hr
  have HT := hid ht
  clear hr ht
  go_enter Tryz.func8, Tryz.ntmps8
  go_wp2_with fail
  rw [← hw1]
  clear hw1
  refine (HD w1 (HT.out.on HB1.out)).mono ?_
  rintro e w2 ⟨rfl, hb2⟩
  have HB2 := hid hb2
  clear hb2
  go_wp2_with fail
  refine (rsound_any r rv w2 (HR.out.on (bt HB1.out HB2.out)) clash_ok).mono ?_
  rintro e w3 ⟨b, rfl, hb3, hS⟩
  have HB3 := hid (bt HB2.out hb3)
  have HSS := hid hS
  clear hb3 hS
  cases b
  · clear HSS
    go_wp2
    go_ret
    exact ⟨rfl, bt HB1.out HB3.out⟩
  · have HSD := hid (HSS.out rfl)
    clear HSS
    obtain ⟨p0, p1⟩ := SK.out _ HB3.out
    go_wp2_with fail
    clear p0 p1
    refine (pname_any r day k n rv w3 (HR.out.on (bt HB1.out HB3.out)) HSD.out (HT.out.on (bt HB1.out HB3.out)) hn1 hn2).mono ?_
    rintro e w4 ⟨rfl, hb⟩
    obtain ⟨o1, ho1⟩ : ∃ o, o = nameR (atL r day) k n := ⟨_, rfl⟩
    rw [← ho1]
    have HO1 := hid ho1
    obtain ⟨q1p, q1a, q1m, q1c, q1t, hq1, hqs1⟩ := adV_parts o1
    rw [hq1]
    have HQ1 := hid hqs1
    obtain ⟨E1, hE1⟩ : ∃ x, x = adE o1 := ⟨_, rfl⟩
    rw [← hE1]
    have HE1 := hid hE1
    have HB4 := hid (bt HB3.out hb)
    clear ho1 hq1 hqs1 hE1 hb
    obtain ⟨w5, hw5⟩ : ∃ u, u = w4.alloc (.cells #[.string q1p, .string q1a, .int .i64 q1m, .string q1c, .string q1t] 37) := ⟨_, rfl⟩
    have HB5 : Hid (Below w1.heap.size w1 w5) := by
      show Below _ _ _
      rw [hw5]
      exact HB4.out.alloc HB4.out.size _
    have HX5 : Hid (w5.heap[w4.heap.size]? = some (.cells #[.string q1p, .string q1a, .int .i64 q1m, .string q1c, .string q1t] 37 (0, 0))) := by show _ = _; rw [hw5]; exact heap_new _ _
    go_wp2_with fail
    rw [← hw5]
    clear hw5
    refine (pat_own r day rv w5 (HR.out.on (bt HB1.out HB5.out)) HSD.out (HT.out.on (bt HB1.out HB5.out))).mono ?_
    rintro e w6 ⟨v, vs, B, rfl, hv, hBB, hb6⟩
    have HV := hid hv
    have HB6 := hid (bt HB5.out hb6)
    have HX6 := hid ((hb6.block _ (heap_lt HX5.out)).trans HX5.out)
    have HBB := hid hBB
    clear hv hBB hb6
    rcases o1 with _ | x1
    · have hE : E1 = 3 := HE1.out
      subst hE
      go_wp2
      go_ret
      exact ⟨rfl, bt HB1.out HB6.out⟩
    · have hE : E1 = 0 := HE1.out
      subst hE
      clear HE1
      obtain ⟨hk0, s, hs, _, _, _, ex⟩ := name_some HO1.out.symm
      obtain ⟨kk, hkk⟩ : ∃ kk : Nat, k = kk := ⟨k.toNat, by omega⟩
      subst hkk
      rw [Int.toNat_natCast] at hs
      obtain ⟨L, hL⟩ : ∃ L, L = atL r day := ⟨_, rfl⟩
      rw [← hL] at HV HO1 hs
      have hkl := (List.getElem?_eq_some_iff.1 hs).1
      have hu : vs[kk]? = some (vs[kk]'(by rw [HV.out.len]; exact hkl)) := List.getElem?_eq_getElem _
      obtain ⟨u, hue⟩ : ∃ u, u = vs[kk]'(by rw [HV.out.len]; exact hkl) := ⟨_, rfl⟩
      rw [← hue] at hu
      obtain ⟨g, cap, hvv, hgB, hgl, hgc, -⟩ := own_cut HV.out.row (by omega)
      have hals := HV.out.als kk s u hs hu
      obtain ⟨aA, ac, huu⟩ := own_shape hals
      have HAL : Hid (∀ (i : Nat) (y : W), s.al[i]? = some y → ∃ ga, aA = some ⟨ga, 0, none⟩ ∧ B ≤ ga ∧ ga < w6.heap.size ∧ w6.cell? ⟨ga, i, none⟩ = some (.string (sB y))) := fun i y hy => by
        have hil := (List.getElem?_eq_some_iff.1 hy).1
        obtain ⟨ga, c, e, h1, h2, h3, -⟩ := own_cut hals (by omega)
        rw [huu] at e
        cases e
        exact ⟨ga, rfl, h1, h2, h3 i _ (by rw [List.getElem?_map, hy]; rfl)⟩
      have HC2 : Hid (w6.cell? ⟨g, kk * 8 + 2, none⟩ = some (.string (sB s.name))) := hgc _ _ ((cellsS_at hs hu 2 (by omega)).trans rfl)
      have HC3 : Hid (w6.cell? ⟨g, kk * 8 + 3, none⟩ = some (.slice aA s.al.length ac)) := hgc _ _ (by rw [← huu]; exact (cellsS_at hs hu 3 (by omega)).trans rfl)
      have hfew : L.length ≤ 1000 := by
        have := run_few (r.take (atN r day)); have h2 := HSD.out.few
        have h3 := atN_le r day
        rw [List.length_take] at this
        rw [hL]
        unfold atL; omega
      have hgs := (HSD.out.atInv day).good s (by rw [← hL]; exact List.mem_of_getElem? hs)
      have HAS : Hid (∀ y ∈ s.al, y.length ≤ 100000) := fun y hy => by
        have := name_len (hgs.al y hy)
        omega
      have HFA := hid (al_few (r.take (atN r day)) s (by have := List.mem_of_getElem? hs; rw [hL] at this; exact this))
      have hna : s.al.length ≤ 1000 := by
        have h1 := HFA.out
        have h2 := HSD.out.few
        rw [List.length_take] at h1
        omega
      obtain ⟨r1p, r1a, r1m, r1c, r1t⟩ := HQ1.out.1 x1 rfl
      have h1a : q1a = sB s.name := by rw [r1a, ex]
      have HW := hid (And.intro r1p (And.intro r1m (And.intro r1c r1t)))
      have HS := hid hs
      have HLL := hid hL
      obtain ⟨ln, hln⟩ : ∃ x, x = L.length := ⟨_, rfl⟩
      rw [← hln] at hvv hkl hfew
      subst hvv h1a
      obtain ⟨na, hnn⟩ : ∃ x, x = s.al.length := ⟨_, rfl⟩
      rw [← hnn] at HC3 hna
      have HNA := hid hnn
      have hgS : g ≠ w4.heap.size := by
        intro e
        have h := HX5.out
        have h1 := heap_lt h
        have := HBB.out
        omega
      have HGS := hid hgS
      have HGL := hid hgl
      clear hnn hln hs hL hu hue hals huu hgs ex r1p r1a r1m r1c r1t hgc HFA hk0 hgS hgB
      have hkk0 : 0 ≤ (kk : Int) := by omega
      have hkk1 : (kk : Int) < (ln : Int) := by omega
      obtain ⟨p0, p1⟩ := SK.out _ HB6.out
      obtain ⟨⟨a0, a1, a2, a3, a4⟩, -⟩ := blk5 HX6.out
      have c2 := HC2.out
      have f1 : decide ((kk : Int) < 0) = false := decide_eq_false (by omega)
      have f2 : decide ((kk : Int) ≥ (ln : Int)) = false := decide_eq_false (by omega)
      have f3 : decide (kk ≥ ln) = false := decide_eq_false (by omega)
      go_wp2_with fail
      go_quiet (fail)
      clear f1 f2 f3 p0 p1 a0 a1 a2 a3 a4 c2
      go_wp2_with fail
      go_loopw [11] (fun s11 wr => ∃ (i : Nat) (ta : ByteArray), s11 = .int .i64 (i : Int) ∧ i ≤ na ∧ Hid (Kept w6.heap.size w4.heap.size w6 wr) ∧ Hid (wr.heap[w4.heap.size]? = some (.cells #[.string q1p, .string ta, .int .i64 q1m, .string q1c, .string q1t] 37 (0, 0))) ∧ Hid (Below w1.heap.size w1 wr)) (fun s11 _ => na - (intOf s11).toNat)
      case atStart => exact ⟨0, _, rfl, Nat.zero_le _, (Kept.refl _ _ _).drewN _, HX6.out, below_drewN' HB6.out _⟩
      case round =>
        obtain ⟨i, ta, rfl, hi, hK, hX, hB⟩ := hrel
        have hi0 : 0 ≤ (i : Int) := by omega
        obtain ⟨p0, p1⟩ := SK.out _ hB.out
        obtain ⟨⟨a0, a1, a2, a3, a4⟩, z0, z1, z2, z3, z4⟩ := blk5 hX.out
        have c3 := (cell_block (hK.out.block g HGL.out HGS.out) (kk * 8 + 3)).trans HC3.out
        by_cases hlt : i < na
        · obtain ⟨y, hy⟩ : ∃ y, s.al[i]? = some y := ⟨_, List.getElem?_eq_getElem (by have := HNA.out; omega)⟩
          obtain ⟨ga, hga, hgaB, hgal, cy⟩ := HAL.out i y hy
          have cy := (cell_block (hK.out.block ga hgal (fun e => by
            have h1 := heap_lt HX5.out
            have := HBB.out
            omega)) i).trans cy
          have hyl := HAS.out y (List.mem_of_getElem? hy)
          have hin : (i : Int) < (na : Int) := by omega
          have CF := fun W hW => pfind_any r day x1.2.1 [] y x1.2.2.1 x1.2.2.2 rv W (HR.out.on hW) HSD.out (HT.out.on hW) hyl
          have hfnd := find_name (HSD.out.atInv day) (by rw [← HLL.out]; exact HO1.out.symm : nameR (atL r day) (kk : Int) n = some x1) (z := y) (fun s' hs' => by
            rw [← HLL.out, Int.toNat_natCast, HS.out] at hs'
            cases hs'
            exact named_al (List.mem_of_getElem? hy))
          rw [Int.toNat_natCast] at hfnd
          rw [hfnd] at CF
          obtain ⟨ty, hty⟩ : ∃ x, x = sB y := ⟨_, rfl⟩
          rw [← hty] at cy CF
          rw [← HW.out.2.1, ← HW.out.2.2.1, ← HW.out.2.2.2, show sB [] = q1p from HW.out.1.symm] at CF
          have CF := hid CF
          subst hga
          clear hfnd hy hty hgaB hgal hyl
          go_wp2_with fail
          obtain ⟨W, hW⟩ : ∃ W, W = wr.setCell ⟨w4.heap.size, 1, none⟩ (.string ty) := ⟨_, rfl⟩
          rw [← hW]
          have hXW : W.heap[w4.heap.size]? = some (.cells #[.string q1p, .string ty, .int .i64 q1m, .string q1c, .string q1t] 37 (0, 0)) := by rw [hW]; exact set_blk hX.out 1 _
          have HBW : Hid (Below w1.heap.size w1 W) := by
            show Below _ _ _
            rw [hW]
            exact hB.out.setCell (by show w1.heap.size ≤ w4.heap.size; exact HB4.out.size) _
          have HKW : Hid (Kept w6.heap.size w4.heap.size w6 W) := by
            show Kept _ _ _ _
            rw [hW]
            exact hK.out.set 1 _
          clear hW p0 p1 a0 a1 a2 a3 a4 z0 z1 z2 z3 z4 c3 cy
          refine (CF.out W (bt HB1.out HBW.out)).mono ?_
          rintro e w8 ⟨rfl, hb8⟩
          simp only [ptV, ptE]
          have HB9 : Hid (Below w1.heap.size w1 (w8.alloc (.cells #[.int .i64 (kk : Int), .int .i64 n] 35))) := (bt HBW.out hb8).alloc (bt HBW.out hb8).size _
          have HK9 : Hid (Kept w6.heap.size w4.heap.size w6 (w8.alloc (.cells #[.int .i64 (kk : Int), .int .i64 n] 35))) := (HKW.out.trans (Kept.of (hb8.mono HKW.out.size))).alloc (Nat.le_trans HKW.out.size hb8.size) _
          have HX9 : Hid ((w8.alloc (.cells #[.int .i64 (kk : Int), .int .i64 n] 35)).heap[w4.heap.size]? = some (.cells #[.string q1p, .string ty, .int .i64 q1m, .string q1c, .string q1t] 37 (0, 0))) := by
            show _ = _
            have h := (hb8.block _ (heap_lt hXW)).trans hXW
            exact ((b0 w8 _).block _ (heap_lt h)).trans h
          obtain ⟨p0, p1⟩ := SK.out _ HB9.out
          clear hXW hb8
          go_wp2_with fail
          go_roundw
          case rel => exact ⟨i + 1, ty, by go_num, by omega, HK9, HX9, HB9⟩
          case measure => simp [intOf]; omega
        · go_wp2
          go_ret
          exact ⟨rfl, bt HB1.out hB.out⟩

end Rg
end Go.Proofs.YtaeljmiklalpnaaGreatDoor
