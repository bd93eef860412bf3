/-
  The walk of LexerPrefixes.
-/
import Derived.Test.YtdhemkcbaoebcaaDoorNear
import Derived.Test.YtdhemkcbaoebcaaDoorLm
namespace Go.Proofs.YtdhemkcbaoebcaaDoor
open Go.RowKit
namespace Lx

theorem src_size {t : Tk} {X : ByteArray} (hX : X = ⟨t.t.toArray⟩) : (srcS t.k X).size = (src t).length := by
  rw [hX, ← srcS_list t, s_len]

theorem reads_cap {w : World} {p : Option Addr} {n cap : Nat} {ts : List Tk} (h : Reads w (.slice p n cap) ts) (h0 : 0 < ts.length) : ts.length ≤ cap := by
  obtain ⟨p', cap', hv, hc⟩ := h
  cases hv
  obtain ⟨g, -, -, hl, -⟩ := hc h0
  exact hl

set_option maxRecDepth 100000 in
set_option maxHeartbeats 8000000 in
theorem lawPr_any (s : ByteArray) (x : Int) (w : World) (hs : s.size ≤ maxLen) (hx0 : 0 ≤ x) (hx1 : x ≤ 65535) (hT : Syms w) :
    Calls Tryd.prog 9 #[.string s, .int .u16 x] w fun e w' => e = .returned (.bool true) ∧ Below w.heap.size w w' := by
  have CH := hid (head_any w hT)
  have HT := hid hT
  have CM := small_any s
  clear hT
  by_cases h81 : s.size ≤ 8100
  · rw [decide_eq_true h81] at CM
    have CMh := hid CM
    clear CM
    have HS := hid hs
    have early : ∀ (E P : Int) (ts : List Tk), lexR s.data.toList = (ts, E, P) → (E ≠ 0 ∨ ts.length = 0) → Calls Tryd.prog 9 #[.string s, .int .u16 x] w fun e w' => e = .returned (.bool true) ∧ Below w.heap.size w w' := by
      intro E P ts hR hE
      have CL := hid (fun u (h : Syms u) => lex_c s u HS.out h hR)
      clear hR
      by_cases hE0 : E = 0
      · have h0 : ts.length = 0 := by omega
        have e1 : ((E : Int) != 0) = false := by rw [hE0]; rfl
        clear hE hE0
        go_enter Tryd.func9, Tryd.ntmps9
        go_wp2_with fail
        refine CH.out.mono ?_
        rintro e w1 ⟨rfl, hb1⟩
        go_wp2_with fail
        refine (CMh.out _).mono ?_
        rintro e w1' ⟨rfl, rfl⟩
        go_wp2_with fail
        refine (CL.out _ (HT.out.below hb1)).mono ?_
        rintro e w2 ⟨p, cap, rfl, hr, hb'⟩
        have hb2 := bt hb1 hb'
        clear hb' hr
        rw [h0]
        clear h0
        go_wp2
        go_ret
        exact ⟨rfl, hb2⟩
      · have e1 : ((E : Int) != 0) = true := by simp [hE0]
        clear hE hE0
        go_enter Tryd.func9, Tryd.ntmps9
        go_wp2_with fail
        refine CH.out.mono ?_
        rintro e w1 ⟨rfl, hb1⟩
        go_wp2_with fail
        refine (CMh.out _).mono ?_
        rintro e w1' ⟨rfl, rfl⟩
        go_wp2_with fail
        refine (CL.out _ (HT.out.below hb1)).mono ?_
        rintro e w2 ⟨p, cap, rfl, hr, hb'⟩
        have hb2 := bt hb1 hb'
        clear hb' hr
        go_wp2
        go_ret
        exact ⟨rfl, hb2⟩
    rcases lexR_ways s.data.toList with ⟨-, hR⟩ | ⟨hsl, h0, hR⟩ | ⟨-, er, j, he, hj, h10, h0, hR⟩
    · exact early 2 8000 [] hR (.inl (by decide))
    · obtain ⟨ts, hts⟩ : ∃ ts, ts = (lexL s.data.toList 0 0).1 := ⟨_, rfl⟩
      have hL : lexL s.data.toList 0 0 = (ts, 0, -1) := by rw [hts, ← h0]
      have hRR := hR.trans hL
      by_cases hz : ts.length = 0
      · exact early 0 (-1) ts hRR (.inr hz)
      · clear early
        have hcnt := (lex_count s.data.toList 0 0).1 (by omega)
        rw [hL] at hcnt
        simp only at hcnt
        have hcov := cov_top (l := s.data.toList) (by rw [hL])
        rw [hL] at hcov
        have CL := hid (fun u (h : Syms u) => lex_c s u HS.out h hRR)
        obtain ⟨i, hi⟩ : ∃ i : Nat, (i : Int) = x % (ts.length : Int) := ⟨(x % (ts.length : Int)).toNat, by have := Int.emod_nonneg x (b := (ts.length : Int)) (by omega); omega⟩
        have hil : i < ts.length := by have := Int.emod_lt_of_pos x (b := (ts.length : Int)) (by omega); omega
        obtain ⟨he1, he2⟩ := cov_end s.data.toList ts 0 hcov i hil
        rw [s_len] at he1
        obtain ⟨X, hX⟩ : ∃ X : ByteArray, X = ⟨(ts[i].t).toArray⟩ := ⟨_, rfl⟩
        have hZ := src_size hX
        obtain ⟨j, hj⟩ : ∃ j, j = ts[i].p + (src ts[i]).length := ⟨_, rfl⟩
        have hRj := pr_take (l := s.data.toList) (i := i) (j := j) hsl (by rw [hL]; exact hil) (by rw [hj]; simp only [hL])
        rw [hL, ← ex_take] at hRj
        simp only at hRj
        have CT := hid (fun u (h : Syms u) => lex_c (s.extract 0 j) u (Nat.le_trans (ex_size _ _ _) HS.out) h hRj)
        have hXs : X.size ≤ 100000 := by
          have := srcS_size ts[i].k X
          have : X.data.toList.length = ts[i].t.length := by rw [hX]
          have h7 : (src ts[i]).length ≥ ts[i].t.length := by
            unfold src; split
            · simp; omega
            · exact Nat.le_refl _
          rw [s_len] at this
          omega
        have CSr := fun u => source_any ts[i].k ts[i].p X u hXs
        have hHX := hid hX
        obtain ⟨P, hP⟩ : ∃ P, P = ts[i].p := ⟨_, rfl⟩
        obtain ⟨K, hK⟩ : ∃ K, K = ts[i].k := ⟨_, rfl⟩
        obtain ⟨Z, hZe⟩ : ∃ Z, Z = srcS ts[i].k X := ⟨_, rfl⟩
        rw [← hZe] at hZ CSr
        rw [← hP] at he1 hj CSr
        rw [← hK] at CSr
        have hwr : IntKind.i64.wrap ((P : Int) + (Z.size : Int)) = (j : Int) := by rw [IntWalk.i64_in _ (by omega)]; omega
        have HP := hid hP
        have HK := hid hK
        have HX := hid hX
        have CSh := hid CSr
        have hj0 : 0 ≤ (j : Int) := by omega
        have hj1 : (j : Int) ≤ (s.size : Int) := by omega
        have hj2 : j ≤ s.size := by omega
        have hlen0 : ((ts.length : Int) == 0) = false := by rw [beq_eq_false_iff_ne]; omega
        have hi2 : x % (ts.length : Int) = (i : Int) := hi.symm
        have hi3 : (i : Int) < (ts.length : Int) := by omega
        have hi4 : 0 ≤ (i : Int) := by omega
        have hn0 : (ts.length : Int) ≠ 0 := by omega
        clear hR h0 hL hRR hts hz hcov hRj hX hHX hP hK hZe CSr hZ hj he1 he2 hi hs hsl
        go_enter Tryd.func9, Tryd.ntmps9
        go_wp2_with fail
        refine CH.out.mono ?_
        rintro e w1 ⟨rfl, hb1⟩
        go_wp2_with fail
        refine (CMh.out _).mono ?_
        rintro e w1' ⟨rfl, rfl⟩
        go_wp2_with fail
        refine (CL.out _ (HT.out.below hb1)).mono ?_
        rintro e w2 ⟨p, cap, rfl, hr, hb'⟩
        have hb2 := bt hb1 hb'
        have hcap := reads_cap hr.out (by omega)
        obtain ⟨g, rfl, hg, c0, c1, c2⟩ := hr.out.at hil
        rw [← HK.out] at c0
        rw [← HX.out] at c1
        rw [← HP.out] at c2
        have d0 : ∀ u : Near w2, u.w.cell? ⟨g, i * 3, none⟩ = some (.int .i64 (K : Int)) := fun u => (u.below.cell (p := (⟨g, i * 3, none⟩ : Addr)) hg).trans c0
        have d1 : ∀ u : Near w2, u.w.cell? ⟨g, i * 3 + 1, none⟩ = some (.string X) := fun u => (u.below.cell (p := (⟨g, i * 3 + 1, none⟩ : Addr)) hg).trans c1
        have d2 : ∀ u : Near w2, u.w.cell? ⟨g, i * 3 + 2, none⟩ = some (.int .i64 (P : Int)) := fun u => (u.below.cell (p := (⟨g, i * 3 + 2, none⟩ : Addr)) hg).trans c2
        have D5 := hid (fun (u : Near w2) => near_calls u (CSh.out u.w))
        clear hb' c0 c1 c2
        go_wp2
        refine wp_region_near (wM := w2) (by kernel_rfl) (by kernel_rfl) (Below.refl _ _) ?_
        repeat (go_big_quiet_step ((go_at_call 15; with_reducible exact D5.out _)))
        refine wpQuiet_nil ?_
        rintro _ ⟨u, rfl⟩
        clear hwr d0 d1 d2
        have hb3 := bt hb2 u.below
        go_wp2_with fail
        refine (CT.out _ (HT.out.below hb3)).mono ?_
        rintro e w4 ⟨p4, cap4, rfl, hr4, hb'⟩
        have hb4 := bt hb3 hb'
        have hr2 := hid ((hr.out.on u.below).on hb')
        clear hb'
        have hl4 : (ts.take (i + 1)).length = i + 1 := by rw [List.length_take]; omega
        have hr5 := hid (hr2.out.take (m := i + 1) (by omega))
        have CSm := hid (same_any _ _ (ts.take (i + 1)) w4 hr4.out hr5.out (by omega))
        rw [hl4] at CSm
        rw [hl4]
        clear hr4 hr2 hr5 hr hl4
        go_wp2_with fail
        refine CSm.out.mono ?_
        rintro e w5 ⟨rfl, hb'⟩
        have hb5 := bt hb4 hb'
        clear hb'
        go_wp2
        go_ret
        exact ⟨rfl, hb5⟩
    · exact early er j [] hR (.inl (by omega))
  · rw [decide_eq_false h81] at CM
    have CMh := hid CM
    clear CM
    go_enter Tryd.func9, Tryd.ntmps9
    go_wp2_with fail
    refine CH.out.mono ?_
    rintro e w1 ⟨rfl, hb1⟩
    go_wp2_with fail
    refine (CMh.out _).mono ?_
    rintro e w1' ⟨rfl, rfl⟩
    go_wp2
    go_ret
    exact ⟨rfl, hb1⟩

end Lx
end Go.Proofs.YtdhemkcbaoebcaaDoor
