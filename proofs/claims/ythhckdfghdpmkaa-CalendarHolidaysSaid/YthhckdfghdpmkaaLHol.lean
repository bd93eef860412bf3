/-
  The walk of CalendarHolidays.
-/
import Derived.Test.YthhckdfghdpmkaaLCounts
import Derived.Test.YthhckdfghdpmkaaAdded
import Derived.RangeFuncBox
import Derived.Lib.SmallJoins
namespace Go.Proofs.Ythhckdfghdpmkaa
open Go.RowKit
namespace Cl
open Go.WideShapes (add_plain)

theorem cal_row {w : World} {base : Nat} {aw ah : Option Addr} {wk : List Bool} {hs hs' : List Int} {v : Value} (hC : Cal w.heap.size w aw ah wk hs) (h0 : 0 < hs'.length) (hl : hs'.length ≤ maxLen) (hr : w.ownsRow base 3 1 v hs'.length (hs'.map (Value.int .i64))) :
    ∃ g cap, v = .slice (some ⟨g, 0, none⟩) hs'.length cap ∧ Cal w.heap.size w aw (some ⟨g, 0, none⟩) wk hs' := by
  obtain ⟨g, cap, rfl, hb, hlt⟩ : ∃ g cap, v = .slice (some ⟨g, 0, none⟩) hs'.length cap ∧ base ≤ g ∧ g < w.heap.size := by
    rcases hr.2 with ⟨_, h⟩ | ⟨g, cap, cur, rfl, hb, hh, _⟩
    · omega
    · exact ⟨g, cap, rfl, hb, (Array.getElem?_eq_some_iff.1 hh).1⟩
  refine ⟨g, cap, rfl, hC.week, fun _ => ⟨g, 0, rfl, hlt, fun k hk => ?_⟩, hC.wl, hl⟩
  have h := hr.cells (g := g) rfl k (.int .i64 (hs'.getD k 0)) (by rw [List.getElem?_map, List.getElem?_eq_getElem hk, getD_at hk]; rfl)
  rwa [add_plain] at h

set_option maxRecDepth 100000 in
set_option maxHeartbeats 20000000 in
theorem hol_law (z : Int) (aw ah : Option Addr) (cw ch : Nat) (wk : List Bool) (hs : List Int) (r : Int) (bk : Int) (ln : Int) (ot : Int) (w : World) (hC : Cal w.heap.size w aw ah wk hs) (hreach : hs.length * 8 ≤ 140737488351232) (hr : -2147483648 ≤ r ∧ r ≤ 2147483647) (hbk : 0 ≤ bk ∧ bk ≤ 255) (hln : 0 ≤ ln ∧ ln ≤ 255) (hot : 0 ≤ ot ∧ ot ≤ 255) :
    Calls Try.prog 8 #[calV z aw wk.length cw ah hs.length ch, .int .i32 r, .int .u8 bk, .int .u8 ln, .int .u8 ot] w fun e w' => e = .returned (.bool true) ∧ Below w.heap.size w w' := by
  have L0 := hid (Lw.new (z := z) (cw := cw) (ch := ch) hC)
  have hl1 := hC.wl
  have hl2 := hC.hl
  unfold maxLen at hl1 hl2
  clear hC
  obtain ⟨hr0, hr1⟩ := hr
  obtain ⟨bk0, bk1⟩ := hbk
  obtain ⟨ln0, ln1⟩ := hln
  obtain ⟨ot0, ot1⟩ := hot
  obtain ⟨-, td0, td1⟩ := tm_bd r hr0 hr1
  obtain ⟨d, hd⟩ : ∃ d, r.tmod 900001 = d := ⟨_, rfl⟩
  rw [hd] at td0 td1
  have CF := hid (fun w hC => fine_any z aw ah cw ch wk hs w hC)
  have CA := hid (fun w hC => added_any ah ch hs d w hC hreach)
  go_enter Try.func8, Try.ntmps8
  go_wp2_with fail
  refine (head_any _).mono ?_
  rintro e w1 ⟨rfl, hb⟩
  have L1 := hid (L0.out.to hb)
  obtain ⟨c0, c1, c2⟩ := L1.out.c3
  clear hb
  go_wp2_with fail
  refine (CA.out _ L1.out.cal.days).mono ?_
  rintro e w2 (⟨HF, rfl, hb⟩ | ⟨HF, v, rfl, hrow, hb⟩)
  · clear c0 c1 c2 HF
    have L2 := hid (L1.out.to hb)
    obtain ⟨c0, c1, c2⟩ := L2.out.c3
    have hlt2 := L2.out.lt
    have LA := hid (L2.out.to (b0 w2 (.cells #[.int .i64 z, .slice aw wk.length cw, .slice none 0 0] 25)))
    clear hb
    cases hv : validB z wk hs with
    | false =>
      rw [hv] at CF
      clear hv
      go_wp2_with fail
      refine (CF.out _ LA.out.cal).mono ?_
      rintro e w3 ⟨rfl, hb⟩
      go_wp2
      go_ret
      exact ⟨rfl, bt LA.out.bel hb⟩
    | true =>
      rw [hv] at CF
      clear hv
      go_wp2_with fail
      refine (CF.out _ LA.out.cal).mono ?_
      rintro e w3 ⟨rfl, hb⟩
      go_wp2
      go_ret
      exact ⟨rfl, bt LA.out.bel hb⟩
  · clear c0 c1 c2
    have L2 := hid (L1.out.to hb)
    obtain ⟨g, cap, rfl, hCM⟩ := cal_row L2.out.cal (by rw [insR_len]; omega) (by rw [insR_len]; unfold maxLen; omega) hrow
    have HH := hid (hol_insR hs d)
    have hil := insR_len hs d
    obtain ⟨hs', hhs⟩ : ∃ hs', hs' = insR hs d := ⟨_, rfl⟩
    rw [← hhs] at hCM HH hil ⊢
    have hl3 : hs'.length ≤ 9223372036854775807 := by omega
    obtain ⟨c0, c1, c2⟩ := L2.out.c3
    have hlt2 := L2.out.lt
    have LA := hid (L2.out.to (b0 w2 (.cells #[.int .i64 z, .slice aw wk.length cw, .slice (some ⟨g, 0, none⟩) hs'.length cap] 25)))
    have MA := hid (⟨heap_new _ _, hCM.to (b0 _ _), bt L2.out.bel (b0 _ _)⟩ : Lw w w2.heap.size z aw (some ⟨g, 0, none⟩) cw cap wk hs' (w2.alloc (.cells #[.int .i64 z, .slice aw wk.length cw, .slice (some ⟨g, 0, none⟩) hs'.length cap] 25)))
    have HF2 := hid HF
    clear hb hrow hhs hil hCM HF
    cases hv : validB z wk hs with
    | false =>
      rw [hv] at CF
      clear hv
      go_wp2_with fail
      refine (CF.out _ LA.out.cal).mono ?_
      rintro e w3 ⟨rfl, hb⟩
      go_wp2
      go_ret
      exact ⟨rfl, bt LA.out.bel hb⟩
    | true =>
      rw [hv] at CF
      have HV := hid hv
      obtain ⟨hz0, hz1, -, -, -⟩ := valid_parts hv
      clear hv
      go_wp2_with fail
      refine (CF.out _ LA.out.cal).mono ?_
      rintro e w3 ⟨rfl, hb⟩
      clear c0 c1 c2 hlt2
      have L3 := hid (LA.out.to hb)
      have M3 := hid (MA.out.to hb)
      obtain ⟨c0, c1, c2⟩ := L3.out.c3
      obtain ⟨e0, e1, e2⟩ := M3.out.c3
      clear hb
      have CG := hid (fun w hC => fine_any z aw (some ⟨g, 0, none⟩) cw cap wk hs' w hC)
      cases hv : validB z wk hs' with
      | false =>
        rw [hv] at CG
        clear hv
        go_wp2_with fail
        refine (CG.out _ M3.out.cal).mono ?_
        rintro e w4 ⟨rfl, hb⟩
        go_wp2
        go_ret
        exact ⟨rfl, bt L3.out.bel hb⟩
      | true =>
        rw [hv] at CG
        have HV2 := hid hv
        clear hv
        have hin : inR d = true := inR_iff.2 ⟨by omega, by omega⟩
        have hinD : inR (d - bk + ot) = true := inR_iff.2 ⟨by omega, by omega⟩
        have hinF : inR (d - bk) = true := inR_iff.2 ⟨by omega, by omega⟩
        have hinT : inR (d - bk + ln) = true := inR_iff.2 ⟨by omega, by omega⟩
        have CM1 := hid (fun w hC => workc_any z aw (some ⟨g, 0, none⟩) cw cap wk hs' d w hC HV2.out hin)
        have CM2 := hid (fun w hC => workc_any z aw (some ⟨g, 0, none⟩) cw cap wk hs' (d - bk + ot) w hC HV2.out hinD)
        have CM3 := hid (fun w hC => workc_any z aw ah cw ch wk hs (d - bk + ot) w hC HV.out hinD)
        have CV0 := hid (fun w hC => workc_any z aw ah cw ch wk hs d w hC HV.out hin)
        have K1 := hid (fun w hC => count_any z aw (some ⟨g, 0, none⟩) cw cap wk hs' (d - bk) (d - bk + ln) w hC HV2.out hinF hinT (by omega))
        have K2 := hid (fun w hC => count_any z aw ah cw ch wk hs (d - bk) (d - bk + ln) w hC HV.out hinF hinT (by omega))
        rw [on_ins HH.out, decide_eq_true rfl, Bool.not_true, Bool.and_false] at CM1
        rw [on_ins HH.out] at CM2
        have hcn := cnt_ins (wk := wk) HH.out (d - bk) ln.toNat
        have hcb := cnt_bd wk hs' (d - bk) ln.toNat
        rw [show d - bk + (ln.toNat : Int) = d - bk + ln by omega] at hcn hcb
        obtain ⟨X, hX⟩ : ∃ X, cntI wk hs' (d - bk) (d - bk + ln) = X := ⟨_, rfl⟩
        obtain ⟨A, hA⟩ : ∃ A, cntI wk hs (d - bk) (d - bk + ln) = A := ⟨_, rfl⟩
        rw [hX] at K1 hcn hcb
        rw [hA] at K2 hcn
        obtain ⟨X0, X1⟩ := hcb
        have HCNT : Hid (A = X + if (onB wk hs d && decide (d - bk < d) && decide (d ≤ d - bk + ln)) = true then 1 else 0) := by show _ = _; omega
        clear hin hinD hinF hinT hcn hX hA
        go_wp2_with fail
        refine (CG.out _ M3.out.cal).mono ?_
        rintro e w4 ⟨rfl, hb⟩
        clear c0 c1 c2 e0 e1 e2
        have L4 := hid (L3.out.to hb)
        have M4 := hid (M3.out.to hb)
        obtain ⟨c0, c1, c2⟩ := L4.out.c3
        obtain ⟨e0, e1, e2⟩ := M4.out.c3
        clear hb
        by_cases hD : d - bk + ot = d
        · have hne : (d - bk + ot != d) = false := by simp [hD]
          clear hD CM2 CM3
          clear c0 c1 c2 e0 e1 e2
          have cx0 := fun (u : Near w4) => (L4.out.to u.below).c3.1
          have ex0 := fun (u : Near w4) => (M4.out.to u.below).c3.1
          have cx1 := fun (u : Near w4) => (L4.out.to u.below).c3.2.1
          have ex1 := fun (u : Near w4) => (M4.out.to u.below).c3.2.1
          have cx2 := fun (u : Near w4) => (L4.out.to u.below).c3.2.2
          have ex2 := fun (u : Near w4) => (M4.out.to u.below).c3.2.2
          have D1 := hid (fun (u : Near w4) => near_calls u (CM1.out u.w (M4.out.to u.below).cal))
          go_wp2
          refine wp_region_near (wM := w4) (by kernel_rfl) (by kernel_rfl) (Below.refl _ _) ?_
          repeat (go_big_quiet_step ((first | (go_at_call 15; with_reducible exact D1.out _))))
          refine wpQuiet_nil ?_
          rintro _ ⟨u, rfl⟩
          clear cx0 cx1 cx2 ex0 ex1 ex2
          clear D1
          obtain ⟨w5, hw5⟩ : ∃ w5, w5 = u.w := ⟨_, rfl⟩
          have L5 := hid (L4.out.to u.below)
          have M5 := hid (M4.out.to u.below)
          rw [← hw5] at L5 M5 ⊢
          clear hw5
          obtain ⟨c0, c1, c2⟩ := L5.out.c3
          obtain ⟨e0, e1, e2⟩ := M5.out.c3
          cases hV0 : onB wk hs d with
          | false =>
            rw [hV0] at CV0 HCNT
            have HE : Hid (A = X) := by show _ = _; rw [HCNT.out]; simp
            rw [HE.out] at K2
            clear hV0
            go_wp2_with fail
            refine (CV0.out _ L5.out.cal).mono ?_
            rintro e w6 ⟨rfl, hb⟩
            clear c0 c1 c2 e0 e1 e2
            have L6 := hid (L5.out.to hb)
            have M6 := hid (M5.out.to hb)
            obtain ⟨c0, c1, c2⟩ := L6.out.c3
            obtain ⟨e0, e1, e2⟩ := M6.out.c3
            clear hb
            go_wp2
            clear c0 c1 c2 e0 e1 e2
            have cx0 := fun (u : Near w6) => (L6.out.to u.below).c3.1
            have ex0 := fun (u : Near w6) => (M6.out.to u.below).c3.1
            have cx1 := fun (u : Near w6) => (L6.out.to u.below).c3.2.1
            have ex1 := fun (u : Near w6) => (M6.out.to u.below).c3.2.1
            have cx2 := fun (u : Near w6) => (L6.out.to u.below).c3.2.2
            have ex2 := fun (u : Near w6) => (M6.out.to u.below).c3.2.2
            have D1 := hid (fun (u : Near w6) => near_calls u (K1.out u.w (M6.out.to u.below).cal))
            have D2 := hid (fun (u : Near w6) => near_calls u (K2.out u.w (L6.out.to u.below).cal))
            go_wp2
            refine wp_region_near (wM := w6) (by kernel_rfl) (by kernel_rfl) (Below.refl _ _) ?_
            repeat (go_big_quiet_step ((first | (go_at_call 17; with_reducible exact D1.out _) | (go_at_call 17; with_reducible exact D2.out _))))
            refine wpQuiet_nil ?_
            rintro _ ⟨u, rfl⟩
            go_wp2
            go_ret
            exact ⟨rfl, bt L6.out.bel u.below⟩
          | true =>
            rw [hV0] at CV0 HCNT
            clear hV0
            rcases Int.lt_or_eq_of_le bk0 with hbk | hbk
            · have g1 : d - bk < d := by omega
              by_cases hlb : bk ≤ ln
              · have g2 : d ≤ d - bk + ln := by omega
                have HE : Hid (A = X + 1) := by
                  show _ = _
                  have := HCNT.out
                  rw [if_pos (by rw [decide_eq_true g1, decide_eq_true g2]; rfl)] at this
                  omega
                rw [HE.out] at K2
                have hwr : IntKind.i64.wrap (X + 1 - 1) = X := by rw [IntWalk.i64_in _ (by omega)]; omega
                have hwr2 : IntKind.i64.wrap X = X := IntWalk.i64_in _ (by omega)
                go_wp2_with fail
                refine (CV0.out _ L5.out.cal).mono ?_
                rintro e w6 ⟨rfl, hb⟩
                clear c0 c1 c2 e0 e1 e2
                have L6 := hid (L5.out.to hb)
                have M6 := hid (M5.out.to hb)
                obtain ⟨c0, c1, c2⟩ := L6.out.c3
                obtain ⟨e0, e1, e2⟩ := M6.out.c3
                clear hb
                go_wp2
                clear c0 c1 c2 e0 e1 e2
                have cx0 := fun (u : Near w6) => (L6.out.to u.below).c3.1
                have ex0 := fun (u : Near w6) => (M6.out.to u.below).c3.1
                have cx1 := fun (u : Near w6) => (L6.out.to u.below).c3.2.1
                have ex1 := fun (u : Near w6) => (M6.out.to u.below).c3.2.1
                have cx2 := fun (u : Near w6) => (L6.out.to u.below).c3.2.2
                have ex2 := fun (u : Near w6) => (M6.out.to u.below).c3.2.2
                have D1 := hid (fun (u : Near w6) => near_calls u (K1.out u.w (M6.out.to u.below).cal))
                have D2 := hid (fun (u : Near w6) => near_calls u (K2.out u.w (L6.out.to u.below).cal))
                go_wp2
                refine wp_region_near (wM := w6) (by kernel_rfl) (by kernel_rfl) (Below.refl _ _) ?_
                repeat (go_big_quiet_step ((first | (go_at_call 17; with_reducible exact D1.out _) | (go_at_call 17; with_reducible exact D2.out _))))
                refine wpQuiet_nil ?_
                rintro _ ⟨u, rfl⟩
                go_wp2
                go_ret
                exact ⟨rfl, bt L6.out.bel u.below⟩
              · have g2 : d - bk + ln < d := by omega
                have HE : Hid (A = X) := by
                  show _ = _
                  have := HCNT.out
                  rw [if_neg (by rw [decide_eq_false (show ¬ d ≤ d - bk + ln by omega)]; simp)] at this
                  omega
                rw [HE.out] at K2
                go_wp2_with fail
                refine (CV0.out _ L5.out.cal).mono ?_
                rintro e w6 ⟨rfl, hb⟩
                clear c0 c1 c2 e0 e1 e2
                have L6 := hid (L5.out.to hb)
                have M6 := hid (M5.out.to hb)
                obtain ⟨c0, c1, c2⟩ := L6.out.c3
                obtain ⟨e0, e1, e2⟩ := M6.out.c3
                clear hb
                go_wp2
                clear c0 c1 c2 e0 e1 e2
                have cx0 := fun (u : Near w6) => (L6.out.to u.below).c3.1
                have ex0 := fun (u : Near w6) => (M6.out.to u.below).c3.1
                have cx1 := fun (u : Near w6) => (L6.out.to u.below).c3.2.1
                have ex1 := fun (u : Near w6) => (M6.out.to u.below).c3.2.1
                have cx2 := fun (u : Near w6) => (L6.out.to u.below).c3.2.2
                have ex2 := fun (u : Near w6) => (M6.out.to u.below).c3.2.2
                have D1 := hid (fun (u : Near w6) => near_calls u (K1.out u.w (M6.out.to u.below).cal))
                have D2 := hid (fun (u : Near w6) => near_calls u (K2.out u.w (L6.out.to u.below).cal))
                go_wp2
                refine wp_region_near (wM := w6) (by kernel_rfl) (by kernel_rfl) (Below.refl _ _) ?_
                repeat (go_big_quiet_step ((first | (go_at_call 17; with_reducible exact D1.out _) | (go_at_call 17; with_reducible exact D2.out _))))
                refine wpQuiet_nil ?_
                rintro _ ⟨u, rfl⟩
                go_wp2
                go_ret
                exact ⟨rfl, bt L6.out.bel u.below⟩
            · have g1 : d ≤ d - bk := by omega
              have HE : Hid (A = X) := by
                show _ = _
                have := HCNT.out
                rw [if_neg (by rw [decide_eq_false (show ¬ d - bk < d by omega)]; simp)] at this
                omega
              clear hbk
              rw [HE.out] at K2
              go_wp2_with fail
              refine (CV0.out _ L5.out.cal).mono ?_
              rintro e w6 ⟨rfl, hb⟩
              clear c0 c1 c2 e0 e1 e2
              have L6 := hid (L5.out.to hb)
              have M6 := hid (M5.out.to hb)
              obtain ⟨c0, c1, c2⟩ := L6.out.c3
              obtain ⟨e0, e1, e2⟩ := M6.out.c3
              clear hb
              go_wp2
              clear c0 c1 c2 e0 e1 e2
              have cx0 := fun (u : Near w6) => (L6.out.to u.below).c3.1
              have ex0 := fun (u : Near w6) => (M6.out.to u.below).c3.1
              have cx1 := fun (u : Near w6) => (L6.out.to u.below).c3.2.1
              have ex1 := fun (u : Near w6) => (M6.out.to u.below).c3.2.1
              have cx2 := fun (u : Near w6) => (L6.out.to u.below).c3.2.2
              have ex2 := fun (u : Near w6) => (M6.out.to u.below).c3.2.2
              have D1 := hid (fun (u : Near w6) => near_calls u (K1.out u.w (M6.out.to u.below).cal))
              have D2 := hid (fun (u : Near w6) => near_calls u (K2.out u.w (L6.out.to u.below).cal))
              go_wp2
              refine wp_region_near (wM := w6) (by kernel_rfl) (by kernel_rfl) (Below.refl _ _) ?_
              repeat (go_big_quiet_step ((first | (go_at_call 17; with_reducible exact D1.out _) | (go_at_call 17; with_reducible exact D2.out _))))
              refine wpQuiet_nil ?_
              rintro _ ⟨u, rfl⟩
              go_wp2
              go_ret
              exact ⟨rfl, bt L6.out.bel u.below⟩
        · have hne : (d - bk + ot != d) = true := by simp [hD]
          rw [decide_eq_false hD, Bool.not_false, Bool.and_true] at CM2
          obtain ⟨y, hy⟩ : ∃ y, onB wk hs (d - bk + ot) = y := ⟨_, rfl⟩
          rw [hy] at CM2 CM3
          clear hD hy
          clear c0 c1 c2 e0 e1 e2
          have cx0 := fun (u : Near w4) => (L4.out.to u.below).c3.1
          have ex0 := fun (u : Near w4) => (M4.out.to u.below).c3.1
          have cx1 := fun (u : Near w4) => (L4.out.to u.below).c3.2.1
          have ex1 := fun (u : Near w4) => (M4.out.to u.below).c3.2.1
          have cx2 := fun (u : Near w4) => (L4.out.to u.below).c3.2.2
          have ex2 := fun (u : Near w4) => (M4.out.to u.below).c3.2.2
          have D1 := hid (fun (u : Near w4) => near_calls u (CM1.out u.w (M4.out.to u.below).cal))
          have D2 := hid (fun (u : Near w4) => near_calls u (CM2.out u.w (M4.out.to u.below).cal))
          have D3 := hid (fun (u : Near w4) => near_calls u (CM3.out u.w (L4.out.to u.below).cal))
          go_wp2
          refine wp_region_near (wM := w4) (by kernel_rfl) (by kernel_rfl) (Below.refl _ _) ?_
          repeat (go_big_quiet_step ((first | (go_at_call 15; with_reducible exact D1.out _) | (go_at_call 15; with_reducible exact D2.out _) | (go_at_call 15; with_reducible exact D3.out _))))
          refine wpQuiet_nil ?_
          rintro _ ⟨u, rfl⟩
          clear cx0 cx1 cx2 ex0 ex1 ex2
          clear D1 D2 D3
          obtain ⟨w5, hw5⟩ : ∃ w5, w5 = u.w := ⟨_, rfl⟩
          have L5 := hid (L4.out.to u.below)
          have M5 := hid (M4.out.to u.below)
          rw [← hw5] at L5 M5 ⊢
          clear hw5
          obtain ⟨c0, c1, c2⟩ := L5.out.c3
          obtain ⟨e0, e1, e2⟩ := M5.out.c3
          cases hV0 : onB wk hs d with
          | false =>
            rw [hV0] at CV0 HCNT
            have HE : Hid (A = X) := by show _ = _; rw [HCNT.out]; simp
            rw [HE.out] at K2
            clear hV0
            go_wp2_with fail
            refine (CV0.out _ L5.out.cal).mono ?_
            rintro e w6 ⟨rfl, hb⟩
            clear c0 c1 c2 e0 e1 e2
            have L6 := hid (L5.out.to hb)
            have M6 := hid (M5.out.to hb)
            obtain ⟨c0, c1, c2⟩ := L6.out.c3
            obtain ⟨e0, e1, e2⟩ := M6.out.c3
            clear hb
            go_wp2
            clear c0 c1 c2 e0 e1 e2
            have cx0 := fun (u : Near w6) => (L6.out.to u.below).c3.1
            have ex0 := fun (u : Near w6) => (M6.out.to u.below).c3.1
            have cx1 := fun (u : Near w6) => (L6.out.to u.below).c3.2.1
            have ex1 := fun (u : Near w6) => (M6.out.to u.below).c3.2.1
            have cx2 := fun (u : Near w6) => (L6.out.to u.below).c3.2.2
            have ex2 := fun (u : Near w6) => (M6.out.to u.below).c3.2.2
            have D1 := hid (fun (u : Near w6) => near_calls u (K1.out u.w (M6.out.to u.below).cal))
            have D2 := hid (fun (u : Near w6) => near_calls u (K2.out u.w (L6.out.to u.below).cal))
            go_wp2
            refine wp_region_near (wM := w6) (by kernel_rfl) (by kernel_rfl) (Below.refl _ _) ?_
            repeat (go_big_quiet_step ((first | (go_at_call 17; with_reducible exact D1.out _) | (go_at_call 17; with_reducible exact D2.out _))))
            refine wpQuiet_nil ?_
            rintro _ ⟨u, rfl⟩
            go_wp2
            go_ret
            exact ⟨rfl, bt L6.out.bel u.below⟩
          | true =>
            rw [hV0] at CV0 HCNT
            clear hV0
            rcases Int.lt_or_eq_of_le bk0 with hbk | hbk
            · have g1 : d - bk < d := by omega
              by_cases hlb : bk ≤ ln
              · have g2 : d ≤ d - bk + ln := by omega
                have HE : Hid (A = X + 1) := by
                  show _ = _
                  have := HCNT.out
                  rw [if_pos (by rw [decide_eq_true g1, decide_eq_true g2]; rfl)] at this
                  omega
                rw [HE.out] at K2
                have hwr : IntKind.i64.wrap (X + 1 - 1) = X := by rw [IntWalk.i64_in _ (by omega)]; omega
                have hwr2 : IntKind.i64.wrap X = X := IntWalk.i64_in _ (by omega)
                go_wp2_with fail
                refine (CV0.out _ L5.out.cal).mono ?_
                rintro e w6 ⟨rfl, hb⟩
                clear c0 c1 c2 e0 e1 e2
                have L6 := hid (L5.out.to hb)
                have M6 := hid (M5.out.to hb)
                obtain ⟨c0, c1, c2⟩ := L6.out.c3
                obtain ⟨e0, e1, e2⟩ := M6.out.c3
                clear hb
                go_wp2
                clear c0 c1 c2 e0 e1 e2
                have cx0 := fun (u : Near w6) => (L6.out.to u.below).c3.1
                have ex0 := fun (u : Near w6) => (M6.out.to u.below).c3.1
                have cx1 := fun (u : Near w6) => (L6.out.to u.below).c3.2.1
                have ex1 := fun (u : Near w6) => (M6.out.to u.below).c3.2.1
                have cx2 := fun (u : Near w6) => (L6.out.to u.below).c3.2.2
                have ex2 := fun (u : Near w6) => (M6.out.to u.below).c3.2.2
                have D1 := hid (fun (u : Near w6) => near_calls u (K1.out u.w (M6.out.to u.below).cal))
                have D2 := hid (fun (u : Near w6) => near_calls u (K2.out u.w (L6.out.to u.below).cal))
                go_wp2
                refine wp_region_near (wM := w6) (by kernel_rfl) (by kernel_rfl) (Below.refl _ _) ?_
                repeat (go_big_quiet_step ((first | (go_at_call 17; with_reducible exact D1.out _) | (go_at_call 17; with_reducible exact D2.out _))))
                refine wpQuiet_nil ?_
                rintro _ ⟨u, rfl⟩
                go_wp2
                go_ret
                exact ⟨rfl, bt L6.out.bel u.below⟩
              · have g2 : d - bk + ln < d := by omega
                have HE : Hid (A = X) := by
                  show _ = _
                  have := HCNT.out
                  rw [if_neg (by rw [decide_eq_false (show ¬ d ≤ d - bk + ln by omega)]; simp)] at this
                  omega
                rw [HE.out] at K2
                go_wp2_with fail
                refine (CV0.out _ L5.out.cal).mono ?_
                rintro e w6 ⟨rfl, hb⟩
                clear c0 c1 c2 e0 e1 e2
                have L6 := hid (L5.out.to hb)
                have M6 := hid (M5.out.to hb)
                obtain ⟨c0, c1, c2⟩ := L6.out.c3
                obtain ⟨e0, e1, e2⟩ := M6.out.c3
                clear hb
                go_wp2
                clear c0 c1 c2 e0 e1 e2
                have cx0 := fun (u : Near w6) => (L6.out.to u.below).c3.1
                have ex0 := fun (u : Near w6) => (M6.out.to u.below).c3.1
                have cx1 := fun (u : Near w6) => (L6.out.to u.below).c3.2.1
                have ex1 := fun (u : Near w6) => (M6.out.to u.below).c3.2.1
                have cx2 := fun (u : Near w6) => (L6.out.to u.below).c3.2.2
                have ex2 := fun (u : Near w6) => (M6.out.to u.below).c3.2.2
                have D1 := hid (fun (u : Near w6) => near_calls u (K1.out u.w (M6.out.to u.below).cal))
                have D2 := hid (fun (u : Near w6) => near_calls u (K2.out u.w (L6.out.to u.below).cal))
                go_wp2
                refine wp_region_near (wM := w6) (by kernel_rfl) (by kernel_rfl) (Below.refl _ _) ?_
                repeat (go_big_quiet_step ((first | (go_at_call 17; with_reducible exact D1.out _) | (go_at_call 17; with_reducible exact D2.out _))))
                refine wpQuiet_nil ?_
                rintro _ ⟨u, rfl⟩
                go_wp2
                go_ret
                exact ⟨rfl, bt L6.out.bel u.below⟩
            · have g1 : d ≤ d - bk := by omega
              have HE : Hid (A = X) := by
                show _ = _
                have := HCNT.out
                rw [if_neg (by rw [decide_eq_false (show ¬ d - bk < d by omega)]; simp)] at this
                omega
              clear hbk
              rw [HE.out] at K2
              go_wp2_with fail
              refine (CV0.out _ L5.out.cal).mono ?_
              rintro e w6 ⟨rfl, hb⟩
              clear c0 c1 c2 e0 e1 e2
              have L6 := hid (L5.out.to hb)
              have M6 := hid (M5.out.to hb)
              obtain ⟨c0, c1, c2⟩ := L6.out.c3
              obtain ⟨e0, e1, e2⟩ := M6.out.c3
              clear hb
              go_wp2
              clear c0 c1 c2 e0 e1 e2
              have cx0 := fun (u : Near w6) => (L6.out.to u.below).c3.1
              have ex0 := fun (u : Near w6) => (M6.out.to u.below).c3.1
              have cx1 := fun (u : Near w6) => (L6.out.to u.below).c3.2.1
              have ex1 := fun (u : Near w6) => (M6.out.to u.below).c3.2.1
              have cx2 := fun (u : Near w6) => (L6.out.to u.below).c3.2.2
              have ex2 := fun (u : Near w6) => (M6.out.to u.below).c3.2.2
              have D1 := hid (fun (u : Near w6) => near_calls u (K1.out u.w (M6.out.to u.below).cal))
              have D2 := hid (fun (u : Near w6) => near_calls u (K2.out u.w (L6.out.to u.below).cal))
              go_wp2
              refine wp_region_near (wM := w6) (by kernel_rfl) (by kernel_rfl) (Below.refl _ _) ?_
              repeat (go_big_quiet_step ((first | (go_at_call 17; with_reducible exact D1.out _) | (go_at_call 17; with_reducible exact D2.out _))))
              refine wpQuiet_nil ?_
              rintro _ ⟨u, rfl⟩
              go_wp2
              go_ret
              exact ⟨rfl, bt L6.out.bel u.below⟩

end Cl
end Go.Proofs.Ythhckdfghdpmkaa
