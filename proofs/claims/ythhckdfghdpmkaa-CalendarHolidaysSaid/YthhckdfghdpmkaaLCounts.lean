/-
  The walk of CalendarCounts.
-/
import Derived.Test.YthhckdfghdpmkaaNear
namespace Go.Proofs.Ythhckdfghdpmkaa
open Go.RowKit
namespace Cl

theorem cnt_bd (wk : List Bool) (hs : List Int) (a : Int) (n : Nat) : 0 ≤ cntI wk hs a (a + n) ∧ cntI wk hs a (a + n) ≤ n := by
  unfold cntI
  have := wd_len (wk := wk) (hs := hs) (a + 1) (a + (n : Int) - a).toNat
  omega

set_option maxRecDepth 100000 in
set_option maxHeartbeats 20000000 in
theorem counts_law (z : Int) (aw ah : Option Addr) (cw ch : Nat) (wk : List Bool) (hs : List Int) (r : Int) (p : Int) (q : Int) (n : Int) (w : World) (hC : Cal w.heap.size w aw ah wk hs) (hr : -2147483648 ≤ r ∧ r ≤ 2147483647) (hp : 0 ≤ p ∧ p ≤ 255) (hq : 0 ≤ q ∧ q ≤ 255) (hn : 0 ≤ n ∧ n ≤ 255) :
    Calls Try.prog 6 #[calV z aw wk.length cw ah hs.length ch, .int .i32 r, .int .u8 p, .int .u8 q, .int .u8 n] w fun e w' => e = .returned (.bool true) ∧ Below w.heap.size w w' := by
  have L0 := hid (Lw.new (z := z) (cw := cw) (ch := ch) hC)
  have hl1 := hC.wl
  have hl2 := hC.hl
  unfold maxLen at hl1 hl2
  clear hC
  obtain ⟨hr0, hr1⟩ := hr
  obtain ⟨hp0, hp1⟩ := hp
  obtain ⟨hq0, hq1⟩ := hq
  obtain ⟨hn0, hn1⟩ := hn
  obtain ⟨-, td0, td1⟩ := tm_bd r hr0 hr1
  obtain ⟨d, hd⟩ : ∃ d, r.tmod 900001 = d := ⟨_, rfl⟩
  obtain ⟨pa, hpa⟩ : ∃ x, p % 128 = x := ⟨_, rfl⟩
  obtain ⟨qa, hqa⟩ : ∃ x, q % 128 = x := ⟨_, rfl⟩
  obtain ⟨na, hna⟩ : ∃ x, n % 31 = x := ⟨_, rfl⟩
  rw [hd] at td0 td1
  have pa0 : 0 ≤ pa := by omega
  have pa1 : pa ≤ 127 := by omega
  have qa0 : 0 ≤ qa := by omega
  have qa1 : qa ≤ 127 := by omega
  have na0 : 0 ≤ na := by omega
  have na1 : na ≤ 30 := by omega
  have CF := hid (fun w hC => fine_any z aw ah cw ch wk hs w hC)
  cases hv : validB z wk hs with
  | false =>
    rw [hv] at CF
    clear hv
    go_enter Try.func6, Try.ntmps6
    go_wp2_with fail
    refine (head_any _).mono ?_
    rintro e w1 ⟨rfl, hb⟩
    have L1 := hid (L0.out.to hb)
    obtain ⟨c0, c1, c2⟩ := L1.out.c3
    clear hb
    go_wp2_with fail
    refine (CF.out _ L1.out.cal).mono ?_
    rintro e w2 ⟨rfl, hb⟩
    clear c0 c1 c2
    have L2 := hid (L1.out.to hb)
    obtain ⟨c0, c1, c2⟩ := L2.out.c3
    clear hb
    go_wp2
    go_ret
    exact ⟨rfl, L2.out.bel⟩
  | true =>
    rw [hv] at CF
    have HV := hid hv
    obtain ⟨hz0, hz1, -, -, -⟩ := valid_parts hv
    clear hv
    have hin : inR d = true := inR_iff.2 ⟨by omega, by omega⟩
    have hinm : inR (d + pa) = true := inR_iff.2 ⟨by omega, by omega⟩
    have hine : inR (d + pa + qa) = true := inR_iff.2 ⟨by omega, by omega⟩
    have C1 := hid (fun w hC => count_any z aw ah cw ch wk hs d (d + pa) w hC HV.out hin hinm (by omega))
    have C2 := hid (fun w hC => count_any z aw ah cw ch wk hs (d + pa) (d + pa + qa) w hC HV.out hinm hine (by omega))
    have C3 := hid (fun w hC => count_any z aw ah cw ch wk hs d (d + pa + qa) w hC HV.out hin hine (by omega))
    have C4 := hid (fun w hC => count_any z aw ah cw ch wk hs (d + pa + qa) d w hC HV.out hine hin (by omega))
    rw [cnt_self (a := d + pa + qa) (b := d) (by omega)] at C4
    have C5 := hid (fun w hC => add_any z aw ah cw ch wk hs d na.toNat w hC HV.out hin (by omega))
    rw [Int.toNat_of_nonneg na0] at C5
    have CW := hid (fun t (h : -1000000 ≤ t ∧ t ≤ 1000000) w hC => workc_any z aw ah cw ch wk hs t w hC HV.out (inR_iff.2 h))
    have CX := hid (fun x (h : -1000000 ≤ x ∧ x ≤ 1000000) (h2 : x ≤ d + 2000) w hC => count_any z aw ah cw ch wk hs d x w hC HV.out hin (inR_iff.2 h) h2)
    have hAB := cnt_add (wk := wk) (hs := hs) (a := d) (b := d + pa) (c := d + pa + qa) (by omega) (by omega)
    obtain ⟨A, hA⟩ : ∃ A, cntI wk hs d (d + pa) = A := ⟨_, rfl⟩
    obtain ⟨B, hB⟩ : ∃ B, cntI wk hs (d + pa) (d + pa + qa) = B := ⟨_, rfl⟩
    obtain ⟨K, hK⟩ : ∃ K, cntI wk hs d (d + pa + qa) = K := ⟨_, rfl⟩
    have kb := cnt_bd wk hs d (pa + qa).toNat
    rw [show d + ((pa + qa).toNat : Int) = d + pa + qa by omega, hK] at kb
    obtain ⟨kb0, kb1⟩ := kb
    rw [hA, hB, hK] at hAB
    rw [hA] at C1
    rw [hB] at C2
    rw [hK] at C3
    have HK := hid hK
    have hwr : Hid (IntKind.i64.wrap (A + B) = K) := by show _ = _; rw [hAB]; exact IntWalk.i64_in _ (by omega)
    clear hA hB hK hAB hin hinm hine
    go_enter Try.func6, Try.ntmps6
    go_wp2_with fail
    refine (head_any _).mono ?_
    rintro e w1 ⟨rfl, hb⟩
    have L1 := hid (L0.out.to hb)
    obtain ⟨c0, c1, c2⟩ := L1.out.c3
    clear hb
    go_wp2_with fail
    refine (CF.out _ L1.out.cal).mono ?_
    rintro e w2 ⟨rfl, hb⟩
    clear c0 c1 c2
    have L2 := hid (L1.out.to hb)
    obtain ⟨c0, c1, c2⟩ := L2.out.c3
    clear hb
    go_wp2
    go_loopw [15, 16] (fun s15 s16 wr => ∃ (j : Nat) (c : Int), (j : Int) ≤ pa + qa ∧ s16 = .int .i64 (d + 1 + j) ∧ s15 = .int .i64 c ∧ 0 ≤ c ∧ c ≤ j ∧ Hid (cntI wk hs d (d + j) = c) ∧ Hid (Lw w w.heap.size z aw ah cw ch wk hs wr)) (fun _ s16 _ => (d + pa + qa + 1 - intOf s16).toNat)
    case atStart => exact ⟨0, 0, by omega, by simp, rfl, by omega, by omega, cnt_self (by simp), L2.out⟩
    case round =>
      obtain ⟨j, c, hj, rfl, rfl, hc0, hc1, hc, LR⟩ := hrel
      clear c0 c1 c2
      obtain ⟨c0, c1, c2⟩ := LR.out.c3
      by_cases hlt : (j : Int) < pa + qa
      · have hle : d + 1 + (j : Int) ≤ d + pa + qa := by omega
        have CJ := hid (fun w hC => CW.out (d + 1 + (j : Int)) (by omega) w hC)
        have hst := cnt_succ (wk := wk) (hs := hs) (a := d) j
        rw [hc.out, show d + (j : Int) + 1 = d + 1 + (j : Int) by omega] at hst
        have HST := hid hst
        clear hst
        cases hon : onB wk hs (d + 1 + (j : Int)) with
        | false =>
          rw [hon] at CJ HST
          have HS2 : Hid (cntI wk hs d (d + ((j + 1 : Nat) : Int)) = c) := by show _ = _; rw [HST.out]; simp
          clear hon HST
          go_wp2_with fail
          refine (CJ.out _ LR.out.cal).mono ?_
          rintro e w4 ⟨rfl, hb⟩
          have LR2 := hid (LR.out.to hb)
          clear hb
          go_wp2
          go_roundw
          case rel => exact ⟨j + 1, c, by omega, by go_num, rfl, hc0, by omega, HS2, LR2⟩
          case measure => simp [intOf]; omega
        | true =>
          rw [hon] at CJ HST
          have HS2 : Hid (cntI wk hs d (d + ((j + 1 : Nat) : Int)) = c + 1) := by show _ = _; rw [HST.out]; simp
          clear hon HST
          go_wp2_with fail
          refine (CJ.out _ LR.out.cal).mono ?_
          rintro e w4 ⟨rfl, hb⟩
          have LR2 := hid (LR.out.to hb)
          clear hb
          go_wp2
          go_roundw
          case rel => exact ⟨j + 1, c + 1, by omega, by go_num, rfl, by omega, by omega, HS2, LR2⟩
          case measure => simp [intOf]; omega
      · have hgt : d + pa + qa < d + 1 + (j : Int) := by omega
        obtain rfl : K = c := by rw [← HK.out, ← hc.out, show d + (j : Int) = d + pa + qa by omega]
        obtain ⟨wM, hwM⟩ : ∃ wM, wM = wr := ⟨_, rfl⟩
        rw [← hwM] at LR c0 c1 c2 ⊢
        clear hwM c0 c1 c2
        have cx0 := fun (u : Near wM) => (LR.out.to u.below).c3.1
        have cx1 := fun (u : Near wM) => (LR.out.to u.below).c3.2.1
        have cx2 := fun (u : Near wM) => (LR.out.to u.below).c3.2.2
        have D1 := hid (fun (u : Near wM) => near_calls u (C1.out u.w (LR.out.to u.below).cal))
        have D2 := hid (fun (u : Near wM) => near_calls u (C2.out u.w (LR.out.to u.below).cal))
        have D3 := hid (fun (u : Near wM) => near_calls u (C3.out u.w (LR.out.to u.below).cal))
        have D4 := hid (fun (u : Near wM) => near_calls u (C4.out u.w (LR.out.to u.below).cal))
        have hwr2 := hwr.out
        go_wp2
        refine wp_region_near (wM := wM) (by kernel_rfl) (by kernel_rfl) (Below.refl _ _) ?_
        repeat (go_big_quiet_step ((first | (go_at_call 17; with_reducible exact D1.out _) | (go_at_call 17; with_reducible exact D2.out _) | (go_at_call 17; with_reducible exact D3.out _) | (go_at_call 17; with_reducible exact D4.out _))))
        refine wpQuiet_nil ?_
        rintro _ ⟨u, rfl⟩
        clear cx0 cx1 cx2 hwr2 D1 D2 D3 D4
        obtain ⟨w5, hw5⟩ : ∃ w5, w5 = u.w := ⟨_, rfl⟩
        have L5 := hid (LR.out.to u.below)
        rw [← hw5] at L5 ⊢
        clear hw5
        obtain ⟨c0, c1, c2⟩ := L5.out.c3
        cases ho : addO wk hs d na.toNat with
        | none =>
          rw [ho, oV_none, oE_none] at C5
          clear ho
          go_wp2_with fail
          refine (C5.out _ L5.out.cal).mono ?_
          rintro e w6 ⟨rfl, hb⟩
          go_wp2
          go_ret
          exact ⟨rfl, bt L5.out.bel hb⟩
        | some x =>
          rw [ho, oV_some, oE_some] at C5
          obtain ⟨hx0, hx1, -⟩ := add_some ho
          have C6 := hid (fun w hC => CX.out x (by omega) (by omega) w hC)
          rw [cnt_adds ho, Int.toNat_of_nonneg na0] at C6
          clear ho
          go_wp2_with fail
          refine (C5.out _ L5.out.cal).mono ?_
          rintro e w6 ⟨rfl, hb⟩
          have L6 := hid (L5.out.to hb)
          clear c0 c1 c2 hb
          obtain ⟨c0, c1, c2⟩ := L6.out.c3
          go_wp2_with fail
          refine (C6.out _ L6.out.cal).mono ?_
          rintro e w7 ⟨rfl, hb⟩
          go_wp2
          go_ret
          exact ⟨rfl, bt L6.out.bel hb⟩

end Cl
end Go.Proofs.Ythhckdfghdpmkaa
