/-
  The walk of CalendarNext.
-/
import Derived.Test.YthhckdfghdpmkaaLaw
namespace Go.Proofs.Ythhckdfghdpmkaa
open Go.RowKit
namespace Cl

set_option maxRecDepth 100000 in
set_option maxHeartbeats 20000000 in
theorem next_law (z : Int) (aw ah : Option Addr) (cw ch : Nat) (wk : List Bool) (hs : List Int) (r : Int) (w : World) (hC : Cal w.heap.size w aw ah wk hs) (hr : -2147483648 ≤ r ∧ r ≤ 2147483647) :
    Calls Try.prog 4 #[calV z aw wk.length cw ah hs.length ch, .int .i32 r] w fun e w' => e = .returned (.bool true) ∧ Below w.heap.size w w' := by
  have L0 := hid (Lw.new (z := z) (cw := cw) (ch := ch) hC)
  have hl1 := hC.wl
  have hl2 := hC.hl
  unfold maxLen at hl1 hl2
  clear hC
  obtain ⟨hr0, hr1⟩ := hr
  obtain ⟨-, td0, td1⟩ := tm_bd r hr0 hr1
  obtain ⟨d, hd⟩ : ∃ d, r.tmod 900001 = d := ⟨_, rfl⟩
  rw [hd] at td0 td1
  have CF := hid (fun w hC => fine_any z aw ah cw ch wk hs w hC)
  cases hv : validB z wk hs with
  | false =>
    rw [hv] at CF
    clear hv
    go_enter Try.func4, Try.ntmps4
    go_wp2_with fail
    refine (head_any _).mono ?_
    rintro e w1 ⟨rfl, hb⟩
    have L1 := hid (L0.out.to hb)
    obtain ⟨c0, c1, c2⟩ := L1.out.c3
    clear hb
    go_wp2_with fail
    refine (CF.out _ L1.out.cal).mono ?_
    rintro e w2 ⟨rfl, hb⟩
    clear c0 c1 c2
    have L2 := hid (L1.out.to hb)
    obtain ⟨c0, c1, c2⟩ := L2.out.c3
    clear hb
    go_wp2
    go_ret
    exact ⟨rfl, L2.out.bel⟩
  | true =>
    rw [hv] at CF
    have HV := hid hv
    obtain ⟨hz0, hz1, -, -, -⟩ := valid_parts hv
    clear hv
    have hin : inR d = true := inR_iff.2 ⟨by omega, by omega⟩
    have hin1 : inR (d + 1) = true := inR_iff.2 ⟨by omega, by omega⟩
    have C1 := hid (fun w hC => next_any z aw ah cw ch wk hs d w hC HV.out hin)
    have C2 := hid (fun w hC => next_any z aw ah cw ch wk hs (d + 1) w hC HV.out hin1)
    have CW := hid (fun t (h : -1000000 ≤ t ∧ t ≤ 1000000) w hC => workc_any z aw ah cw ch wk hs t w hC HV.out (inR_iff.2 h))
    clear hin hin1
    cases ho : nextO wk hs d with
    | none =>
      rw [ho, oV_none, oE_none] at C1
      have HN := hid (next_none ho)
      clear ho
      have CD := hid (fun w hC => CW.out d (by omega) w hC)
      rw [HN.out d (Int.le_refl _) (by omega)] at CD
      obtain ⟨y, hy⟩ : ∃ y, oV (nextO wk hs (d + 1)) = y := ⟨_, rfl⟩
      obtain ⟨f, hf⟩ : ∃ f, oE (nextO wk hs (d + 1)) = f := ⟨_, rfl⟩
      rw [hy, hf] at C2
      clear hy hf
      go_enter Try.func4, Try.ntmps4
      go_wp2_with fail
      refine (head_any _).mono ?_
      rintro e w1 ⟨rfl, hb⟩
      have L1 := hid (L0.out.to hb)
      obtain ⟨c0, c1, c2⟩ := L1.out.c3
      clear hb
      go_wp2_with fail
      refine (CF.out _ L1.out.cal).mono ?_
      rintro e w2 ⟨rfl, hb⟩
      clear c0 c1 c2
      have L2 := hid (L1.out.to hb)
      obtain ⟨c0, c1, c2⟩ := L2.out.c3
      clear hb
      go_wp2_with fail
      refine (C1.out _ L2.out.cal).mono ?_
      rintro e w3 ⟨rfl, hb⟩
      clear c0 c1 c2
      have L3 := hid (L2.out.to hb)
      obtain ⟨c0, c1, c2⟩ := L3.out.c3
      clear hb
      go_wp2
      go_loopw [9] (fun s9 wr => ∃ k : Nat, k ≤ 60 ∧ s9 = .int .i64 (d + k) ∧ Hid (Lw w w.heap.size z aw ah cw ch wk hs wr)) (fun s9 _ => (d + 60 - intOf s9).toNat)
      case atStart => exact ⟨0, by omega, by simp, L3.out⟩
      case round =>
        obtain ⟨k, hk, rfl, LR⟩ := hrel
        clear c0 c1 c2
        obtain ⟨c0, c1, c2⟩ := LR.out.c3
        by_cases hlt : k < 60
        · have CK := hid (fun w hC => CW.out (d + k) (by omega) w hC)
          rw [HN.out (d + k) (by omega) (by omega)] at CK
          have hlk : d + (k : Int) < d + 60 := by omega
          go_wp2_with fail
          refine (CK.out _ LR.out.cal).mono ?_
          rintro e w4 ⟨rfl, hb⟩
          have LR2 := hid (LR.out.to hb)
          clear hb
          go_wp2
          go_roundw
          case rel => exact ⟨k + 1, by omega, by go_num, LR2⟩
          case measure => simp [intOf]; omega
        · have hlk : d + 60 ≤ d + (k : Int) := by omega
          go_wp2_with fail
          refine (C2.out _ LR.out.cal).mono ?_
          rintro e v0 ⟨rfl, hb⟩
          clear c0 c1 c2
          have LT0 := hid (LR.out.to hb)
          obtain ⟨c0, c1, c2⟩ := LT0.out.c3
          clear hb
          go_wp2_with fail
          refine (CD.out _ LT0.out.cal).mono ?_
          rintro e v1 ⟨rfl, hb⟩
          clear c0 c1 c2
          have LT1 := hid (LT0.out.to hb)
          obtain ⟨c0, c1, c2⟩ := LT1.out.c3
          clear hb
          go_wp2
          go_ret
          exact ⟨rfl, LT1.out.bel⟩
    | some x =>
      rw [ho, oV_some, oE_some] at C1
      obtain ⟨hx0, hx1, hx2, hx3⟩ := next_some ho
      have HN := hid hx3
      have CX := hid (fun w hC => CW.out x (by omega) w hC)
      rw [hx2] at CX
      have HX := hid hx2
      have hq1 : decide (x < d) = false := by simp; omega
      have hq2 : decide (d + 60 ≤ x) = false := by simp; omega
      clear ho hx2 hx3
      cases ho2 : nextO wk hs (d + 1) with
      | none =>
        rw [ho2, oV_none, oE_none] at C2
        clear ho2
        by_cases hxd : x = d
        · have CD := hid (fun w hC => CW.out d (by omega) w hC)
          rw [show onB wk hs d = true by rw [← hxd]; exact HX.out] at CD
          have hne2 : (x != d) = false := by simp [hxd]
          clear hxd
          go_enter Try.func4, Try.ntmps4
          go_wp2_with fail
          refine (head_any _).mono ?_
          rintro e w1 ⟨rfl, hb⟩
          have L1 := hid (L0.out.to hb)
          obtain ⟨c0, c1, c2⟩ := L1.out.c3
          clear hb
          go_wp2_with fail
          refine (CF.out _ L1.out.cal).mono ?_
          rintro e w2 ⟨rfl, hb⟩
          clear c0 c1 c2
          have L2 := hid (L1.out.to hb)
          obtain ⟨c0, c1, c2⟩ := L2.out.c3
          clear hb
          go_wp2_with fail
          refine (C1.out _ L2.out.cal).mono ?_
          rintro e w3 ⟨rfl, hb⟩
          clear c0 c1 c2
          have L3 := hid (L2.out.to hb)
          obtain ⟨c0, c1, c2⟩ := L3.out.c3
          clear hb
          go_wp2
          go_loopw [9] (fun s9 wr => ∃ k : Nat, d + k ≤ x ∧ s9 = .int .i64 (d + k) ∧ Hid (Lw w w.heap.size z aw ah cw ch wk hs wr)) (fun s9 _ => (d + 60 - intOf s9).toNat)
          case atStart => exact ⟨0, by omega, by simp, L3.out⟩
          case round =>
            obtain ⟨k, hk, rfl, LR⟩ := hrel
            clear c0 c1 c2
            obtain ⟨c0, c1, c2⟩ := LR.out.c3
            have hlk : d + (k : Int) < d + 60 := by omega
            by_cases hlt : d + (k : Int) < x
            · have CK := hid (fun w hC => CW.out (d + k) (by omega) w hC)
              rw [HN.out (d + k) (by omega) (by omega)] at CK
              have hne : (d + (k : Int) == x) = false := by simp; omega
              go_wp2_with fail
              refine (CK.out _ LR.out.cal).mono ?_
              rintro e w4 ⟨rfl, hb⟩
              have LR2 := hid (LR.out.to hb)
              clear hb
              go_wp2
              go_roundw
              case rel => exact ⟨k + 1, by omega, by go_num, LR2⟩
              case measure => simp [intOf]; omega
            · have hkx : d + (k : Int) = x := by omega
              go_wp2_with fail
              refine (C2.out _ LR.out.cal).mono ?_
              rintro e v0 ⟨rfl, hb⟩
              clear c0 c1 c2
              have LT0 := hid (LR.out.to hb)
              obtain ⟨c0, c1, c2⟩ := LT0.out.c3
              clear hb
              go_wp2_with fail
              refine (CX.out _ LT0.out.cal).mono ?_
              rintro e v1 ⟨rfl, hb⟩
              clear c0 c1 c2
              have LT1 := hid (LT0.out.to hb)
              obtain ⟨c0, c1, c2⟩ := LT1.out.c3
              clear hb
              go_wp2_with fail
              refine (CD.out _ LT1.out.cal).mono ?_
              rintro e v2 ⟨rfl, hb⟩
              clear c0 c1 c2
              have LT2 := hid (LT1.out.to hb)
              obtain ⟨c0, c1, c2⟩ := LT2.out.c3
              clear hb
              go_wp2
              go_ret
              exact ⟨rfl, LT2.out.bel⟩
        · have CD := hid (fun w hC => CW.out d (by omega) w hC)
          rw [HN.out d (Int.le_refl _) (by omega)] at CD
          go_enter Try.func4, Try.ntmps4
          go_wp2_with fail
          refine (head_any _).mono ?_
          rintro e w1 ⟨rfl, hb⟩
          have L1 := hid (L0.out.to hb)
          obtain ⟨c0, c1, c2⟩ := L1.out.c3
          clear hb
          go_wp2_with fail
          refine (CF.out _ L1.out.cal).mono ?_
          rintro e w2 ⟨rfl, hb⟩
          clear c0 c1 c2
          have L2 := hid (L1.out.to hb)
          obtain ⟨c0, c1, c2⟩ := L2.out.c3
          clear hb
          go_wp2_with fail
          refine (C1.out _ L2.out.cal).mono ?_
          rintro e w3 ⟨rfl, hb⟩
          clear c0 c1 c2
          have L3 := hid (L2.out.to hb)
          obtain ⟨c0, c1, c2⟩ := L3.out.c3
          clear hb
          go_wp2
          go_loopw [9] (fun s9 wr => ∃ k : Nat, d + k ≤ x ∧ s9 = .int .i64 (d + k) ∧ Hid (Lw w w.heap.size z aw ah cw ch wk hs wr)) (fun s9 _ => (d + 60 - intOf s9).toNat)
          case atStart => exact ⟨0, by omega, by simp, L3.out⟩
          case round =>
            obtain ⟨k, hk, rfl, LR⟩ := hrel
            clear c0 c1 c2
            obtain ⟨c0, c1, c2⟩ := LR.out.c3
            have hlk : d + (k : Int) < d + 60 := by omega
            by_cases hlt : d + (k : Int) < x
            · have CK := hid (fun w hC => CW.out (d + k) (by omega) w hC)
              rw [HN.out (d + k) (by omega) (by omega)] at CK
              have hne : (d + (k : Int) == x) = false := by simp; omega
              go_wp2_with fail
              refine (CK.out _ LR.out.cal).mono ?_
              rintro e w4 ⟨rfl, hb⟩
              have LR2 := hid (LR.out.to hb)
              clear hb
              go_wp2
              go_roundw
              case rel => exact ⟨k + 1, by omega, by go_num, LR2⟩
              case measure => simp [intOf]; omega
            · have hkx : d + (k : Int) = x := by omega
              go_wp2_with fail
              refine (C2.out _ LR.out.cal).mono ?_
              rintro e v0 ⟨rfl, hb⟩
              clear c0 c1 c2
              have LT0 := hid (LR.out.to hb)
              obtain ⟨c0, c1, c2⟩ := LT0.out.c3
              clear hb
              go_wp2_with fail
              refine (CX.out _ LT0.out.cal).mono ?_
              rintro e v1 ⟨rfl, hb⟩
              clear c0 c1 c2
              have LT1 := hid (LT0.out.to hb)
              obtain ⟨c0, c1, c2⟩ := LT1.out.c3
              clear hb
              go_wp2_with fail
              refine (CD.out _ LT1.out.cal).mono ?_
              rintro e v2 ⟨rfl, hb⟩
              clear c0 c1 c2
              have LT2 := hid (LT1.out.to hb)
              obtain ⟨c0, c1, c2⟩ := LT2.out.c3
              clear hb
              go_wp2
              go_ret
              exact ⟨rfl, LT2.out.bel⟩
      | some y =>
        rw [ho2, oV_some, oE_some] at C2
        obtain ⟨hy0, hy1, hy2, -⟩ := next_some ho2
        have hyx : x ≤ y := by
          rcases Int.lt_or_le y x with h | h
          · rw [HN.out y (by omega) h] at hy2; cases hy2
          · exact h
        clear ho2 hy2 hy0 hy1
        by_cases hxd : x = d
        · have CD := hid (fun w hC => CW.out d (by omega) w hC)
          rw [show onB wk hs d = true by rw [← hxd]; exact HX.out] at CD
          have hne2 : (x != d) = false := by simp [hxd]
          clear hxd
          go_enter Try.func4, Try.ntmps4
          go_wp2_with fail
          refine (head_any _).mono ?_
          rintro e w1 ⟨rfl, hb⟩
          have L1 := hid (L0.out.to hb)
          obtain ⟨c0, c1, c2⟩ := L1.out.c3
          clear hb
          go_wp2_with fail
          refine (CF.out _ L1.out.cal).mono ?_
          rintro e w2 ⟨rfl, hb⟩
          clear c0 c1 c2
          have L2 := hid (L1.out.to hb)
          obtain ⟨c0, c1, c2⟩ := L2.out.c3
          clear hb
          go_wp2_with fail
          refine (C1.out _ L2.out.cal).mono ?_
          rintro e w3 ⟨rfl, hb⟩
          clear c0 c1 c2
          have L3 := hid (L2.out.to hb)
          obtain ⟨c0, c1, c2⟩ := L3.out.c3
          clear hb
          go_wp2
          go_loopw [9] (fun s9 wr => ∃ k : Nat, d + k ≤ x ∧ s9 = .int .i64 (d + k) ∧ Hid (Lw w w.heap.size z aw ah cw ch wk hs wr)) (fun s9 _ => (d + 60 - intOf s9).toNat)
          case atStart => exact ⟨0, by omega, by simp, L3.out⟩
          case round =>
            obtain ⟨k, hk, rfl, LR⟩ := hrel
            clear c0 c1 c2
            obtain ⟨c0, c1, c2⟩ := LR.out.c3
            have hlk : d + (k : Int) < d + 60 := by omega
            by_cases hlt : d + (k : Int) < x
            · have CK := hid (fun w hC => CW.out (d + k) (by omega) w hC)
              rw [HN.out (d + k) (by omega) (by omega)] at CK
              have hne : (d + (k : Int) == x) = false := by simp; omega
              go_wp2_with fail
              refine (CK.out _ LR.out.cal).mono ?_
              rintro e w4 ⟨rfl, hb⟩
              have LR2 := hid (LR.out.to hb)
              clear hb
              go_wp2
              go_roundw
              case rel => exact ⟨k + 1, by omega, by go_num, LR2⟩
              case measure => simp [intOf]; omega
            · have hkx : d + (k : Int) = x := by omega
              go_wp2_with fail
              refine (C2.out _ LR.out.cal).mono ?_
              rintro e v0 ⟨rfl, hb⟩
              clear c0 c1 c2
              have LT0 := hid (LR.out.to hb)
              obtain ⟨c0, c1, c2⟩ := LT0.out.c3
              clear hb
              go_wp2_with fail
              refine (CX.out _ LT0.out.cal).mono ?_
              rintro e v1 ⟨rfl, hb⟩
              clear c0 c1 c2
              have LT1 := hid (LT0.out.to hb)
              obtain ⟨c0, c1, c2⟩ := LT1.out.c3
              clear hb
              go_wp2_with fail
              refine (CD.out _ LT1.out.cal).mono ?_
              rintro e v2 ⟨rfl, hb⟩
              clear c0 c1 c2
              have LT2 := hid (LT1.out.to hb)
              obtain ⟨c0, c1, c2⟩ := LT2.out.c3
              clear hb
              go_wp2
              go_ret
              exact ⟨rfl, LT2.out.bel⟩
        · have CD := hid (fun w hC => CW.out d (by omega) w hC)
          rw [HN.out d (Int.le_refl _) (by omega)] at CD
          go_enter Try.func4, Try.ntmps4
          go_wp2_with fail
          refine (head_any _).mono ?_
          rintro e w1 ⟨rfl, hb⟩
          have L1 := hid (L0.out.to hb)
          obtain ⟨c0, c1, c2⟩ := L1.out.c3
          clear hb
          go_wp2_with fail
          refine (CF.out _ L1.out.cal).mono ?_
          rintro e w2 ⟨rfl, hb⟩
          clear c0 c1 c2
          have L2 := hid (L1.out.to hb)
          obtain ⟨c0, c1, c2⟩ := L2.out.c3
          clear hb
          go_wp2_with fail
          refine (C1.out _ L2.out.cal).mono ?_
          rintro e w3 ⟨rfl, hb⟩
          clear c0 c1 c2
          have L3 := hid (L2.out.to hb)
          obtain ⟨c0, c1, c2⟩ := L3.out.c3
          clear hb
          go_wp2
          go_loopw [9] (fun s9 wr => ∃ k : Nat, d + k ≤ x ∧ s9 = .int .i64 (d + k) ∧ Hid (Lw w w.heap.size z aw ah cw ch wk hs wr)) (fun s9 _ => (d + 60 - intOf s9).toNat)
          case atStart => exact ⟨0, by omega, by simp, L3.out⟩
          case round =>
            obtain ⟨k, hk, rfl, LR⟩ := hrel
            clear c0 c1 c2
            obtain ⟨c0, c1, c2⟩ := LR.out.c3
            have hlk : d + (k : Int) < d + 60 := by omega
            by_cases hlt : d + (k : Int) < x
            · have CK := hid (fun w hC => CW.out (d + k) (by omega) w hC)
              rw [HN.out (d + k) (by omega) (by omega)] at CK
              have hne : (d + (k : Int) == x) = false := by simp; omega
              go_wp2_with fail
              refine (CK.out _ LR.out.cal).mono ?_
              rintro e w4 ⟨rfl, hb⟩
              have LR2 := hid (LR.out.to hb)
              clear hb
              go_wp2
              go_roundw
              case rel => exact ⟨k + 1, by omega, by go_num, LR2⟩
              case measure => simp [intOf]; omega
            · have hkx : d + (k : Int) = x := by omega
              go_wp2_with fail
              refine (C2.out _ LR.out.cal).mono ?_
              rintro e v0 ⟨rfl, hb⟩
              clear c0 c1 c2
              have LT0 := hid (LR.out.to hb)
              obtain ⟨c0, c1, c2⟩ := LT0.out.c3
              clear hb
              go_wp2_with fail
              refine (CX.out _ LT0.out.cal).mono ?_
              rintro e v1 ⟨rfl, hb⟩
              clear c0 c1 c2
              have LT1 := hid (LT0.out.to hb)
              obtain ⟨c0, c1, c2⟩ := LT1.out.c3
              clear hb
              go_wp2_with fail
              refine (CD.out _ LT1.out.cal).mono ?_
              rintro e v2 ⟨rfl, hb⟩
              clear c0 c1 c2
              have LT2 := hid (LT1.out.to hb)
              obtain ⟨c0, c1, c2⟩ := LT2.out.c3
              clear hb
              go_wp2
              go_ret
              exact ⟨rfl, LT2.out.bel⟩

end Cl
end Go.Proofs.Ythhckdfghdpmkaa
