/-
  The walk of CalendarAdds.
-/
import Derived.Test.YthhckdfghdpmkaaLaw
namespace Go.Proofs.Ythhckdfghdpmkaa
open Go.RowKit
namespace Cl

set_option maxRecDepth 100000 in
set_option maxHeartbeats 20000000 in
theorem adds_law (z : Int) (aw ah : Option Addr) (cw ch : Nat) (wk : List Bool) (hs : List Int) (r : Int) (p : Int) (q : Int) (w : World) (hC : Cal w.heap.size w aw ah wk hs) (hr : -2147483648 ≤ r ∧ r ≤ 2147483647) (hp : 0 ≤ p ∧ p ≤ 255) (hq : 0 ≤ q ∧ q ≤ 255) :
    Calls Try.prog 5 #[calV z aw wk.length cw ah hs.length ch, .int .i32 r, .int .u8 p, .int .u8 q] w fun e w' => e = .returned (.bool true) ∧ Below w.heap.size w w' := by
  have L0 := hid (Lw.new (z := z) (cw := cw) (ch := ch) hC)
  have hl1 := hC.wl
  have hl2 := hC.hl
  unfold maxLen at hl1 hl2
  clear hC
  obtain ⟨hr0, hr1⟩ := hr
  obtain ⟨hp0, hp1⟩ := hp
  obtain ⟨hq0, hq1⟩ := hq
  obtain ⟨-, td0, td1⟩ := tm_bd r hr0 hr1
  obtain ⟨d, hd⟩ : ∃ d, r.tmod 900001 = d := ⟨_, rfl⟩
  obtain ⟨a, ha⟩ : ∃ a, p % 61 = a := ⟨_, rfl⟩
  obtain ⟨b, hb'⟩ : ∃ b, q % 61 = b := ⟨_, rfl⟩
  rw [hd] at td0 td1
  have ha0 : 0 ≤ a := by omega
  have ha1 : a ≤ 60 := by omega
  have hb0 : 0 ≤ b := by omega
  have hb1 : b ≤ 60 := by omega
  have CF := hid (fun w hC => fine_any z aw ah cw ch wk hs w hC)
  cases hv : validB z wk hs with
  | false =>
    rw [hv] at CF
    clear hv
    go_enter Try.func5, Try.ntmps5
    go_wp2_with fail
    refine (head_any _).mono ?_
    rintro e w1 ⟨rfl, hb⟩
    have L1 := hid (L0.out.to hb)
    obtain ⟨c0, c1, c2⟩ := L1.out.c3
    clear hb
    go_wp2_with fail
    refine (CF.out _ L1.out.cal).mono ?_
    rintro e w2 ⟨rfl, hb⟩
    clear c0 c1 c2
    have L2 := hid (L1.out.to hb)
    obtain ⟨c0, c1, c2⟩ := L2.out.c3
    clear hb
    go_wp2
    go_ret
    exact ⟨rfl, L2.out.bel⟩
  | true =>
    rw [hv] at CF
    have HV := hid hv
    obtain ⟨hz0, hz1, -, -, -⟩ := valid_parts hv
    clear hv
    have hin : inR d = true := inR_iff.2 ⟨by omega, by omega⟩
    have C1 := hid (fun w hC => add_any z aw ah cw ch wk hs d a.toNat w hC HV.out hin (by omega))
    rw [Int.toNat_of_nonneg ha0] at C1
    have C2 := hid (fun w hC => add_any z aw ah cw ch wk hs d (a + b).toNat w hC HV.out hin (by omega))
    rw [Int.toNat_of_nonneg (show 0 ≤ a + b by omega), show (a + b).toNat = a.toNat + b.toNat by omega, addO_add] at C2
    clear hin
    cases ho : addO wk hs d a.toNat with
    | none =>
      rw [ho, oV_none, oE_none] at C1
      rw [ho, Option.bind_none, oV_none, oE_none] at C2
      clear ho
      go_enter Try.func5, Try.ntmps5
      go_wp2_with fail
      refine (head_any _).mono ?_
      rintro e w1 ⟨rfl, hb⟩
      have L1 := hid (L0.out.to hb)
      obtain ⟨c0, c1, c2⟩ := L1.out.c3
      clear hb
      go_wp2_with fail
      refine (CF.out _ L1.out.cal).mono ?_
      rintro e w2 ⟨rfl, hb⟩
      clear c0 c1 c2
      have L2 := hid (L1.out.to hb)
      obtain ⟨c0, c1, c2⟩ := L2.out.c3
      clear hb
      go_wp2_with fail
      refine (C1.out _ L2.out.cal).mono ?_
      rintro e w3 ⟨rfl, hb⟩
      clear c0 c1 c2
      have L3 := hid (L2.out.to hb)
      obtain ⟨c0, c1, c2⟩ := L3.out.c3
      clear hb
      go_wp2_with fail
      refine (C2.out _ L3.out.cal).mono ?_
      rintro e w4 ⟨rfl, hb⟩
      clear c0 c1 c2
      have L4 := hid (L3.out.to hb)
      obtain ⟨c0, c1, c2⟩ := L4.out.c3
      clear hb
      go_wp2
      go_ret
      exact ⟨rfl, L4.out.bel⟩
    | some x =>
      rw [ho, oV_some, oE_some] at C1
      rw [ho, Option.bind_some] at C2
      obtain ⟨hx0, hx1, hx2⟩ := add_some ho
      have hinx : inR x = true := inR_iff.2 ⟨by omega, by omega⟩
      have C3 := hid (fun w hC => add_any z aw ah cw ch wk hs x b.toNat w hC HV.out hinx (by omega))
      rw [Int.toNat_of_nonneg hb0] at C3
      have C4 := hid (fun w hC => workc_any z aw ah cw ch wk hs x w hC HV.out hinx)
      have hxa : a = 0 → x = d := by
        rintro rfl
        exact (Option.some.inj ho).symm
      clear ho hinx
      rcases Int.lt_or_eq_of_le ha0 with hap | hap
      · rw [hx2 (by omega)] at C4
        have hxd : d < x := by omega
        have qa : (a == 0) = false := by simp; omega
        clear hx2 hxa
        cases ho2 : addO wk hs x b.toNat with
        | none =>
          rw [ho2, oV_none, oE_none] at C2 C3
          clear ho2
          go_enter Try.func5, Try.ntmps5
          go_wp2_with fail
          refine (head_any _).mono ?_
          rintro e w1 ⟨rfl, hb⟩
          have L1 := hid (L0.out.to hb)
          obtain ⟨c0, c1, c2⟩ := L1.out.c3
          clear hb
          go_wp2_with fail
          refine (CF.out _ L1.out.cal).mono ?_
          rintro e w2 ⟨rfl, hb⟩
          clear c0 c1 c2
          have L2 := hid (L1.out.to hb)
          obtain ⟨c0, c1, c2⟩ := L2.out.c3
          clear hb
          go_wp2_with fail
          refine (C1.out _ L2.out.cal).mono ?_
          rintro e w3 ⟨rfl, hb⟩
          clear c0 c1 c2
          have L3 := hid (L2.out.to hb)
          obtain ⟨c0, c1, c2⟩ := L3.out.c3
          clear hb
          go_wp2_with fail
          refine (C2.out _ L3.out.cal).mono ?_
          rintro e w4 ⟨rfl, hb⟩
          clear c0 c1 c2
          have L4 := hid (L3.out.to hb)
          obtain ⟨c0, c1, c2⟩ := L4.out.c3
          clear hb
          go_wp2_with fail
          refine (C3.out _ L4.out.cal).mono ?_
          rintro e w5 ⟨rfl, hb⟩
          clear c0 c1 c2
          have L5 := hid (L4.out.to hb)
          obtain ⟨c0, c1, c2⟩ := L5.out.c3
          clear hb
          go_wp2_with fail
          refine (C4.out _ L5.out.cal).mono ?_
          rintro e w6 ⟨rfl, hb⟩
          clear c0 c1 c2
          have L6 := hid (L5.out.to hb)
          obtain ⟨c0, c1, c2⟩ := L6.out.c3
          clear hb
          go_wp2
          go_ret
          exact ⟨rfl, L6.out.bel⟩
        | some s =>
          rw [ho2, oV_some, oE_some] at C2 C3
          obtain ⟨hs0, hs1, -⟩ := add_some ho2
          rcases Int.lt_or_eq_of_le hb0 with hbp | hbp
          · have hsx : x < s := by omega
            have qb : (b == 0) = false := by simp; omega
            clear ho2 hs0 hs1 hx0 hx1
            go_enter Try.func5, Try.ntmps5
            go_wp2_with fail
            refine (head_any _).mono ?_
            rintro e w1 ⟨rfl, hb⟩
            have L1 := hid (L0.out.to hb)
            obtain ⟨c0, c1, c2⟩ := L1.out.c3
            clear hb
            go_wp2_with fail
            refine (CF.out _ L1.out.cal).mono ?_
            rintro e w2 ⟨rfl, hb⟩
            clear c0 c1 c2
            have L2 := hid (L1.out.to hb)
            obtain ⟨c0, c1, c2⟩ := L2.out.c3
            clear hb
            go_wp2_with fail
            refine (C1.out _ L2.out.cal).mono ?_
            rintro e w3 ⟨rfl, hb⟩
            clear c0 c1 c2
            have L3 := hid (L2.out.to hb)
            obtain ⟨c0, c1, c2⟩ := L3.out.c3
            clear hb
            go_wp2_with fail
            refine (C2.out _ L3.out.cal).mono ?_
            rintro e w4 ⟨rfl, hb⟩
            clear c0 c1 c2
            have L4 := hid (L3.out.to hb)
            obtain ⟨c0, c1, c2⟩ := L4.out.c3
            clear hb
            go_wp2_with fail
            refine (C3.out _ L4.out.cal).mono ?_
            rintro e w5 ⟨rfl, hb⟩
            clear c0 c1 c2
            have L5 := hid (L4.out.to hb)
            obtain ⟨c0, c1, c2⟩ := L5.out.c3
            clear hb
            go_wp2_with fail
            refine (C4.out _ L5.out.cal).mono ?_
            rintro e w6 ⟨rfl, hb⟩
            clear c0 c1 c2
            have L6 := hid (L5.out.to hb)
            obtain ⟨c0, c1, c2⟩ := L6.out.c3
            clear hb
            go_wp2
            go_ret
            exact ⟨rfl, L6.out.bel⟩
          · subst hbp
            obtain rfl : s = x := (Option.some.inj ho2).symm
            rw [Int.add_zero] at C2
            clear ho2 hs0 hs1 hx0 hx1
            go_enter Try.func5, Try.ntmps5
            go_wp2_with fail
            refine (head_any _).mono ?_
            rintro e w1 ⟨rfl, hb⟩
            have L1 := hid (L0.out.to hb)
            obtain ⟨c0, c1, c2⟩ := L1.out.c3
            clear hb
            go_wp2_with fail
            refine (CF.out _ L1.out.cal).mono ?_
            rintro e w2 ⟨rfl, hb⟩
            clear c0 c1 c2
            have L2 := hid (L1.out.to hb)
            obtain ⟨c0, c1, c2⟩ := L2.out.c3
            clear hb
            go_wp2_with fail
            refine (C1.out _ L2.out.cal).mono ?_
            rintro e w3 ⟨rfl, hb⟩
            clear c0 c1 c2
            have L3 := hid (L2.out.to hb)
            obtain ⟨c0, c1, c2⟩ := L3.out.c3
            clear hb
            go_wp2_with fail
            refine (C2.out _ L3.out.cal).mono ?_
            rintro e w4 ⟨rfl, hb⟩
            clear c0 c1 c2
            have L4 := hid (L3.out.to hb)
            obtain ⟨c0, c1, c2⟩ := L4.out.c3
            clear hb
            go_wp2_with fail
            refine (C3.out _ L4.out.cal).mono ?_
            rintro e w5 ⟨rfl, hb⟩
            clear c0 c1 c2
            have L5 := hid (L4.out.to hb)
            obtain ⟨c0, c1, c2⟩ := L5.out.c3
            clear hb
            go_wp2_with fail
            refine (C4.out _ L5.out.cal).mono ?_
            rintro e w6 ⟨rfl, hb⟩
            clear c0 c1 c2
            have L6 := hid (L5.out.to hb)
            obtain ⟨c0, c1, c2⟩ := L6.out.c3
            clear hb
            go_wp2
            go_ret
            exact ⟨rfl, L6.out.bel⟩
      · subst hap
        obtain rfl : x = d := hxa rfl
        rw [Int.zero_add] at C2
        clear hx2 hxa hx0 hx1 C4
        cases ho2 : addO wk hs x b.toNat with
        | none =>
          rw [ho2, oV_none, oE_none] at C2 C3
          clear ho2
          go_enter Try.func5, Try.ntmps5
          go_wp2_with fail
          refine (head_any _).mono ?_
          rintro e w1 ⟨rfl, hb⟩
          have L1 := hid (L0.out.to hb)
          obtain ⟨c0, c1, c2⟩ := L1.out.c3
          clear hb
          go_wp2_with fail
          refine (CF.out _ L1.out.cal).mono ?_
          rintro e w2 ⟨rfl, hb⟩
          clear c0 c1 c2
          have L2 := hid (L1.out.to hb)
          obtain ⟨c0, c1, c2⟩ := L2.out.c3
          clear hb
          go_wp2_with fail
          refine (C1.out _ L2.out.cal).mono ?_
          rintro e w3 ⟨rfl, hb⟩
          clear c0 c1 c2
          have L3 := hid (L2.out.to hb)
          obtain ⟨c0, c1, c2⟩ := L3.out.c3
          clear hb
          go_wp2_with fail
          refine (C2.out _ L3.out.cal).mono ?_
          rintro e w4 ⟨rfl, hb⟩
          clear c0 c1 c2
          have L4 := hid (L3.out.to hb)
          obtain ⟨c0, c1, c2⟩ := L4.out.c3
          clear hb
          go_wp2_with fail
          refine (C3.out _ L4.out.cal).mono ?_
          rintro e w5 ⟨rfl, hb⟩
          clear c0 c1 c2
          have L5 := hid (L4.out.to hb)
          obtain ⟨c0, c1, c2⟩ := L5.out.c3
          clear hb
          go_wp2
          go_ret
          exact ⟨rfl, L5.out.bel⟩
        | some s =>
          rw [ho2, oV_some, oE_some] at C2 C3
          obtain ⟨hs0, hs1, -⟩ := add_some ho2
          rcases Int.lt_or_eq_of_le hb0 with hbp | hbp
          · have hsx : x < s := by omega
            have qb : (b == 0) = false := by simp; omega
            clear ho2 hs0 hs1
            go_enter Try.func5, Try.ntmps5
            go_wp2_with fail
            refine (head_any _).mono ?_
            rintro e w1 ⟨rfl, hb⟩
            have L1 := hid (L0.out.to hb)
            obtain ⟨c0, c1, c2⟩ := L1.out.c3
            clear hb
            go_wp2_with fail
            refine (CF.out _ L1.out.cal).mono ?_
            rintro e w2 ⟨rfl, hb⟩
            clear c0 c1 c2
            have L2 := hid (L1.out.to hb)
            obtain ⟨c0, c1, c2⟩ := L2.out.c3
            clear hb
            go_wp2_with fail
            refine (C1.out _ L2.out.cal).mono ?_
            rintro e w3 ⟨rfl, hb⟩
            clear c0 c1 c2
            have L3 := hid (L2.out.to hb)
            obtain ⟨c0, c1, c2⟩ := L3.out.c3
            clear hb
            go_wp2_with fail
            refine (C2.out _ L3.out.cal).mono ?_
            rintro e w4 ⟨rfl, hb⟩
            clear c0 c1 c2
            have L4 := hid (L3.out.to hb)
            obtain ⟨c0, c1, c2⟩ := L4.out.c3
            clear hb
            go_wp2_with fail
            refine (C3.out _ L4.out.cal).mono ?_
            rintro e w5 ⟨rfl, hb⟩
            clear c0 c1 c2
            have L5 := hid (L4.out.to hb)
            obtain ⟨c0, c1, c2⟩ := L5.out.c3
            clear hb
            go_wp2
            go_ret
            exact ⟨rfl, L5.out.bel⟩
          · subst hbp
            obtain rfl : s = x := (Option.some.inj ho2).symm
            clear ho2 hs0 hs1
            go_enter Try.func5, Try.ntmps5
            go_wp2_with fail
            refine (head_any _).mono ?_
            rintro e w1 ⟨rfl, hb⟩
            have L1 := hid (L0.out.to hb)
            obtain ⟨c0, c1, c2⟩ := L1.out.c3
            clear hb
            go_wp2_with fail
            refine (CF.out _ L1.out.cal).mono ?_
            rintro e w2 ⟨rfl, hb⟩
            clear c0 c1 c2
            have L2 := hid (L1.out.to hb)
            obtain ⟨c0, c1, c2⟩ := L2.out.c3
            clear hb
            go_wp2_with fail
            refine (C1.out _ L2.out.cal).mono ?_
            rintro e w3 ⟨rfl, hb⟩
            clear c0 c1 c2
            have L3 := hid (L2.out.to hb)
            obtain ⟨c0, c1, c2⟩ := L3.out.c3
            clear hb
            go_wp2_with fail
            refine (C2.out _ L3.out.cal).mono ?_
            rintro e w4 ⟨rfl, hb⟩
            clear c0 c1 c2
            have L4 := hid (L3.out.to hb)
            obtain ⟨c0, c1, c2⟩ := L4.out.c3
            clear hb
            go_wp2_with fail
            refine (C3.out _ L4.out.cal).mono ?_
            rintro e w5 ⟨rfl, hb⟩
            clear c0 c1 c2
            have L5 := hid (L4.out.to hb)
            obtain ⟨c0, c1, c2⟩ := L5.out.c3
            clear hb
            go_wp2
            go_ret
            exact ⟨rfl, L5.out.bel⟩

end Cl
end Go.Proofs.Ythhckdfghdpmkaa
