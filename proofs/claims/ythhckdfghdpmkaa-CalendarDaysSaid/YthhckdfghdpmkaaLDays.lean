/-
  The walk of CalendarDays.
-/
import Derived.Test.YthhckdfghdpmkaaLaw
namespace Go.Proofs.Ythhckdfghdpmkaa
open Go.RowKit
namespace Cl

theorem days_facts (z t u d m e n : Int) (hd : d = (t + z) / 1440) (hm : m = (t + z) % 1440) (he : e = (u + z) / 1440) (hn : n = (u + z) % 1440) :
    0 ≤ m ∧ m ≤ 1439 ∧ 0 ≤ n ∧ n ≤ 1439 ∧ d * 1440 + m - z = t ∧ e * 1440 + n - z = u ∧ (t + 1440 + z) / 1440 = d + 1 ∧ (t + 1440 + z) % 1440 = m := by
  subst hd hm he hn; omega

set_option maxRecDepth 100000 in
set_option maxHeartbeats 4000000 in
theorem days_law (z : Int) (aw ah : Option Addr) (cw ch : Nat) (wk : List Bool) (hs : List Int) (a b : Int) (w : World) (hC : Cal w.heap.size w aw ah wk hs) (ha : -2147483648 ≤ a ∧ a ≤ 2147483647) (hb : -2147483648 ≤ b ∧ b ≤ 2147483647) :
    Calls Try.prog 3 #[calV z aw wk.length cw ah hs.length ch, .int .i32 a, .int .i32 b] w fun e w' => e = .returned (.bool true) ∧ Below w.heap.size w w' := by
  have L0 := hid (Lw.new (z := z) (cw := cw) (ch := ch) hC)
  have hl1 := hC.wl
  have hl2 := hC.hl
  unfold maxLen at hl1 hl2
  clear hC
  obtain ⟨ha0, ha1⟩ := ha
  obtain ⟨hb0, hb1⟩ := hb
  obtain ⟨⟨ta0, ta1⟩, -⟩ := tm_bd a ha0 ha1
  obtain ⟨⟨tb0, tb1⟩, -⟩ := tm_bd b hb0 hb1
  obtain ⟨t, ht⟩ : ∃ t, a.tmod 1000000001 = t := ⟨_, rfl⟩
  obtain ⟨u, hu⟩ : ∃ u, b.tmod 1000000001 = u := ⟨_, rfl⟩
  rw [ht] at ta0 ta1
  rw [hu] at tb0 tb1
  have CF := hid (fun w hC => fine_any z aw ah cw ch wk hs w hC)
  cases hv : validB z wk hs with
  | false =>
    rw [hv] at CF
    clear hv
    go_enter Try.func3, Try.ntmps3
    go_wp2_with fail
    refine (head_any _).mono ?_
    rintro e w1 ⟨rfl, hb⟩
    have L1 := hid (L0.out.to hb)
    obtain ⟨c0, c1, c2⟩ := L1.out.c3
    clear hb
    go_wp2_with fail
    refine (CF.out _ L1.out.cal).mono ?_
    rintro e w2 ⟨rfl, hb⟩
    go_wp2
    go_ret
    exact ⟨rfl, bt L1.out.bel hb⟩
  | true =>
    rw [hv] at CF
    have HV := hid hv
    obtain ⟨hz0, hz1, -, -, -⟩ := valid_parts hv
    clear hv
    obtain ⟨d, hd⟩ : ∃ d, d = (t + z) / 1440 := ⟨_, rfl⟩
    obtain ⟨m, hm⟩ : ∃ m, m = (t + z) % 1440 := ⟨_, rfl⟩
    obtain ⟨e, he⟩ : ∃ e, e = (u + z) / 1440 := ⟨_, rfl⟩
    obtain ⟨n, hn⟩ : ∃ n, n = (u + z) % 1440 := ⟨_, rfl⟩
    obtain ⟨m0, m1, n0, n1, et, eu, ef, eo⟩ := days_facts z t u d m e n hd hm he hn
    have C1 := hid (fun w hC => local_any z aw ah cw ch wk hs t w hC HV.out (by omega) (by omega))
    have C2 := hid (fun w hC => local_any z aw ah cw ch wk hs u w hC HV.out (by omega) (by omega))
    have C3 := hid (fun w hC => local_any z aw ah cw ch wk hs (t + 1440) w hC HV.out (by omega) (by omega))
    rw [← hd, ← hm] at C1
    rw [← he, ← hn] at C2
    rw [ef, eo] at C3
    have hdb : -1000000 ≤ d ∧ d ≤ 1000000 := by omega
    have heb : -1000000 ≤ e ∧ e ≤ 1000000 := by omega
    have C4 := hid (fun w hC => time_any z aw ah cw ch wk hs d m w hC HV.out (inR_iff.2 hdb) m0 m1)
    rw [et] at C4
    obtain ⟨hd0, hd1⟩ := hdb
    have hcase : (d < e ∧ t < u) ∨ (e < d ∧ u < t) ∨ (e = d ∧ m < n ∧ t < u) ∨ (e = d ∧ n < m ∧ u < t) ∨ (e = d ∧ n = m ∧ u = t) := by omega
    clear hd hm he hn ef eo et eu heb
    rcases hcase with ⟨k1, k2⟩ | ⟨k1, k2⟩ | ⟨rfl, k1, k2⟩ | ⟨rfl, k1, k2⟩ | ⟨rfl, rfl, rfl⟩
    · have q1 : (e == d) = false := by simp; omega
      have q2 : (u == t) = false := by simp; omega
      go_enter Try.func3, Try.ntmps3
      go_wp2_with fail
      refine (head_any _).mono ?_
      rintro e w1 ⟨rfl, hb⟩
      have L1 := hid (L0.out.to hb)
      obtain ⟨c0, c1, c2⟩ := L1.out.c3
      clear hb
      go_wp2_with fail
      refine (CF.out _ L1.out.cal).mono ?_
      rintro e w2 ⟨rfl, hb⟩
      clear c0 c1 c2
      have L2 := hid (L1.out.to hb)
      obtain ⟨c0, c1, c2⟩ := L2.out.c3
      clear hb
      go_wp2_with fail
      refine (C1.out _ L2.out.cal).mono ?_
      rintro e w3 ⟨rfl, hb⟩
      clear c0 c1 c2
      have L3 := hid (L2.out.to hb)
      obtain ⟨c0, c1, c2⟩ := L3.out.c3
      clear hb
      go_wp2_with fail
      refine (C2.out _ L3.out.cal).mono ?_
      rintro e w4 ⟨rfl, hb⟩
      clear c0 c1 c2
      have L4 := hid (L3.out.to hb)
      obtain ⟨c0, c1, c2⟩ := L4.out.c3
      clear hb
      go_wp2_with fail
      refine (C3.out _ L4.out.cal).mono ?_
      rintro e w5 ⟨rfl, hb⟩
      clear c0 c1 c2
      have L5 := hid (L4.out.to hb)
      obtain ⟨c0, c1, c2⟩ := L5.out.c3
      clear hb
      go_wp2_with fail
      refine (C4.out _ L5.out.cal).mono ?_
      rintro e w6 ⟨rfl, hb⟩
      clear c0 c1 c2
      have L6 := hid (L5.out.to hb)
      obtain ⟨c0, c1, c2⟩ := L6.out.c3
      clear hb
      go_wp2
      go_ret
      exact ⟨rfl, L6.out.bel⟩
    · have q1 : (e == d) = false := by simp; omega
      have q2 : (u == t) = false := by simp; omega
      have q3 : decide (d < e) = false := by simp; omega
      have q4 : decide (t < u) = false := by simp; omega
      go_enter Try.func3, Try.ntmps3
      go_wp2_with fail
      refine (head_any _).mono ?_
      rintro e w1 ⟨rfl, hb⟩
      have L1 := hid (L0.out.to hb)
      obtain ⟨c0, c1, c2⟩ := L1.out.c3
      clear hb
      go_wp2_with fail
      refine (CF.out _ L1.out.cal).mono ?_
      rintro e w2 ⟨rfl, hb⟩
      clear c0 c1 c2
      have L2 := hid (L1.out.to hb)
      obtain ⟨c0, c1, c2⟩ := L2.out.c3
      clear hb
      go_wp2_with fail
      refine (C1.out _ L2.out.cal).mono ?_
      rintro e w3 ⟨rfl, hb⟩
      clear c0 c1 c2
      have L3 := hid (L2.out.to hb)
      obtain ⟨c0, c1, c2⟩ := L3.out.c3
      clear hb
      go_wp2_with fail
      refine (C2.out _ L3.out.cal).mono ?_
      rintro e w4 ⟨rfl, hb⟩
      clear c0 c1 c2
      have L4 := hid (L3.out.to hb)
      obtain ⟨c0, c1, c2⟩ := L4.out.c3
      clear hb
      go_wp2_with fail
      refine (C3.out _ L4.out.cal).mono ?_
      rintro e w5 ⟨rfl, hb⟩
      clear c0 c1 c2
      have L5 := hid (L4.out.to hb)
      obtain ⟨c0, c1, c2⟩ := L5.out.c3
      clear hb
      go_wp2_with fail
      refine (C4.out _ L5.out.cal).mono ?_
      rintro e w6 ⟨rfl, hb⟩
      clear c0 c1 c2
      have L6 := hid (L5.out.to hb)
      obtain ⟨c0, c1, c2⟩ := L6.out.c3
      clear hb
      go_wp2
      go_ret
      exact ⟨rfl, L6.out.bel⟩
    · have q1 : (n == m) = false := by simp; omega
      have q2 : (u == t) = false := by simp; omega
      go_enter Try.func3, Try.ntmps3
      go_wp2_with fail
      refine (head_any _).mono ?_
      rintro e w1 ⟨rfl, hb⟩
      have L1 := hid (L0.out.to hb)
      obtain ⟨c0, c1, c2⟩ := L1.out.c3
      clear hb
      go_wp2_with fail
      refine (CF.out _ L1.out.cal).mono ?_
      rintro e w2 ⟨rfl, hb⟩
      clear c0 c1 c2
      have L2 := hid (L1.out.to hb)
      obtain ⟨c0, c1, c2⟩ := L2.out.c3
      clear hb
      go_wp2_with fail
      refine (C1.out _ L2.out.cal).mono ?_
      rintro e w3 ⟨rfl, hb⟩
      clear c0 c1 c2
      have L3 := hid (L2.out.to hb)
      obtain ⟨c0, c1, c2⟩ := L3.out.c3
      clear hb
      go_wp2_with fail
      refine (C2.out _ L3.out.cal).mono ?_
      rintro e w4 ⟨rfl, hb⟩
      clear c0 c1 c2
      have L4 := hid (L3.out.to hb)
      obtain ⟨c0, c1, c2⟩ := L4.out.c3
      clear hb
      go_wp2_with fail
      refine (C3.out _ L4.out.cal).mono ?_
      rintro e w5 ⟨rfl, hb⟩
      clear c0 c1 c2
      have L5 := hid (L4.out.to hb)
      obtain ⟨c0, c1, c2⟩ := L5.out.c3
      clear hb
      go_wp2_with fail
      refine (C4.out _ L5.out.cal).mono ?_
      rintro e w6 ⟨rfl, hb⟩
      clear c0 c1 c2
      have L6 := hid (L5.out.to hb)
      obtain ⟨c0, c1, c2⟩ := L6.out.c3
      clear hb
      go_wp2
      go_ret
      exact ⟨rfl, L6.out.bel⟩
    · have q1 : (n == m) = false := by simp; omega
      have q2 : (u == t) = false := by simp; omega
      have q3 : decide (m < n) = false := by simp; omega
      have q4 : decide (t < u) = false := by simp; omega
      go_enter Try.func3, Try.ntmps3
      go_wp2_with fail
      refine (head_any _).mono ?_
      rintro e w1 ⟨rfl, hb⟩
      have L1 := hid (L0.out.to hb)
      obtain ⟨c0, c1, c2⟩ := L1.out.c3
      clear hb
      go_wp2_with fail
      refine (CF.out _ L1.out.cal).mono ?_
      rintro e w2 ⟨rfl, hb⟩
      clear c0 c1 c2
      have L2 := hid (L1.out.to hb)
      obtain ⟨c0, c1, c2⟩ := L2.out.c3
      clear hb
      go_wp2_with fail
      refine (C1.out _ L2.out.cal).mono ?_
      rintro e w3 ⟨rfl, hb⟩
      clear c0 c1 c2
      have L3 := hid (L2.out.to hb)
      obtain ⟨c0, c1, c2⟩ := L3.out.c3
      clear hb
      go_wp2_with fail
      refine (C2.out _ L3.out.cal).mono ?_
      rintro e w4 ⟨rfl, hb⟩
      clear c0 c1 c2
      have L4 := hid (L3.out.to hb)
      obtain ⟨c0, c1, c2⟩ := L4.out.c3
      clear hb
      go_wp2_with fail
      refine (C3.out _ L4.out.cal).mono ?_
      rintro e w5 ⟨rfl, hb⟩
      clear c0 c1 c2
      have L5 := hid (L4.out.to hb)
      obtain ⟨c0, c1, c2⟩ := L5.out.c3
      clear hb
      go_wp2_with fail
      refine (C4.out _ L5.out.cal).mono ?_
      rintro e w6 ⟨rfl, hb⟩
      clear c0 c1 c2
      have L6 := hid (L5.out.to hb)
      obtain ⟨c0, c1, c2⟩ := L6.out.c3
      clear hb
      go_wp2
      go_ret
      exact ⟨rfl, L6.out.bel⟩
    · go_enter Try.func3, Try.ntmps3
      go_wp2_with fail
      refine (head_any _).mono ?_
      rintro e w1 ⟨rfl, hb⟩
      have L1 := hid (L0.out.to hb)
      obtain ⟨c0, c1, c2⟩ := L1.out.c3
      clear hb
      go_wp2_with fail
      refine (CF.out _ L1.out.cal).mono ?_
      rintro e w2 ⟨rfl, hb⟩
      clear c0 c1 c2
      have L2 := hid (L1.out.to hb)
      obtain ⟨c0, c1, c2⟩ := L2.out.c3
      clear hb
      go_wp2_with fail
      refine (C1.out _ L2.out.cal).mono ?_
      rintro e w3 ⟨rfl, hb⟩
      clear c0 c1 c2
      have L3 := hid (L2.out.to hb)
      obtain ⟨c0, c1, c2⟩ := L3.out.c3
      clear hb
      go_wp2_with fail
      refine (C2.out _ L3.out.cal).mono ?_
      rintro e w4 ⟨rfl, hb⟩
      clear c0 c1 c2
      have L4 := hid (L3.out.to hb)
      obtain ⟨c0, c1, c2⟩ := L4.out.c3
      clear hb
      go_wp2_with fail
      refine (C3.out _ L4.out.cal).mono ?_
      rintro e w5 ⟨rfl, hb⟩
      clear c0 c1 c2
      have L5 := hid (L4.out.to hb)
      obtain ⟨c0, c1, c2⟩ := L5.out.c3
      clear hb
      go_wp2_with fail
      refine (C4.out _ L5.out.cal).mono ?_
      rintro e w6 ⟨rfl, hb⟩
      clear c0 c1 c2
      have L6 := hid (L5.out.to hb)
      obtain ⟨c0, c1, c2⟩ := L6.out.c3
      clear hb
      go_wp2
      go_ret
      exact ⟨rfl, L6.out.bel⟩

end Cl
end Go.Proofs.Ythhckdfghdpmkaa
