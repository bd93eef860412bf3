/-
  The walk of CalendarZones.
-/
import Derived.Test.YthhckdfghdpmkaaNear
namespace Go.Proofs.Ythhckdfghdpmkaa
open Go.RowKit
namespace Cl

set_option maxRecDepth 100000 in
set_option maxHeartbeats 20000000 in
theorem zones_law (z : Int) (aw ah : Option Addr) (cw ch : Nat) (wk : List Bool) (hs : List Int) (a : Int) (b : Int) (w : World) (hC : Cal w.heap.size w aw ah wk hs) (ha : -2147483648 ≤ a ∧ a ≤ 2147483647) (hb : -2147483648 ≤ b ∧ b ≤ 2147483647) :
    Calls Try.prog 9 #[calV z aw wk.length cw ah hs.length ch, .int .i32 a, .int .i32 b] w fun e w' => e = .returned (.bool true) ∧ Below w.heap.size w w' := by
  have L0 := hid (Lw.new (z := z) (cw := cw) (ch := ch) hC)
  have hl1 := hC.wl
  have hl2 := hC.hl
  unfold maxLen at hl1 hl2
  clear hC
  obtain ⟨ha0, ha1⟩ := ha
  obtain ⟨hb0, hb1⟩ := hb
  obtain ⟨⟨ta0, ta1⟩, -⟩ := tm_bd a ha0 ha1
  obtain ⟨-, td0, td1⟩ := tm_bd b hb0 hb1
  obtain ⟨t, ht⟩ : ∃ t, a.tmod 1000000001 = t := ⟨_, rfl⟩
  obtain ⟨d, hd⟩ : ∃ d, b.tmod 900001 = d := ⟨_, rfl⟩
  rw [ht] at ta0 ta1
  rw [hd] at td0 td1
  have CF := hid (fun w hC => fine_any z aw ah cw ch wk hs w hC)
  cases hv : validB z wk hs with
  | false =>
    rw [hv] at CF
    clear hv
    go_enter Try.func9, Try.ntmps9
    go_wp2_with fail
    refine (head_any _).mono ?_
    rintro e w1 ⟨rfl, hb⟩
    have L1 := hid (L0.out.to hb)
    obtain ⟨c0, c1, c2⟩ := L1.out.c3
    clear hb
    go_wp2_with fail
    refine (CF.out _ L1.out.cal).mono ?_
    rintro e w2 ⟨rfl, hb⟩
    clear c0 c1 c2
    have L2 := hid (L1.out.to hb)
    obtain ⟨c0, c1, c2⟩ := L2.out.c3
    clear hb
    go_wp2
    go_ret
    exact ⟨rfl, L2.out.bel⟩
  | true =>
    rw [hv] at CF
    have HV := hid hv
    obtain ⟨hz0, hz1, -, -, -⟩ := valid_parts hv
    clear hv
    obtain ⟨-, -, h7, h40, hinc⟩ := valid_parts HV.out
    have HZ : Hid (validB 0 wk hs = true) := by show _ = _; rw [valid_mk (by omega) (by omega) h7 h40]; exact hinc
    clear h7 h40 hinc
    have hin : inR d = true := inR_iff.2 ⟨by omega, by omega⟩
    have C1 := hid (fun w hC => local_any z aw ah cw ch wk hs t w hC HV.out (by omega) (by omega))
    have C2 := hid (fun w hC => local_any 0 aw ah cw ch wk hs (t + z) w hC HZ.out (by omega) (by omega))
    have C3 := hid (fun w hC => next_any z aw ah cw ch wk hs d w hC HV.out hin)
    have C4 := hid (fun w hC => next_any 0 aw ah cw ch wk hs d w hC HZ.out hin)
    have C5 := hid (fun w hC => workc_any z aw ah cw ch wk hs d w hC HV.out hin)
    have C6 := hid (fun w hC => workc_any 0 aw ah cw ch wk hs d w hC HZ.out hin)
    have C7 := hid (fun w hC => time_any z aw ah cw ch wk hs d 5 w hC HV.out hin (by omega) (by omega))
    have C8 := hid (fun w hC => time_any 0 aw ah cw ch wk hs d 5 w hC HZ.out hin (by omega) (by omega))
    rw [show (t + z + 0) = t + z by omega] at C2
    rw [show d * 1440 + 5 - 0 = d * 1440 + 5 by omega] at C8
    obtain ⟨q, hq⟩ : ∃ q, (t + z) / 1440 = q := ⟨_, rfl⟩
    obtain ⟨m, hm⟩ : ∃ m, (t + z) % 1440 = m := ⟨_, rfl⟩
    obtain ⟨x, hx⟩ : ∃ x, oV (nextO wk hs d) = x := ⟨_, rfl⟩
    obtain ⟨e, he⟩ : ∃ e, oE (nextO wk hs d) = e := ⟨_, rfl⟩
    obtain ⟨v, hv⟩ : ∃ v, onB wk hs d = v := ⟨_, rfl⟩
    rw [hq, hm] at C1 C2
    rw [hx, he] at C3 C4
    rw [hv] at C5 C6
    clear hin hq hm hx he hv
    go_enter Try.func9, Try.ntmps9
    go_wp2_with fail
    refine (head_any _).mono ?_
    rintro e w1 ⟨rfl, hb⟩
    have L1 := hid (L0.out.to hb)
    obtain ⟨c0, c1, c2⟩ := L1.out.c3
    clear hb
    go_wp2_with fail
    refine (CF.out _ L1.out.cal).mono ?_
    rintro e w2 ⟨rfl, hb⟩
    clear c0 c1 c2
    have L2 := hid (L1.out.to hb)
    obtain ⟨c0, c1, c2⟩ := L2.out.c3
    clear hb
    have hlt2 := L2.out.lt
    have M2 := hid (⟨heap_new _ _, L2.out.cal.to (b0 _ _), bt L2.out.bel (b0 _ _)⟩ : Lw w w2.heap.size 0 aw ah cw ch wk hs (w2.alloc (.cells #[.int .i64 0, .slice aw wk.length cw, .slice ah hs.length ch] 25)))
    have LA := hid (L2.out.to (b0 w2 (.cells #[.int .i64 0, .slice aw wk.length cw, .slice ah hs.length ch] 25)))
    go_wp2_with fail
    refine (C1.out _ LA.out.cal).mono ?_
    rintro e w3 ⟨rfl, hb⟩
    clear c0 c1 c2
    have L3 := hid (LA.out.to hb)
    have M3 := hid (M2.out.to hb)
    obtain ⟨c0, c1, c2⟩ := L3.out.c3
    obtain ⟨e0, e1, e2⟩ := M3.out.c3
    clear hb hlt2
    go_wp2_with fail
    refine (C2.out _ L3.out.cal).mono ?_
    rintro e w4 ⟨rfl, hb⟩
    clear c0 c1 c2 e0 e1 e2
    have L4 := hid (L3.out.to hb)
    have M4 := hid (M3.out.to hb)
    obtain ⟨c0, c1, c2⟩ := L4.out.c3
    obtain ⟨e0, e1, e2⟩ := M4.out.c3
    clear hb
    go_wp2_with fail
    refine (C3.out _ L4.out.cal).mono ?_
    rintro e w5 ⟨rfl, hb⟩
    clear c0 c1 c2 e0 e1 e2
    have L5 := hid (L4.out.to hb)
    have M5 := hid (M4.out.to hb)
    obtain ⟨c0, c1, c2⟩ := L5.out.c3
    obtain ⟨e0, e1, e2⟩ := M5.out.c3
    clear hb
    go_wp2_with fail
    refine (C4.out _ L5.out.cal).mono ?_
    rintro e w6 ⟨rfl, hb⟩
    clear c0 c1 c2 e0 e1 e2
    have L6 := hid (L5.out.to hb)
    have M6 := hid (M5.out.to hb)
    obtain ⟨c0, c1, c2⟩ := L6.out.c3
    obtain ⟨e0, e1, e2⟩ := M6.out.c3
    clear hb
    clear c0 c1 c2 e0 e1 e2
    have cx0 := fun (u : Near w6) => (L6.out.to u.below).c3.1
    have cx1 := fun (u : Near w6) => (L6.out.to u.below).c3.2.1
    have cx2 := fun (u : Near w6) => (L6.out.to u.below).c3.2.2
    have ex0 := fun (u : Near w6) => (M6.out.to u.below).c3.1
    have ex1 := fun (u : Near w6) => (M6.out.to u.below).c3.2.1
    have ex2 := fun (u : Near w6) => (M6.out.to u.below).c3.2.2
    have D5 := hid (fun (u : Near w6) => near_calls u (C5.out u.w (L6.out.to u.below).cal))
    have D6 := hid (fun (u : Near w6) => near_calls u (C6.out u.w (L6.out.to u.below).cal))
    have D7 := hid (fun (u : Near w6) => near_calls u (C7.out u.w (L6.out.to u.below).cal))
    have D8 := hid (fun (u : Near w6) => near_calls u (C8.out u.w (L6.out.to u.below).cal))
    have hwr : IntKind.i64.wrap (d * 1440 + 5 - z) = d * 1440 + 5 - z := IntWalk.i64_in _ (by omega)
    go_wp2
    refine wp_region_near (wM := w6) (by kernel_rfl) (by kernel_rfl) (Below.refl _ _) ?_
    repeat (go_big_quiet_step ((first | (go_at_call 15; with_reducible exact D5.out _) | (go_at_call 15; with_reducible exact D6.out _) | (go_at_call 13; with_reducible exact D7.out _) | (go_at_call 13; with_reducible exact D8.out _))))
    refine wpQuiet_nil ?_
    rintro _ ⟨u, rfl⟩
    go_wp2
    go_ret
    exact ⟨rfl, bt L6.out.bel u.below⟩

end Cl
end Go.Proofs.Ythhckdfghdpmkaa
