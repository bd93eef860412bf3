/-
  The walk of CalendarWeeks.
-/
import Derived.Test.YthhckdfghdpmkaaNear
namespace Go.Proofs.Ythhckdfghdpmkaa
open Go.RowKit
namespace Cl

theorem on_week (wk : List Bool) (d : Int) : onB wk [] (d + 7) = onB wk [] d := by
  unfold onB holB
  rw [show (d + 7) % 7 = d % 7 by omega]; rfl
theorem on_nil (wk : List Bool) (d : Int) : onB wk [] d = wk.getD (d % 7).toNat false := by
  unfold onB holB; simp
def numT (wk : List Bool) (k : Nat) : Nat := ((wk.take k).filter id).length
theorem numT_succ (wk : List Bool) (k : Nat) (h : k < wk.length) : numT wk (k + 1) = numT wk k + if wk.getD k false then 1 else 0 := by
  unfold numT
  rw [List.take_succ_eq_append_getElem h, List.filter_append, List.length_append]
  have e : wk.getD k false = wk[k] := by simp [List.getD, h]
  rw [e]
  cases wk[k] <;> simp
theorem numT_le (wk : List Bool) (k : Nat) : numT wk k ≤ k := by
  unfold numT
  have h1 := List.length_filter_le id (wk.take k)
  have h2 := List.length_take_le k wk
  omega
theorem week_cnt (x0 x1 x2 x3 x4 x5 x6 : Bool) (d : Int) : cntI [x0, x1, x2, x3, x4, x5, x6] [] d (d + 7) = (numT [x0, x1, x2, x3, x4, x5, x6] 7 : Nat) := by
  have e : ∀ i : Nat, cntI [x0, x1, x2, x3, x4, x5, x6] [] d (d + ((i + 1 : Nat) : Int)) = cntI [x0, x1, x2, x3, x4, x5, x6] [] d (d + (i : Int)) + if [x0, x1, x2, x3, x4, x5, x6].getD ((d + i + 1) % 7).toNat false then 1 else 0 := fun i => by
    rw [cnt_succ, on_nil]
  have e0 := e 0
  have e1 := e 1
  have e2 := e 2
  have e3 := e 3
  have e4 := e 4
  have e5 := e 5
  have e6 := e 6
  have z : cntI [x0, x1, x2, x3, x4, x5, x6] [] d (d + ((0 : Nat) : Int)) = 0 := cnt_self (by simp)
  have en : (numT [x0, x1, x2, x3, x4, x5, x6] 7 : Int) = (if x0 then 1 else 0) + (if x1 then 1 else 0) + (if x2 then 1 else 0) + (if x3 then 1 else 0) + (if x4 then 1 else 0) + (if x5 then 1 else 0) + (if x6 then 1 else 0) := by
    cases x0 <;> cases x1 <;> cases x2 <;> cases x3 <;> cases x4 <;> cases x5 <;> cases x6 <;> rfl
  obtain ⟨r, hr⟩ : ∃ r : Int, (d + 1) % 7 = r := ⟨_, rfl⟩
  have hcases : r = 0 ∨ r = 1 ∨ r = 2 ∨ r = 3 ∨ r = 4 ∨ r = 5 ∨ r = 6 := by omega
  rcases hcases with h | h | h | h | h | h | h
  · subst h
    rw [show ((d + ((0 : Nat) : Int) + 1) % 7).toNat = 0 by omega] at e0
    rw [show ((d + ((1 : Nat) : Int) + 1) % 7).toNat = 1 by omega] at e1
    rw [show ((d + ((2 : Nat) : Int) + 1) % 7).toNat = 2 by omega] at e2
    rw [show ((d + ((3 : Nat) : Int) + 1) % 7).toNat = 3 by omega] at e3
    rw [show ((d + ((4 : Nat) : Int) + 1) % 7).toNat = 4 by omega] at e4
    rw [show ((d + ((5 : Nat) : Int) + 1) % 7).toNat = 5 by omega] at e5
    rw [show ((d + ((6 : Nat) : Int) + 1) % 7).toNat = 6 by omega] at e6
    simp only [List.getD_cons_zero, List.getD_cons_succ] at e0 e1 e2 e3 e4 e5 e6
    simp only [Nat.reduceAdd] at e0 e1 e2 e3 e4 e5 e6
    rw [show (7 : Int) = ((7 : Nat) : Int) from rfl, e6, e5, e4, e3, e2, e1, e0, z, en]
    omega
  · subst h
    rw [show ((d + ((0 : Nat) : Int) + 1) % 7).toNat = 1 by omega] at e0
    rw [show ((d + ((1 : Nat) : Int) + 1) % 7).toNat = 2 by omega] at e1
    rw [show ((d + ((2 : Nat) : Int) + 1) % 7).toNat = 3 by omega] at e2
    rw [show ((d + ((3 : Nat) : Int) + 1) % 7).toNat = 4 by omega] at e3
    rw [show ((d + ((4 : Nat) : Int) + 1) % 7).toNat = 5 by omega] at e4
    rw [show ((d + ((5 : Nat) : Int) + 1) % 7).toNat = 6 by omega] at e5
    rw [show ((d + ((6 : Nat) : Int) + 1) % 7).toNat = 0 by omega] at e6
    simp only [List.getD_cons_zero, List.getD_cons_succ] at e0 e1 e2 e3 e4 e5 e6
    simp only [Nat.reduceAdd] at e0 e1 e2 e3 e4 e5 e6
    rw [show (7 : Int) = ((7 : Nat) : Int) from rfl, e6, e5, e4, e3, e2, e1, e0, z, en]
    omega
  · subst h
    rw [show ((d + ((0 : Nat) : Int) + 1) % 7).toNat = 2 by omega] at e0
    rw [show ((d + ((1 : Nat) : Int) + 1) % 7).toNat = 3 by omega] at e1
    rw [show ((d + ((2 : Nat) : Int) + 1) % 7).toNat = 4 by omega] at e2
    rw [show ((d + ((3 : Nat) : Int) + 1) % 7).toNat = 5 by omega] at e3
    rw [show ((d + ((4 : Nat) : Int) + 1) % 7).toNat = 6 by omega] at e4
    rw [show ((d + ((5 : Nat) : Int) + 1) % 7).toNat = 0 by omega] at e5
    rw [show ((d + ((6 : Nat) : Int) + 1) % 7).toNat = 1 by omega] at e6
    simp only [List.getD_cons_zero, List.getD_cons_succ] at e0 e1 e2 e3 e4 e5 e6
    simp only [Nat.reduceAdd] at e0 e1 e2 e3 e4 e5 e6
    rw [show (7 : Int) = ((7 : Nat) : Int) from rfl, e6, e5, e4, e3, e2, e1, e0, z, en]
    omega
  · subst h
    rw [show ((d + ((0 : Nat) : Int) + 1) % 7).toNat = 3 by omega] at e0
    rw [show ((d + ((1 : Nat) : Int) + 1) % 7).toNat = 4 by omega] at e1
    rw [show ((d + ((2 : Nat) : Int) + 1) % 7).toNat = 5 by omega] at e2
    rw [show ((d + ((3 : Nat) : Int) + 1) % 7).toNat = 6 by omega] at e3
    rw [show ((d + ((4 : Nat) : Int) + 1) % 7).toNat = 0 by omega] at e4
    rw [show ((d + ((5 : Nat) : Int) + 1) % 7).toNat = 1 by omega] at e5
    rw [show ((d + ((6 : Nat) : Int) + 1) % 7).toNat = 2 by omega] at e6
    simp only [List.getD_cons_zero, List.getD_cons_succ] at e0 e1 e2 e3 e4 e5 e6
    simp only [Nat.reduceAdd] at e0 e1 e2 e3 e4 e5 e6
    rw [show (7 : Int) = ((7 : Nat) : Int) from rfl, e6, e5, e4, e3, e2, e1, e0, z, en]
    omega
  · subst h
    rw [show ((d + ((0 : Nat) : Int) + 1) % 7).toNat = 4 by omega] at e0
    rw [show ((d + ((1 : Nat) : Int) + 1) % 7).toNat = 5 by omega] at e1
    rw [show ((d + ((2 : Nat) : Int) + 1) % 7).toNat = 6 by omega] at e2
    rw [show ((d + ((3 : Nat) : Int) + 1) % 7).toNat = 0 by omega] at e3
    rw [show ((d + ((4 : Nat) : Int) + 1) % 7).toNat = 1 by omega] at e4
    rw [show ((d + ((5 : Nat) : Int) + 1) % 7).toNat = 2 by omega] at e5
    rw [show ((d + ((6 : Nat) : Int) + 1) % 7).toNat = 3 by omega] at e6
    simp only [List.getD_cons_zero, List.getD_cons_succ] at e0 e1 e2 e3 e4 e5 e6
    simp only [Nat.reduceAdd] at e0 e1 e2 e3 e4 e5 e6
    rw [show (7 : Int) = ((7 : Nat) : Int) from rfl, e6, e5, e4, e3, e2, e1, e0, z, en]
    omega
  · subst h
    rw [show ((d + ((0 : Nat) : Int) + 1) % 7).toNat = 5 by omega] at e0
    rw [show ((d + ((1 : Nat) : Int) + 1) % 7).toNat = 6 by omega] at e1
    rw [show ((d + ((2 : Nat) : Int) + 1) % 7).toNat = 0 by omega] at e2
    rw [show ((d + ((3 : Nat) : Int) + 1) % 7).toNat = 1 by omega] at e3
    rw [show ((d + ((4 : Nat) : Int) + 1) % 7).toNat = 2 by omega] at e4
    rw [show ((d + ((5 : Nat) : Int) + 1) % 7).toNat = 3 by omega] at e5
    rw [show ((d + ((6 : Nat) : Int) + 1) % 7).toNat = 4 by omega] at e6
    simp only [List.getD_cons_zero, List.getD_cons_succ] at e0 e1 e2 e3 e4 e5 e6
    simp only [Nat.reduceAdd] at e0 e1 e2 e3 e4 e5 e6
    rw [show (7 : Int) = ((7 : Nat) : Int) from rfl, e6, e5, e4, e3, e2, e1, e0, z, en]
    omega
  · subst h
    rw [show ((d + ((0 : Nat) : Int) + 1) % 7).toNat = 6 by omega] at e0
    rw [show ((d + ((1 : Nat) : Int) + 1) % 7).toNat = 0 by omega] at e1
    rw [show ((d + ((2 : Nat) : Int) + 1) % 7).toNat = 1 by omega] at e2
    rw [show ((d + ((3 : Nat) : Int) + 1) % 7).toNat = 2 by omega] at e3
    rw [show ((d + ((4 : Nat) : Int) + 1) % 7).toNat = 3 by omega] at e4
    rw [show ((d + ((5 : Nat) : Int) + 1) % 7).toNat = 4 by omega] at e5
    rw [show ((d + ((6 : Nat) : Int) + 1) % 7).toNat = 5 by omega] at e6
    simp only [List.getD_cons_zero, List.getD_cons_succ] at e0 e1 e2 e3 e4 e5 e6
    simp only [Nat.reduceAdd] at e0 e1 e2 e3 e4 e5 e6
    rw [show (7 : Int) = ((7 : Nat) : Int) from rfl, e6, e5, e4, e3, e2, e1, e0, z, en]
    omega
theorem next_week (x0 x1 x2 x3 x4 x5 x6 : Bool) (d : Int) : (nextO [x0, x1, x2, x3, x4, x5, x6] [] d = none ∧ numT [x0, x1, x2, x3, x4, x5, x6] 7 = 0) ∨ ∃ x, nextO [x0, x1, x2, x3, x4, x5, x6] [] d = some x ∧ 0 < numT [x0, x1, x2, x3, x4, x5, x6] 7 := by
  cases h : nextO [x0, x1, x2, x3, x4, x5, x6] [] d with
  | none =>
    refine .inl ⟨rfl, ?_⟩
    have hn := next_none h
    have hw := week_cnt x0 x1 x2 x3 x4 x5 x6 (d - 1)
    have : cntI [x0, x1, x2, x3, x4, x5, x6] [] (d - 1) (d - 1 + 7) = 0 := by
      unfold cntI
      have : wd [x0, x1, x2, x3, x4, x5, x6] [] (d - 1 + 1) (d - 1 + 7 - (d - 1)).toNat = [] := by
        rw [List.eq_nil_iff_forall_not_mem]
        intro y hy
        obtain ⟨a, b, c⟩ := mem_wd.1 hy
        rw [hn y (by omega) (by omega)] at c
        cases c
      rw [this]; rfl
    omega
  | some x =>
    refine .inr ⟨x, rfl, ?_⟩
    obtain ⟨_, _, hx, _⟩ := next_some h
    have hw := week_cnt x0 x1 x2 x3 x4 x5 x6 (x - 1)
    have h1 := cnt_add (wk := [x0, x1, x2, x3, x4, x5, x6]) (hs := []) (a := x - 1) (b := x) (c := x - 1 + 7) (by omega) (by omega)
    have h2 := cnt_succ (wk := [x0, x1, x2, x3, x4, x5, x6]) (hs := []) (a := x - 1) 0
    rw [show x - 1 + ((0 + 1 : Nat) : Int) = x by omega, show x - 1 + ((0 : Nat) : Int) + 1 = x by omega, if_pos hx, cnt_self (a := x - 1) (b := x - 1 + ((0 : Nat) : Int)) (by omega)] at h2
    have h3 : 0 ≤ cntI [x0, x1, x2, x3, x4, x5, x6] [] x (x - 1 + 7) := by unfold cntI; omega
    omega

/-- The holidays struck out of the box. -/
theorem nil_days {w W : World} {z : Int} {aw ah : Option Addr} {cw ch : Nat} {wk : List Bool} {hs : List Int} (hC : Cal w.heap.size w aw ah wk hs) (L : Lw w w.heap.size z aw ah cw ch wk hs W) :
    Lw w w.heap.size z aw none cw 0 wk [] (W.setCell ⟨w.heap.size, 2, none⟩ (.slice none 0 0)) := by
  have hb := L.bel.setCell (p := ⟨w.heap.size, 2, none⟩) (Nat.le_refl _) (.slice none 0 0)
  have hc := (hC.below hb).more hb.size
  refine ⟨?_, ⟨hc.week, fun h => absurd h (by simp), hc.wl, by unfold maxLen; simp⟩, hb⟩
  have h := heap_setCell_same _ _ 2 _ _ (.slice none 0 0) L.row
  simpa using h

set_option maxRecDepth 100000 in
set_option maxHeartbeats 20000000 in
theorem weeks_law (z : Int) (aw ah : Option Addr) (cw ch : Nat) (wk : List Bool) (hs : List Int) (r : Int) (w : World) (hC : Cal w.heap.size w aw ah wk hs) (hr : -2147483648 ≤ r ∧ r ≤ 2147483647) :
    Calls Try.prog 7 #[calV z aw wk.length cw ah hs.length ch, .int .i32 r] w fun e w' => e = .returned (.bool true) ∧ Below w.heap.size w w' := by
  have L0 := hid (Lw.new (z := z) (cw := cw) (ch := ch) hC)
  have hl1 := hC.wl
  have hl2 := hC.hl
  unfold maxLen at hl1 hl2
  have HC0 := hid hC
  clear hC
  obtain ⟨hr0, hr1⟩ := hr
  obtain ⟨-, td0, td1⟩ := tm_bd r hr0 hr1
  obtain ⟨d, hd⟩ : ∃ d, r.tmod 900001 = d := ⟨_, rfl⟩
  rw [hd] at td0 td1
  have CF := hid (fun w hC => fine_any z aw none cw 0 wk [] w hC)
  cases hv : validB z wk [] with
  | false =>
    rw [hv] at CF
    clear hv
    go_enter Try.func7, Try.ntmps7
    go_wp2_with fail
    refine (head_any _).mono ?_
    rintro e w1 ⟨rfl, hb⟩
    have L1 := hid (L0.out.to hb)
    obtain ⟨c0, c1, c2⟩ := L1.out.c3
    clear hb
    have f2 := frozen_of_row _ _ 2 _ _ L1.out.row
    go_wp2_with fail
    have MM := hid (nil_days HC0.out L1.out)
    refine (CF.out _ MM.out.cal).mono ?_
    rintro e w2 ⟨rfl, hb⟩
    go_wp2
    go_ret
    exact ⟨rfl, bt MM.out.bel hb⟩
  | true =>
    rw [hv] at CF
    have HV := hid hv
    obtain ⟨hz0, hz1, h7, -, -⟩ := valid_parts hv
    clear hv
    have hin : inR d = true := inR_iff.2 ⟨by omega, by omega⟩
    have hin7 : inR (d + 7) = true := inR_iff.2 ⟨by omega, by omega⟩
    have C1 := hid (fun w hC => next_any z aw none cw 0 wk [] d w hC HV.out hin)
    have C2 := hid (fun w hC => workc_any z aw none cw 0 wk [] d w hC HV.out hin)
    have C3 := hid (fun w hC => workc_any z aw none cw 0 wk [] (d + 7) w hC HV.out hin7)
    have C4 := hid (fun w hC => count_any z aw none cw 0 wk [] d (d + 7) w hC HV.out hin hin7 (by omega))
    rw [on_week] at C3
    obtain ⟨v, hv⟩ : ∃ v, onB wk [] d = v := ⟨_, rfl⟩
    rw [hv] at C2 C3
    obtain ⟨n, hn⟩ : ∃ n : Nat, numT wk 7 = n := ⟨_, rfl⟩
    obtain ⟨x0, x1, x2, x3, x4, x5, x6, hwk⟩ := seven h7
    have hwc : cntI wk [] d (d + 7) = (n : Int) := by rw [← hn, hwk]; exact week_cnt x0 x1 x2 x3 x4 x5 x6 d
    rw [hwc, List.length_nil] at C4
    rw [List.length_nil] at C1 C2 C3
    have hnx : (nextO wk [] d = none ∧ n = 0) ∨ ∃ x, nextO wk [] d = some x ∧ 0 < n := by rw [← hn, hwk]; exact next_week x0 x1 x2 x3 x4 x5 x6 d
    have hn7 : n ≤ 7 := by rw [← hn]; exact numT_le wk 7
    have HN := hid hn
    have H7 := hid h7
    clear hn h7 hv hin hin7 hwc hwk
    rcases hnx with ⟨ho, hn0⟩ | ⟨x, ho, hn0⟩
    · rw [ho, oV_none, oE_none] at C1
      subst hn0
      clear ho
      go_enter Try.func7, Try.ntmps7
      go_wp2_with fail
      refine (head_any _).mono ?_
      rintro e w1 ⟨rfl, hb⟩
      have L1 := hid (L0.out.to hb)
      obtain ⟨c0, c1, c2⟩ := L1.out.c3
      clear hb
      have f2 := frozen_of_row _ _ 2 _ _ L1.out.row
      go_wp2_with fail
      have MM := hid (nil_days HC0.out L1.out)
      refine (CF.out _ MM.out.cal).mono ?_
      rintro e w2 ⟨rfl, hb⟩
      clear c0 c1 c2 f2
      have M2 := hid (MM.out.to hb)
      obtain ⟨c0, c1, c2⟩ := M2.out.c3
      clear hb
      go_wp2
      go_loop [7, 8] (fun s7 s8 => ∃ k : Nat, k ≤ 7 ∧ s8 = .int .i64 k ∧ s7 = .int .i64 (numT wk k : Nat)) (fun _ s8 => 7 - (intOf s8).toNat)
      case atStart => exact ⟨0, by omega, rfl, rfl⟩
      case round =>
        obtain ⟨k, hk, rfl, rfl⟩ := hrel
        have hnk := numT_le wk k
        by_cases hlt : k < 7
        · have hlI : decide ((k : Int) < (wk.length : Int)) = true := by have := H7.out; simp; omega
          have hlN : decide (k < wk.length) = true := by have := H7.out; simp; omega
          have hlJ : (k : Int) < (wk.length : Int) := by have := H7.out; omega
          have hk0 : 0 ≤ (k : Int) := Int.natCast_nonneg _
          obtain ⟨bb, oo, rfl, hbb, hcc⟩ := M2.out.cal.week (by have := H7.out; omega)
          have ck := hcc k (by have := H7.out; omega)
          have hs := hid (numT_succ wk k (by have := H7.out; omega))
          clear hcc hbb
          obtain ⟨y, hy⟩ : ∃ y, y = wk.getD k false := ⟨_, rfl⟩
          rw [← hy] at ck hs
          clear hy
          cases y
          · have hs2 : Hid (numT wk (k + 1) = numT wk k) := by show _ = _; rw [hs.out]; rfl
            clear hs
            go_wp2
            go_round
            case rel => exact ⟨k + 1, by omega, by go_num, by rw [hs2.out]⟩
            case measure => simp [intOf]; omega
          · have hs2 : Hid (numT wk (k + 1) = numT wk k + 1) := by show _ = _; rw [hs.out]; rfl
            clear hs
            go_wp2
            go_round
            case rel => exact ⟨k + 1, by omega, by go_num, by rw [hs2.out]; go_num⟩
            case measure => simp [intOf]; omega
        · have hk7 : k = 7 := by omega
          subst hk7
          have hlI : decide ((7 : Int) < (wk.length : Int)) = false := by have := H7.out; simp; omega
          have hlN : decide (7 < wk.length) = false := by have := H7.out; simp; omega
          have hlJ : (wk.length : Int) ≤ 7 := by have := H7.out; omega
          rw [HN.out]
          go_wp2_with fail
          refine (C1.out _ M2.out.cal).mono ?_
          rintro e w3 ⟨rfl, hb⟩
          clear c0 c1 c2
          have M3 := hid (M2.out.to hb)
          clear hb hlI hlN hlJ
          have cx0 := fun (u : Near w3) => (M3.out.to u.below).c3.1
          have cx1 := fun (u : Near w3) => (M3.out.to u.below).c3.2.1
          have cx2 := fun (u : Near w3) => (M3.out.to u.below).c3.2.2
          have D2 := hid (fun (u : Near w3) => near_calls u (C2.out u.w (M3.out.to u.below).cal))
          have D3 := hid (fun (u : Near w3) => near_calls u (C3.out u.w (M3.out.to u.below).cal))
          have D4 := hid (fun (u : Near w3) => near_calls u (C4.out u.w (M3.out.to u.below).cal))
          have hwr : IntKind.i64.wrap (d + 7) = d + 7 := IntWalk.i64_in _ (by omega)
          go_wp2
          refine wp_region_near (wM := w3) (by kernel_rfl) (by kernel_rfl) (Below.refl _ _) ?_
          repeat (go_big_quiet_step ((first | (go_at_call 15; with_reducible exact D2.out _) | (go_at_call 15; with_reducible exact D3.out _) | (go_at_call 17; with_reducible exact D4.out _))))
          refine wpQuiet_nil ?_
          rintro _ ⟨u, rfl⟩
          go_wp2
          go_ret
          exact ⟨rfl, bt M3.out.bel u.below⟩
    · rw [ho, oV_some, oE_some] at C1
      have hq1 : decide (0 < (n : Int)) = true := by simp; omega
      have hq2 : decide (0 < n) = true := by simp; omega
      clear ho
      go_enter Try.func7, Try.ntmps7
      go_wp2_with fail
      refine (head_any _).mono ?_
      rintro e w1 ⟨rfl, hb⟩
      have L1 := hid (L0.out.to hb)
      obtain ⟨c0, c1, c2⟩ := L1.out.c3
      clear hb
      have f2 := frozen_of_row _ _ 2 _ _ L1.out.row
      go_wp2_with fail
      have MM := hid (nil_days HC0.out L1.out)
      refine (CF.out _ MM.out.cal).mono ?_
      rintro e w2 ⟨rfl, hb⟩
      clear c0 c1 c2 f2
      have M2 := hid (MM.out.to hb)
      obtain ⟨c0, c1, c2⟩ := M2.out.c3
      clear hb
      go_wp2
      go_loop [7, 8] (fun s7 s8 => ∃ k : Nat, k ≤ 7 ∧ s8 = .int .i64 k ∧ s7 = .int .i64 (numT wk k : Nat)) (fun _ s8 => 7 - (intOf s8).toNat)
      case atStart => exact ⟨0, by omega, rfl, rfl⟩
      case round =>
        obtain ⟨k, hk, rfl, rfl⟩ := hrel
        have hnk := numT_le wk k
        by_cases hlt : k < 7
        · have hlI : decide ((k : Int) < (wk.length : Int)) = true := by have := H7.out; simp; omega
          have hlN : decide (k < wk.length) = true := by have := H7.out; simp; omega
          have hlJ : (k : Int) < (wk.length : Int) := by have := H7.out; omega
          have hk0 : 0 ≤ (k : Int) := Int.natCast_nonneg _
          obtain ⟨bb, oo, rfl, hbb, hcc⟩ := M2.out.cal.week (by have := H7.out; omega)
          have ck := hcc k (by have := H7.out; omega)
          have hs := hid (numT_succ wk k (by have := H7.out; omega))
          clear hcc hbb
          obtain ⟨y, hy⟩ : ∃ y, y = wk.getD k false := ⟨_, rfl⟩
          rw [← hy] at ck hs
          clear hy
          cases y
          · have hs2 : Hid (numT wk (k + 1) = numT wk k) := by show _ = _; rw [hs.out]; rfl
            clear hs
            go_wp2
            go_round
            case rel => exact ⟨k + 1, by omega, by go_num, by rw [hs2.out]⟩
            case measure => simp [intOf]; omega
          · have hs2 : Hid (numT wk (k + 1) = numT wk k + 1) := by show _ = _; rw [hs.out]; rfl
            clear hs
            go_wp2
            go_round
            case rel => exact ⟨k + 1, by omega, by go_num, by rw [hs2.out]; go_num⟩
            case measure => simp [intOf]; omega
        · have hk7 : k = 7 := by omega
          subst hk7
          have hlI : decide ((7 : Int) < (wk.length : Int)) = false := by have := H7.out; simp; omega
          have hlN : decide (7 < wk.length) = false := by have := H7.out; simp; omega
          have hlJ : (wk.length : Int) ≤ 7 := by have := H7.out; omega
          rw [HN.out]
          go_wp2_with fail
          refine (C1.out _ M2.out.cal).mono ?_
          rintro e w3 ⟨rfl, hb⟩
          clear c0 c1 c2
          have M3 := hid (M2.out.to hb)
          clear hb hlI hlN hlJ
          have cx0 := fun (u : Near w3) => (M3.out.to u.below).c3.1
          have cx1 := fun (u : Near w3) => (M3.out.to u.below).c3.2.1
          have cx2 := fun (u : Near w3) => (M3.out.to u.below).c3.2.2
          have D2 := hid (fun (u : Near w3) => near_calls u (C2.out u.w (M3.out.to u.below).cal))
          have D3 := hid (fun (u : Near w3) => near_calls u (C3.out u.w (M3.out.to u.below).cal))
          have D4 := hid (fun (u : Near w3) => near_calls u (C4.out u.w (M3.out.to u.below).cal))
          have hwr : IntKind.i64.wrap (d + 7) = d + 7 := IntWalk.i64_in _ (by omega)
          go_wp2
          refine wp_region_near (wM := w3) (by kernel_rfl) (by kernel_rfl) (Below.refl _ _) ?_
          repeat (go_big_quiet_step ((first | (go_at_call 15; with_reducible exact D2.out _) | (go_at_call 15; with_reducible exact D3.out _) | (go_at_call 17; with_reducible exact D4.out _))))
          refine wpQuiet_nil ?_
          rintro _ ⟨u, rfl⟩
          go_wp2
          go_ret
          exact ⟨rfl, bt M3.out.bel u.below⟩

end Cl
end Go.Proofs.Ythhckdfghdpmkaa
