/-
  The law's own helpers: the example; head, which holds in every world.
-/
import Derived.Test.YthhckdfghdpmkaaW10
namespace Go.Proofs.Ythhckdfghdpmkaa
open Go.RowKit
namespace Cl

abbrev exW : List Bool := [true, true, true, true, true, false, false]
abbrev exH : List Int := [5, 7]

theorem cal_new {w : World} {aw ah : Option Addr} {wk : List Bool} {hs : List Int} (bw bh : Nat) (tw th : TypeId) (hw : 0 < wk.length → aw = some ⟨bw, 0, none⟩ ∧ w.heap[bw]? = some (.cells (wk.map Value.bool).toArray tw (0, 0)))
    (hh : 0 < hs.length → ah = some ⟨bh, 0, none⟩ ∧ w.heap[bh]? = some (.cells (hs.map (Value.int .i64)).toArray th (0, 0))) (hwl : wk.length ≤ 100) (hhl : hs.length ≤ 100) : Cal w.heap.size w aw ah wk hs where
  week := fun h0 => by
    obtain ⟨e, hb⟩ := hw h0
    refine ⟨bw, 0, e, (Array.getElem?_eq_some_iff.1 hb).1, fun k hk => ?_⟩
    simp [World.cell?, hb, List.getD, hk]
  days := fun h0 => by
    obtain ⟨e, hb⟩ := hh h0
    refine ⟨bh, 0, e, (Array.getElem?_eq_some_iff.1 hb).1, fun k hk => ?_⟩
    simp [World.cell?, hb, List.getD, hk]
  wl := by unfold maxLen; omega
  hl := by unfold maxLen; omega

/-- What the example is. -/
def ExPost (w : World) (e : Ending) (w' : World) : Prop :=
  ∃ (aw ah : Option Addr) (cw ch : Nat), e = .returned (calV 60 aw 7 cw ah 2 ch) ∧ Cal w'.heap.size w' aw ah exW exH ∧ Below w.heap.size w w'

theorem infoCal : (Try.prog.info? 25).map (·.size) = some 3 := by kernel_rfl
set_option maxHeartbeats 1000000 in
theorem example_any (w : World) : Calls Try.prog 19 #[] w (ExPost w) := by
  go_enter Try.func19, Try.ntmps19
  go_wp2
  have hrow := (Below.heap_alloc _ (.cells #[.int .i64 5, .int .i64 7] 3) _ (by simp; omega)).trans ((Below.heap_alloc _ (.cells #[.bool true, .bool true, .bool true, .bool true, .bool true, .bool false, .bool false] 4) _ (by simp)).trans
    (heap_new w (.cells #[.int .i64 60, .slice (some ⟨w.heap.size + 1, 0, none⟩) 7 7, .slice (some ⟨w.heap.size + 1 + 1, 0, none⟩) 2 2] 25)))
  have h1 := heap_new (w.alloc (.cells #[.int .i64 60, .slice (some ⟨w.heap.size + 1, 0, none⟩) 7 7, .slice (some ⟨w.heap.size + 1 + 1, 0, none⟩) 2 2] 25)) (.cells #[.bool true, .bool true, .bool true, .bool true, .bool true, .bool false, .bool false] 4)
  rw [World.size_alloc] at h1
  have h1' := (Below.heap_alloc _ (.cells #[.int .i64 5, .int .i64 7] 3) _ (by simp)).trans h1
  have h2 := heap_new ((w.alloc (.cells #[.int .i64 60, .slice (some ⟨w.heap.size + 1, 0, none⟩) 7 7, .slice (some ⟨w.heap.size + 1 + 1, 0, none⟩) 2 2] 25)).alloc (.cells #[.bool true, .bool true, .bool true, .bool true, .bool true, .bool false, .bool false] 4)) (.cells #[.int .i64 5, .int .i64 7] 3)
  rw [World.size_alloc, World.size_alloc] at h2
  refine bodyPost_ret (v := calV 60 (some ⟨w.heap.size + 1, 0, none⟩) 7 7 (some ⟨w.heap.size + 1 + 1, 0, none⟩) 2 2) (results_cell_row (fn := Try.f19) (p := 0) (ty := 25) rfl _ _ w.heap.size 25 _ (0, 0) _ rfl hrow Try.underlying25 rfl infoCal) rfl
    ⟨_, _, 7, 2, rfl, cal_new (w.heap.size + 1) (w.heap.size + 1 + 1) 4 3 (fun _ => ⟨rfl, h1'⟩) (fun _ => ⟨rfl, h2⟩) (by decide) (by decide), ?_⟩
  exact (((Below.refl _ w).alloc (Nat.le_refl _) _).alloc (by simp) _).alloc (by simp; omega) _

/-- What head knows of a world: where its box lies. -/
structure Hd (w0 : World) (B : Nat) (aw ah : Option Addr) (cw ch : Nat) (W : World) : Prop where
  row : W.heap[B]? = some (.cells #[.int .i64 60, .slice aw 7 cw, .slice ah 2 ch] 25 (0, 0))
  cal : Cal W.heap.size W aw ah exW exH
  bel : Below w0.heap.size w0 W
section
variable {w0 W W' : World} {B : Nat} {aw ah : Option Addr} {cw ch : Nat}
theorem Hd.lt (h : Hd w0 B aw ah cw ch W) : B < W.heap.size := (Array.getElem?_eq_some_iff.1 h.row).1
theorem Hd.to (h : Hd w0 B aw ah cw ch W) (hb : Below W.heap.size W W') : Hd w0 B aw ah cw ch W' := ⟨(hb.block B h.lt).trans h.row, h.cal.to hb, bt h.bel hb⟩
theorem Hd.c3 (h : Hd w0 B aw ah cw ch W) : W.cell? ⟨B, 0, none⟩ = some (.int .i64 60) ∧ W.cell? ⟨B, 1, none⟩ = some (.slice aw 7 cw) ∧ W.cell? ⟨B, 2, none⟩ = some (.slice ah 2 ch) := by
  simp [World.cell?, h.row]
end

theorem exV : validB 60 exW exH = true := by decide +kernel

theorem h_l1 (aw ah : Option Addr) (cw ch : Nat) (w : World) (hC : Cal w.heap.size w aw ah exW exH) : Calls Try.prog 12 #[calV 60 aw 7 cw ah 2 ch, .int .i64 1380] w fun e w' => e = .returned (.tuple #[.int .i64 1, .int .i64 0]) ∧ Below w.heap.size w w' := by
  have h := local_any 60 aw ah cw ch exW exH 1380 w hC exV (by decide) (by decide)
  rw [show ((1380 : Int) + 60) / 1440 = 1 from by decide +kernel] at h
  rw [show ((1380 : Int) + 60) % 1440 = 0 from by decide +kernel] at h
  exact h

theorem h_l2 (aw ah : Option Addr) (cw ch : Nat) (w : World) (hC : Cal w.heap.size w aw ah exW exH) : Calls Try.prog 12 #[calV 60 aw 7 cw ah 2 ch, .int .i64 (-61)] w fun e w' => e = .returned (.tuple #[.int .i64 (-1), .int .i64 1439]) ∧ Below w.heap.size w w' := by
  have h := local_any 60 aw ah cw ch exW exH (-61) w hC exV (by decide) (by decide)
  rw [show ((-61 : Int) + 60) / 1440 = -1 from by decide +kernel] at h
  rw [show ((-61 : Int) + 60) % 1440 = 1439 from by decide +kernel] at h
  exact h

theorem h_n1 (aw ah : Option Addr) (cw ch : Nat) (w : World) (hC : Cal w.heap.size w aw ah exW exH) : Calls Try.prog 14 #[calV 60 aw 7 cw ah 2 ch, .int .i64 5] w fun e w' => e = .returned (.tuple #[.int .i64 8, .int .i64 0]) ∧ Below w.heap.size w w' := by
  have h := next_any 60 aw ah cw ch exW exH 5 w hC exV (by decide +kernel)
  rw [show nextO exW exH 5 = some 8 from by decide +kernel] at h
  exact h

theorem h_a1 (aw ah : Option Addr) (cw ch : Nat) (w : World) (hC : Cal w.heap.size w aw ah exW exH) : Calls Try.prog 16 #[calV 60 aw 7 cw ah 2 ch, .int .i64 4, .int .i64 1] w fun e w' => e = .returned (.tuple #[.int .i64 8, .int .i64 0]) ∧ Below w.heap.size w w' := by
  have h := add_any 60 aw ah cw ch exW exH 4 1 w hC exV (by decide +kernel) (by decide)
  rw [show addO exW exH 4 1 = some 8 from by decide +kernel] at h
  exact h

theorem h_a2 (aw ah : Option Addr) (cw ch : Nat) (w : World) (hC : Cal w.heap.size w aw ah exW exH) : Calls Try.prog 16 #[calV 60 aw 7 cw ah 2 ch, .int .i64 5, .int .i64 0] w fun e w' => e = .returned (.tuple #[.int .i64 5, .int .i64 0]) ∧ Below w.heap.size w w' := by
  have h := add_any 60 aw ah cw ch exW exH 5 0 w hC exV (by decide +kernel) (by decide)
  rw [show addO exW exH 5 0 = some 5 from by decide +kernel] at h
  exact h

theorem h_a3 (aw ah : Option Addr) (cw ch : Nat) (w : World) (hC : Cal w.heap.size w aw ah exW exH) : Calls Try.prog 16 #[calV 60 aw 7 cw ah 2 ch, .int .i64 5, .int .i64 2] w fun e w' => e = .returned (.tuple #[.int .i64 9, .int .i64 0]) ∧ Below w.heap.size w w' := by
  have h := add_any 60 aw ah cw ch exW exH 5 2 w hC exV (by decide +kernel) (by decide)
  rw [show addO exW exH 5 2 = some 9 from by decide +kernel] at h
  exact h

theorem h_t1 (aw ah : Option Addr) (cw ch : Nat) (w : World) (hC : Cal w.heap.size w aw ah exW exH) : Calls Try.prog 13 #[calV 60 aw 7 cw ah 2 ch, .int .i64 1, .int .i64 0] w fun e w' => e = .returned (.int .i64 1380) ∧ Below w.heap.size w w' := by
  have h := time_any 60 aw ah cw ch exW exH 1 0 w hC exV (by decide +kernel) (by decide) (by decide)
  rw [show (1 : Int) * 1440 + 0 - 60 = 1380 from by decide +kernel] at h
  exact h

theorem h_w1 (aw ah : Option Addr) (cw ch : Nat) (w : World) (hC : Cal w.heap.size w aw ah exW exH) : Calls Try.prog 15 #[calV 60 aw 7 cw ah 2 ch, .int .i64 4] w fun e w' => e = .returned (.bool true) ∧ Below w.heap.size w w' := by
  have h := workc_any 60 aw ah cw ch exW exH 4 w hC exV (by decide +kernel)
  rw [show onB exW exH 4 = true from by decide +kernel] at h
  exact h

theorem h_w2 (aw ah : Option Addr) (cw ch : Nat) (w : World) (hC : Cal w.heap.size w aw ah exW exH) : Calls Try.prog 15 #[calV 60 aw 7 cw ah 2 ch, .int .i64 5] w fun e w' => e = .returned (.bool false) ∧ Below w.heap.size w w' := by
  have h := workc_any 60 aw ah cw ch exW exH 5 w hC exV (by decide +kernel)
  rw [show onB exW exH 5 = false from by decide +kernel] at h
  exact h

theorem h_w3 (aw ah : Option Addr) (cw ch : Nat) (w : World) (hC : Cal w.heap.size w aw ah exW exH) : Calls Try.prog 15 #[calV 60 aw 7 cw ah 2 ch, .int .i64 7] w fun e w' => e = .returned (.bool false) ∧ Below w.heap.size w w' := by
  have h := workc_any 60 aw ah cw ch exW exH 7 w hC exV (by decide +kernel)
  rw [show onB exW exH 7 = false from by decide +kernel] at h
  exact h

theorem h_w4 (aw ah : Option Addr) (cw ch : Nat) (w : World) (hC : Cal w.heap.size w aw ah exW exH) : Calls Try.prog 15 #[calV 60 aw 7 cw ah 2 ch, .int .i64 (-3)] w fun e w' => e = .returned (.bool true) ∧ Below w.heap.size w w' := by
  have h := workc_any 60 aw ah cw ch exW exH (-3) w hC exV (by decide +kernel)
  rw [show onB exW exH (-3) = true from by decide +kernel] at h
  exact h

theorem h_c1 (aw ah : Option Addr) (cw ch : Nat) (w : World) (hC : Cal w.heap.size w aw ah exW exH) : Calls Try.prog 17 #[calV 60 aw 7 cw ah 2 ch, .int .i64 4, .int .i64 9] w fun e w' => e = .returned (.int .i64 2) ∧ Below w.heap.size w w' := by
  have h := count_any 60 aw ah cw ch exW exH 4 9 w hC exV (by decide +kernel) (by decide +kernel) (by decide)
  rw [show cntI exW exH 4 9 = 2 from by decide +kernel] at h
  exact h

theorem h_c2 (aw ah : Option Addr) (cw ch : Nat) (w : World) (hC : Cal w.heap.size w aw ah exW exH) : Calls Try.prog 17 #[calV 60 aw 7 cw ah 2 ch, .int .i64 0, .int .i64 2001] w fun e w' => e = .returned (.int .i64 (-1)) ∧ Below w.heap.size w w' := by
  have h := count_far 60 aw ah cw ch exW exH 0 2001 w hC exV (by decide +kernel) (by decide +kernel) (by decide)
  exact h

theorem h_v1 (aw ah : Option Addr) (cw ch : Nat) (w : World) (hC : Cal w.heap.size w aw ah exW exH) : Calls Try.prog 20 #[calV 60 aw 7 cw ah 2 ch] w fun e w' => e = .returned (.bool true) ∧ Below w.heap.size w w' := by
  have h := valid_any 60 aw ah cw ch exW exH w hC
  rw [exV] at h
  exact h
theorem h_v2 (w : World) : Calls Try.prog 20 #[calV 0 none 0 0 none 0 0] w fun e w' => e = .returned (.bool false) ∧ Below w.heap.size w w' := by
  have h := valid_any 0 none none 0 0 [] [] w (cal_new 0 0 0 0 (fun h => absurd h (by decide)) (fun h => absurd h (by decide)) (by decide) (by decide))
  rw [show validB 0 [] [] = false from by decide +kernel] at h
  exact h
theorem h_n2 (b : Nat) (w : World) (t : TypeId) (hb : w.heap[b]? = some (.cells #[.bool false, .bool false, .bool false, .bool false, .bool false, .bool false, .bool false] t (0, 0))) :
    Calls Try.prog 14 #[calV 0 (some ⟨b, 0, none⟩) 7 7 none 0 0, .int .i64 0] w fun e w' => e = .returned (.tuple #[.int .i64 0, .int .i64 20]) ∧ Below w.heap.size w w' := by
  have h := next_any 0 (some ⟨b, 0, none⟩) none 7 0 [false, false, false, false, false, false, false] [] 0 w (cal_new b 0 t 0 (fun _ => ⟨rfl, hb⟩) (fun h => absurd h (by decide)) (by decide) (by decide)) (by decide +kernel) (by decide +kernel)
  rw [show nextO [false, false, false, false, false, false, false] [] 0 = none from by decide +kernel] at h
  exact h

set_option maxRecDepth 100000 in
set_option maxHeartbeats 8000000 in
theorem head_any (w : World) : Calls Try.prog 10 #[] w fun e w' => e = .returned (.bool true) ∧ Below w.heap.size w w' := by
  go_enter Try.func10, Try.ntmps10
  go_wp2_with fail
  refine (example_any _).mono ?_
  rintro e w1 ⟨aw, ah, cw, ch, rfl, hC, hb⟩
  have H1 := hid (⟨heap_new w1 _, hC.to (b0 w1 _), bt hb (b0 w1 _)⟩ : Hd w w1.heap.size aw ah cw ch (w1.alloc (.cells #[.int .i64 60, .slice aw 7 cw, .slice ah 2 ch] 25)))
  clear hC hb
  go_wp2_with fail
  refine (h_l1 aw ah cw ch _ H1.out.cal).mono ?_
  rintro e w2 ⟨rfl, hb⟩
  have H2 := hid (H1.out.to hb)
  obtain ⟨c0, c1, c2⟩ := H2.out.c3
  clear hb
  go_wp2_with fail
  refine (h_l2 aw ah cw ch _ H2.out.cal).mono ?_
  rintro e w3 ⟨rfl, hb⟩
  clear c0 c1 c2
  have H3 := hid (H2.out.to hb)
  obtain ⟨c0, c1, c2⟩ := H3.out.c3
  clear hb
  go_wp2_with fail
  refine (h_n1 aw ah cw ch _ H3.out.cal).mono ?_
  rintro e w4 ⟨rfl, hb⟩
  clear c0 c1 c2
  have H4 := hid (H3.out.to hb)
  obtain ⟨c0, c1, c2⟩ := H4.out.c3
  clear hb
  go_wp2_with fail
  refine (h_a1 aw ah cw ch _ H4.out.cal).mono ?_
  rintro e w5 ⟨rfl, hb⟩
  clear c0 c1 c2
  have H5 := hid (H4.out.to hb)
  obtain ⟨c0, c1, c2⟩ := H5.out.c3
  clear hb
  go_wp2_with fail
  refine (h_a2 aw ah cw ch _ H5.out.cal).mono ?_
  rintro e w6 ⟨rfl, hb⟩
  clear c0 c1 c2
  have H6 := hid (H5.out.to hb)
  obtain ⟨c0, c1, c2⟩ := H6.out.c3
  clear hb
  go_wp2_with fail
  refine (h_a3 aw ah cw ch _ H6.out.cal).mono ?_
  rintro e w7 ⟨rfl, hb⟩
  clear c0 c1 c2
  have H7 := hid (H6.out.to hb)
  obtain ⟨c0, c1, c2⟩ := H7.out.c3
  clear hb
  have hmk : ∀ w, (Instr.makeSlice 22 (.int .i64 7) (.int .i64 7)).run Try.prog w = .ok (.slice (some ⟨w.heap.size, 0, none⟩) 7 7) (w.alloc (.cells #[.bool false, .bool false, .bool false, .bool false, .bool false, .bool false, .bool false] 4)) := fun _ => by kernel_rfl
  go_wp2_with fail
  refine (h_n2 _ _ 4 (heap_new _ _)).mono ?_
  rintro e w8 ⟨rfl, hb⟩
  clear c0 c1 c2 hmk
  have H8 := hid ((H7.out.to (b0 w7 _)).to hb)
  obtain ⟨c0, c1, c2⟩ := H8.out.c3
  clear hb
  go_wp2_with fail
  refine (h_t1 aw ah cw ch _ H8.out.cal).mono ?_
  rintro e w9 ⟨rfl, hb⟩
  clear c0 c1 c2
  have H9 := hid (H8.out.to hb)
  obtain ⟨c0, c1, c2⟩ := H9.out.c3
  clear hb
  go_wp2_with fail
  refine (h_w1 aw ah cw ch _ H9.out.cal).mono ?_
  rintro e w10 ⟨rfl, hb⟩
  clear c0 c1 c2
  have H10 := hid (H9.out.to hb)
  obtain ⟨c0, c1, c2⟩ := H10.out.c3
  clear hb
  go_wp2_with fail
  refine (h_w2 aw ah cw ch _ H10.out.cal).mono ?_
  rintro e w11 ⟨rfl, hb⟩
  clear c0 c1 c2
  have H11 := hid (H10.out.to hb)
  obtain ⟨c0, c1, c2⟩ := H11.out.c3
  clear hb
  go_wp2_with fail
  refine (h_w3 aw ah cw ch _ H11.out.cal).mono ?_
  rintro e w12 ⟨rfl, hb⟩
  clear c0 c1 c2
  have H12 := hid (H11.out.to hb)
  obtain ⟨c0, c1, c2⟩ := H12.out.c3
  clear hb
  go_wp2_with fail
  refine (h_w4 aw ah cw ch _ H12.out.cal).mono ?_
  rintro e w13 ⟨rfl, hb⟩
  clear c0 c1 c2
  have H13 := hid (H12.out.to hb)
  obtain ⟨c0, c1, c2⟩ := H13.out.c3
  clear hb
  go_wp2_with fail
  refine (h_c1 aw ah cw ch _ H13.out.cal).mono ?_
  rintro e w14 ⟨rfl, hb⟩
  clear c0 c1 c2
  have H14 := hid (H13.out.to hb)
  obtain ⟨c0, c1, c2⟩ := H14.out.c3
  clear hb
  go_wp2_with fail
  refine (h_c2 aw ah cw ch _ H14.out.cal).mono ?_
  rintro e w15 ⟨rfl, hb⟩
  clear c0 c1 c2
  have H15 := hid (H14.out.to hb)
  obtain ⟨c0, c1, c2⟩ := H15.out.c3
  clear hb
  go_wp2_with fail
  refine (h_v1 aw ah cw ch _ H15.out.cal).mono ?_
  rintro e w16 ⟨rfl, hb⟩
  clear c0 c1 c2
  have H16 := hid (H15.out.to hb)
  obtain ⟨c0, c1, c2⟩ := H16.out.c3
  clear hb
  go_wp2_with fail
  refine (h_v2 _).mono ?_
  rintro e w17 ⟨rfl, hb⟩
  clear c0 c1 c2
  go_wp2
  go_ret
  exact ⟨rfl, bt H16.out.bel hb⟩

end Cl
end Go.Proofs.Ythhckdfghdpmkaa
