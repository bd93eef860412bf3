/-
  Contracts of fine, rulesOf, the closure of holiday.
-/
import Derived.Test.YthhckdfghdpmkaaW2
import Derived.Deep.RegionLaw
import Derived.Laws.CopyOwn
import Derived.Laws.Rows
namespace Go.Proofs.Ythhckdfghdpmkaa
open Go.RowKit
open Go.WideShapes (add_plain)
namespace Cl

theorem heap_new (w : World) (o : Obj) : (w.alloc o).heap[w.heap.size]? = some o := by
  show (w.heap.push o)[w.heap.size]? = _
  simp

/-- What a box of a calendar holds behind a call. -/
theorem box3 {w w1 : World} {v0 v1 v2 : Value} {t : TypeId} (hb : Below (w.alloc (.cells #[v0, v1, v2] t)).heap.size (w.alloc (.cells #[v0, v1, v2] t)) w1) :
    w1.cell? ⟨w.heap.size, 0, none⟩ = some v0 ∧ w1.cell? ⟨w.heap.size, 1, none⟩ = some v1 ∧ w1.cell? ⟨w.heap.size, 2, none⟩ = some v2 := by
  have h : w1.heap[w.heap.size]? = some (.cells #[v0, v1, v2] t (0, 0)) := (hb.block _ (by simp)).trans (heap_new w _)
  simp [World.cell?, h]
theorem b0 (w : World) (o : Obj) : Below w.heap.size w (w.alloc o) := (Below.refl w.heap.size w).alloc (Nat.le_refl _) o
theorem bt {w w1 w2 : World} (h : Below w.heap.size w w1) (k : Below w1.heap.size w1 w2) : Below w.heap.size w w2 := h.trans (k.mono h.size)

set_option maxHeartbeats 400000 in
theorem fine_any (z : Int) (aw ah : Option Addr) (cw ch : Nat) (wk : List Bool) (hs : List Int) (w : World) (hC : Cal w.heap.size w aw ah wk hs) :
    Calls Try.prog 11 #[calV z aw wk.length cw ah hs.length ch] w fun e w' => e = .returned (.bool (validB z wk hs)) ∧ Below w.heap.size w w' := by
  have C1 := hid (small_any z aw ah cw ch wk hs _ (hC.to (b0 w (.cells #[.int .i64 z, .slice aw wk.length cw, .slice ah hs.length ch] 25))))
  have HC := hid (hC.to (b0 w (.cells #[.int .i64 z, .slice aw wk.length cw, .slice ah hs.length ch] 25)))
  rw [← fine_eq]
  unfold fineB
  clear hC
  by_cases hx : smallB wk hs = true
  · rw [hx] at C1
    rw [hx, Bool.true_and]
    clear hx
    go_enter Try.func11, Try.ntmps11
    go_wp2_with fail
    refine (C1.out).mono ?_
    rintro e w1 ⟨rfl, hb1⟩
    have HC1 := hid (HC.out.to hb1)
    obtain ⟨hc0, hc1, hc2⟩ := box3 hb1
    go_wp2_with fail
    refine (rvalid_any z aw ah cw ch wk hs _ HC1.out).mono ?_
    rintro e w2 ⟨rfl, hb2⟩
    go_wp2
    go_ret
    exact ⟨rfl, bt (b0 w _) (bt hb1 hb2)⟩
  · have hx' : smallB wk hs = false := by simpa using hx
    rw [hx'] at C1
    rw [hx', Bool.false_and]
    clear hx hx'
    go_enter Try.func11, Try.ntmps11
    go_wp2_with fail
    refine (C1.out).mono ?_
    rintro e w1 ⟨rfl, hb1⟩
    go_wp2
    go_ret
    exact ⟨rfl, bt (b0 w _) hb1⟩

theorem infoBool1 : (Try.prog.info? 4).map (·.size) = some 1 := by kernel_rfl
theorem row8 (W : World) (g : Nat) (t : TypeId) (a0 a1 a2 a3 a4 a5 a6 a7 b0 b1 b2 b3 b4 b5 b6 b7 : Value) (h : W.heap[g]? = some (.cells #[a0, a1, a2, a3, a4, a5, a6, a7] t (0, 0))) :
    ((((((((W.setCell ⟨g, 0, none⟩ b0).setCell ⟨g, 1, none⟩ b1).setCell ⟨g, 2, none⟩ b2).setCell ⟨g, 3, none⟩ b3).setCell ⟨g, 4, none⟩ b4).setCell ⟨g, 5, none⟩ b5).setCell ⟨g, 6, none⟩ b6).setCell ⟨g, 7, none⟩ b7).heap[g]? = some (.cells #[b0, b1, b2, b3, b4, b5, b6, b7] t (0, 0)) := by
  have r0 := heap_setCell_same _ g 0 _ t b0 h
  have r1 := heap_setCell_same _ g 1 _ t b1 r0
  have r2 := heap_setCell_same _ g 2 _ t b2 r1
  have r3 := heap_setCell_same _ g 3 _ t b3 r2
  have r4 := heap_setCell_same _ g 4 _ t b4 r3
  have r5 := heap_setCell_same _ g 5 _ t b5 r4
  have r6 := heap_setCell_same _ g 6 _ t b6 r5
  have r7 := heap_setCell_same _ g 7 _ t b7 r6
  simpa using r7
theorem infoRules : (Try.prog.info? 47).map (·.size) = some 8 := by kernel_rfl
/-- Rules by value: seven weekdays and the holidays. -/
abbrev rulV (x0 x1 x2 x3 x4 x5 x6 : Bool) (ah : Option Addr) (m ch : Nat) : Value := .agg #[.bool x0, .bool x1, .bool x2, .bool x3, .bool x4, .bool x5, .bool x6, .slice ah m ch]

set_option maxHeartbeats 400000 in
theorem rulesOf_any (z : Int) (aw ah : Option Addr) (cw ch : Nat) (x0 x1 x2 x3 x4 x5 x6 : Bool) (hs : List Int) (w : World) (hC : Cal w.heap.size w aw ah [x0, x1, x2, x3, x4, x5, x6] hs) :
    Calls Try.prog 25 #[calV z aw 7 cw ah hs.length ch] w fun e w' => e = .returned (rulV x0 x1 x2 x3 x4 x5 x6 ah hs.length ch) ∧ Below w.heap.size w w' := by
  obtain ⟨b, o, rfl, hb, hc⟩ := hC.week (by simp)
  have c0 := hc 0 (by simp)
  have c1 := hc 1 (by simp)
  have c2 := hc 2 (by simp)
  have c3 := hc 3 (by simp)
  have c4 := hc 4 (by simp)
  have c5 := hc 5 (by simp)
  have c6 := hc 6 (by simp)
  simp at c0 c1 c2 c3 c4 c5 c6
  clear hc
  have h2 := hC.hl
  unfold maxLen at h2
  have HC := hid hC
  clear hC
  go_enter Try.func25, Try.ntmps25
  go_wp2
  obtain ⟨W1, hW1⟩ : ∃ W1, ((w.alloc (.cells #[.int .i64 z, .slice (some ⟨b, o, none⟩) 7 cw, .slice ah hs.length ch] 25)).alloc (.cells #[.bool false, .bool false, .bool false, .bool false, .bool false, .bool false, .bool false, .slice none 0 0] 47)).alloc
    (.cells #[.bool false, .bool false, .bool false, .bool false, .bool false, .bool false, .bool false, .slice ah hs.length ch] 47) = W1 := ⟨_, rfl⟩
  have hz : W1.heap.size = w.heap.size + 3 := by rw [← hW1]; simp
  have HB : Hid (Below w.heap.size w W1) := by rw [← hW1]; exact (((Below.refl _ w).alloc (Nat.le_refl _) _).alloc (by simp) _).alloc (by simp; omega) _
  have HH : Hid (W1.heap[w.heap.size + 1 + 1]? = some (.cells #[.bool false, .bool false, .bool false, .bool false, .bool false, .bool false, .bool false, .slice ah hs.length ch] 47 (0, 0))) := by
    rw [← hW1]
    have h := heap_new ((w.alloc (.cells #[.int .i64 z, .slice (some ⟨b, o, none⟩) 7 cw, .slice ah hs.length ch] 25)).alloc (.cells #[.bool false, .bool false, .bool false, .bool false, .bool false, .bool false, .bool false, .slice none 0 0] 47)) (.cells #[.bool false, .bool false, .bool false, .bool false, .bool false, .bool false, .bool false, .slice ah hs.length ch] 47)
    simp only [World.size_alloc] at h
    exact h
  have HR : Hid (W1.heap[w.heap.size + 1]? = some (.cells #[.bool false, .bool false, .bool false, .bool false, .bool false, .bool false, .bool false, .slice none 0 0] 47 (0, 0))) := by
    rw [← hW1]
    have h := heap_new (w.alloc (.cells #[.int .i64 z, .slice (some ⟨b, o, none⟩) 7 cw, .slice ah hs.length ch] 25)) (.cells #[.bool false, .bool false, .bool false, .bool false, .bool false, .bool false, .bool false, .slice none 0 0] 47)
    rw [World.size_alloc] at h
    exact (Below.heap_alloc _ _ _ (by simp)).trans h
  have hk1 : W1.cell? ⟨w.heap.size, 1, none⟩ = some (.slice (some ⟨b, o, none⟩) 7 cw) := by subst hW1; go_simp
  rw [hW1]
  clear hW1
  have HC7 : Hid (∀ j v, ([Value.bool x0, .bool x1, .bool x2, .bool x3, .bool x4, .bool x5, .bool x6] : List Value)[j]? = some v → W1.cell? ((⟨b, o, none⟩ : Addr).add j) = some v) := by
    intro j v hj
    rw [add_plain]
    refine (HB.out.cell (p := ⟨b, o + j, none⟩) hb).trans ?_
    rcases j with _ | _ | _ | _ | _ | _ | _ | j <;> simp at hj <;> subst hj <;> assumption
  clear c0 c1 c2 c3 c4 c5 c6
  go_region_law (refine step_copy_splice rfl (.tmp 8) (.tmp 10) 22 22 rfl 4 Try.underlying22 infoBool1 (some ⟨w.heap.size + 1 + 1, 0, none⟩) (some ⟨b, o, none⟩) 7 7 7 cw rfl rfl (w.heap.size + 1 + 1) 0 [.bool false, .bool false, .bool false, .bool false, .bool false, .bool false, .bool false, .slice ah hs.length ch] 47 HH.out [.bool x0, .bool x1, .bool x2, .bool x3, .bool x4, .bool x5, .bool x6] rfl (fun _ => ⟨rfl, _, rfl, HC7.out⟩) (by simp) (by simp [Value.oneCell']) (w.heap.size + 1 + 1) _ (Below.refl _ _) (Nat.le_refl _) ?_; intro w4 hg4 hb4)
  have hr4 : w4.heap[w.heap.size + 1 + 1]? = some (.cells #[.bool x0, .bool x1, .bool x2, .bool x3, .bool x4, .bool x5, .bool x6, .slice ah hs.length ch] 47 (0, 0)) := by have := hg4.out; simpa [splice] using this
  have hs4 : w4.heap[w.heap.size + 1]? = some (.cells #[.bool false, .bool false, .bool false, .bool false, .bool false, .bool false, .bool false, .slice none 0 0] 47 (0, 0)) := (hb4.block _ (by omega)).trans HR.out
  have q0 : w4.cell? ⟨w.heap.size + 1 + 1, 0, none⟩ = some (.bool x0) := by simp [World.cell?, hr4]
  have q1 : w4.cell? ⟨w.heap.size + 1 + 1, 1, none⟩ = some (.bool x1) := by simp [World.cell?, hr4]
  have q2 : w4.cell? ⟨w.heap.size + 1 + 1, 2, none⟩ = some (.bool x2) := by simp [World.cell?, hr4]
  have q3 : w4.cell? ⟨w.heap.size + 1 + 1, 3, none⟩ = some (.bool x3) := by simp [World.cell?, hr4]
  have q4 : w4.cell? ⟨w.heap.size + 1 + 1, 4, none⟩ = some (.bool x4) := by simp [World.cell?, hr4]
  have q5 : w4.cell? ⟨w.heap.size + 1 + 1, 5, none⟩ = some (.bool x5) := by simp [World.cell?, hr4]
  have q6 : w4.cell? ⟨w.heap.size + 1 + 1, 6, none⟩ = some (.bool x6) := by simp [World.cell?, hr4]
  have q7 : w4.cell? ⟨w.heap.size + 1 + 1, 7, none⟩ = some (.slice ah hs.length ch) := by simp [World.cell?, hr4]
  have s0 : w4.cell? ⟨w.heap.size + 1, 0, none⟩ = some (.bool false) := by simp [World.cell?, hs4]
  have s1 : w4.cell? ⟨w.heap.size + 1, 1, none⟩ = some (.bool false) := by simp [World.cell?, hs4]
  have s2 : w4.cell? ⟨w.heap.size + 1, 2, none⟩ = some (.bool false) := by simp [World.cell?, hs4]
  have s3 : w4.cell? ⟨w.heap.size + 1, 3, none⟩ = some (.bool false) := by simp [World.cell?, hs4]
  have s4 : w4.cell? ⟨w.heap.size + 1, 4, none⟩ = some (.bool false) := by simp [World.cell?, hs4]
  have s5 : w4.cell? ⟨w.heap.size + 1, 5, none⟩ = some (.bool false) := by simp [World.cell?, hs4]
  have s6 : w4.cell? ⟨w.heap.size + 1, 6, none⟩ = some (.bool false) := by simp [World.cell?, hs4]
  have s7 : w4.cell? ⟨w.heap.size + 1, 7, none⟩ = some (.slice none 0 0) := by simp [World.cell?, hs4]
  have f0 : w4.frozen? ⟨w.heap.size + 1, 0, none⟩ = false := by simp [World.frozen?, hs4]
  have f1 : w4.frozen? ⟨w.heap.size + 1, 1, none⟩ = false := by simp [World.frozen?, hs4]
  have f2 : w4.frozen? ⟨w.heap.size + 1, 2, none⟩ = false := by simp [World.frozen?, hs4]
  have f3 : w4.frozen? ⟨w.heap.size + 1, 3, none⟩ = false := by simp [World.frozen?, hs4]
  have f4 : w4.frozen? ⟨w.heap.size + 1, 4, none⟩ = false := by simp [World.frozen?, hs4]
  have f5 : w4.frozen? ⟨w.heap.size + 1, 5, none⟩ = false := by simp [World.frozen?, hs4]
  have f6 : w4.frozen? ⟨w.heap.size + 1, 6, none⟩ = false := by simp [World.frozen?, hs4]
  have f7 : w4.frozen? ⟨w.heap.size + 1, 7, none⟩ = false := by simp [World.frozen?, hs4]
  have HB4 : Hid (Below w.heap.size w w4) := HB.out.trans (((below_drewN (Below.refl (w.heap.size + 1 + 1) W1) 1).trans hb4).mono (by omega))
  have HS4 := hid hs4
  clear hr4 hs4 hg4 hb4 HC7 HB HR HH
  go_wp2
  have hrow := row8 w4 (w.heap.size + 1) 47 _ _ _ _ _ _ _ _ (.bool x0) (.bool x1) (.bool x2) (.bool x3) (.bool x4) (.bool x5) (.bool x6) (.slice ah hs.length ch) HS4.out
  have hle : w.heap.size ≤ w.heap.size + 1 := by omega
  have hfin := (((((((HB4.out.setCell (p := ⟨w.heap.size + 1, 0, none⟩) hle (.bool x0)).setCell (p := ⟨w.heap.size + 1, 1, none⟩) hle (.bool x1)).setCell (p := ⟨w.heap.size + 1, 2, none⟩) hle (.bool x2)).setCell (p := ⟨w.heap.size + 1, 3, none⟩) hle (.bool x3)).setCell (p := ⟨w.heap.size + 1, 4, none⟩) hle (.bool x4)).setCell (p := ⟨w.heap.size + 1, 5, none⟩) hle (.bool x5)).setCell (p := ⟨w.heap.size + 1, 6, none⟩) hle (.bool x6)).setCell (p := ⟨w.heap.size + 1, 7, none⟩) hle (.slice ah hs.length ch)
  exact bodyPost_ret (v := rulV x0 x1 x2 x3 x4 x5 x6 ah hs.length ch) (results_cell_row (fn := Try.f25) (p := 2) (ty := 47) rfl _ _ (w.heap.size + 1) 47 _ (0, 0) _ rfl hrow Try.underlying47 rfl infoRules) rfl ⟨rfl, hfin⟩

end Cl
end Go.Proofs.Ythhckdfghdpmkaa
