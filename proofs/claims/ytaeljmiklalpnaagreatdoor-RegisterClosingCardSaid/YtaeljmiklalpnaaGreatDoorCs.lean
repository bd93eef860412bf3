/-
  Contract of the program's shift.
-/
import Derived.Test.YtaeljmiklalpnaaGreatDoorCg
namespace Go.Proofs.YtaeljmiklalpnaaGreatDoor
open Go.RowKit Go.ChangeMaps Gn
namespace Rg

theorem Strs.relen {base : Nat} {w : World} {A : Option Addr} {l : List St} {n cap : Nat} {a : St} {vs : List Value} (h : Strs base w (.slice A l.length cap) (l.set n a) vs) : Strs base w (.slice A (l.set n a).length cap) (l.set n a) vs := by
  rw [List.length_set]; exact h

set_option maxRecDepth 100000 in
set_option maxHeartbeats 2000000 in
theorem pshift_any (base : Nat) (l : List St) (vs : List Value) (g cap n : Nat) (s : St) (c : Ch) (w : World) (h : Strs base w (.slice (some ⟨g, 0, none⟩) l.length cap) l vs) (hs : l[n]? = some s) (g1 : houseB (s.low + c.shift) = true) (g2 : houseB (s.high + c.shift) = true) (g3 : -100000 ≤ s.shift ∧ s.shift ≤ 100000) (g4 : 1 ≤ s.low ∧ s.low ≤ 9999) :
    Calls Tryz.prog 49 #[.pointer (some ⟨g, n * 8, none⟩), chA c] w (ChgPost base w (.slice (some ⟨g, 0, none⟩) l.length cap) l n { s with low := s.low + c.shift, high := s.high + c.shift, shift := s.shift + c.shift }) := by
  obtain ⟨u, hu⟩ := h.val hs
  obtain ⟨hgl, hc, hz⟩ := h.cell hs hu
  obtain ⟨w1, hw1⟩ : ∃ w1, w1 = w.alloc (.cells #[.int .i64 c.day, .int .i64 c.kind, .int .i64 c.street, .string (sB c.code), .string (sB c.town), .string (sB c.name), .int .i64 c.low, .int .i64 c.high, .int .i64 c.shift] 29) := ⟨_, rfl⟩
  have hb1 : Below w.heap.size w w1 := by rw [hw1]; exact b0 _ _
  have H1 := hid (h.on hb1)
  have HF1 : Hid (Frm base w w1) := Frm.of hb1
  have HS1 := hid hs
  have HU := hid hu
  have hbx : w1.heap[w.heap.size]? = some (.cells #[.int .i64 c.day, .int .i64 c.kind, .int .i64 c.street, .string (sB c.code), .string (sB c.town), .string (sB c.name), .int .i64 c.low, .int .i64 c.high, .int .i64 c.shift] 29 (0, 0)) := by rw [hw1]; exact heap_new _ _
  have b8 : w1.cell? ⟨w.heap.size, 8, none⟩ = some (.int .i64 c.shift) := by rw [cell_at hbx]; rfl
  have hgz : w.heap.size < w1.heap.size := heap_lt hbx
  have hgw : g < w1.heap.size := by omega
  have hgne : g ≠ w.heap.size := by omega
  have hgne2 : w.heap.size ≠ g := by omega
  rw [houseB_iff] at g1 g2
  have g5 : -1000000 ≤ s.shift + c.shift := by omega
  have g6 : s.shift + c.shift ≤ 1000000 := by omega
  have CH1 := hid (fun u => phouse_any (s.low + c.shift) u)
  have CH2 := hid (fun u => phouse_any (s.high + c.shift) u)
  rw [(houseB_iff _).2 g1] at CH1
  rw [(houseB_iff _).2 g2] at CH2
  have CR := hid (fun u => preq_yes 1 u)
  have e4 := (hb1.cell (p := (⟨g, n * 8 + 4, none⟩ : Addr)) hgl).trans (hc 4 _ rfl)
  have z4 := (hb1.frozen (p := (⟨g, n * 8 + 4, none⟩ : Addr)) hgl).trans (hz _)
  obtain ⟨g1a, g1b⟩ := g1
  obtain ⟨g2a, g2b⟩ := g2
  obtain ⟨g3a, g3b⟩ := g3
  clear h hs hu hc hz hb1 hbx
  unfold chA
  go_enter Tryz.func49, Tryz.ntmps49
  go_wp2_with fail
  rw [← hw1]
  clear hw1
  go_still_tail 9, (by kernel_rfl)
  change wpList _ _ _ _ _ w1.drew
  go_wp2_with fail
  obtain ⟨w2, hw2⟩ : ∃ u, u = (w1.setCell ⟨g, n * 8 + 4, none⟩ (.int .i64 (s.low + c.shift))).drew := ⟨_, rfl⟩
  rw [← hw2]
  have HP1 : Hid (Strs base w2 (.slice (some ⟨g, 0, none⟩) l.length cap) (l.set n (⟨s.code, s.town, s.name, s.al, s.low + c.shift, s.high, s.shift, s.isOpen⟩ : St)) vs ∧ Frm base w1 w2 ∧ (l.set n (⟨s.code, s.town, s.name, s.al, s.low + c.shift, s.high, s.shift, s.isOpen⟩ : St))[n]? = some (⟨s.code, s.town, s.name, s.al, s.low + c.shift, s.high, s.shift, s.isOpen⟩ : St) ∧ w2.cell? ⟨w.heap.size, 8, none⟩ = some (.int .i64 c.shift) ∧ w2.heap.size = w1.heap.size) := by
    obtain ⟨p1, p2⟩ := H1.out.put (j := 4) (x := .int .i64 (s.low + c.shift)) (s' := (⟨s.code, s.town, s.name, s.al, s.low + c.shift, s.high, s.shift, s.isOpen⟩ : St)) HS1.out HU.out (by omega) rfl rfl
    have hd : Below (w1.setCell ⟨g, n * 8 + 4, none⟩ (.int .i64 (s.low + c.shift))).heap.size (w1.setCell ⟨g, n * 8 + 4, none⟩ (.int .i64 (s.low + c.shift))) w2 := by rw [hw2]; exact (Below.refl _ _).drew
    refine ⟨p1.on hd, p2.trans (Frm.of hd), set_at HS1.out _, ?_, by rw [hw2]; simp [World.setCell]⟩
    rw [hw2]; simp; rw [World.cell?_setCell_far _ _ _ _ hgne]; exact b8
  have b8n := HP1.out.2.2.2.1
  have hzn := HP1.out.2.2.2.2
  clear b8 e4 z4
  have b8 := b8n
  have e5 : w2.cell? ⟨g, n * 8 + 5, none⟩ = some (.int .i64 s.high) := ((Strs.cell (by have q := HP1.out.1; exact q.relen) HP1.out.2.2.1 HU.out).2.1 5 _ rfl)
  have z5 := ((Strs.cell (by have q := HP1.out.1; exact q.relen) HP1.out.2.2.1 HU.out).2.2 (n * 8 + 5))
  have hgw2 : g < w2.heap.size := by omega
  have hgz2 : w.heap.size < w2.heap.size := by omega
  clear hw2 b8n hzn
  clear hgw hgz
  go_still_tail 9, (by kernel_rfl)
  change wpList _ _ _ _ _ w2.drew
  go_wp2_with fail
  obtain ⟨w3, hw3⟩ : ∃ u, u = (w2.setCell ⟨g, n * 8 + 5, none⟩ (.int .i64 (s.high + c.shift))).drew := ⟨_, rfl⟩
  rw [← hw3]
  have HP2 : Hid (Strs base w3 (.slice (some ⟨g, 0, none⟩) l.length cap) (l.set n (⟨s.code, s.town, s.name, s.al, s.low + c.shift, s.high + c.shift, s.shift, s.isOpen⟩ : St)) vs ∧ Frm base w2 w3 ∧ (l.set n (⟨s.code, s.town, s.name, s.al, s.low + c.shift, s.high + c.shift, s.shift, s.isOpen⟩ : St))[n]? = some (⟨s.code, s.town, s.name, s.al, s.low + c.shift, s.high + c.shift, s.shift, s.isOpen⟩ : St) ∧ w3.cell? ⟨w.heap.size, 8, none⟩ = some (.int .i64 c.shift) ∧ w3.heap.size = w2.heap.size) := by
    obtain ⟨p1, p2⟩ := (by have q := HP1.out.1; exact q.relen : Strs base w2 (.slice (some ⟨g, 0, none⟩) (l.set n (⟨s.code, s.town, s.name, s.al, s.low + c.shift, s.high, s.shift, s.isOpen⟩ : St)).length cap) (l.set n (⟨s.code, s.town, s.name, s.al, s.low + c.shift, s.high, s.shift, s.isOpen⟩ : St)) vs).put (j := 5) (x := .int .i64 (s.high + c.shift)) (s' := (⟨s.code, s.town, s.name, s.al, s.low + c.shift, s.high + c.shift, s.shift, s.isOpen⟩ : St)) HP1.out.2.2.1 HU.out (by omega) rfl rfl
    have hd : Below (w2.setCell ⟨g, n * 8 + 5, none⟩ (.int .i64 (s.high + c.shift))).heap.size (w2.setCell ⟨g, n * 8 + 5, none⟩ (.int .i64 (s.high + c.shift))) w3 := by rw [hw3]; exact (Below.refl _ _).drew
    refine ⟨by have q := p1.on hd; rw [List.set_set, List.length_set] at q; exact q, p2.trans (Frm.of hd), set_at HS1.out _, ?_, by rw [hw3]; simp [World.setCell]⟩
    rw [hw3]; simp; rw [World.cell?_setCell_far _ _ _ _ hgne]; exact b8
  have b8n := HP2.out.2.2.2.1
  have hzn := HP2.out.2.2.2.2
  clear b8 e5 z5
  have b8 := b8n
  have e6 : w3.cell? ⟨g, n * 8 + 6, none⟩ = some (.int .i64 s.shift) := ((Strs.cell (by have q := HP2.out.1; exact q.relen) HP2.out.2.2.1 HU.out).2.1 6 _ rfl)
  have z6 := ((Strs.cell (by have q := HP2.out.1; exact q.relen) HP2.out.2.2.1 HU.out).2.2 (n * 8 + 6))
  have e4 : w3.cell? ⟨g, n * 8 + 4, none⟩ = some (.int .i64 (s.low + c.shift)) := ((Strs.cell (by have q := HP2.out.1; exact q.relen) HP2.out.2.2.1 HU.out).2.1 4 _ rfl)
  have z4 := ((Strs.cell (by have q := HP2.out.1; exact q.relen) HP2.out.2.2.1 HU.out).2.2 (n * 8 + 4))
  have e5 : w3.cell? ⟨g, n * 8 + 5, none⟩ = some (.int .i64 (s.high + c.shift)) := ((Strs.cell (by have q := HP2.out.1; exact q.relen) HP2.out.2.2.1 HU.out).2.1 5 _ rfl)
  have z5 := ((Strs.cell (by have q := HP2.out.1; exact q.relen) HP2.out.2.2.1 HU.out).2.2 (n * 8 + 5))
  have hgw3 : g < w3.heap.size := by omega
  have hgz3 : w.heap.size < w3.heap.size := by omega
  clear hw3 b8n hzn hgw2 hgz2
  go_still_tail 9, (by kernel_rfl)
  change wpList _ _ _ _ _ w3.drew
  go_wp2_with fail
  obtain ⟨w4, hw4⟩ : ∃ u, u = (w3.setCell ⟨g, n * 8 + 6, none⟩ (.int .i64 (s.shift + c.shift))).drew := ⟨_, rfl⟩
  rw [← hw4]
  have HP3 : Hid (Strs base w4 (.slice (some ⟨g, 0, none⟩) l.length cap) (l.set n (⟨s.code, s.town, s.name, s.al, s.low + c.shift, s.high + c.shift, s.shift + c.shift, s.isOpen⟩ : St)) vs ∧ Frm base w3 w4 ∧ (l.set n (⟨s.code, s.town, s.name, s.al, s.low + c.shift, s.high + c.shift, s.shift + c.shift, s.isOpen⟩ : St))[n]? = some (⟨s.code, s.town, s.name, s.al, s.low + c.shift, s.high + c.shift, s.shift + c.shift, s.isOpen⟩ : St) ∧ w4.cell? ⟨w.heap.size, 8, none⟩ = some (.int .i64 c.shift) ∧ w4.heap.size = w3.heap.size) := by
    obtain ⟨p1, p2⟩ := (by have q := HP2.out.1; exact q.relen : Strs base w3 (.slice (some ⟨g, 0, none⟩) (l.set n (⟨s.code, s.town, s.name, s.al, s.low + c.shift, s.high + c.shift, s.shift, s.isOpen⟩ : St)).length cap) (l.set n (⟨s.code, s.town, s.name, s.al, s.low + c.shift, s.high + c.shift, s.shift, s.isOpen⟩ : St)) vs).put (j := 6) (x := .int .i64 (s.shift + c.shift)) (s' := (⟨s.code, s.town, s.name, s.al, s.low + c.shift, s.high + c.shift, s.shift + c.shift, s.isOpen⟩ : St)) HP2.out.2.2.1 HU.out (by omega) rfl rfl
    have hd : Below (w3.setCell ⟨g, n * 8 + 6, none⟩ (.int .i64 (s.shift + c.shift))).heap.size (w3.setCell ⟨g, n * 8 + 6, none⟩ (.int .i64 (s.shift + c.shift))) w4 := by rw [hw4]; exact (Below.refl _ _).drew
    refine ⟨by have q := p1.on hd; rw [List.set_set, List.length_set] at q; exact q, p2.trans (Frm.of hd), set_at HS1.out _, ?_, by rw [hw4]; simp [World.setCell]⟩
    rw [hw4]; simp; rw [World.cell?_setCell_far _ _ _ _ hgne]; exact b8
  have b8n := HP3.out.2.2.2.1
  have hzn := HP3.out.2.2.2.2
  clear b8 e6 z6
  have b8 := b8n
  have CB := hid (Strs.cell (HP3.out.1.relen) HP3.out.2.2.1 HU.out)
  have e4 : w4.cell? ⟨g, n * 8 + 4, none⟩ = some (.int .i64 (s.low + c.shift)) := CB.out.2.1 4 _ rfl
  have e5 : w4.cell? ⟨g, n * 8 + 5, none⟩ = some (.int .i64 (s.high + c.shift)) := CB.out.2.1 5 _ rfl
  clear hw4 b8n hzn hgw3 hgz3 b8
  refine (CH1.out _).mono ?_
  rintro e y1 ⟨rfl, rfl⟩
  go_wp2_with fail
  refine (CH2.out _).mono ?_
  rintro e y1 ⟨rfl, rfl⟩
  go_wp2_with fail
  refine (CR.out _).mono ?_
  rintro e y1 ⟨rfl, rfl⟩
  go_wp2
  go_end0
  exact ⟨vs, rfl, HP3.out.1, ((HF1.out.trans HP1.out.2.1).trans HP2.out.2.1).trans HP3.out.2.1⟩

end Rg
end Go.Proofs.YtaeljmiklalpnaaGreatDoor
