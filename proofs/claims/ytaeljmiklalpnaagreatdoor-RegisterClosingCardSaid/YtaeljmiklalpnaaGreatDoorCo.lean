/-
  Contract of the program's open.
-/
import Derived.Test.YtaeljmiklalpnaaGreatDoorCg
namespace Go.Proofs.YtaeljmiklalpnaaGreatDoor
open Go.RowKit Go.ChangeMaps Gn
namespace Rg

set_option maxRecDepth 100000 in
set_option maxHeartbeats 2000000 in
theorem popenc_any (base : Nat) (l : List St) (vs : List Value) (g cap n : Nat) (s : St) (c : Ch) (w : World) (h : Strs base w (.slice (some ⟨g, 0, none⟩) l.length cap) l vs) (hs : l[n]? = some s) :
    Calls Tryz.prog 46 #[.pointer (some ⟨g, n * 8, none⟩), chA c] w (ChgPost base w (.slice (some ⟨g, 0, none⟩) l.length cap) l n (newS c)) := by
  obtain ⟨u, hu⟩ := h.val hs
  obtain ⟨hgl, hc, hz⟩ := h.cell hs hu
  have c0 := hc 0 _ rfl
  have z0 := hz (n * 8 + 0)
  have c1 := hc 1 _ rfl
  have z1 := hz (n * 8 + 1)
  have c2 := hc 2 _ rfl
  have z2 := hz (n * 8 + 2)
  have c3 := hc 3 _ rfl
  have z3 := hz (n * 8 + 3)
  have c4 := hc 4 _ rfl
  have z4 := hz (n * 8 + 4)
  have c5 := hc 5 _ rfl
  have z5 := hz (n * 8 + 5)
  have c6 := hc 6 _ rfl
  have z6 := hz (n * 8 + 6)
  have c7 := hc 7 _ rfl
  have z7 := hz (n * 8 + 7)
  have HP : Hid (ChgPost base w (.slice (some ⟨g, 0, none⟩) l.length cap) l n (newS c) (.returned (.tuple #[])) (((((((((w.setCell ⟨g, n * 8, none⟩ (.string (sB c.code))).setCell ⟨g, n * 8 + 1, none⟩ (.string (sB c.town))).setCell ⟨g, n * 8 + 2, none⟩ (.string (sB c.name))).setCell ⟨g, n * 8 + 3, none⟩ (.slice none 0 0)).setCell ⟨g, n * 8 + 4, none⟩ (.int .i64 c.low)).setCell ⟨g, n * 8 + 5, none⟩ (.int .i64 c.high)).setCell ⟨g, n * 8 + 6, none⟩ (.int .i64 0)).setCell ⟨g, n * 8 + 7, none⟩ (.bool true)).alloc (.cells #[.int .i64 c.day, .int .i64 c.kind, .int .i64 c.street, .string (sB c.code), .string (sB c.town), .string (sB c.name), .int .i64 c.low, .int .i64 c.high, .int .i64 c.shift] 29))) := by
    obtain ⟨p0, f0⟩ := h.put (j := 0) (x := .string (sB c.code)) (s' := (⟨c.code, s.town, s.name, s.al, s.low, s.high, s.shift, s.isOpen⟩ : St)) hs hu (by omega) rfl rfl
    have s0 := set_at hs (⟨c.code, s.town, s.name, s.al, s.low, s.high, s.shift, s.isOpen⟩ : St)
    have q0 : Strs base (w.setCell ⟨g, n * 8, none⟩ (.string (sB c.code))) (.slice (some ⟨g, 0, none⟩) (l.set n (⟨c.code, s.town, s.name, s.al, s.low, s.high, s.shift, s.isOpen⟩ : St)).length cap) (l.set n (⟨c.code, s.town, s.name, s.al, s.low, s.high, s.shift, s.isOpen⟩ : St)) vs := by rw [List.length_set]; exact p0
    obtain ⟨l0, hl0⟩ : ∃ x, x = l.set n (⟨c.code, s.town, s.name, s.al, s.low, s.high, s.shift, s.isOpen⟩ : St) := ⟨_, rfl⟩
    rw [← hl0] at s0 q0
    obtain ⟨p1, f1⟩ := q0.put (j := 1) (x := .string (sB c.town)) (s' := (⟨c.code, c.town, s.name, s.al, s.low, s.high, s.shift, s.isOpen⟩ : St)) s0 hu (by omega) rfl rfl
    have s1 := set_at s0 (⟨c.code, c.town, s.name, s.al, s.low, s.high, s.shift, s.isOpen⟩ : St)
    have q1 : Strs base ((w.setCell ⟨g, n * 8, none⟩ (.string (sB c.code))).setCell ⟨g, n * 8 + 1, none⟩ (.string (sB c.town))) (.slice (some ⟨g, 0, none⟩) (l0.set n (⟨c.code, c.town, s.name, s.al, s.low, s.high, s.shift, s.isOpen⟩ : St)).length cap) (l0.set n (⟨c.code, c.town, s.name, s.al, s.low, s.high, s.shift, s.isOpen⟩ : St)) vs := by rw [List.length_set]; exact p1
    obtain ⟨l1, hl1⟩ : ∃ x, x = l0.set n (⟨c.code, c.town, s.name, s.al, s.low, s.high, s.shift, s.isOpen⟩ : St) := ⟨_, rfl⟩
    rw [← hl1] at s1 q1
    obtain ⟨p2, f2⟩ := q1.put (j := 2) (x := .string (sB c.name)) (s' := (⟨c.code, c.town, c.name, s.al, s.low, s.high, s.shift, s.isOpen⟩ : St)) s1 hu (by omega) rfl rfl
    have s2 := set_at s1 (⟨c.code, c.town, c.name, s.al, s.low, s.high, s.shift, s.isOpen⟩ : St)
    have q2 : Strs base (((w.setCell ⟨g, n * 8, none⟩ (.string (sB c.code))).setCell ⟨g, n * 8 + 1, none⟩ (.string (sB c.town))).setCell ⟨g, n * 8 + 2, none⟩ (.string (sB c.name))) (.slice (some ⟨g, 0, none⟩) (l1.set n (⟨c.code, c.town, c.name, s.al, s.low, s.high, s.shift, s.isOpen⟩ : St)).length cap) (l1.set n (⟨c.code, c.town, c.name, s.al, s.low, s.high, s.shift, s.isOpen⟩ : St)) vs := by rw [List.length_set]; exact p2
    obtain ⟨l2, hl2⟩ : ∃ x, x = l1.set n (⟨c.code, c.town, c.name, s.al, s.low, s.high, s.shift, s.isOpen⟩ : St) := ⟨_, rfl⟩
    rw [← hl2] at s2 q2
    obtain ⟨p3, f3⟩ := q2.cut s2 hu
    have hu3 : (vs.set n nilV)[n]? = some nilV := List.getElem?_set_self (List.getElem?_eq_some_iff.1 hu).1
    have s3 := set_at s2 (⟨c.code, c.town, c.name, [], s.low, s.high, s.shift, s.isOpen⟩ : St)
    have q3 : Strs base ((((w.setCell ⟨g, n * 8, none⟩ (.string (sB c.code))).setCell ⟨g, n * 8 + 1, none⟩ (.string (sB c.town))).setCell ⟨g, n * 8 + 2, none⟩ (.string (sB c.name))).setCell ⟨g, n * 8 + 3, none⟩ (.slice none 0 0)) (.slice (some ⟨g, 0, none⟩) (l2.set n (⟨c.code, c.town, c.name, [], s.low, s.high, s.shift, s.isOpen⟩ : St)).length cap) (l2.set n (⟨c.code, c.town, c.name, [], s.low, s.high, s.shift, s.isOpen⟩ : St)) (vs.set n nilV) := by rw [List.length_set]; exact p3
    obtain ⟨l3, hl3⟩ : ∃ x, x = l2.set n (⟨c.code, c.town, c.name, [], s.low, s.high, s.shift, s.isOpen⟩ : St) := ⟨_, rfl⟩
    rw [← hl3] at s3 q3
    obtain ⟨p4, f4⟩ := q3.put (j := 4) (x := .int .i64 c.low) (s' := (⟨c.code, c.town, c.name, [], c.low, s.high, s.shift, s.isOpen⟩ : St)) s3 hu3 (by omega) rfl rfl
    have s4 := set_at s3 (⟨c.code, c.town, c.name, [], c.low, s.high, s.shift, s.isOpen⟩ : St)
    have q4 : Strs base (((((w.setCell ⟨g, n * 8, none⟩ (.string (sB c.code))).setCell ⟨g, n * 8 + 1, none⟩ (.string (sB c.town))).setCell ⟨g, n * 8 + 2, none⟩ (.string (sB c.name))).setCell ⟨g, n * 8 + 3, none⟩ (.slice none 0 0)).setCell ⟨g, n * 8 + 4, none⟩ (.int .i64 c.low)) (.slice (some ⟨g, 0, none⟩) (l3.set n (⟨c.code, c.town, c.name, [], c.low, s.high, s.shift, s.isOpen⟩ : St)).length cap) (l3.set n (⟨c.code, c.town, c.name, [], c.low, s.high, s.shift, s.isOpen⟩ : St)) (vs.set n nilV) := by rw [List.length_set]; exact p4
    obtain ⟨l4, hl4⟩ : ∃ x, x = l3.set n (⟨c.code, c.town, c.name, [], c.low, s.high, s.shift, s.isOpen⟩ : St) := ⟨_, rfl⟩
    rw [← hl4] at s4 q4
    obtain ⟨p5, f5⟩ := q4.put (j := 5) (x := .int .i64 c.high) (s' := (⟨c.code, c.town, c.name, [], c.low, c.high, s.shift, s.isOpen⟩ : St)) s4 hu3 (by omega) rfl rfl
    have s5 := set_at s4 (⟨c.code, c.town, c.name, [], c.low, c.high, s.shift, s.isOpen⟩ : St)
    have q5 : Strs base ((((((w.setCell ⟨g, n * 8, none⟩ (.string (sB c.code))).setCell ⟨g, n * 8 + 1, none⟩ (.string (sB c.town))).setCell ⟨g, n * 8 + 2, none⟩ (.string (sB c.name))).setCell ⟨g, n * 8 + 3, none⟩ (.slice none 0 0)).setCell ⟨g, n * 8 + 4, none⟩ (.int .i64 c.low)).setCell ⟨g, n * 8 + 5, none⟩ (.int .i64 c.high)) (.slice (some ⟨g, 0, none⟩) (l4.set n (⟨c.code, c.town, c.name, [], c.low, c.high, s.shift, s.isOpen⟩ : St)).length cap) (l4.set n (⟨c.code, c.town, c.name, [], c.low, c.high, s.shift, s.isOpen⟩ : St)) (vs.set n nilV) := by rw [List.length_set]; exact p5
    obtain ⟨l5, hl5⟩ : ∃ x, x = l4.set n (⟨c.code, c.town, c.name, [], c.low, c.high, s.shift, s.isOpen⟩ : St) := ⟨_, rfl⟩
    rw [← hl5] at s5 q5
    obtain ⟨p6, f6⟩ := q5.put (j := 6) (x := .int .i64 0) (s' := (⟨c.code, c.town, c.name, [], c.low, c.high, 0, s.isOpen⟩ : St)) s5 hu3 (by omega) rfl rfl
    have s6 := set_at s5 (⟨c.code, c.town, c.name, [], c.low, c.high, 0, s.isOpen⟩ : St)
    have q6 : Strs base (((((((w.setCell ⟨g, n * 8, none⟩ (.string (sB c.code))).setCell ⟨g, n * 8 + 1, none⟩ (.string (sB c.town))).setCell ⟨g, n * 8 + 2, none⟩ (.string (sB c.name))).setCell ⟨g, n * 8 + 3, none⟩ (.slice none 0 0)).setCell ⟨g, n * 8 + 4, none⟩ (.int .i64 c.low)).setCell ⟨g, n * 8 + 5, none⟩ (.int .i64 c.high)).setCell ⟨g, n * 8 + 6, none⟩ (.int .i64 0)) (.slice (some ⟨g, 0, none⟩) (l5.set n (⟨c.code, c.town, c.name, [], c.low, c.high, 0, s.isOpen⟩ : St)).length cap) (l5.set n (⟨c.code, c.town, c.name, [], c.low, c.high, 0, s.isOpen⟩ : St)) (vs.set n nilV) := by rw [List.length_set]; exact p6
    obtain ⟨l6, hl6⟩ : ∃ x, x = l5.set n (⟨c.code, c.town, c.name, [], c.low, c.high, 0, s.isOpen⟩ : St) := ⟨_, rfl⟩
    rw [← hl6] at s6 q6
    obtain ⟨p7, f7⟩ := q6.put (j := 7) (x := .bool true) (s' := (⟨c.code, c.town, c.name, [], c.low, c.high, 0, true⟩ : St)) s6 hu3 (by omega) rfl rfl
    have s7 := set_at s6 (⟨c.code, c.town, c.name, [], c.low, c.high, 0, true⟩ : St)
    have q7 : Strs base ((((((((w.setCell ⟨g, n * 8, none⟩ (.string (sB c.code))).setCell ⟨g, n * 8 + 1, none⟩ (.string (sB c.town))).setCell ⟨g, n * 8 + 2, none⟩ (.string (sB c.name))).setCell ⟨g, n * 8 + 3, none⟩ (.slice none 0 0)).setCell ⟨g, n * 8 + 4, none⟩ (.int .i64 c.low)).setCell ⟨g, n * 8 + 5, none⟩ (.int .i64 c.high)).setCell ⟨g, n * 8 + 6, none⟩ (.int .i64 0)).setCell ⟨g, n * 8 + 7, none⟩ (.bool true)) (.slice (some ⟨g, 0, none⟩) (l6.set n (⟨c.code, c.town, c.name, [], c.low, c.high, 0, true⟩ : St)).length cap) (l6.set n (⟨c.code, c.town, c.name, [], c.low, c.high, 0, true⟩ : St)) (vs.set n nilV) := by rw [List.length_set]; exact p7
    obtain ⟨l7, hl7⟩ : ∃ x, x = l6.set n (⟨c.code, c.town, c.name, [], c.low, c.high, 0, true⟩ : St) := ⟨_, rfl⟩
    rw [← hl7] at s7 q7
    have e : l7 = l.set n (newS c) := by rw [hl7, hl6, hl5, hl4, hl3, hl2, hl1, hl0]; simp only [List.set_set]; rfl
    have el : l7.length = l.length := by rw [e, List.length_set]
    rw [el, e] at q7
    exact ⟨_, rfl, q7.on (b0 _ _), ((((((((f0.trans f1).trans f2).trans f3).trans f4).trans f5).trans f6).trans f7).trans (Frm.of (b0 _ _)))⟩
  try rw [Nat.add_zero] at c0 z0
  clear h hs hu hc hz
  unfold chA
  go_enter Tryz.func46, Tryz.ntmps46
  go_wp2
  go_end0
  exact HP.out

end Rg
end Go.Proofs.YtaeljmiklalpnaaGreatDoor
