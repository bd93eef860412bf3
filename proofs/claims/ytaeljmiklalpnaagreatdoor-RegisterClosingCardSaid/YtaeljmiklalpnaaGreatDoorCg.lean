/-
  Contracts of the program's open, kinds$1 (rename), kinds$2 (code), kinds$3 (close), shift.
-/
import Derived.Test.YtaeljmiklalpnaaGreatDoorOw
import Derived.StillTailTactics
namespace Go.Proofs.YtaeljmiklalpnaaGreatDoor
open Go.RowKit Go.ChangeMaps Gn
namespace Rg

abbrev chA (c : Ch) : Value := .agg #[.int .i64 c.day, .int .i64 c.kind, .int .i64 c.street, .string (sB c.code), .string (sB c.town), .string (sB c.name), .int .i64 c.low, .int .i64 c.high, .int .i64 c.shift]
/-- What a change makes of the streets in memory. -/
def ChgPost (base : Nat) (w : World) (v : Value) (l : List St) (n : Nat) (s' : St) (e : Ending) (w' : World) : Prop := ∃ vs', e = .returned (.tuple #[]) ∧ Strs base w' v (l.set n s') vs' ∧ Frm base w w'
/-- The cell of a street's field; it may be written. -/
theorem Strs.cell {base : Nat} {w : World} {l : List St} {vs : List Value} {g cap n : Nat} {s : St} {u : Value} (h : Strs base w (.slice (some ⟨g, 0, none⟩) l.length cap) l vs) (hs : l[n]? = some s) (hu : vs[n]? = some u) :
    g < w.heap.size ∧ (∀ j x, (stV s u)[j]? = some x → w.cell? ⟨g, n * 8 + j, none⟩ = some x) ∧ ∀ j, w.frozen? ⟨g, j, none⟩ = false := by
  have h1 := h.row.cells (g := g) rfl
  refine ⟨(h.row.lt g rfl).2, fun j x hx => ?_, h.row.frozenAt⟩
  have hj : j < 8 := (List.getElem?_eq_some_iff.1 hx).1
  have := h1 (n * 8 + j) x ((cellsS_at hs hu j hj).trans hx)
  rw [addr_add, Nat.zero_add] at this
  exact this
theorem Strs.val {base : Nat} {w : World} {l : List St} {vs : List Value} {v : Value} {n : Nat} {s : St} (h : Strs base w v l vs) (hs : l[n]? = some s) : ∃ u, vs[n]? = some u := ⟨_, List.getElem?_eq_getElem (by rw [h.len]; exact (List.getElem?_eq_some_iff.1 hs).1)⟩
theorem set_twice (l : List St) (n : Nat) (a b : St) : (l.set n a).set n b = l.set n b := List.set_set _
theorem set_at {l : List St} {n : Nat} {s : St} (h : l[n]? = some s) (a : St) : (l.set n a)[n]? = some a := List.getElem?_set_self (List.getElem?_eq_some_iff.1 h).1

set_option maxRecDepth 100000 in
set_option maxHeartbeats 2000000 in
theorem pren_any (base : Nat) (l : List St) (vs : List Value) (g cap n : Nat) (s : St) (c : Ch) (w : World) (h : Strs base w (.slice (some ⟨g, 0, none⟩) l.length cap) l vs) (hs : l[n]? = some s) :
    Calls Tryz.prog 47 #[.pointer (some ⟨g, n * 8, none⟩), chA c] w (ChgPost base w (.slice (some ⟨g, 0, none⟩) l.length cap) l n { s with name := c.name }) := by
  obtain ⟨u, hu⟩ := h.val hs
  obtain ⟨hgl, hc, hz⟩ := h.cell hs hu
  have c0 := hc 2 _ rfl
  have z0 := hz (n * 8 + 2)
  have HP : Hid (ChgPost base w (.slice (some ⟨g, 0, none⟩) l.length cap) l n { s with name := c.name } (.returned (.tuple #[])) ((w.setCell ⟨g, n * 8 + 2, none⟩ (.string (sB c.name))).alloc (.cells #[.int .i64 c.day, .int .i64 c.kind, .int .i64 c.street, .string (sB c.code), .string (sB c.town), .string (sB c.name), .int .i64 c.low, .int .i64 c.high, .int .i64 c.shift] 29))) := by
    obtain ⟨p1, p2⟩ := h.put (j := 2) (x := .string (sB c.name)) (s' := { s with name := c.name }) hs hu (by omega) rfl rfl
    exact ⟨vs, rfl, p1.on (b0 _ _), p2.trans (Frm.of (b0 _ _))⟩
  try rw [Nat.add_zero] at c0 z0
  clear h hs hu hc hz
  unfold chA
  go_enter Tryz.func47, Tryz.ntmps47
  go_wp2
  go_end0
  exact HP.out

set_option maxRecDepth 100000 in
set_option maxHeartbeats 2000000 in
theorem pcode_any (base : Nat) (l : List St) (vs : List Value) (g cap n : Nat) (s : St) (c : Ch) (w : World) (h : Strs base w (.slice (some ⟨g, 0, none⟩) l.length cap) l vs) (hs : l[n]? = some s) :
    Calls Tryz.prog 48 #[.pointer (some ⟨g, n * 8, none⟩), chA c] w (ChgPost base w (.slice (some ⟨g, 0, none⟩) l.length cap) l n { s with code := c.code }) := by
  obtain ⟨u, hu⟩ := h.val hs
  obtain ⟨hgl, hc, hz⟩ := h.cell hs hu
  have c0 := hc 0 _ rfl
  have z0 := hz (n * 8 + 0)
  have HP : Hid (ChgPost base w (.slice (some ⟨g, 0, none⟩) l.length cap) l n { s with code := c.code } (.returned (.tuple #[])) ((w.setCell ⟨g, n * 8, none⟩ (.string (sB c.code))).alloc (.cells #[.int .i64 c.day, .int .i64 c.kind, .int .i64 c.street, .string (sB c.code), .string (sB c.town), .string (sB c.name), .int .i64 c.low, .int .i64 c.high, .int .i64 c.shift] 29))) := by
    obtain ⟨p1, p2⟩ := h.put (j := 0) (x := .string (sB c.code)) (s' := { s with code := c.code }) hs hu (by omega) rfl rfl
    exact ⟨vs, rfl, p1.on (b0 _ _), p2.trans (Frm.of (b0 _ _))⟩
  try rw [Nat.add_zero] at c0 z0
  clear h hs hu hc hz
  unfold chA
  go_enter Tryz.func48, Tryz.ntmps48
  go_wp2
  go_end0
  exact HP.out

set_option maxRecDepth 100000 in
set_option maxHeartbeats 2000000 in
theorem pclose_any (base : Nat) (l : List St) (vs : List Value) (g cap n : Nat) (s : St) (c : Ch) (w : World) (h : Strs base w (.slice (some ⟨g, 0, none⟩) l.length cap) l vs) (hs : l[n]? = some s) :
    Calls Tryz.prog 51 #[.pointer (some ⟨g, n * 8, none⟩), chA c] w (ChgPost base w (.slice (some ⟨g, 0, none⟩) l.length cap) l n { s with isOpen := false }) := by
  obtain ⟨u, hu⟩ := h.val hs
  obtain ⟨hgl, hc, hz⟩ := h.cell hs hu
  have c0 := hc 7 _ rfl
  have z0 := hz (n * 8 + 7)
  have HP : Hid (ChgPost base w (.slice (some ⟨g, 0, none⟩) l.length cap) l n { s with isOpen := false } (.returned (.tuple #[])) ((w.setCell ⟨g, n * 8 + 7, none⟩ (.bool false)).alloc (.cells #[.int .i64 c.day, .int .i64 c.kind, .int .i64 c.street, .string (sB c.code), .string (sB c.town), .string (sB c.name), .int .i64 c.low, .int .i64 c.high, .int .i64 c.shift] 29))) := by
    obtain ⟨p1, p2⟩ := h.put (j := 7) (x := .bool false) (s' := { s with isOpen := false }) hs hu (by omega) rfl rfl
    exact ⟨vs, rfl, p1.on (b0 _ _), p2.trans (Frm.of (b0 _ _))⟩
  try rw [Nat.add_zero] at c0 z0
  clear h hs hu hc hz
  unfold chA
  go_enter Tryz.func51, Tryz.ntmps51
  go_wp2
  go_end0
  exact HP.out

end Rg
end Go.Proofs.YtaeljmiklalpnaaGreatDoor
