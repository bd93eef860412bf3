/-
  Contracts of Example, divided and head.
-/
import Derived.Test.YtcaiejbnhjiflaaGreatDoorH0
import Derived.Test.YtcaiejbnhjiflaaGreatDoorR1
import Derived.Test.YtcaiejbnhjiflaaGreatDoorR2
namespace Go.Proofs.YtcaiejbnhjiflaaGreatDoor
open Go.RowKit Go.ChangeMaps
namespace Fm

/-- A format of its own. -/
def FPost (name : W) (fs : List (List Pt)) (w : World) (e : Ending) (w' : World) : Prop := ∃ fv, e = .returned (.agg #[.string (sB name), fv]) ∧ Hid (IsPs w' fv fs) ∧ Below w.heap.size w w'
theorem isP_block {w : World} {b : Nat} {cs : Array Value} {ty : TypeId} {fz : Nat × Nat} (h : w.heap[b]? = some (.cells cs ty fz)) {ps : List Pt} (hc : cs.toList = ps.flatMap ptV) : IsP w (.slice (some ⟨b, 0, none⟩) ps.length ps.length) ps :=
  ⟨_, _, rfl, by unfold RdP; rw [← hc]; exact SlR.of_block h (by rw [← Array.length_toList, hc, flat_len])⟩

theorem hpk (w : World) (o : Obj) (k : Nat) : (w.alloc o).heap[k]? = if k = w.heap.size then some o else w.heap[k]? := by
  simp [World.alloc, -World.alloc_eq, Array.getElem?_push]
theorem infoFmt : (Tryz.prog.info? 24).map (·.size) = some 2 := by kernel_rfl
set_option maxRecDepth 100000 in
set_option maxHeartbeats 4000000 in
theorem example_any (w : World) : Calls Tryz.prog 28 #[] w (FPost plainN plainF w) := by
  go_enter Tryz.func28, Tryz.ntmps28
  go_wp2
  refine bodyPost_ret (v := .agg #[.string (sB plainN), .slice (some ⟨w.heap.size + 1 + 1 + 1 + 1, 0, none⟩) 3 3]) (results_cell_row (fn := Tryz.f28) (p := 0) (ty := 24) rfl _ _ w.heap.size 24 _ (0, 0) _ rfl (by simp only [hpk, World.size_alloc]; (repeat rw [if_neg (by omega)]); rw [if_pos trivial]; rfl) Tryz.underlying24 rfl infoFmt) rfl ⟨_, rfl, ?_, by go_grown⟩
  refine ⟨some ⟨w.heap.size + 1 + 1 + 1 + 1, 0, none⟩, 3, _, rfl, SlR.of_block (b := w.heap.size + 1 + 1 + 1 + 1) (n := 3) (size := 1) (ty := 47) (fz := (0, 0)) (cs := #[.slice (some ⟨w.heap.size + 1, 0, none⟩) 1 1, .slice (some ⟨w.heap.size + 1 + 1, 0, none⟩) 2 2, .slice (some ⟨w.heap.size + 1 + 1 + 1, 0, none⟩) 2 2]) (by simp only [hpk, World.size_alloc]; simp) rfl, ?_⟩
  intro i ps hi
  have hi3 := (List.getElem?_eq_some_iff.1 hi).1
  rcases (show i = 0 ∨ i = 1 ∨ i = 2 by simp [plainF] at hi3; omega) with rfl | rfl | rfl
  · cases hi
    exact ⟨_, rfl, isP_block (b := w.heap.size + 1) (cs := #[.int .i64 6, .string ⟨#[]⟩]) (ty := 49) (fz := (0, 0)) (ps := [⟨6, []⟩]) (by simp only [hpk, World.size_alloc]; simp) rfl⟩
  · cases hi
    exact ⟨_, rfl, isP_block (b := w.heap.size + 1 + 1) (cs := #[.int .i64 4, .string ⟨#[]⟩, .int .i64 2, .string ⟨#[]⟩]) (ty := 49) (fz := (0, 0)) (ps := [⟨4, []⟩, ⟨2, []⟩]) (by simp only [hpk, World.size_alloc]; simp) rfl⟩
  · cases hi
    exact ⟨_, rfl, isP_block (b := w.heap.size + 1 + 1 + 1) (cs := #[.int .i64 3, .string ⟨#[57, 57, 57, 57]⟩, .int .i64 5, .string ⟨#[]⟩]) (ty := 49) (fz := (0, 0)) (ps := [⟨3, [57, 57, 57, 57]⟩, ⟨5, []⟩]) (by simp only [hpk, World.size_alloc]; simp) rfl⟩
set_option maxRecDepth 100000 in
set_option maxHeartbeats 4000000 in
theorem divided_any (w : World) : Calls Tryz.prog 27 #[] w (FPost flatN flatF w) := by
  go_enter Tryz.func27, Tryz.ntmps27
  go_wp2
  refine bodyPost_ret (v := .agg #[.string (sB flatN), .slice (some ⟨w.heap.size + 1 + 1, 0, none⟩) 1 1]) (results_cell_row (fn := Tryz.f27) (p := 0) (ty := 24) rfl _ _ w.heap.size 24 _ (0, 0) _ rfl (by simp only [hpk, World.size_alloc]; (repeat rw [if_neg (by omega)]); rw [if_pos trivial]; rfl) Tryz.underlying24 rfl infoFmt) rfl ⟨_, rfl, ?_, by go_grown⟩
  refine ⟨some ⟨w.heap.size + 1 + 1, 0, none⟩, 1, _, rfl, SlR.of_block (b := w.heap.size + 1 + 1) (n := 1) (size := 1) (ty := 47) (fz := (0, 0)) (cs := #[.slice (some ⟨w.heap.size + 1, 0, none⟩) 2 2]) (by simp only [hpk, World.size_alloc]; simp) rfl, ?_⟩
  intro i ps hi
  have hi3 := (List.getElem?_eq_some_iff.1 hi).1
  obtain rfl : i = 0 := by simp [flatF] at hi3; omega
  cases hi
  exact ⟨_, rfl, isP_block (b := w.heap.size + 1) (cs := #[.int .i64 4, .string ⟨#[]⟩, .int .i64 5, .string ⟨#[]⟩]) (ty := 49) (fz := (0, 0)) (ps := [⟨4, []⟩, ⟨5, []⟩]) (by simp only [hpk, World.size_alloc]; simp) rfl⟩

end Fm
end Go.Proofs.YtcaiejbnhjiflaaGreatDoor
