/-
  Laws at the operations on the map of the kinds: look up, insert, delete; the contract of kinds.
-/
import Derived.Test.YtcaiejbnhjiflaaGreatDoorBs
namespace Go.Proofs.YtcaiejbnhjiflaaGreatDoor
open Go.RowKit Go.ChangeMaps
namespace Fm

theorem kindT : Tryz.prog.underlying 55 = some (.map 3 64) := by kernel_rfl
theorem check_n (b : Bool) (n : Nat) (k : Int) (w : World) : (Instr.checkKey b (n + 1) 3 (.int .i64 k)).run Tryz.prog w = .ok () w := by
  simp [Instr.checkKey, run_underlying Tryz.underlying3]
theorem check_int (b : Bool) (k : Int) (w : World) : (Instr.checkKey b 10000 3 (.int .i64 k)).run Tryz.prog w = .ok () w := check_n b 9999 k w
def zeroK : Value := .agg #[.int .i64 0, .nilFunc, .nilFunc, .nilFunc]
theorem zero_kind (w : World) : (zeroValue 64).run Tryz.prog w = .ok zeroK w := by kernel_rfl
theorem find_run (F : Int → Nat) (k : Int) (L : List Int) (w : World) : (Instr.findKey 3 (.int .i64 k) (L.map (entV F))).run Tryz.prog w = .ok (if k ∈ L then some (L.idxOf k, kdV F k) else none) w := by
  have := find_now F k L 0
  rw [Nat.zero_add] at this
  simp [Instr.findKey, run_underlying Tryz.underlying3, this]
theorem look_yes {w : World} {M : Nat} {F : Int → Nat} {L : List Int} (h : Kinds w M F L) {k : Int} (hk : k ∈ L) (c : Bool) :
    (Instr.lookup 55 (.map (some M)) (.int .i64 k) c).run Tryz.prog w = .ok (if c then .tuple #[kdV F k, .bool true] else kdV F k) w := by
  have hf := find_run F k L w
  rw [if_pos hk] at hf
  simp [Instr.lookup, run_underlying kindT, MapKept.run_getObj_map h.map, check_int, hf]
theorem look_no {w : World} {M : Nat} {F : Int → Nat} {L : List Int} (h : Kinds w M F L) {k : Int} (hk : k ∉ L) (c : Bool) :
    (Instr.lookup 55 (.map (some M)) (.int .i64 k) c).run Tryz.prog w = .ok (if c then .tuple #[zeroK, .bool false] else zeroK) w := by
  have hf := find_run F k L w
  rw [if_neg hk] at hf
  simp [Instr.lookup, run_underlying kindT, MapKept.run_getObj_map h.map, check_int, hf, zeroK]

theorem blk_set {w : World} {M : Nat} {es : Array MapEntry} {c : Nat} (h : w.heap[M]? = some (.map es c)) (o : Obj) : (setBlock w M o).heap[M]? = some o ∧ (setBlock w M o).heap.size = w.heap.size ∧ (∀ b, b ≠ M → (setBlock w M o).heap[b]? = w.heap[b]?) ∧ ∀ B, B ≤ M → Below B w (setBlock w M o) :=
  ⟨heap_setBlock_same h o, by simp [setBlock], fun b hb => heap_setBlock_other h o hb, fun B hB => ⟨rfl, rfl, rfl, by simp [setBlock], fun k hk => heap_setBlock_other h o (by omega)⟩⟩
/-- An entry that is new. -/
theorem ins_ex {w : World} {M : Nat} {es : List MapEntry} {c : Nat} (hb : w.heap[M]? = some (.map es.toArray c)) (k : Int) (val : Value) (hn : Instr.findNow (.int .i64) (.int .i64 k) es 0 = some none) :
    ∃ w', (Instr.mapUpdate 55 (.map (some M)) (.int .i64 k) val).run Tryz.prog w = .ok () w' ∧ w'.heap[M]? = some (.map (es ++ [(⟨.int .i64 k, val, c⟩ : MapEntry)]).toArray (c + 1)) ∧ w'.heap.size = w.heap.size ∧ (∀ b, b ≠ M → w'.heap[b]? = w.heap[b]?) ∧ ∀ B, B ≤ M → Below B w w' := by
  have hf : (Instr.findKey 3 (.int .i64 k) es).run Tryz.prog w = .ok none w := by simp [Instr.findKey, run_underlying Tryz.underlying3, hn]
  exact ⟨_, by simp [Instr.mapUpdate, run_underlying kindT, MapKept.run_getObj_map hb, check_int, hf, MapKept.run_setObj_map _ hb, Result.andThen, setBlock], blk_set hb _⟩

theorem map_erase (f : Int → MapEntry) (L : List Int) (k : Int) : (L.map f).eraseIdx (L.idxOf k) = (L.erase k).map f := by
  induction L with
  | nil => rfl
  | cons a L ih =>
    rw [List.idxOf_cons, List.erase_cons]
    by_cases e : (a == k) = true
    · rw [e]; rfl
    · have e : (a == k) = false := by simpa using e
      rw [e]
      simp [ih]
/-- A kind that is struck out. -/
theorem del_ex {w : World} {M : Nat} {F : Int → Nat} {L : List Int} (h : Kinds w M F L) {k : Int} (hk : k ∈ L) (a : Array TypeId) (ha : a[0]? = some 55) (ty : TypeId) :
    ∃ w', (Builtin.delete_ a ty #[.map (some M), .int .i64 k]).run Tryz.prog w = .ok (.tuple #[]) w' ∧ Kinds w' M F (L.erase k) ∧ w'.heap.size = w.heap.size ∧ ∀ B, B ≤ M → Below B w w' := by
  have hf := find_run F k L w
  rw [if_pos hk] at hf
  have hlt : L.idxOf k < (L.map (entV F)).length := by rw [List.length_map]; exact List.idxOf_lt_length_of_mem hk
  have he : ((L.map (entV F)).toArray.eraseIdxIfInBounds (L.idxOf k)) = ((L.erase k).map (entV F)).toArray := by
    rw [← map_erase]
    unfold Array.eraseIdxIfInBounds
    rw [dif_pos (by simpa using hlt)]
    simp
  obtain ⟨s1, s2, s3, s4⟩ := blk_set h.map (.map ((L.erase k).map (entV F)).toArray 6)
  refine ⟨setBlock w M (.map ((L.erase k).map (entV F)).toArray 6), ?_, ⟨s1, fun j h4 h6 => ?_⟩, s2, s4⟩
  · simp [Builtin.delete_, ha, run_underlying kindT, MapKept.run_getObj_map h.map, check_int, hf, MapKept.run_setObj_map _ h.map, Result.andThen, setBlock]
    rw [← he]; simp
  · refine (s3 _ ?_).trans (h.box j h4 h6)
    intro e
    have := h.box j h4 h6
    rw [e, h.map] at this
    cases this

end Fm
end Go.Proofs.YtcaiejbnhjiflaaGreatDoor
