/-
  The map of the kinds: insert, look up; the contract of the program's kinds.
-/
import Derived.Test.YtaeljmiklalpnaaGreatDoorLe
import Derived.Carry
namespace Go.Proofs.YtaeljmiklalpnaaGreatDoor
open Go.RowKit Go.ChangeMaps Gn
namespace Rg

theorem kindT : Tryz.prog.underlying 68 = some (.map 3 73) := by kernel_rfl
theorem check_n (b : Bool) (n : Nat) (k : Int) (w : World) : (Instr.checkKey b (n + 1) 3 (.int .i64 k)).run Tryz.prog w = .ok () w := by
  simp [Instr.checkKey, run_underlying Tryz.underlying3]
theorem check_int (b : Bool) (k : Int) (w : World) : (Instr.checkKey b 10000 3 (.int .i64 k)).run Tryz.prog w = .ok () w := check_n b 9999 k w
theorem blk_set {w : World} {M : Nat} {es : Array MapEntry} {c : Nat} (h : w.heap[M]? = some (.map es c)) (o : Obj) : (setBlock w M o).heap[M]? = some o ∧ (setBlock w M o).heap.size = w.heap.size ∧ ∀ B, B ≤ M → Below B w (setBlock w M o) :=
  ⟨heap_setBlock_same h o, by simp [setBlock], fun B hB => ⟨rfl, rfl, rfl, by simp [setBlock], fun k hk => heap_setBlock_other h o (by omega)⟩⟩
/-- An entry that is new. -/
theorem ins_ex {w : World} {M : Nat} {es : List MapEntry} {c : Nat} (hb : w.heap[M]? = some (.map es.toArray c)) (k : Int) (val : Value) (hn : Instr.findNow (.int .i64) (.int .i64 k) es 0 = some none) :
    ∃ w', (Instr.mapUpdate 68 (.map (some M)) (.int .i64 k) val).run Tryz.prog w = .ok () w' ∧ w'.heap[M]? = some (.map (es ++ [(⟨.int .i64 k, val, c⟩ : MapEntry)]).toArray (c + 1)) ∧ w'.heap.size = w.heap.size ∧ ∀ B, B ≤ M → Below B w w' := by
  have hf : (Instr.findKey 3 (.int .i64 k) es).run Tryz.prog w = .ok none w := by simp [Instr.findKey, run_underlying Tryz.underlying3, hn]
  exact ⟨_, by simp [Instr.mapUpdate, run_underlying kindT, MapKept.run_getObj_map hb, check_int, hf, MapKept.run_setObj_map _ hb, Result.andThen, setBlock], blk_set hb _⟩
/-- What a kind uses, and how it changes a street. -/
def usesK (k : Int) : Int := if k = 1 then 30 else if k = 2 then 9 else if k = 3 then 3 else if k = 4 then 33 else if k = 5 then 9 else 1
def funK (k : Int) : Nat := if k = 1 then 46 else if k = 2 then 47 else if k = 3 then 48 else if k = 4 then 49 else if k = 5 then 50 else 51
def kV (u : Int) (f : Nat) : Value := .agg #[.int .i64 u, .func (.func f) #[] #[]]
def entK : List MapEntry := [⟨.int .i64 1, kV 30 46, 0⟩, ⟨.int .i64 2, kV 9 47, 1⟩, ⟨.int .i64 3, kV 3 48, 2⟩, ⟨.int .i64 4, kV 33 49, 3⟩, ⟨.int .i64 5, kV 9 50, 4⟩, ⟨.int .i64 6, kV 1 51, 5⟩]
theorem find_k (k : Int) (h1 : 1 ≤ k) (h6 : k ≤ 6) : ∃ i, Instr.findNow (.int .i64) (.int .i64 k) entK 0 = some (some (i, kV (usesK k) (funK k))) := by
  rcases (show k = 1 ∨ k = 2 ∨ k = 3 ∨ k = 4 ∨ k = 5 ∨ k = 6 by omega) with rfl | rfl | rfl | rfl | rfl | rfl
  · exact ⟨0, by kernel_rfl⟩
  · exact ⟨1, by kernel_rfl⟩
  · exact ⟨2, by kernel_rfl⟩
  · exact ⟨3, by kernel_rfl⟩
  · exact ⟨4, by kernel_rfl⟩
  · exact ⟨5, by kernel_rfl⟩
theorem look_k {w : World} {M : Nat} (h : w.heap[M]? = some (.map entK.toArray 6)) (k : Int) (h1 : 1 ≤ k) (h6 : k ≤ 6) :
    (Instr.lookup 68 (.map (some M)) (.int .i64 k) true).run Tryz.prog w = .ok (.tuple #[kV (usesK k) (funK k), .bool true]) w := by
  obtain ⟨i, hi⟩ := find_k k h1 h6
  have hf : (Instr.findKey 3 (.int .i64 k) entK).run Tryz.prog w = .ok (some (i, kV (usesK k) (funK k))) w := by simp [Instr.findKey, run_underlying Tryz.underlying3, hi]
  simp [Instr.lookup, run_underlying kindT, MapKept.run_getObj_map h, check_int, hf]
set_option maxRecDepth 100000 in
set_option maxHeartbeats 4000000 in
theorem pkinds_any (w : World) : Calls Tryz.prog 32 #[] w fun e w' => e = .returned (.map (some w.heap.size)) ∧ w'.heap[w.heap.size]? = some (.map entK.toArray 6) ∧ Below w.heap.size w w' := by
  have hmm := @run_makeMap Tryz.prog
  have H0 : (w.alloc (.map #[] 0)).heap[w.heap.size]? = some (.map ([] : List MapEntry).toArray 0) := heap_new _ _
  obtain ⟨w1, r1, m1, z1, b1⟩ := ins_ex H0 1 (.agg #[.int .i64 30, .func (.func 46) #[] #[]]) rfl
  obtain ⟨w2, r2, m2, z2, b2⟩ := ins_ex m1 2 (.agg #[.int .i64 9, .func (.func 47) #[] #[]]) rfl
  obtain ⟨w3, r3, m3, z3, b3⟩ := ins_ex m2 3 (.agg #[.int .i64 3, .func (.func 48) #[] #[]]) rfl
  obtain ⟨w4, r4, m4, z4, b4⟩ := ins_ex m3 4 (.agg #[.int .i64 33, .func (.func 49) #[] #[]]) rfl
  obtain ⟨w5, r5, m5, z5, b5⟩ := ins_ex m4 5 (.agg #[.int .i64 9, .func (.func 50) #[] #[]]) rfl
  obtain ⟨w6, r6, m6, z6, b6⟩ := ins_ex m5 6 (.agg #[.int .i64 1, .func (.func 51) #[] #[]]) rfl
  have HB := hid ((((((((b0 w (.map #[] 0)).trans (b1 _ (Nat.le_refl _))).trans (b2 _ (Nat.le_refl _))).trans (b3 _ (Nat.le_refl _))).trans (b4 _ (Nat.le_refl _))).trans (b5 _ (Nat.le_refl _))).trans (b6 _ (Nat.le_refl _))))
  have HM : Hid (w6.heap[w.heap.size]? = some (.map entK.toArray 6)) := m6
  clear H0 m1 m2 m3 m4 m5 m6 z1 z2 z3 z4 z5 z6 b1 b2 b3 b4 b5 b6
  go_enter Tryz.func32, Tryz.ntmps32
  go_wp2
  go_ret
  exact ⟨rfl, HM.out, HB.out⟩

end Rg
end Go.Proofs.YtaeljmiklalpnaaGreatDoor
