/-
  Contract of the deferred function of the program's follow.
-/
import Derived.Test.YtaeljmiklalpnaaGreatDoorLe
import Derived.Defers
import Derived.Recover
import Derived.WalkLawsBesides
namespace Go.Proofs.YtaeljmiklalpnaaGreatDoor
open Go.RowKit Go.ChangeMaps Gn
namespace Rg

theorem assert_yes (k : Int) (w : World) : (Instr.typeAssert (.iface 25 (.int .i64 k)) 20 25 true).run Tryz.prog w = .ok (.tuple #[.int .i64 k, .bool true]) w := by kernel_rfl
theorem assert_no (w : World) : (Instr.typeAssert .nilIface 20 25 true).run Tryz.prog w = .ok (.tuple #[.int .i64 0, .bool false]) w := by kernel_rfl
theorem catch_idle (p q : Addr) (w : World) :
    CallsD Tryz.prog 31 #[.pointer (some p), .pointer (some q)] .returning w fun e u' w' => e = .returned (.tuple #[]) ∧ u' = .returning ∧ w' = w := by
  refine callsD_of_wpS Tryz.func31 rfl fun c₀ cs hu => ?_
  apply wpS_seq
  apply wpS_region
  simp [wpOpsS, go_sem, recoverD, hu, Tryz.ntmps31, Exit.thenS, assert_no]
  apply wpS_seq
  apply wpS_region
  simp [wpOpsS, go_sem, Exit.thenS]
  refine wpS_cond (t := false) (by simp [Act.eval, Array.replicate]) ?_
  simp only [Bool.false_eq_true, if_false]
  refine wpS_of_wp (wp_skip ?_)
  cases c₀
  simp_all [bodyPostS, results, Tryz.results31]
theorem catch_panic (p q : Addr) (k : Int) (older : List PanicEntry) (v0 v1 : Value) (w : World) (hp : w.cell? p = some v0) (hpz : w.frozen? p = false) (hq : w.cell? q = some v1) (hqz : w.frozen? q = false) (hpq : q.block ≠ p.block) :
    CallsD Tryz.prog 31 #[.pointer (some p), .pointer (some q)] (.panicking ({ v := .iface 25 (.int .i64 k), recovered := false } :: older)) w fun e u' w' =>
      e = .returned (.tuple #[]) ∧ u' = .panicking ({ v := .iface 25 (.int .i64 k), recovered := true } :: older) ∧ w' = (w.setCell p (.slice none 0 0)).setCell q (.int .i64 k) := by
  have e := Below.heap_setCell w p (.slice none 0 0) q.block hpq
  have hq2 := (World.cell?_of_block (a := q) e).trans hq
  have hqz2 := (World.frozen?_of_block (a := q) e).trans hqz
  refine callsD_of_wpS Tryz.func31 rfl fun c₀ cs hu => ?_
  apply wpS_seq
  apply wpS_region
  simp [wpOpsS, go_sem, recoverD, hu, Tryz.ntmps31, Exit.thenS, assert_yes]
  apply wpS_seq
  apply wpS_region
  simp [wpOpsS, go_sem, Exit.thenS]
  refine wpS_cond (t := true) (by simp [Act.eval, Array.replicate]) ?_
  simp only [if_true]
  apply wpS_region
  simp [wpOpsS, go_sem, hp, hpz, hq2, hqz2, bodyPostS, results, Tryz.results31]

end Rg
end Go.Proofs.YtaeljmiklalpnaaGreatDoor
