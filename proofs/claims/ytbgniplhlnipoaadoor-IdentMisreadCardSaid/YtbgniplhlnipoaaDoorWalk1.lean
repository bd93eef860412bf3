/-
  Contracts of the leaves of package ident: isDigit, isLetters, isDigits, checkDigit, Check, isShape.
-/
import Derived.Test.YtbgniplhlnipoaaDoorMath
import Derived.Test.YtbgniplhlnipoaaDoorRows
import Derived.WalkKit
import Derived.WalkSpells
import Derived.WalkLawsBesides
import Derived.Handy
import Derived.Lib.ConvBytes
namespace Go.Proofs.YtbgniplhlnipoaaDoor
open Go.RowKit
namespace Id1

theorem hid {p : Prop} (h : p) : Hid p := h

theorem below_bytesWorld (w : World) (e : TypeId) (s : ByteArray) : Below w.heap.size w (Lib.bytesWorld w e s) where
  os := by simp [Lib.bytesWorld, World.freeze, World.alloc, World.drew, -World.alloc_eq, -World.drew_eq]
  tape := by simp [Lib.bytesWorld, World.freeze, World.alloc, World.drew, -World.alloc_eq, -World.drew_eq]
  output := by simp [Lib.bytesWorld, World.freeze, World.alloc, World.drew, -World.alloc_eq, -World.drew_eq]
  size := by rw [Lib.bytesWorld_size]; omega
  block := fun k hk => Lib.bytesWorld_at_old w e s k hk

theorem conv_any (w : World) (s : ByteArray) : ∃ c W1, (convert 9 38 (.string s)).run Tryd.prog w = .ok (.slice (some ⟨w.heap.size, 0, none⟩) s.size c) W1 ∧
    (∀ j, j < s.size → W1.cell? ⟨w.heap.size, j, none⟩ = some (.int .u8 ((s.data.toList.getD j 0).toNat : Int))) ∧ Below w.heap.size w W1 :=
  ⟨_, _, Lib.run_convert_string_bytes w 9 38 5 s (u := .string) Tryd.underlying9 Tryd.underlying38 Tryd.underlying5, fun j hj => Lib.bytesWorld_cell w _ s j hj, below_bytesWorld _ _ _⟩

set_option maxHeartbeats 400000 in
theorem isDigit_any (n : Int) (w : World) (h0 : 0 ≤ n) (h1 : n ≤ 255) :
    Calls Tryd.prog 24 #[.int .u8 n] w fun e w' => e = .returned (.bool (digI n)) ∧ w = w' := by
  by_cases ha : 48 ≤ n
  · by_cases hb : n ≤ 57
    · have hr : digI n = true := by simp [digI, ha, hb]
      rw [hr]
      go_enter Tryd.func24, Tryd.ntmps24
      go_wp2
      go_ret
      exact ⟨rfl, rfl⟩
    · have hr : digI n = false := by simp [digI, hb]
      rw [hr]
      go_enter Tryd.func24, Tryd.ntmps24
      go_wp2
      go_ret
      exact ⟨rfl, rfl⟩
  · have hr : digI n = false := by simp [digI, ha]
    rw [hr]
    go_enter Tryd.func24, Tryd.ntmps24
    go_wp2
    go_ret
    exact ⟨rfl, rfl⟩

set_option maxHeartbeats 400000 in
theorem checkDigit_any (n : Int) (w : World) (h0 : 0 ≤ n) (h1 : n ≤ 1000000) :
    Calls Tryd.prog 25 #[.int .i64 n] w fun e w' => e = .returned (.int .i64 (cdig n)) ∧ w = w' := by
  by_cases ha : 11 - n % 11 = 10
  · have hr : cdig n = 0 := by unfold cdig; rw [if_pos ha]
    rw [hr]
    go_enter Tryd.func25, Tryd.ntmps25
    go_wp2
    go_ret
    exact ⟨rfl, rfl⟩
  · by_cases hb : 11 - n % 11 = 11
    · have hr : cdig n = 5 := by unfold cdig; rw [if_neg ha, if_pos hb]
      rw [hr]
      go_enter Tryd.func25, Tryd.ntmps25
      go_wp2
      go_ret
      exact ⟨rfl, rfl⟩
    · have hr : cdig n = 11 - n % 11 := by unfold cdig; rw [if_neg ha, if_neg hb]
      rw [hr]
      go_enter Tryd.func25, Tryd.ntmps25
      go_wp2
      go_ret
      exact ⟨rfl, rfl⟩

end Id1
end Go.Proofs.YtbgniplhlnipoaaDoor
