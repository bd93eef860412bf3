/-
  The contract of isShape.
-/
import Derived.Test.YtbgniplhlnipoaaDoorWalk3
import Derived.Lib.IndexBytes
namespace Go.Proofs.YtbgniplhlnipoaaDoor
open Go.RowKit
namespace Id1

theorem ex_take (s : ByteArray) (b : Nat) : (s.extract 0 b).data.toList = s.data.toList.take b := by rw [Lib.extract_data]; simp
theorem ex_size (s : ByteArray) (a b : Nat) : (s.extract a b).size ≤ s.size := by rw [Lib.size_eq, Lib.size_eq, Lib.extract_data, List.length_take, List.length_drop]; omega

set_option maxRecDepth 100000 in
set_option maxHeartbeats 1000000 in
theorem isShape_any (s : ByteArray) (w : World) (hs : s.size ≤ maxLen) :
    Calls Tryd.prog 33 #[.string s] w fun e w' => e = .returned (.bool (shapeB s.data.toList)) ∧ Below w.heap.size w w' := by
  have hm := hs
  unfold maxLen at hm
  by_cases h2 : s.size = 13
  · have hne : ((s.size : Int) != 13) = false := by rw [h2]; rfl
    have hs13 : 13 ≤ s.size := by omega
    have hs14 : s.size ≤ 13 := by omega
    have hfin : shapeB s.data.toList = (lettersB (s.data.toList.take 2) && digitsB ((s.data.toList.drop 2).take 9) && lettersB (s.data.toList.drop 11)) := by
      simp [shapeB, h2]
    have c1 := fun w => isLetters_any (s.extract 0 2) w (Nat.le_trans (ex_size s 0 2) hs)
    have c2 := fun w => isDigits_any (s.extract 2 11) w (Nat.le_trans (ex_size s 2 11) hs)
    have c3 := fun w => isLetters_any (s.extract 11 s.size) w (Nat.le_trans (ex_size s 11 s.size) hs)
    rw [ex_take] at c1
    rw [Lib.extract_data] at c2
    rw [Lib.extract_to_end] at c3
    rw [hfin]
    generalize lettersB (s.data.toList.take 2) = b1 at c1 ⊢
    generalize digitsB ((s.data.toList.drop 2).take (11 - 2)) = b2 at c2 ⊢
    generalize lettersB (s.data.toList.drop 11) = b3 at c3 ⊢
    have C1 := hid c1
    have C2 := hid c2
    have C3 := hid c3
    clear c1 c2 c3 hfin h2 hs
    go_enter Tryd.func33, Tryd.ntmps33
    go_wp2_with fail
    refine (C1.out _).mono ?_
    rintro e w1 ⟨rfl, hb1⟩
    cases b1
    · go_wp2
      go_ret
      exact ⟨rfl, hb1⟩
    go_wp2_with fail
    refine (C2.out _).mono ?_
    rintro e w2 ⟨rfl, hb2⟩
    have hb12 := hb1.trans (hb2.mono hb1.size)
    cases b2
    · go_wp2
      go_ret
      exact ⟨rfl, hb12⟩
    go_wp2_with fail
    refine (C3.out _).mono ?_
    rintro e w3 ⟨rfl, hb3⟩
    have hb13 := hb12.trans (hb3.mono hb12.size)
    cases b3
    all_goals
      go_wp2
      go_ret
      exact ⟨rfl, hb13⟩
  · have hfin : shapeB s.data.toList = false := by simp [shapeB, h2]
    have hne : ((s.size : Int) != 13) = true := by simp; omega
    rw [hfin]
    clear hfin h2
    go_enter Tryd.func33, Tryd.ntmps33
    go_wp2
    go_ret
    exact ⟨rfl, Below.refl _ _⟩

end Id1
end Go.Proofs.YtbgniplhlnipoaaDoor
