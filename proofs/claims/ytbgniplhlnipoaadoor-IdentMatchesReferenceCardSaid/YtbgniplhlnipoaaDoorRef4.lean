/-
  The contract of the reference implementation's Serial.
-/
import Derived.Test.YtbgniplhlnipoaaDoorRef3
namespace Go.Proofs.YtbgniplhlnipoaaDoor
open Go.RowKit
namespace Id1

theorem num_snoc (l : List UInt8) (k : Nat) (h : k < l.length) : num (l.take (k + 1)) = 10 * num (l.take k) + ((l.getD k 0).toNat - 48) := by
  rw [take_snoc l k h]
  unfold num
  rw [numF_append, numF_cons, numF_nil]

set_option maxRecDepth 100000 in
set_option maxHeartbeats 2000000 in
theorem rserial_any (s : ByteArray) (w : World) (hs : s.size ≤ maxLen) :
    Calls Tryd.prog 15 #[.string s] w fun e w' => e = .returned (.tuple #[.int .i64 (serV s.data.toList), .int .i64 (serE s.data.toList)]) ∧ Below w.heap.size w w' := by
  have hm := hs
  unfold maxLen at hm
  have C1 := hid (fun w => rshape_any s w hs)
  have C2 := hid (fun w => rvalid_any s w hs)
  by_cases hsh : shapeB s.data.toList = true
  · by_cases hv : validB s.data.toList = true
    · have hfin : Ending.returned (.tuple #[.int .i64 (serV s.data.toList), .int .i64 (serE s.data.toList)]) = Ending.returned (.tuple #[.int .i64 (num ((s.data.toList.drop 2).take 8)), .int .i64 0]) := by
        unfold serV serE; rw [if_pos hv, if_pos hv]
      rw [hfin]
      obtain ⟨h13, -, -, -⟩ := shape_parts hsh
      obtain ⟨hdg, hd8⟩ := shape_digits hsh
      have h13s : s.size = 13 := by rw [← h13]; simp
      rw [hsh] at C1
      rw [hv] at C2
      obtain ⟨l, hl⟩ : ∃ l, l = (s.data.toList.drop 2).take 8 := ⟨_, rfl⟩
      rw [← hl] at hdg hd8 ⊢
      have hat : ∀ j (_ : j < 8) (hj : j + 2 < s.size), (s[j + 2]'hj) = l.getD j 0 := by
        intro j h hj
        have e : l.getD j 0 = s.data.toList.getD (j + 2) 0 := by
          rw [hl, List.getD, List.getElem?_take_of_lt h, List.getElem?_drop, List.getD, Nat.add_comm 2 j]
        rw [e]
        exact Lib.getD_at s (j + 2) hj
      have HA := hid hat
      have HD := hid hdg
      have H8 := hid hd8
      have hs13 : 13 ≤ s.size := by omega
      clear hat hdg hd8 hl h13s h13 hfin hv hsh hs
      go_enter Tryd.func15, Tryd.ntmps15
      go_wp2_with fail
      refine (C1.out _).mono ?_
      rintro e w1 ⟨rfl, rfl⟩
      go_wp2_with fail
      refine (C2.out _).mono ?_
      rintro e w2 ⟨rfl, hb2⟩
      go_wp2
      go_loop [4, 5] (fun n i => ∃ (j : Nat) (acc : Int), j ≤ 8 ∧ i = .int .i64 ((j + 2 : Nat) : Int) ∧ n = .int .i64 acc ∧ 0 ≤ acc ∧ acc ≤ 100000000 ∧ Hid (acc = (num (l.take j) : Int))) (fun _ i => 10 - (intOf i).toNat)
      case atStart => exact ⟨0, 0, by omega, rfl, rfl, by omega, by omega, rfl⟩
      case round =>
        obtain ⟨j, acc, hj, rfl, rfl, ha0, ha1, hacc⟩ := hrel
        by_cases hlt : j < 8
        · have hks : j + 2 < s.size := by omega
          have hgx := HA.out j hlt hks
          have hll : j < l.length := by rw [H8.out]; exact hlt
          have hx := digB_bd (digitsB_getD HD.out j hll)
          rw [← hgx] at hx
          obtain ⟨hx0, hx1⟩ := hx
          have hnx := num_snoc l j hll
          have hbd := num_lt (l.take (j + 1)) (digitsB_take HD.out _)
          have hpw : 10 ^ (l.take (j + 1)).length ≤ 10 ^ 8 := Nat.pow_le_pow_right (by omega) (by rw [List.length_take]; have := H8.out; omega)
          rw [← hgx] at hnx
          have hac := hacc.out
          have hnext : 10 * acc + (((s[j + 2]'hks).toNat : Int) - 48) = (num (l.take (j + 1)) : Int) := by rw [hnx, hac]; omega
          have hr1 : 10 * acc + (((s[j + 2]'hks).toNat : Int) - 48) ≤ 100000000 := by rw [hnext]; omega
          have hr0 : 0 ≤ 10 * acc + (((s[j + 2]'hks).toNat : Int) - 48) := by omega
          have HN := hid hnext
          have hlt2 : ((j + 2 : Nat) : Int) < 10 := by omega
          have hlt3 : j + 2 < 10 := by omega
          clear hnext hac hpw hbd hnx hgx hll
          go_wp2
          go_round
          case rel => exact ⟨j + 1, 10 * acc + (((s[j + 2]'hks).toNat : Int) - 48), by omega, by go_num, by go_num, hr0, hr1, HN⟩
          case measure => simp [intOf]; omega
        · have hj8 : j = 8 := by omega
          subst hj8
          have hall : acc = (num l : Int) := by
            have h1 := hacc.out
            rwa [List.take_of_length_le (by rw [H8.out]; omega)] at h1
          have HF := hid hall
          clear hall
          go_wp2
          go_ret2
          exact ⟨(by rw [HF.out]; try rfl), hb2⟩
    · have hv' : validB s.data.toList = false := by simpa using hv
      have hfin : Ending.returned (.tuple #[.int .i64 (serV s.data.toList), .int .i64 (serE s.data.toList)]) = Ending.returned (.tuple #[.int .i64 0, .int .i64 10]) := by
        unfold serV serE; rw [hv', hsh]; rfl
      rw [hfin]
      rw [hsh] at C1
      rw [hv'] at C2
      clear hfin hv hv' hsh hs
      go_enter Tryd.func15, Tryd.ntmps15
      go_wp2_with fail
      refine (C1.out _).mono ?_
      rintro e w1 ⟨rfl, rfl⟩
      go_wp2_with fail
      refine (C2.out _).mono ?_
      rintro e w2 ⟨rfl, hb2⟩
      go_wp2
      go_ret2
      exact ⟨rfl, hb2⟩
  · have hf : shapeB s.data.toList = false := by simpa using hsh
    have hv : validB s.data.toList = false := by unfold validB; rw [hf]; rfl
    have hfin : Ending.returned (.tuple #[.int .i64 (serV s.data.toList), .int .i64 (serE s.data.toList)]) = Ending.returned (.tuple #[.int .i64 0, .int .i64 1]) := by
      unfold serV serE; rw [hv, hf]; rfl
    rw [hfin]
    rw [hf] at C1
    clear hfin hv hf hsh hs
    go_enter Tryd.func15, Tryd.ntmps15
    go_wp2_with fail
    refine (C1.out _).mono ?_
    rintro e w1 ⟨rfl, rfl⟩
    go_wp2
    go_ret2
    exact ⟨rfl, Below.refl _ _⟩

end Id1
end Go.Proofs.YtbgniplhlnipoaaDoor
