/-
  The walk of IdentAll.
-/
import Derived.Test.YtbgniplhlnipoaaDoorHead
namespace Go.Proofs.YtbgniplhlnipoaaDoor
open Go.RowKit Go.Sort
namespace Id1

theorem mem_rowTo (l : List UInt8) (p k : Nat) (x : List UInt8) : x ∈ rowTo l p k ↔ ∃ j, j < k ∧ dgt (48 + j) ≠ l.getD p 0 ∧ x = put l p (48 + j) := by
  unfold rowTo
  rw [List.mem_flatMap]
  constructor
  · rintro ⟨j, hj, hx⟩
    unfold cell at hx
    split at hx
    · cases hx
    · rename_i h
      exact ⟨j, List.mem_range.1 hj, h, List.mem_singleton.1 hx⟩
  · rintro ⟨j, hj, h, rfl⟩
    exact ⟨j, List.mem_range.2 hj, by unfold cell; rw [if_neg h]; exact List.mem_singleton.2 rfl⟩
theorem mem_cand (l : List UInt8) (x : List UInt8) : x ∈ cand l ↔ ∃ i j, i < 9 ∧ j < 10 ∧ dgt (48 + j) ≠ l.getD (i + 2) 0 ∧ x = put l (i + 2) (48 + j) := by
  unfold cand candTo
  rw [List.mem_flatMap]
  constructor
  · rintro ⟨i, hi, hx⟩
    obtain ⟨j, hj, h1, h2⟩ := (mem_rowTo l (i + 2) 10 x).1 hx
    exact ⟨i, j, List.mem_range.1 hi, hj, h1, h2⟩
  · rintro ⟨i, j, hi, hj, h1, h2⟩
    exact ⟨i, List.mem_range.2 hi, (mem_rowTo l (i + 2) 10 x).2 ⟨j, hj, h1, h2⟩⟩
theorem mem_misL (l : List UInt8) (hs : shapeB l = true) (x : List UInt8) : x ∈ misL l ↔ x ∈ cand l ∧ validB x = true := by
  unfold misL
  rw [if_pos hs, (List.mergeSort_perm _ _).mem_iff, List.mem_filter]
theorem misL_len (l : List UInt8) : (misL l).length ≤ 90 := by
  unfold misL
  split
  · rw [List.length_mergeSort]
    have e1 := List.length_filter_le validB (cand l)
    have e2 := candTo_len l 9
    unfold cand at e1 ⊢
    omega
  · simp
/-- What the law asks of a place and a digit. -/
theorem put_mis (l : List UInt8) (hs : shapeB l = true) (i j : Nat) (hi : i < 9) (hj : j < 10) : decide (put l (i + 2) (48 + j) ∈ misL l) = (decide (put l (i + 2) (48 + j) ≠ l) && validB (put l (i + 2) (48 + j))) := by
  obtain ⟨h13, -, -, -⟩ := shape_parts hs
  rw [Bool.eq_iff_iff, decide_eq_true_eq, mem_misL l hs, Bool.and_eq_true, decide_eq_true_eq]
  refine and_congr_left fun _ => ?_
  constructor
  · intro h
    obtain ⟨i', j', hi', hj', h1, h2⟩ := (mem_cand l _).1 h
    rw [h2]
    intro e
    exact h1 ((put_self l (i' + 2) (48 + j') (by omega)).1 e)
  · intro h
    exact (mem_cand l _).2 ⟨i, j, hi, hj, fun e => h ((put_self l (i + 2) (48 + j) (by omega)).2 e), rfl⟩

set_option maxRecDepth 100000 in
set_option maxHeartbeats 2000000 in
theorem lawAll_any (s : ByteArray) (a d : Int) (w : World) (hs : s.size ≤ maxLen) (ha0 : 0 ≤ a) (ha1 : a ≤ 255) (hd0 : 0 ≤ d) (hd1 : d ≤ 255) (hT : Tabs w) :
    Calls Tryd.prog 7 #[.string s, .int .u8 a, .int .u8 d] w fun e w' => e = .returned (.bool true) ∧ Below w.heap.size w w' := by
  have CH := hid (head_any w hT)
  have CS := hid (fun w => rshape_any s w hs)
  by_cases hsh : shapeB s.data.toList = true
  · rw [hsh] at CS
    obtain ⟨h13, -, -, -⟩ := shape_parts hsh
    have h13s : s.size = 13 := by rw [← h13]; simp
    obtain ⟨i, hi⟩ : ∃ i : Nat, (i : Int) = a % 9 := ⟨(a % 9).toNat, by omega⟩
    obtain ⟨j, hj⟩ : ∃ j : Nat, (j : Int) = d % 10 := ⟨(d % 10).toNat, by omega⟩
    have hi9 : i < 9 := by omega
    have hj10 : j < 10 := by omega
    have CT := fun w => text_any s (i + 2) j w (by omega) (by omega) hj10
    rw [show ((i + 2 : Nat) : Int) = 2 + a % 9 by omega, hj] at CT
    obtain ⟨t, ht⟩ : ∃ t, t = textS s (i + 2) (48 + j) := ⟨_, rfl⟩
    have htl : t.data.toList = put s.data.toList (i + 2) (48 + j) := by rw [ht, textS_list]
    have htz : t.size ≤ maxLen := by rw [ht]; exact textS_size _ _ _ (by omega)
    rw [← ht] at CT
    have hpm := put_mis s.data.toList hsh i j hi9 hj10
    rw [← htl] at hpm
    have CV := fun w (hw : Wts w) => valid_any t w htz hw
    have CM := fun w (hw : Wts w) => misread_any s w hs hw
    have CI := fun v w (hr : Reads w v (misL s.data.toList)) => in_any v (misL s.data.toList) t w hr (Nat.le_trans (misL_len _) (by omega))
    rw [hpm] at CI
    by_cases heq : t.data.toList = s.data.toList
    · have hts : t.toList = s.toList := by rw [Lib.toList_data, Lib.toList_data, heq]
      have hdec : decide (t.data.toList ≠ s.data.toList) = false := by simp [heq]
      rw [hdec, Bool.false_and] at CI
      have D1 := hid CT
      have D2 := hid CM
      have D3 := hid CI
      have HT := hid hT
      clear CT CM CI CV hdec heq hpm htl htz ht hi hj h13s h13 hsh hs hT
      go_enter Tryd.func7, Tryd.ntmps7
      go_wp2_with fail
      refine CH.out.mono ?_
      rintro e w1 ⟨rfl, hb1⟩
      go_wp2_with fail
      refine (CS.out _).mono ?_
      rintro e w1' ⟨rfl, rfl⟩
      go_wp2_with fail
      refine (D1.out _).mono ?_
      rintro e w2 ⟨rfl, hb2'⟩
      have hb2 := hb1.trans (hb2'.mono hb1.size)
      clear hb2'
      go_wp2_with fail
      refine (D2.out _ (HT.out.below hb2).wts).mono ?_
      rintro e w3 ⟨v, rfl, ho, hb3'⟩
      have hb3 := hb2.trans (hb3'.mono hb2.size)
      have hr := hid (reads_of_own ho)
      clear hb3' ho
      go_wp2_with fail
      refine (D3.out _ _ hr.out).mono ?_
      rintro e w4 ⟨rfl, rfl⟩
      go_wp2
      go_ret
      exact ⟨rfl, hb3⟩
    · have hts : ¬ t.toList = s.toList := by rw [Lib.toList_data, Lib.toList_data]; exact heq
      have hts2 : (t.toList == s.toList) = false := by simpa using hts
      have hdec : decide (t.data.toList ≠ s.data.toList) = true := by simp [heq]
      rw [hdec, Bool.true_and] at CI
      obtain ⟨b, hb⟩ : ∃ b, b = validB t.data.toList := ⟨_, rfl⟩
      rw [← hb] at CV CI
      have D1 := hid CT
      have D2 := hid CM
      have D3 := hid CI
      have D4 := hid CV
      have HT := hid hT
      clear CT CM CI CV hdec heq hpm htl htz ht hi hj h13s h13 hsh hs hT hb
      go_enter Tryd.func7, Tryd.ntmps7
      go_wp2_with fail
      refine CH.out.mono ?_
      rintro e w1 ⟨rfl, hb1⟩
      go_wp2_with fail
      refine (CS.out _).mono ?_
      rintro e w1' ⟨rfl, rfl⟩
      go_wp2_with fail
      refine (D1.out _).mono ?_
      rintro e w2 ⟨rfl, hb2'⟩
      have hb2 := hb1.trans (hb2'.mono hb1.size)
      clear hb2'
      go_wp2_with fail
      refine (D4.out _ (HT.out.below hb2).wts).mono ?_
      rintro e w2a ⟨rfl, hb2a'⟩
      have hb2a := hb2.trans (hb2a'.mono hb2.size)
      clear hb2a'
      go_wp2_with fail
      refine (D2.out _ (HT.out.below hb2a).wts).mono ?_
      rintro e w3 ⟨v, rfl, ho, hb3'⟩
      have hb3 := hb2a.trans (hb3'.mono hb2a.size)
      have hr := hid (reads_of_own ho)
      clear hb3' ho
      go_wp2_with fail
      refine (D3.out _ _ hr.out).mono ?_
      rintro e w4 ⟨rfl, rfl⟩
      cases b
      all_goals
        go_wp2
        go_ret
        exact ⟨rfl, hb3⟩
  · have hf : shapeB s.data.toList = false := by simpa using hsh
    rw [hf] at CS
    clear hf hsh hs hT
    go_enter Tryd.func7, Tryd.ntmps7
    go_wp2_with fail
    refine CH.out.mono ?_
    rintro e w1 ⟨rfl, hb1⟩
    go_wp2_with fail
    refine (CS.out _).mono ?_
    rintro e w1' ⟨rfl, rfl⟩
    go_wp2
    go_ret
    exact ⟨rfl, hb1⟩

end Id1
end Go.Proofs.YtbgniplhlnipoaaDoor
