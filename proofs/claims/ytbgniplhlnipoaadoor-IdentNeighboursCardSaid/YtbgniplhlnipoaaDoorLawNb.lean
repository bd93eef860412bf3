/-
  The walk of IdentNeighbours.
-/
import Derived.Test.YtbgniplhlnipoaaDoorLawDig
namespace Go.Proofs.YtbgniplhlnipoaaDoor
open Go.RowKit Go.Sort
namespace Id1

def swapL (l : List UInt8) (i : Nat) : List UInt8 := l.take i ++ [l.getD (i + 1) 0] ++ [l.getD i 0] ++ l.drop (i + 2)
theorem swap_mid (l : List UInt8) (h : l.length = 13) (k : Nat) (hk : k < 7) : (swapL l (k + 2)).length = 13 ∧ (swapL l (k + 2)).getD 10 0 = l.getD 10 0 ∧
    wsum 0 (((swapL l (k + 2)).drop 2).take 8) = wsum 0 ((l.drop 2).take 8) + (wt k - wt (k + 1)) * (dg (l.getD (k + 3) 0) - dg (l.getD (k + 2) 0)) := by
  match l, h with
  | [a0, a1, a2, a3, a4, a5, a6, a7, a8, a9, a10, a11, a12], _ =>
    have : k = 0 ∨ k = 1 ∨ k = 2 ∨ k = 3 ∨ k = 4 ∨ k = 5 ∨ k = 6 := by omega
    rcases this with rfl | rfl | rfl | rfl | rfl | rfl | rfl <;> (refine ⟨rfl, rfl, ?_⟩; simp [swapL, wsum, wt]; omega)
theorem dw_cases (k : Nat) (hk : k < 7) : wt k - wt (k + 1) = 2 ∨ wt k - wt (k + 1) = -1 ∨ wt k - wt (k + 1) = -2 ∨ wt k - wt (k + 1) = -4 := by
  have : k = 0 ∨ k = 1 ∨ k = 2 ∨ k = 3 ∨ k = 4 ∨ k = 5 ∨ k = 6 := by omega
  rcases this with rfl | rfl | rfl | rfl | rfl | rfl | rfl <;> decide
theorem mul_ne' {w d : Int} {n : Int} (hw : w = 2 ∨ w = -1 ∨ w = -2 ∨ w = -4) (h0 : d ≠ 0) (h1 : -9 ≤ d) (h2 : d ≤ 9) : (n + w * d) % 11 ≠ n % 11 := by
  rcases hw with rfl | rfl | rfl | rfl <;> omega
theorem swap_invalid {l : List UInt8} (hv : validB l = true) (k : Nat) (hk : k < 7) (hne : l.getD (k + 2) 0 ≠ l.getD (k + 3) 0) (h5 : (l.getD 10 0).toNat ≠ 53) : validB (swapL l (k + 2)) = false := by
  by_cases h : validB (swapL l (k + 2)) = true
  · exfalso
    obtain ⟨hs, hc⟩ := valid_chk hv
    obtain ⟨h13, -⟩ := shape_parts hs
    obtain ⟨-, hc2⟩ := valid_chk h
    obtain ⟨-, e2, e3⟩ := swap_mid l h13 k hk
    have hx := digB_bd (shape_digit hs (k + 2) (by omega) (by omega))
    have hy := digB_bd (shape_digit hs (k + 3) (by omega) (by omega))
    have hd : dg (l.getD (k + 3) 0) - dg (l.getD (k + 2) 0) ≠ 0 := by
      intro e
      refine hne (UInt8.toNat.inj ?_)
      unfold dg at e; omega
    rw [e2, hc] at hc2
    unfold chk at hc2 hc
    rw [e3] at hc2
    have := (cdig_five hc2.symm (mul_ne' (dw_cases k hk) hd (by unfold dg; omega) (by unfold dg; omega))).1
    rw [this] at hc
    unfold dg at hc
    omega
  · simpa using h
theorem swap_list (s : ByteArray) (i : Nat) (h : i + 1 < s.size) : (s.extract 0 i ++ s.extract (i + 1) (i + 2) ++ s.extract i (i + 1) ++ s.extract (i + 2) s.size).data.toList = swapL s.data.toList i := by
  have hl : s.size = s.data.toList.length := Lib.size_eq s
  rw [ByteArray.data_append, ByteArray.data_append, ByteArray.data_append, Array.toList_append, Array.toList_append, Array.toList_append, ex_take, Lib.extract_to_end, Lib.extract_data, Lib.extract_data]
  unfold swapL
  rw [show i + 2 - (i + 1) = 1 by omega, show i + 1 - i = 1 by omega]
  rw [List.getD, List.getD, List.getElem?_eq_getElem (by omega), List.getElem?_eq_getElem (by omega), List.take_one, List.take_one, List.head?_drop, List.head?_drop, List.getElem?_eq_getElem (by omega), List.getElem?_eq_getElem (by omega)]
  rfl

set_option maxRecDepth 100000 in
set_option maxHeartbeats 4000000 in
theorem lawNb_any (s : ByteArray) (a : Int) (w : World) (hs : s.size ≤ maxLen) (ha0 : 0 ≤ a) (ha1 : a ≤ 255) (hT : Tabs w) :
    Calls Tryd.prog 8 #[.string s, .int .u8 a] w fun e w' => e = .returned (.bool true) ∧ Below w.heap.size w w' := by
  have CH := hid (head_any w hT)
  have CV0 := hid (fun w hw => valid_any s w hs hw)
  have hm := hs
  unfold maxLen at hm
  have HT := hid hT
  by_cases hlong : 40 < s.size
  · have hlb : decide ((40 : Int) < (s.size : Int)) = true := by simp; omega
    clear hT
    go_enter Tryd.func8, Tryd.ntmps8
    go_wp2_with fail
    refine CH.out.mono ?_
    rintro e w1 ⟨rfl, hb1⟩
    go_wp2
    go_ret
    exact ⟨rfl, hb1⟩
  · have hlb : decide ((40 : Int) < (s.size : Int)) = false := by simp; omega
    by_cases hv : validB s.data.toList = true
    · rw [hv] at CV0
      have hsh := (valid_chk hv).1
      obtain ⟨h13, -, -, -⟩ := shape_parts hsh
      have h13s : s.size = 13 := by rw [← h13]; simp
      have hs13 : 13 ≤ s.size := by omega
      have hs14 : s.size ≤ 13 := by omega
      obtain ⟨k, hk⟩ : ∃ k : Nat, (k : Int) = a % 7 := ⟨(a % 7).toNat, by omega⟩
      have hk7 : k < 7 := by omega
      obtain ⟨i, hi⟩ : ∃ i : Nat, i = k + 2 := ⟨_, rfl⟩
      have hia : 2 + a % 7 = (i : Int) := by omega
      have hi9 : i ≤ 8 := by omega
      have hii : i < s.size := by omega
      have hii1 : i + 1 < s.size := by omega
      have hs10 : 10 < s.size := by omega
      have g0 : s.data.toList.getD i 0 = s[i]'hii := (Lib.getD_at s i hii).symm
      have g1 : s.data.toList.getD (i + 1) 0 = s[i + 1]'hii1 := (Lib.getD_at s (i + 1) hii1).symm
      have g10 : s.data.toList.getD 10 0 = s[10]'hs10 := (Lib.getD_at s 10 hs10).symm
      have hw1 : IntKind.i64.wrap ((i : Int) + 1) = (i : Int) + 1 := IntWalk.i64_in _ (by omega)
      have hw2 : IntKind.i64.wrap ((i : Int) + 2) = (i : Int) + 2 := IntWalk.i64_in _ (by omega)
      have hn0 : 0 ≤ (i : Int) := by omega
      have hn1 : 0 ≤ (i : Int) + 1 := by omega
      have hn2 : 0 ≤ (i : Int) + 2 := by omega
      have ht1 : ((i : Int) + 1).toNat = i + 1 := by omega
      have ht2 : ((i : Int) + 2).toNat = i + 2 := by omega
      have hl1 : (i : Int) < (s.size : Int) := by omega
      have hl2 : (i : Int) + 1 < (s.size : Int) := by omega
      have hl10 : (10 : Int) < (s.size : Int) := by omega
      have hp0 : i ≤ s.size := by omega
      have hp1 : i + 1 ≤ s.size := by omega
      have hp2 : i + 2 ≤ s.size := by omega
      by_cases he : s[i]'hii = s[i + 1]'hii1
      · have hq1 : (((s[i]'hii).toNat : Int) == ((s[i + 1]'hii1).toNat : Int)) = true := by rw [he]; simp
        clear he g0 g1 g10 hi hk hv hsh h13 h13s hs hT
        go_enter Tryd.func8, Tryd.ntmps8
        go_wp2_with fail
        refine CH.out.mono ?_
        rintro e w1 ⟨rfl, hb1⟩
        go_wp2_with fail
        refine (CV0.out _ (HT.out.below hb1).wts).mono ?_
        rintro e w1a ⟨rfl, hb1a'⟩
        have hb1a := hb1.trans (hb1a'.mono hb1.size)
        clear hb1a' hb1
        go_wp2
        go_quiet (fail)
        go_wp2
        go_ret
        exact ⟨rfl, below_drewN hb1a _⟩
      · have hq1 : (((s[i]'hii).toNat : Int) == ((s[i + 1]'hii1).toNat : Int)) = false := by
          have : (s[i]'hii).toNat ≠ (s[i + 1]'hii1).toNat := fun e => he (UInt8.toNat.inj e)
          simp; omega
        by_cases h53 : (s[10]'hs10).toNat = 53
        · have hq2 : (((s[10]'hs10).toNat : Int) == 53) = true := by rw [h53]; rfl
          clear h53 he g0 g1 g10 hi hk hv hsh h13 h13s hs hT
          go_enter Tryd.func8, Tryd.ntmps8
          go_wp2_with fail
          refine CH.out.mono ?_
          rintro e w1 ⟨rfl, hb1⟩
          go_wp2_with fail
          refine (CV0.out _ (HT.out.below hb1).wts).mono ?_
          rintro e w1a ⟨rfl, hb1a'⟩
          have hb1a := hb1.trans (hb1a'.mono hb1.size)
          clear hb1a' hb1
          go_wp2
          go_quiet (fail)
          go_wp2
          go_ret
          exact ⟨rfl, below_drewN hb1a _⟩
        · have hq2 : (((s[10]'hs10).toNat : Int) == 53) = false := by simp; omega
          obtain ⟨t, ht⟩ : ∃ t : ByteArray, t = s.extract 0 i ++ s.extract (i + 1) (i + 2) ++ s.extract i (i + 1) ++ s.extract (i + 2) s.size := ⟨_, rfl⟩
          have htl : t.data.toList = swapL s.data.toList i := by rw [ht]; exact swap_list s i hii1
          have htz : t.size ≤ maxLen := by
            rw [Lib.size_eq, htl, hi, (swap_mid _ h13 k hk7).1]; unfold maxLen; omega
          have CV := fun w (hw : Wts w) => valid_any t w htz hw
          have hinv : validB (swapL s.data.toList i) = false := by
            rw [hi]
            refine swap_invalid hv k hk7 ?_ ?_
            · rw [show k + 3 = k + 2 + 1 by omega, ← hi, g0, g1]; exact he
            · rw [g10]; exact h53
          rw [htl, hinv] at CV
          have D1 := hid CV
          have hTT := hid ht
          clear CV hinv htz htl ht h53 he g0 g1 g10 hi hk hv hsh h13 h13s hs hT
          go_enter Tryd.func8, Tryd.ntmps8
          go_wp2_with fail
          refine CH.out.mono ?_
          rintro e w1 ⟨rfl, hb1⟩
          go_wp2_with fail
          refine (CV0.out _ (HT.out.below hb1).wts).mono ?_
          rintro e w1a ⟨rfl, hb1a'⟩
          have hb1a := hb1.trans (hb1a'.mono hb1.size)
          clear hb1a' hb1
          go_wp2
          go_quiet (fail)
          have hbn := fun k => below_drewN hb1a k
          have HBN := hid hbn
          clear hbn
          go_wp2
          go_quiet (fail)
          rw [← hTT.out]
          go_wp2_with fail
          refine (D1.out _ (HT.out.below (HBN.out _)).wts).mono ?_
          rintro e w2 ⟨rfl, hb2⟩
          go_wp2
          go_ret
          exact ⟨rfl, (HBN.out _).trans (hb2.mono (HBN.out _).size)⟩
    · have hv' : validB s.data.toList = false := by simpa using hv
      rw [hv'] at CV0
      clear hv hv' hT
      go_enter Tryd.func8, Tryd.ntmps8
      go_wp2_with fail
      refine CH.out.mono ?_
      rintro e w1 ⟨rfl, hb1⟩
      go_wp2_with fail
      refine (CV0.out _ (HT.out.below hb1).wts).mono ?_
      rintro e w1a ⟨rfl, hb1a'⟩
      have hb1a := hb1.trans (hb1a'.mono hb1.size)
      go_wp2
      go_ret
      exact ⟨rfl, hb1a⟩

end Id1
end Go.Proofs.YtbgniplhlnipoaaDoor
