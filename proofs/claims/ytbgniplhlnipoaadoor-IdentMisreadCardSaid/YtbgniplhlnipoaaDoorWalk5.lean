/-
  The library's Itoa, Atoi and Repeat as this code calls them; the contracts of Serial and Valid.
-/
import Derived.Test.YtbgniplhlnipoaaDoorWalk4
import Derived.Test.YtbgniplhlnipoaaDoorShelf
import Derived.Lib.AppendIntMem
import Derived.Lib.SmallJoins
namespace Go.Proofs.YtbgniplhlnipoaaDoor
open Go.RowKit
namespace Id1

/-- The package-level tables, below the block that the call makes next. -/
structure Tabs (w : World) : Prop where
  wts : Wts w
  tab : Lib.TabIs Tryd.prog w "internal/strconv.uint64pow10" .u64 Lib.pow10Tab
theorem Tabs.below {w w' : World} (h : Tabs w) (hb : Below w.heap.size w w') : Tabs w' :=
  ⟨h.wts.below hb, Lib.tabBelow_of_tabIs h.tab w' hb⟩

theorem itoa_any (n : Int) (w : World) (h0 : 0 ≤ n) (h1 : n ≤ 1000000000) (hT : Tabs w) :
    Calls Tryd.prog 29 #[.int .i64 n] w fun e w' => e = .returned (.string ⟨(Lib.itoa n).toArray⟩) ∧ Below w.heap.size w w' :=
  (Tryd.strconv_Itoa n (by omega) (by omega) w hT.tab).mono fun _ _ ⟨he, k, os, hw⟩ => ⟨he, by rw [hw]; exact Lib.below_grow _ _ (Nat.le_refl _) k os⟩

theorem repeat_any (s : ByteArray) (c : Int) (w : World) (h0 : 0 ≤ c) (h1 : c ≤ 1000) (hs : s.size ≤ 1000) :
    Calls Tryd.prog 30 #[.string s, .int .i64 c] w fun e w' => e = .returned (.string ⟨(Lib.repeatL s.data.toList c.toNat).toArray⟩) ∧ Below w.heap.size w w' := by
  obtain ⟨n, rfl⟩ := Int.eq_ofNat_of_zero_le h0
  have : s.size * n ≤ 1000 * 1000 := Nat.mul_le_mul hs (by omega)
  exact Tryd.strings_Repeat s n w (by omega) (by omega)

theorem atoi_any (s : ByteArray) (w : World) (hd : digitsB s.data.toList = true) (h0 : 0 < s.size) (h18 : s.size ≤ 18) :
    Calls Tryd.prog 34 #[.string s] w fun e w' => e = .returned (.tuple #[.int .i64 (num s.data.toList), .nilIface]) ∧ Below w.heap.size w w' := by
  have hl : s.data.toList.length = s.size := by simp
  refine (Tryd.strconv_Atoi_ok s (by omega) _ (atoi_digits _ hd (by intro h; rw [h] at hl; simp at hl; omega) (by omega)) w).mono ?_
  rintro e w' ⟨he, h⟩
  refine ⟨he, ?_⟩
  rcases h with rfl | ⟨t, rfl⟩
  · exact Below.refl _ _
  · exact below_bytesWorld _ _ _

set_option maxRecDepth 100000 in
set_option maxHeartbeats 1000000 in
theorem serial_any (s : ByteArray) (w : World) (hs : s.size ≤ maxLen) (hw : Wts w) :
    Calls Tryd.prog 14 #[.string s] w fun e w' => e = .returned (.tuple #[.int .i64 (serV s.data.toList), .int .i64 (serE s.data.toList)]) ∧ Below w.heap.size w w' := by
  have hm := hs
  unfold maxLen at hm
  by_cases hsh : shapeB s.data.toList = true
  · obtain ⟨h13, -, -, -⟩ := shape_parts hsh
    obtain ⟨hdg, hd8⟩ := shape_digits hsh
    have h13s : s.size = 13 := by rw [← h13]; simp
    have hi10 : 10 < s.size := by omega
    have hx10 := digB_bd (shape_digit hsh 10 (by omega) (by omega))
    have hgx : s.data.toList.getD 10 0 = s[10]'hi10 := (Lib.getD_at s 10 hi10).symm
    have C1 := hid (fun w => isShape_any s w hs)
    have hex : (s.extract 2 10).data.toList = (s.data.toList.drop 2).take 8 := by rw [Lib.extract_data]
    have hesz : (s.extract 2 10).size = 8 := by rw [Lib.size_eq, hex, hd8]
    have C2 := hid (fun w (hw : Wts w) => check_any (s.extract 2 10) w (by rw [hesz]; unfold maxLen; omega) hw)
    have C3 := hid (fun w => atoi_any (s.extract 2 10) w (by rw [hex]; exact hdg) (by omega) (by omega))
    rw [hsh] at C1
    rw [hex] at C2 C3
    have hcv : chkV ((s.data.toList.drop 2).take 8) = chk ((s.data.toList.drop 2).take 8) := by unfold chkV; rw [if_pos ⟨hd8, hdg⟩]
    have hce : chkE ((s.data.toList.drop 2).take 8) = 0 := by unfold chkE; rw [if_pos ⟨hd8, hdg⟩]
    rw [hcv, hce] at C2
    have hcb : 0 ≤ chk ((s.data.toList.drop 2).take 8) ∧ chk ((s.data.toList.drop 2).take 8) ≤ 9 := cdig_bd _
    have hval : validB s.data.toList = decide ((((s[10]'hi10).toNat : Int) - 48) = chk ((s.data.toList.drop 2).take 8)) := by unfold validB; rw [hsh, hgx]; rfl
    have hfin : Ending.returned (.tuple #[.int .i64 (serV s.data.toList), .int .i64 (serE s.data.toList)]) = if (((s[10]'hi10).toNat : Int) - 48) = chk ((s.data.toList.drop 2).take 8) then Ending.returned (.tuple #[.int .i64 (num ((s.data.toList.drop 2).take 8)), .int .i64 0]) else Ending.returned (.tuple #[.int .i64 0, .int .i64 10]) := by
      unfold serV serE
      rw [hval, hsh]
      split <;> simp_all
    rw [hgx] at hx10
    obtain ⟨c, hc⟩ : ∃ c, c = chk ((s.data.toList.drop 2).take 8) := ⟨_, rfl⟩
    obtain ⟨n, hn⟩ : ∃ n : Int, n = (num ((s.data.toList.drop 2).take 8) : Int) := ⟨_, rfl⟩
    rw [← hc, ← hn] at hfin
    rw [← hc] at C2 hcb
    rw [← hn] at C3
    obtain ⟨hx0, hx1⟩ := hx10
    obtain ⟨hc0, hc1⟩ := hcb
    have hs13 : 13 ≤ s.size := by omega
    by_cases hq : (((s[10]'hi10).toNat : Int) - 48) = c
    · rw [if_pos hq] at hfin
      have hqb : ((((s[10]'hi10).toNat : Int) - 48) != c) = false := by simp [hq]
      have HF := hid hfin
      clear hfin hq hn hc hval hce hcv hesz hex hgx hd8 hdg h13 hsh h13s hs
      go_enter Tryd.func14, Tryd.ntmps14
      go_wp2_with fail
      refine (C1.out _).mono ?_
      rintro e w1 ⟨rfl, hb1⟩
      go_wp2_with fail
      refine (C2.out _ (hw.below hb1)).mono ?_
      rintro e w2 ⟨rfl, hb2⟩
      go_wp2_with fail
      refine (C3.out _).mono ?_
      rintro e w3 ⟨rfl, hb3⟩
      go_wp2
      go_ret2
      exact ⟨HF.out.symm, (hb1.trans (hb2.mono hb1.size)).trans (hb3.mono (hb1.trans (hb2.mono hb1.size)).size)⟩
    · rw [if_neg hq] at hfin
      have hqb : ((((s[10]'hi10).toNat : Int) - 48) != c) = true := by simp [hq]
      have HF := hid hfin
      clear hfin hq hn hc hval hce hcv hesz hex hgx hd8 hdg h13 hsh h13s hs
      go_enter Tryd.func14, Tryd.ntmps14
      go_wp2_with fail
      refine (C1.out _).mono ?_
      rintro e w1 ⟨rfl, hb1⟩
      go_wp2_with fail
      refine (C2.out _ (hw.below hb1)).mono ?_
      rintro e w2 ⟨rfl, hb2⟩
      go_wp2_with fail
      refine (C3.out _).mono ?_
      rintro e w3 ⟨rfl, hb3⟩
      go_wp2
      go_ret2
      exact ⟨HF.out.symm, (hb1.trans (hb2.mono hb1.size)).trans (hb3.mono (hb1.trans (hb2.mono hb1.size)).size)⟩
  · have hf : shapeB s.data.toList = false := by simpa using hsh
    have C1 := hid (fun w => isShape_any s w hs)
    rw [hf] at C1
    have hfin : Ending.returned (.tuple #[.int .i64 (serV s.data.toList), .int .i64 (serE s.data.toList)]) = Ending.returned (.tuple #[.int .i64 0, .int .i64 1]) := by
      have hv : validB s.data.toList = false := by unfold validB; rw [hf]; rfl
      unfold serV serE
      rw [hv, hf]; rfl
    have HF := hid hfin
    clear hfin hf hsh hs
    go_enter Tryd.func14, Tryd.ntmps14
    go_wp2_with fail
    refine (C1.out _).mono ?_
    rintro e w1 ⟨rfl, hb1⟩
    go_wp2
    go_ret2
    exact ⟨HF.out.symm, hb1⟩

end Id1
end Go.Proofs.YtbgniplhlnipoaaDoor
