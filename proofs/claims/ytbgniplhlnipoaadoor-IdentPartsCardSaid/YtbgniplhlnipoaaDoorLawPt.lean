/-
  The walk of IdentParts.
-/
import Derived.Test.YtbgniplhlnipoaaDoorHead
import Derived.Test.YtbgniplhlnipoaaDoorMake
import Derived.Deep.RegionWith
import Derived.BigRegion
namespace Go.Proofs.YtbgniplhlnipoaaDoor
open Go.RowKit
namespace Id1

set_option maxRecDepth 100000 in
set_option maxHeartbeats 4000000 in
theorem lawPt_any (k : ByteArray) (n : Int) (o s : ByteArray) (w : World) (hk : k.size ≤ maxLen) (ho : o.size ≤ maxLen) (hs : s.size ≤ maxLen) (hT : Tabs w) :
    Calls Tryd.prog 4 #[.string k, .int .i64 n, .string o, .string s] w fun e w' => e = .returned (.bool true) ∧ Below w.heap.size w w' := by
  have CH := hid (head_any w hT)
  have HT := hid hT
  by_cases lk : 40 < k.size
  · have lkd : decide ((40 : Int) < (k.size : Int)) = true := by simp; omega
    clear hT hk ho hs
    go_enter Tryd.func4, Tryd.ntmps4
    go_wp2_with fail
    refine CH.out.mono ?_
    rintro e w1 ⟨rfl, hb1⟩
    go_wp2
    go_ret
    exact ⟨rfl, hb1⟩
  have lkd : decide ((40 : Int) < (k.size : Int)) = false := by simp; omega
  by_cases lo : 40 < o.size
  · have lod : decide ((40 : Int) < (o.size : Int)) = true := by simp; omega
    clear hT hk ho hs
    go_enter Tryd.func4, Tryd.ntmps4
    go_wp2_with fail
    refine CH.out.mono ?_
    rintro e w1 ⟨rfl, hb1⟩
    go_wp2
    go_ret
    exact ⟨rfl, hb1⟩
  have lod : decide ((40 : Int) < (o.size : Int)) = false := by simp; omega
  by_cases ls : 40 < s.size
  · have lsd : decide ((40 : Int) < (s.size : Int)) = true := by simp; omega
    clear hT hk ho hs
    go_enter Tryd.func4, Tryd.ntmps4
    go_wp2_with fail
    refine CH.out.mono ?_
    rintro e w1 ⟨rfl, hb1⟩
    go_wp2
    go_ret
    exact ⟨rfl, hb1⟩
  have lsd : decide ((40 : Int) < (s.size : Int)) = false := by simp; omega
  have CV0 := hid (fun w (hw : Wts w) => valid_any s w hs hw)
  have CS0 := hid (fun w (hw : Wts w) => serial_any s w hs hw)
  by_cases hmk0 : mkOk k.data.toList n o.data.toList = true
  · have h' := hmk0
    unfold mkOk at h'
    simp only [Bool.and_eq_true, decide_eq_true_eq] at h'
    obtain ⟨⟨⟨q1, q2⟩, q3⟩, q4⟩ := h'
    obtain ⟨j, hj⟩ : ∃ j : Nat, n = (j : Int) := Int.eq_ofNat_of_zero_le q2
    have CM := fun w hT => make_yes k o j w q1 q4 (by omega) hT
    obtain ⟨t, ht⟩ : ∃ t : ByteArray, t = ⟨(mkL k.data.toList j o.data.toList).toArray⟩ := ⟨_, rfl⟩
    have htl : t.data.toList = mkL k.data.toList j o.data.toList := by rw [ht]
    rw [← ht, ← hj] at CM
    obtain ⟨u1, u2, u3, u4, -⟩ := mkL_valid (n := j) q1 q4
    obtain ⟨u5, u6⟩ := mkL_num (n := j) q1 q4 (by omega)
    rw [← htl] at u1 u2 u3 u4 u5 u6
    have t13 : t.size = 13 := by rw [Lib.size_eq]; exact u2
    have htz : t.size ≤ maxLen := by rw [t13]; unfold maxLen; omega
    have CTS := fun w (hw : Wts w) => serial_any t w htz hw
    have CTV := fun w (hw : Wts w) => valid_any t w htz hw
    rw [u5, u6, ← hj] at CTS
    rw [u1] at CTV
    have x1 : t.extract 0 2 = k := bytes_ext (by rw [ex_take]; exact u3)
    have x2 : t.extract 11 t.size = o := bytes_ext (by rw [Lib.extract_to_end]; exact u4)
    have y1 : (t.extract 0 2).toList = k.toList := by rw [x1]
    have y2 : (t.extract 11 t.size).toList = o.toList := by rw [x2]
    have t13e : ((t.size : Int) != 13) = false := by rw [t13]; rfl
    have hnn : (n != n) = false := by simp
    have t2 : 2 ≤ t.size := by omega
    have t11 : 11 ≤ t.size := by omega
    have t13a : 13 ≤ t.size := by omega
    have t13b : t.size ≤ 13 := by omega
    have E1 := hid CM
    have E2 := hid CTS
    have E3 := hid CTV
    clear CM CTS CTV x1 x2 htz t13 u1 u2 u3 u4 u5 u6 htl ht hj q1 q2 q3 q4 hmk0
    by_cases hv : validB s.data.toList = true
    · rw [hv] at CV0
      have hse : serE s.data.toList = 0 := by unfold serE; rw [if_pos hv]
      have hsv : serV s.data.toList = (num ((s.data.toList.drop 2).take 8) : Int) := by unfold serV; rw [if_pos hv]
      rw [hse, hsv] at CS0
      have hsh : shapeB s.data.toList = true := by
        have : shapeB s.data.toList = true ∧ dg (s.data.toList.getD 10 0) = chk ((s.data.toList.drop 2).take 8) := by simpa [validB] using hv
        exact this.1
      obtain ⟨h13, -, -, -⟩ := shape_parts hsh
      have h13s : s.size = 13 := by rw [← h13]; simp
      obtain ⟨hl1, hl2, hn9, hmk⟩ := valid_mk hv
      obtain ⟨m, hmm⟩ : ∃ m : Int, m = (num ((s.data.toList.drop 2).take 8) : Int) := ⟨_, rfl⟩
      have CM2 := fun w (hT : Tabs w) => make_yes (s.extract 0 2) (s.extract 11 s.size) (num ((s.data.toList.drop 2).take 8)) w (by rw [ex_take]; exact hl1) (by rw [Lib.extract_to_end]; exact hl2) hn9 hT
      rw [ex_take, Lib.extract_to_end, hmk] at CM2
      have hss : (⟨s.data.toList.toArray⟩ : ByteArray) = s := bytes_ext (by simp)
      rw [hss] at CM2
      rw [← hmm] at CM2 CS0
      have h13e : ((s.size : Int) != 13) = false := by rw [h13s]; rfl
      have hs2 : 2 ≤ s.size := by omega
      have hs11 : 11 ≤ s.size := by omega
      have hs13 : 13 ≤ s.size := by omega
      have hs14 : s.size ≤ 13 := by omega
      have D1 := hid CM2
      clear CM2 hss hmm hmk hn9 hl1 hl2 h13s h13 hsh hse hsv hv hT hk ho hs
      go_enter Tryd.func4, Tryd.ntmps4
      go_wp2_with fail
      refine CH.out.mono ?_
      rintro e w1 ⟨rfl, hb1⟩
      go_wp2_with fail
      refine (E1.out _ (HT.out.below hb1)).mono ?_
      rintro e w2 ⟨rfl, hb2'⟩
      have hb2 := hb1.trans (hb2'.mono hb1.size)
      clear hb2'
      go_wp2_with fail
      refine (E2.out _ (HT.out.below hb2).wts).mono ?_
      rintro e w3 ⟨rfl, hb3'⟩
      have hb3 := hb2.trans (hb3'.mono hb2.size)
      clear hb3'
      go_wp2_with fail
      refine (E3.out _ (HT.out.below hb3).wts).mono ?_
      rintro e w4 ⟨rfl, hb4'⟩
      have hb4 := hb3.trans (hb4'.mono hb3.size)
      clear hb4'
      go_wp2_with fail
      refine (CV0.out _ (HT.out.below hb4).wts).mono ?_
      rintro e wv ⟨rfl, hbv'⟩
      have hbv := hb4.trans (hbv'.mono hb4.size)
      clear hbv'
      go_wp2_with fail
      refine (CS0.out _ (HT.out.below hbv).wts).mono ?_
      rintro e wz ⟨rfl, hbz'⟩
      have hbz := hbv.trans (hbz'.mono hbv.size)
      clear hbz'
      go_wp2
      have hbd : ∀ q, Below w.heap.size w (wz.drewN q) := fun q => below_drewN hbz q
      have HB := hid hbd
      go_region_with (go_at_call 12; refine (D1.out _ (HT.out.below (HB.out _))).mono ?_; rintro e wq ⟨rfl, hbq⟩)
      all_goals
        go_wp2
        go_ret
        exact ⟨rfl, (HB.out _).trans (hbq.mono (HB.out _).size)⟩
    have hv' : validB s.data.toList = false := by simpa using hv
    rw [hv'] at CV0
    clear hv hv' hT hk ho hs
    go_enter Tryd.func4, Tryd.ntmps4
    go_wp2_with fail
    refine CH.out.mono ?_
    rintro e w1 ⟨rfl, hb1⟩
    go_wp2_with fail
    refine (E1.out _ (HT.out.below hb1)).mono ?_
    rintro e w2 ⟨rfl, hb2'⟩
    have hb2 := hb1.trans (hb2'.mono hb1.size)
    clear hb2'
    go_wp2_with fail
    refine (E2.out _ (HT.out.below hb2).wts).mono ?_
    rintro e w3 ⟨rfl, hb3'⟩
    have hb3 := hb2.trans (hb3'.mono hb2.size)
    clear hb3'
    go_wp2_with fail
    refine (E3.out _ (HT.out.below hb3).wts).mono ?_
    rintro e w4 ⟨rfl, hb4'⟩
    have hb4 := hb3.trans (hb4'.mono hb3.size)
    clear hb4'
    go_wp2_with fail
    refine (CV0.out _ (HT.out.below hb4).wts).mono ?_
    rintro e wv ⟨rfl, hbv'⟩
    have hbv := hb4.trans (hbv'.mono hb4.size)
    clear hbv'
    go_wp2
    go_ret
    exact ⟨rfl, hbv⟩
  have hmk1 : mkOk k.data.toList n o.data.toList = false := by simpa using hmk0
  have E1 := hid (fun w => make_no k o n w hk ho hmk1)
  clear hmk0 hmk1
  by_cases hv : validB s.data.toList = true
  · rw [hv] at CV0
    have hse : serE s.data.toList = 0 := by unfold serE; rw [if_pos hv]
    have hsv : serV s.data.toList = (num ((s.data.toList.drop 2).take 8) : Int) := by unfold serV; rw [if_pos hv]
    rw [hse, hsv] at CS0
    have hsh : shapeB s.data.toList = true := by
      have : shapeB s.data.toList = true ∧ dg (s.data.toList.getD 10 0) = chk ((s.data.toList.drop 2).take 8) := by simpa [validB] using hv
      exact this.1
    obtain ⟨h13, -, -, -⟩ := shape_parts hsh
    have h13s : s.size = 13 := by rw [← h13]; simp
    obtain ⟨hl1, hl2, hn9, hmk⟩ := valid_mk hv
    obtain ⟨m, hmm⟩ : ∃ m : Int, m = (num ((s.data.toList.drop 2).take 8) : Int) := ⟨_, rfl⟩
    have CM2 := fun w (hT : Tabs w) => make_yes (s.extract 0 2) (s.extract 11 s.size) (num ((s.data.toList.drop 2).take 8)) w (by rw [ex_take]; exact hl1) (by rw [Lib.extract_to_end]; exact hl2) hn9 hT
    rw [ex_take, Lib.extract_to_end, hmk] at CM2
    have hss : (⟨s.data.toList.toArray⟩ : ByteArray) = s := bytes_ext (by simp)
    rw [hss] at CM2
    rw [← hmm] at CM2 CS0
    have h13e : ((s.size : Int) != 13) = false := by rw [h13s]; rfl
    have hs2 : 2 ≤ s.size := by omega
    have hs11 : 11 ≤ s.size := by omega
    have hs13 : 13 ≤ s.size := by omega
    have hs14 : s.size ≤ 13 := by omega
    have D1 := hid CM2
    clear CM2 hss hmm hmk hn9 hl1 hl2 h13s h13 hsh hse hsv hv hT hk ho hs
    go_enter Tryd.func4, Tryd.ntmps4
    go_wp2_with fail
    refine CH.out.mono ?_
    rintro e w1 ⟨rfl, hb1⟩
    go_wp2_with fail
    refine (E1.out _).mono ?_
    rintro e w2 ⟨rfl, hb2'⟩
    have hb2 := hb1.trans (hb2'.mono hb1.size)
    clear hb2'
    go_wp2_with fail
    refine (CV0.out _ (HT.out.below hb2).wts).mono ?_
    rintro e wv ⟨rfl, hbv'⟩
    have hbv := hb2.trans (hbv'.mono hb2.size)
    clear hbv'
    go_wp2_with fail
    refine (CS0.out _ (HT.out.below hbv).wts).mono ?_
    rintro e wz ⟨rfl, hbz'⟩
    have hbz := hbv.trans (hbz'.mono hbv.size)
    clear hbz'
    go_wp2
    have hbd : ∀ q, Below w.heap.size w (wz.drewN q) := fun q => below_drewN hbz q
    have HB := hid hbd
    go_region_with (go_at_call 12; refine (D1.out _ (HT.out.below (HB.out _))).mono ?_; rintro e wq ⟨rfl, hbq⟩)
    all_goals
      go_wp2
      go_ret
      exact ⟨rfl, (HB.out _).trans (hbq.mono (HB.out _).size)⟩
  have hv' : validB s.data.toList = false := by simpa using hv
  rw [hv'] at CV0
  clear hv hv' hT hk ho hs
  go_enter Tryd.func4, Tryd.ntmps4
  go_wp2_with fail
  refine CH.out.mono ?_
  rintro e w1 ⟨rfl, hb1⟩
  go_wp2_with fail
  refine (E1.out _).mono ?_
  rintro e w2 ⟨rfl, hb2'⟩
  have hb2 := hb1.trans (hb2'.mono hb1.size)
  clear hb2'
  go_wp2_with fail
  refine (CV0.out _ (HT.out.below hb2).wts).mono ?_
  rintro e wv ⟨rfl, hbv'⟩
  have hbv := hb2.trans (hbv'.mono hb2.size)
  clear hbv'
  go_wp2
  go_ret
  exact ⟨rfl, hbv⟩

end Id1
end Go.Proofs.YtbgniplhlnipoaaDoor
