/-
  The law's own helpers: text; head, which holds in every world that holds the tables.
-/
import Derived.Test.YtbgniplhlnipoaaDoorStrs
namespace Go.Proofs.YtbgniplhlnipoaaDoor
open Go.RowKit Go.Sort
namespace Id1

def textS (s : ByteArray) (i q : Nat) : ByteArray := s.extract 0 i ++ (⟨#[dgt q]⟩ : ByteArray) ++ s.extract (i + 1) s.size
theorem textS_list (s : ByteArray) (i q : Nat) : (textS s i q).data.toList = put s.data.toList i q := text_put' s i q
theorem textS_size (s : ByteArray) (i q : Nat) (h : s.size ≤ 100) : (textS s i q).size ≤ maxLen := by
  unfold textS
  rw [ByteArray.size_append, ByteArray.size_append]
  have e1 := ex_size s 0 i
  have e2 := ex_size s (i + 1) s.size
  have e3 : (⟨#[dgt q]⟩ : ByteArray).size = 1 := rfl
  unfold maxLen; omega

set_option maxRecDepth 100000 in
set_option maxHeartbeats 1000000 in
theorem text_any (s : ByteArray) (i d : Nat) (w : World) (hs : s.size ≤ 100) (hi : i < s.size) (hd : d < 10) :
    Calls Tryd.prog 21 #[.string s, .int .i64 i, .int .i64 d] w fun e w' => e = .returned (.string (textS s i (48 + d))) ∧ Below w.heap.size w w' := by
  have hen := encode_small (48 + d) (by omega)
  have e0 : ((48 + d : Nat) : Int) = 48 + (d : Int) := by omega
  rw [e0] at hen
  obtain ⟨t1, ht1⟩ : ∃ t1 : ByteArray, t1 = ⟨#[dgt (48 + d)]⟩ := ⟨_, rfl⟩
  rw [← ht1] at hen
  have hes : t1.size ≤ 1 := by rw [ht1]; exact Nat.le_refl 1
  have hfin : textS s i (48 + d) = s.extract 0 i ++ t1 ++ s.extract (i + 1) s.size := by rw [ht1]; rfl
  rw [hfin]
  have hps1 : i ≤ s.size := by omega
  have hps2 : i + 1 ≤ s.size := by omega
  have hw1 : IntKind.i64.wrap ((i : Int) + 1) = (i : Int) + 1 := IntWalk.i64_in _ (by omega)
  have hw0 : 0 ≤ (i : Int) + 1 := by omega
  have hw2 : ((i : Int) + 1).toNat = i + 1 := by omega
  have hq1 : IntKind.i64.wrap (48 + (d : Int)) = 48 + (d : Int) := IntWalk.i64_in _ (by omega)
  have hq2 : IntKind.i32.wrap (48 + (d : Int)) = 48 + (d : Int) := IntWalk.i32_in _ (by omega)
  have hcc1 : ¬ 9223372036854775807 < i + t1.size := by omega
  have hcc2 : ¬ 9223372036854775807 < i + t1.size + (s.size - (i + 1)) := by omega
  clear hfin ht1 e0
  go_enter Tryd.func21, Tryd.ntmps21
  go_wp2
  go_quiet (fail)
  clear hw1 hw0 hw2 hq1 hq2 hcc1 hcc2 hen
  go_wp2
  go_ret
  exact ⟨rfl, below_drewN (Below.refl _ _) _⟩

theorem mis_a : misL [82, 82, 52, 55, 51, 49, 50, 52, 56, 50, 57, 65, 65] = [] := by
  have h : (cand [82, 82, 52, 55, 51, 49, 50, 52, 56, 50, 57, 65, 65]).filter validB = [] := by decide +kernel
  unfold misL
  rw [h, List.mergeSort_nil]
  split <;> rfl
theorem mis_b : 0 < (misL [82, 82, 52, 55, 51, 49, 50, 52, 56, 50, 56, 65, 65]).length ∧ (misL [82, 82, 52, 55, 51, 49, 50, 52, 56, 50, 56, 65, 65]).length ≤ 90 := by
  have hs : shapeB [82, 82, 52, 55, 51, 49, 50, 52, 56, 50, 56, 65, 65] = true := by decide +kernel
  have h : 0 < ((cand [82, 82, 52, 55, 51, 49, 50, 52, 56, 50, 56, 65, 65]).filter validB).length ∧ ((cand [82, 82, 52, 55, 51, 49, 50, 52, 56, 50, 56, 65, 65]).filter validB).length ≤ 90 := by decide +kernel
  unfold misL
  rw [if_pos hs, List.length_mergeSort]
  exact h

theorem hc_a (w : World) (hw : Wts w) : Calls Tryd.prog 10 #[.string (⟨#[52, 55, 51, 49, 50, 52, 56, 50]⟩ : ByteArray)] w fun e w' => e = .returned (.tuple #[.int .i64 9, .int .i64 0]) ∧ Below w.heap.size w w' := by
  have h := check_any (⟨#[52, 55, 51, 49, 50, 52, 56, 50]⟩ : ByteArray) w (by unfold maxLen; decide) hw
  rwa [show chkV (⟨#[52, 55, 51, 49, 50, 52, 56, 50]⟩ : ByteArray).data.toList = 9 from by decide +kernel, show chkE (⟨#[52, 55, 51, 49, 50, 52, 56, 50]⟩ : ByteArray).data.toList = 0 from by decide +kernel] at h

theorem hc_b (w : World) (hw : Wts w) : Calls Tryd.prog 10 #[.string (⟨#[48, 48, 48, 48, 48, 48, 48, 48]⟩ : ByteArray)] w fun e w' => e = .returned (.tuple #[.int .i64 5, .int .i64 0]) ∧ Below w.heap.size w w' := by
  have h := check_any (⟨#[48, 48, 48, 48, 48, 48, 48, 48]⟩ : ByteArray) w (by unfold maxLen; decide) hw
  rwa [show chkV (⟨#[48, 48, 48, 48, 48, 48, 48, 48]⟩ : ByteArray).data.toList = 5 from by decide +kernel, show chkE (⟨#[48, 48, 48, 48, 48, 48, 48, 48]⟩ : ByteArray).data.toList = 0 from by decide +kernel] at h

theorem hc_c (w : World) (hw : Wts w) : Calls Tryd.prog 10 #[.string (⟨#[52, 55, 51, 49, 50, 52, 56]⟩ : ByteArray)] w fun e w' => e = .returned (.tuple #[.int .i64 0, .int .i64 1]) ∧ Below w.heap.size w w' := by
  have h := check_any (⟨#[52, 55, 51, 49, 50, 52, 56]⟩ : ByteArray) w (by unfold maxLen; decide) hw
  rwa [show chkV (⟨#[52, 55, 51, 49, 50, 52, 56]⟩ : ByteArray).data.toList = 0 from by decide +kernel, show chkE (⟨#[52, 55, 51, 49, 50, 52, 56]⟩ : ByteArray).data.toList = 1 from by decide +kernel] at h

theorem hs_a (w : World) (hw : Wts w) : Calls Tryd.prog 14 #[.string (⟨#[82, 82, 52, 55, 51, 49, 50, 52, 56, 50, 57, 65, 65]⟩ : ByteArray)] w fun e w' => e = .returned (.tuple #[.int .i64 47312482, .int .i64 0]) ∧ Below w.heap.size w w' := by
  have h := serial_any (⟨#[82, 82, 52, 55, 51, 49, 50, 52, 56, 50, 57, 65, 65]⟩ : ByteArray) w (by unfold maxLen; decide) hw
  rwa [show serV (⟨#[82, 82, 52, 55, 51, 49, 50, 52, 56, 50, 57, 65, 65]⟩ : ByteArray).data.toList = 47312482 from by decide +kernel, show serE (⟨#[82, 82, 52, 55, 51, 49, 50, 52, 56, 50, 57, 65, 65]⟩ : ByteArray).data.toList = 0 from by decide +kernel] at h

theorem hs_b (w : World) (hw : Wts w) : Calls Tryd.prog 14 #[.string (⟨#[82, 82, 52, 55, 51, 49, 50, 52, 56, 50, 56, 65, 65]⟩ : ByteArray)] w fun e w' => e = .returned (.tuple #[.int .i64 0, .int .i64 10]) ∧ Below w.heap.size w w' := by
  have h := serial_any (⟨#[82, 82, 52, 55, 51, 49, 50, 52, 56, 50, 56, 65, 65]⟩ : ByteArray) w (by unfold maxLen; decide) hw
  rwa [show serV (⟨#[82, 82, 52, 55, 51, 49, 50, 52, 56, 50, 56, 65, 65]⟩ : ByteArray).data.toList = 0 from by decide +kernel, show serE (⟨#[82, 82, 52, 55, 51, 49, 50, 52, 56, 50, 56, 65, 65]⟩ : ByteArray).data.toList = 10 from by decide +kernel] at h

theorem hs_c (w : World) (hw : Wts w) : Calls Tryd.prog 14 #[.string (⟨#[114, 82, 52, 55, 51, 49, 50, 52, 56, 50, 57, 65, 65]⟩ : ByteArray)] w fun e w' => e = .returned (.tuple #[.int .i64 0, .int .i64 1]) ∧ Below w.heap.size w w' := by
  have h := serial_any (⟨#[114, 82, 52, 55, 51, 49, 50, 52, 56, 50, 57, 65, 65]⟩ : ByteArray) w (by unfold maxLen; decide) hw
  rwa [show serV (⟨#[114, 82, 52, 55, 51, 49, 50, 52, 56, 50, 57, 65, 65]⟩ : ByteArray).data.toList = 0 from by decide +kernel, show serE (⟨#[114, 82, 52, 55, 51, 49, 50, 52, 56, 50, 57, 65, 65]⟩ : ByteArray).data.toList = 1 from by decide +kernel] at h

theorem hv_a (w : World) (hw : Wts w) : Calls Tryd.prog 16 #[.string (⟨#[82, 82, 52, 55, 51, 49, 50, 52, 56, 50, 57, 65, 65]⟩ : ByteArray)] w fun e w' => e = .returned (.bool true) ∧ Below w.heap.size w w' := by
  have h := valid_any (⟨#[82, 82, 52, 55, 51, 49, 50, 52, 56, 50, 57, 65, 65]⟩ : ByteArray) w (by unfold maxLen; decide) hw
  rwa [show validB (⟨#[82, 82, 52, 55, 51, 49, 50, 52, 56, 50, 57, 65, 65]⟩ : ByteArray).data.toList = true from by decide +kernel] at h

theorem hv_b (w : World) (hw : Wts w) : Calls Tryd.prog 16 #[.string (⟨#[82, 82, 52, 55, 51, 49, 50, 52, 56, 50, 56, 65, 65]⟩ : ByteArray)] w fun e w' => e = .returned (.bool false) ∧ Below w.heap.size w w' := by
  have h := valid_any (⟨#[82, 82, 52, 55, 51, 49, 50, 52, 56, 50, 56, 65, 65]⟩ : ByteArray) w (by unfold maxLen; decide) hw
  rwa [show validB (⟨#[82, 82, 52, 55, 51, 49, 50, 52, 56, 50, 56, 65, 65]⟩ : ByteArray).data.toList = false from by decide +kernel] at h

theorem hm_a (w : World) (hT : Tabs w) : Calls Tryd.prog 12 #[.string (⟨#[82, 82]⟩ : ByteArray), .int .i64 47312482, .string (⟨#[65, 65]⟩ : ByteArray)] w fun e w' => e = .returned (.tuple #[.string (⟨#[82, 82, 52, 55, 51, 49, 50, 52, 56, 50, 57, 65, 65]⟩ : ByteArray), .int .i64 0]) ∧ Below w.heap.size w w' := by
  have h := make_yes (⟨#[82, 82]⟩ : ByteArray) (⟨#[65, 65]⟩ : ByteArray) 47312482 w (by decide +kernel) (by decide +kernel) (by decide) hT
  rwa [show (⟨(mkL (⟨#[82, 82]⟩ : ByteArray).data.toList 47312482 (⟨#[65, 65]⟩ : ByteArray).data.toList).toArray⟩ : ByteArray) = (⟨#[82, 82, 52, 55, 51, 49, 50, 52, 56, 50, 57, 65, 65]⟩ : ByteArray) from by decide +kernel] at h

theorem hx_a (w : World) (hw : Wts w) : Calls Tryd.prog 19 #[.string (⟨#[82, 82, 52, 55, 51, 49, 50, 52, 56, 50, 57, 65, 65]⟩ : ByteArray)] w fun e w' => (∃ p cap, e = .returned (.slice p 0 cap)) ∧ Below w.heap.size w w' := by
  refine (misread_any (⟨#[82, 82, 52, 55, 51, 49, 50, 52, 56, 50, 57, 65, 65]⟩ : ByteArray) w (by unfold maxLen; decide) hw).mono ?_
  rintro e w' ⟨v, rfl, ho, hb⟩
  obtain ⟨p, cap, rfl⟩ := (reads_of_own ho).form
  have h0 : (misL (⟨#[82, 82, 52, 55, 51, 49, 50, 52, 56, 50, 57, 65, 65]⟩ : ByteArray).data.toList).length = 0 := by rw [show misL (⟨#[82, 82, 52, 55, 51, 49, 50, 52, 56, 50, 57, 65, 65]⟩ : ByteArray).data.toList = [] from mis_a]; rfl
  exact ⟨⟨p, cap, by rw [h0]⟩, hb⟩
theorem hx_b (w : World) (hw : Wts w) : Calls Tryd.prog 19 #[.string (⟨#[82, 82, 52, 55, 51, 49, 50, 52, 56, 50, 56, 65, 65]⟩ : ByteArray)] w fun e w' => (∃ (p : Option Addr) (n cap : Nat), e = .returned (.slice p n cap) ∧ 0 < n ∧ n ≤ 90 ∧ Hid (Reads w' (.slice p n cap) (misL (⟨#[82, 82, 52, 55, 51, 49, 50, 52, 56, 50, 56, 65, 65]⟩ : ByteArray).data.toList))) ∧ Below w.heap.size w w' := by
  refine (misread_any (⟨#[82, 82, 52, 55, 51, 49, 50, 52, 56, 50, 56, 65, 65]⟩ : ByteArray) w (by unfold maxLen; decide) hw).mono ?_
  rintro e w' ⟨v, rfl, ho, hb⟩
  have hr := reads_of_own ho
  obtain ⟨p, cap, rfl⟩ := hr.form
  exact ⟨⟨p, _, cap, rfl, mis_b.1, mis_b.2, hr⟩, hb⟩
theorem hr_b (w : World) : Calls Tryd.prog 20 #[.string (⟨#[82, 82, 52, 55, 51, 49, 50, 52, 56, 50, 56, 65, 65]⟩ : ByteArray)] w fun e w' => (∃ (p : Option Addr) (n cap : Nat), e = .returned (.slice p n cap) ∧ Hid (Reads w' (.slice p n cap) (misL (⟨#[82, 82, 52, 55, 51, 49, 50, 52, 56, 50, 56, 65, 65]⟩ : ByteArray).data.toList))) ∧ Below w.heap.size w w' := by
  refine (rmisread_any (⟨#[82, 82, 52, 55, 51, 49, 50, 52, 56, 50, 56, 65, 65]⟩ : ByteArray) w (by unfold maxLen; decide)).mono ?_
  rintro e w' ⟨v, rfl, hH⟩
  rw [ref_mis] at hH
  have hr := reads_of_own hH.2.1
  obtain ⟨p, cap, rfl⟩ := hr.form
  exact ⟨⟨p, _, cap, rfl, hr⟩, hH.2.2⟩
theorem hq_b (va vb : Value) (w : World) (ha : Reads w va (misL (⟨#[82, 82, 52, 55, 51, 49, 50, 52, 56, 50, 56, 65, 65]⟩ : ByteArray).data.toList)) (hb : Reads w vb (misL (⟨#[82, 82, 52, 55, 51, 49, 50, 52, 56, 50, 56, 65, 65]⟩ : ByteArray).data.toList)) :
    Calls Tryd.prog 18 #[va, vb] w fun e w' => e = .returned (.bool true) ∧ Below w.heap.size w w' := by
  have hl : (misL (⟨#[82, 82, 52, 55, 51, 49, 50, 52, 56, 50, 56, 65, 65]⟩ : ByteArray).data.toList).length ≤ 200 := Nat.le_trans mis_b.2 (by omega)
  have h := strings_any va vb _ _ w ha hb hl hl
  rwa [show decide (misL (⟨#[82, 82, 52, 55, 51, 49, 50, 52, 56, 50, 56, 65, 65]⟩ : ByteArray).data.toList = misL (⟨#[82, 82, 52, 55, 51, 49, 50, 52, 56, 50, 56, 65, 65]⟩ : ByteArray).data.toList) = true from decide_eq_true rfl] at h

set_option maxRecDepth 100000 in
set_option maxHeartbeats 8000000 in
theorem head_any (w : World) (hT : Tabs w) :
    Calls Tryd.prog 9 #[] w fun e w' => e = .returned (.bool true) ∧ Below w.heap.size w w' := by
  have HT := hid hT
  clear hT
  go_enter Tryd.func9, Tryd.ntmps9

  go_wp2_with fail
  refine (hc_a _ HT.out.wts).mono ?_
  rintro e w1 ⟨rfl, hb'⟩
  have hb1 := hb'
  clear hb'
  go_wp2_with fail
  refine (hc_b _ (HT.out.below hb1).wts).mono ?_
  rintro e w2 ⟨rfl, hb'⟩
  have hb2 := hb1.trans (hb'.mono hb1.size)
  clear hb'
  go_wp2_with fail
  refine (hc_c _ (HT.out.below hb2).wts).mono ?_
  rintro e w3 ⟨rfl, hb'⟩
  have hb3 := hb2.trans (hb'.mono hb2.size)
  clear hb'
  go_wp2_with fail
  refine (hm_a _ (HT.out.below hb3)).mono ?_
  rintro e w4 ⟨rfl, hb'⟩
  have hb4 := hb3.trans (hb'.mono hb3.size)
  clear hb'
  go_wp2_with fail
  refine (hs_a _ (HT.out.below hb4).wts).mono ?_
  rintro e w5 ⟨rfl, hb'⟩
  have hb5 := hb4.trans (hb'.mono hb4.size)
  clear hb'
  go_wp2_with fail
  refine (hs_b _ (HT.out.below hb5).wts).mono ?_
  rintro e w6 ⟨rfl, hb'⟩
  have hb6 := hb5.trans (hb'.mono hb5.size)
  clear hb'
  go_wp2_with fail
  refine (hs_c _ (HT.out.below hb6).wts).mono ?_
  rintro e w7 ⟨rfl, hb'⟩
  have hb7 := hb6.trans (hb'.mono hb6.size)
  clear hb'
  go_wp2_with fail
  refine (hv_a _ (HT.out.below hb7).wts).mono ?_
  rintro e w8 ⟨rfl, hb'⟩
  have hb8 := hb7.trans (hb'.mono hb7.size)
  clear hb'
  go_wp2_with fail
  refine (hv_b _ (HT.out.below hb8).wts).mono ?_
  rintro e w9 ⟨rfl, hb'⟩
  have hb9 := hb8.trans (hb'.mono hb8.size)
  clear hb'
  go_wp2_with fail
  refine (hx_a _ (HT.out.below hb9).wts).mono ?_
  rintro e w10 ⟨⟨p1, cap1, rfl⟩, hb'⟩
  have hb10 := hb9.trans (hb'.mono hb9.size)
  clear hb'
  go_wp2_with fail
  refine (hx_b _ (HT.out.below hb10).wts).mono ?_
  rintro e w11 ⟨⟨p2, n2, cap2, rfl, hn0, hn1, hr2⟩, hb'⟩
  have hb11 := hb10.trans (hb'.mono hb10.size)
  clear hb'
  go_wp2_with fail
  refine (hr_b _).mono ?_
  rintro e w12 ⟨⟨p3, n3, cap3, rfl, hr3⟩, hb'⟩
  have hb12 := hb11.trans (hb'.mono hb11.size)
  have hr2b := hid (hr2.out.on hb')
  clear hb'
  go_wp2_with fail
  refine (hq_b _ _ _ hr2b.out hr3.out).mono ?_
  rintro e w13 ⟨rfl, hb'⟩
  have hb13 := hb12.trans (hb'.mono hb12.size)
  clear hb'
  go_wp2_with fail
  refine (hx_b _ (HT.out.below hb13).wts).mono ?_
  rintro e w14 ⟨⟨p4, n4, cap4, rfl, hm0, hm1, hr4⟩, hb'⟩
  have hb14 := hb13.trans (hb'.mono hb13.size)
  clear hb'
  go_wp2
  go_ret
  exact ⟨rfl, hb14⟩

end Id1
end Go.Proofs.YtbgniplhlnipoaaDoor
