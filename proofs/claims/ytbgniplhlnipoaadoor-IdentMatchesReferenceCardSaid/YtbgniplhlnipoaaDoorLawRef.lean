/-
  The walk of IdentMatchesReference.
-/
import Derived.Test.YtbgniplhlnipoaaDoorLawAll
import Derived.Test.YtbgniplhlnipoaaDoorRef4
namespace Go.Proofs.YtbgniplhlnipoaaDoor
open Go.RowKit
namespace Id1

set_option maxRecDepth 100000 in
set_option maxHeartbeats 4000000 in
theorem lawRef_any (s k : ByteArray) (n : Int) (o : ByteArray) (w : World) (hs : s.size ≤ maxLen) (hk : k.size ≤ maxLen) (ho : o.size ≤ maxLen) (hT : Tabs w) :
    Calls Tryd.prog 3 #[.string s, .string k, .int .i64 n, .string o] w fun e w' => e = .returned (.bool true) ∧ Below w.heap.size w w' := by
  have CH := hid (head_any w hT)
  have HT := hid hT
  by_cases ls : 40 < s.size
  · have lsd : decide ((40 : Int) < (s.size : Int)) = true := by simp; omega
    clear hT hk ho hs
    go_enter Tryd.func3, Tryd.ntmps3
    go_wp2_with fail
    refine CH.out.mono ?_
    rintro e w1 ⟨rfl, hb1⟩
    go_wp2
    go_ret
    exact ⟨rfl, hb1⟩
  have lsd : decide ((40 : Int) < (s.size : Int)) = false := by simp; omega
  by_cases lk : 40 < k.size
  · have lkd : decide ((40 : Int) < (k.size : Int)) = true := by simp; omega
    clear hT hk ho hs
    go_enter Tryd.func3, Tryd.ntmps3
    go_wp2_with fail
    refine CH.out.mono ?_
    rintro e w1 ⟨rfl, hb1⟩
    go_wp2
    go_ret
    exact ⟨rfl, hb1⟩
  have lkd : decide ((40 : Int) < (k.size : Int)) = false := by simp; omega
  by_cases lo : 40 < o.size
  · have lod : decide ((40 : Int) < (o.size : Int)) = true := by simp; omega
    clear hT hk ho hs
    go_enter Tryd.func3, Tryd.ntmps3
    go_wp2_with fail
    refine CH.out.mono ?_
    rintro e w1 ⟨rfl, hb1⟩
    go_wp2
    go_ret
    exact ⟨rfl, hb1⟩
  have lod : decide ((40 : Int) < (o.size : Int)) = false := by simp; omega
  have c1 := fun w (hw : Wts w) => check_any s w hs hw
  have c2 := fun w => rcheck_any s w hs
  have c3 := fun w (hT : Tabs w) => make_any k o n w hk ho hT
  have c4 := fun w => rmake_any k o n w hk ho
  have c5 := fun w (hw : Wts w) => serial_any s w hs hw
  have c6 := fun w => rserial_any s w hs
  have c7 := fun w (hw : Wts w) => valid_any s w hs hw
  have c8 := fun w => rvalid_any s w hs
  have c9 := fun w (hw : Wts w) => misread_any s w hs hw
  have c10 := fun w => rmisread_any s w hs
  rw [ref_mis] at c10
  have c11 : ∀ (va vb : Value) (w : World), Reads w va (misL s.data.toList) → Reads w vb (misL s.data.toList) → Calls Tryd.prog 18 #[va, vb] w fun e w' => e = .returned (.bool true) ∧ Below w.heap.size w w' := by
    intro va vb w ha hb
    have hl : (misL s.data.toList).length ≤ 200 := Nat.le_trans (misL_len _) (by omega)
    have h := strings_any va vb _ _ w ha hb hl hl
    rwa [show decide (misL s.data.toList = misL s.data.toList) = true from decide_eq_true rfl] at h
  generalize misL s.data.toList = mm at c9 c10 c11
  generalize chkV s.data.toList = x1 at c1 c2
  generalize chkE s.data.toList = x2 at c1 c2
  generalize (⟨(mkV k.data.toList n o.data.toList).toArray⟩ : ByteArray) = x3 at c3 c4
  generalize mkE k.data.toList n o.data.toList = x4 at c3 c4
  generalize serV s.data.toList = x5 at c5 c6
  generalize serE s.data.toList = x6 at c5 c6
  generalize validB s.data.toList = x7 at c7 c8
  have C1 := hid c1
  have C2 := hid c2
  have C3 := hid c3
  have C4 := hid c4
  have C5 := hid c5
  have C6 := hid c6
  have C7 := hid c7
  have C8 := hid c8
  have C9 := hid c9
  have C10 := hid c10
  have C11 := hid c11
  clear c1 c2 c3 c4 c5 c6 c7 c8 c9 c10 c11 hT hk ho hs
  go_enter Tryd.func3, Tryd.ntmps3
  go_wp2_with fail
  refine CH.out.mono ?_
  rintro e w1 ⟨rfl, hb1⟩
  go_wp2_with fail
  refine (C1.out _ (HT.out.below hb1).wts).mono ?_
  rintro e w2 ⟨rfl, hb'⟩
  have hb2 := hb1.trans (hb'.mono hb1.size)
  clear hb'
  go_wp2_with fail
  refine (C2.out _).mono ?_
  rintro e w3 ⟨rfl, hb'⟩
  have hb3 := hb2.trans (hb'.mono hb2.size)
  clear hb'
  go_wp2_with fail
  refine (C3.out _ (HT.out.below hb3)).mono ?_
  rintro e w4 ⟨rfl, hb'⟩
  have hb4 := hb3.trans (hb'.mono hb3.size)
  clear hb'
  go_wp2_with fail
  refine (C4.out _).mono ?_
  rintro e w5 ⟨rfl, hb'⟩
  have hb5 := hb4.trans (hb'.mono hb4.size)
  clear hb'
  go_wp2_with fail
  refine (C5.out _ (HT.out.below hb5).wts).mono ?_
  rintro e w6 ⟨rfl, hb'⟩
  have hb6 := hb5.trans (hb'.mono hb5.size)
  clear hb'
  go_wp2_with fail
  refine (C6.out _).mono ?_
  rintro e w7 ⟨rfl, hb'⟩
  have hb7 := hb6.trans (hb'.mono hb6.size)
  clear hb'
  go_wp2_with fail
  refine (C7.out _ (HT.out.below hb7).wts).mono ?_
  rintro e w8 ⟨rfl, hb'⟩
  have hb8 := hb7.trans (hb'.mono hb7.size)
  clear hb'
  go_wp2_with fail
  refine (C8.out _).mono ?_
  rintro e w9 ⟨rfl, hb'⟩
  have hb9 := hb8.trans (hb'.mono hb8.size)
  clear hb'
  go_wp2_with fail
  refine (C9.out _ (HT.out.below hb9).wts).mono ?_
  rintro e w10 ⟨va, rfl, hoa, hb'⟩
  have hb10 := hb9.trans (hb'.mono hb9.size)
  have hra := hid (reads_of_own hoa)
  clear hoa
  clear hb'
  go_wp2_with fail
  refine (C10.out _).mono ?_
  rintro e w11 ⟨vb, rfl, hH⟩
  have hrb := hid (reads_of_own hH.2.1)
  have hb' := hH.2.2
  have hra2 := hid (hra.out.on hb')
  have hb11 := hb10.trans (hb'.mono hb10.size)
  clear hb' hH
  go_wp2_with fail
  refine (C11.out _ _ _ hra2.out hrb.out).mono ?_
  rintro e w12 ⟨rfl, hb'⟩
  have hb12 := hb11.trans (hb'.mono hb11.size)
  clear hb'
  go_wp2
  go_ret
  exact ⟨rfl, hb12⟩

end Id1
end Go.Proofs.YtbgniplhlnipoaaDoor
