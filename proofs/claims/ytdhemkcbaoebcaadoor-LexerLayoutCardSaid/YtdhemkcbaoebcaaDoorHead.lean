/-
  The contract of head: the fixed examples.
-/
import Derived.Test.YtdhemkcbaoebcaaDoorRd
import Derived.KernelRfl
namespace Go.Proofs.YtdhemkcbaoebcaaDoor
open Go.RowKit
namespace Lx

theorem ex_0 : lexR (⟨#[108, 105, 110, 101, 32, 108, 49, 58, 32, 97, 32, 45, 62, 32, 98, 50, 59]⟩ : ByteArray).data.toList = ([⟨1, [108, 105, 110, 101], 0⟩, ⟨1, [108, 49], 5⟩, ⟨3, [58], 7⟩, ⟨1, [97], 9⟩, ⟨3, [45, 62], 11⟩, ⟨1, [98, 50], 14⟩, ⟨3, [59], 16⟩], 0, -1) := by kernel_rfl
theorem ex_1 : lexR (⟨#[34, 77, 97, 105, 110, 32, 83, 116, 46, 34, 32, 48, 48, 52, 50, 32, 49, 65, 32, 37, 32, 120]⟩ : ByteArray).data.toList = ([⟨4, [77, 97, 105, 110, 32, 83, 116, 46], 0⟩, ⟨2, [48, 48, 52, 50], 11⟩, ⟨1, [49, 65], 16⟩], 0, -1) := by kernel_rfl
theorem ex_2 : lexR (⟨#[120, 32, 49, 50, 51, 52, 53, 54, 55, 56, 57]⟩ : ByteArray).data.toList = ([], 30, 2) := by kernel_rfl
theorem ex_3 : lexR (⟨#[97, 32, 45, 32, 62, 32, 98, 32, 95, 99]⟩ : ByteArray).data.toList = ([], 30, 4) := by kernel_rfl
theorem ex_4 : lexR (⟨#[40, 34, 97]⟩ : ByteArray).data.toList = ([], 30, 1) := by kernel_rfl

set_option maxRecDepth 100000 in
set_option maxHeartbeats 8000000 in
theorem head_any (w : World) (hT : Syms w) :
    Calls Tryd.prog 10 #[] w fun e w' => e = .returned (.bool true) ∧ Below w.heap.size w w' := by
  have HT := hid hT
  clear hT
  have C0 := hid (fun u (h : Syms u) => lex_c ⟨#[108, 105, 110, 101, 32, 108, 49, 58, 32, 97, 32, 45, 62, 32, 98, 50, 59]⟩ u (by unfold maxLen; decide) h ex_0)
  have C1 := hid (fun u (h : Syms u) => lex_c ⟨#[34, 77, 97, 105, 110, 32, 83, 116, 46, 34, 32, 48, 48, 52, 50, 32, 49, 65, 32, 37, 32, 120]⟩ u (by unfold maxLen; decide) h ex_1)
  have C2 := hid (fun u (h : Syms u) => lex_c ⟨#[120, 32, 49, 50, 51, 52, 53, 54, 55, 56, 57]⟩ u (by unfold maxLen; decide) h ex_2)
  have C3 := hid (fun u (h : Syms u) => lex_c ⟨#[97, 32, 45, 32, 62, 32, 98, 32, 95, 99]⟩ u (by unfold maxLen; decide) h ex_3)
  have C4 := hid (fun u (h : Syms u) => lex_c ⟨#[40, 34, 97]⟩ u (by unfold maxLen; decide) h ex_4)
  go_enter Tryd.func10, Tryd.ntmps10
  go_wp2_with fail
  refine (C0.out _ HT.out).mono ?_
  rintro e w1 ⟨p0, cap0, rfl, hr0, hb'⟩
  have hb1 := hb'
  clear hb'
  go_wp2_with fail
  refine (C1.out _ (HT.out.below hb1)).mono ?_
  rintro e w2 ⟨p1, cap1, rfl, hr1, hb'⟩
  have hb2 := bt hb1 hb'
  have hr0 := hid (hr0.out.on hb')
  clear hb'
  go_wp2_with fail
  refine (C2.out _ (HT.out.below hb2)).mono ?_
  rintro e w3 ⟨p2, cap2, rfl, hr2, hb'⟩
  have hb3 := bt hb2 hb'
  have hr0 := hid (hr0.out.on hb')
  have hr1 := hid (hr1.out.on hb')
  clear hb'
  go_wp2_with fail
  refine (C3.out _ (HT.out.below hb3)).mono ?_
  rintro e w4 ⟨p3, cap3, rfl, hr3, hb'⟩
  have hb4 := bt hb3 hb'
  have hr0 := hid (hr0.out.on hb')
  have hr1 := hid (hr1.out.on hb')
  clear hb'
  go_wp2_with fail
  refine (C4.out _ (HT.out.below hb4)).mono ?_
  rintro e w5 ⟨p4, cap4, rfl, hr4, hb'⟩
  have hb5 := bt hb4 hb'
  have hr0 := hid (hr0.out.on hb')
  have hr1 := hid (hr1.out.on hb')
  clear hb'
  obtain ⟨g0, rfl, hg0, a0, a1, a2⟩ := hr0.out.at (i := 1) (by decide)
  obtain ⟨g0', hp, -, a3, a4, a5⟩ := hr0.out.at (i := 4) (by decide)
  cases hp
  obtain ⟨g0', hp, -, a6, a7, a8⟩ := hr0.out.at (i := 6) (by decide)
  cases hp
  obtain ⟨g1, rfl, hg1, b0, b1, b2⟩ := hr1.out.at (i := 0) (by decide)
  obtain ⟨g1', hp, -, b3, b4, b5⟩ := hr1.out.at (i := 1) (by decide)
  cases hp
  obtain ⟨g1', hp, -, b6, b7, b8⟩ := hr1.out.at (i := 2) (by decide)
  cases hp
  simp at a0 a1 a2 a3 a4 a5 a6 a7 a8 b0 b1 b2 b3 b4 b5 b6 b7 b8
  go_wp2
  go_ret
  exact ⟨rfl, hb5⟩

end Lx
end Go.Proofs.YtdhemkcbaoebcaaDoor
