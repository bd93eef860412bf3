/-
  The walk of LexerMatchesReference.
-/
import Derived.Test.YtdhemkcbaoebcaaDoorR5
import Derived.Test.YtdhemkcbaoebcaaDoorR2
import Derived.Test.YtdhemkcbaoebcaaDoorHead
namespace Go.Proofs.YtdhemkcbaoebcaaDoor
open Go.RowKit
namespace Lx

theorem rlex_c (s : ByteArray) (w : World) (hs : s.size ≤ maxLen) {ts : List Tk} {x y : Int} (h : lexR s.data.toList = (ts, x, y)) : Calls Tryd.prog 13 #[.string s] w (LexC ts x y w) := by
  refine (rlex_any s w hs).mono ?_
  rintro e w' ⟨v, he, hr, hb⟩
  rw [h] at he hr
  have hrd := reads_of_own hr
  obtain ⟨p, cap, hv, -⟩ := id hrd
  simp only at hv he
  subst hv
  exact ⟨p, cap, he, hrd, hb⟩
theorem lexR_count (l : List UInt8) : (lexR l).1.length ≤ 3000 := by
  rcases lexR_ways l with ⟨-, hR⟩ | ⟨-, h0, hR⟩ | ⟨-, er, j, he, hj, h10, h0, hR⟩
  · rw [hR]; exact Nat.zero_le _
  · rw [hR]; have := (lex_count l 0 0).1 (by omega); omega
  · rw [hR]; exact Nat.zero_le _

set_option maxRecDepth 100000 in
set_option maxHeartbeats 8000000 in
theorem lawMr_any (s : ByteArray) (w : World) (hs : s.size ≤ maxLen) (hT : Syms w) :
    Calls Tryd.prog 3 #[.string s] w fun e w' => e = .returned (.bool true) ∧ Below w.heap.size w w' := by
  have CH := hid (head_any w hT)
  have HT := hid hT
  have CM := small_any s
  clear hT
  by_cases h81 : s.size ≤ 8100
  · rw [decide_eq_true h81] at CM
    have CMh := hid CM
    clear CM
    have hcnt := lexR_count s.data.toList
    obtain ⟨ts, x, y, hR⟩ : ∃ ts x y, lexR s.data.toList = (ts, x, y) := ⟨_, _, _, rfl⟩
    rw [hR] at hcnt
    simp only at hcnt
    have HS := hid hs
    have CL := hid (fun u (h : Syms u) => lex_c s u HS.out h hR)
    have CR := hid (fun u => rlex_c s u HS.out hR)
    clear hR hs
    go_enter Tryd.func3, Tryd.ntmps3
    go_wp2_with fail
    refine CH.out.mono ?_
    rintro e w1 ⟨rfl, hb1⟩
    go_wp2_with fail
    refine (CMh.out _).mono ?_
    rintro e w1' ⟨rfl, rfl⟩
    go_wp2_with fail
    refine (CL.out _ (HT.out.below hb1)).mono ?_
    rintro e w2 ⟨p, cap, rfl, hr, hb'⟩
    have hb2 := bt hb1 hb'
    clear hb'
    go_wp2_with fail
    refine (CR.out _).mono ?_
    rintro e w3 ⟨p3, cap3, rfl, hr3, hb'⟩
    have hb3 := bt hb2 hb'
    have hr := hid (hr.out.on hb')
    clear hb'
    have CSm := hid (same_any _ _ ts w3 hr.out hr3.out hcnt)
    clear hr hr3
    go_wp2_with fail
    refine CSm.out.mono ?_
    rintro e w5 ⟨rfl, hb'⟩
    have hb5 := bt hb3 hb'
    clear hb'
    go_wp2
    go_ret
    exact ⟨rfl, hb5⟩
  · rw [decide_eq_false h81] at CM
    have CMh := hid CM
    clear CM
    go_enter Tryd.func3, Tryd.ntmps3
    go_wp2_with fail
    refine CH.out.mono ?_
    rintro e w1 ⟨rfl, hb1⟩
    go_wp2_with fail
    refine (CMh.out _).mono ?_
    rintro e w1' ⟨rfl, rfl⟩
    go_wp2
    go_ret
    exact ⟨rfl, hb1⟩

end Lx
end Go.Proofs.YtdhemkcbaoebcaaDoor
