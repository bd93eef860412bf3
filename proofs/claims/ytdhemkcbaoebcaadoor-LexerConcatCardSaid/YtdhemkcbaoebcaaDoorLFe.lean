/-
  The walk of LexerFirstError.
-/
import Derived.Test.YtdhemkcbaoebcaaDoorLm
import Derived.Test.YtdhemkcbaoebcaaDoorHead
import Derived.Test.YtdhemkcbaoebcaaDoorR2
namespace Go.Proofs.YtdhemkcbaoebcaaDoor
open Go.RowKit
namespace Lx

theorem app_list (a b : ByteArray) : (a ++ (⟨#[10]⟩ : ByteArray) ++ b).data.toList = a.data.toList ++ 10 :: b.data.toList := by simp

set_option maxRecDepth 100000 in
set_option maxHeartbeats 8000000 in
theorem lawFe_any (s t : ByteArray) (w : World) (hs : s.size ≤ maxLen) (ht : t.size ≤ maxLen) (hT : Syms w) :
    Calls Tryd.prog 8 #[.string s, .string t] w fun e w' => e = .returned (.bool true) ∧ Below w.heap.size w w' := by
  have CH := hid (head_any w hT)
  have HT := hid hT
  clear hT
  by_cases h8 : 8000 < s.size
  · unfold maxLen at hs ht
    go_enter Tryd.func8, Tryd.ntmps8
    go_wp2_with fail
    refine CH.out.mono ?_
    rintro e w1 ⟨rfl, hb1⟩
    go_wp2
    go_ret
    exact ⟨rfl, hb1⟩
  · by_cases h60 : 60 < t.size
    · unfold maxLen at hs ht
      go_enter Tryd.func8, Tryd.ntmps8
      go_wp2_with fail
      refine CH.out.mono ?_
      rintro e w1 ⟨rfl, hb1⟩
      go_wp2
      go_ret
      exact ⟨rfl, hb1⟩
    · have HS := hid hs
      have hsl : s.data.toList.length ≤ 8000 := by rw [s_len]; omega
      have u1 : decide (8000 < (s.size : Int)) = false := by rw [decide_eq_false_iff_not]; omega
      have u2 : decide (60 < (t.size : Int)) = false := by rw [decide_eq_false_iff_not]; omega
      rcases lexR_ways s.data.toList with ⟨hl, -⟩ | ⟨-, h0, hR⟩ | ⟨-, er, j, he, hj, h10, h0, hR⟩
      · omega
      · have CL := hid (fun u (h : Syms u) => lex_c s u HS.out h (hR.trans (show lexL s.data.toList 0 0 = ((lexL s.data.toList 0 0).1, 0, -1) by rw [← h0])))
        clear hR h0 hs ht hsl h8 h60
        go_enter Tryd.func8, Tryd.ntmps8
        go_wp2_with fail
        refine CH.out.mono ?_
        rintro e w1 ⟨rfl, hb1⟩
        go_wp2_with fail
        refine (CL.out _ (HT.out.below hb1)).mono ?_
        rintro e w2 ⟨p, cap, rfl, hr, hb'⟩
        have hb2 := bt hb1 hb'
        clear hb'
        go_wp2
        go_ret
        exact ⟨rfl, hb2⟩
      · have CL := hid (fun u (h : Syms u) => lex_c s u HS.out h hR)
        have h1 := fe_take hsl he h0
        rw [← ex_take] at h1
        have CT := hid (fun u (h : Syms u) => lex_c (s.extract 0 j) u (Nat.le_trans (ex_size _ _ _) HS.out) h h1)
        have hjs : j < s.size := by rw [s_len] at hj; exact hj
        have H0 := hid h0
        have H10 := hid h10
        have HSL := hid hsl
        have v2 : decide ((s.size : Int) ≤ (j : Int)) = false := by rw [decide_eq_false_iff_not]; omega
        have hj0 : 0 ≤ (j : Int) := by omega
        have hj1 : (j : Int) ≤ (s.size : Int) := by omega
        have h8b : s.size ≤ 8000 := by omega
        have h60b : t.size ≤ 60 := by omega
        clear hR h0 h1 hsl h10 h8 h60 hj
        unfold maxLen at hs ht
        rcases he with rfl | rfl
        all_goals
          go_enter Tryd.func8, Tryd.ntmps8
          go_wp2_with fail
          refine CH.out.mono ?_
          rintro e w1 ⟨rfl, hb1⟩
          go_wp2_with fail
          refine (CL.out _ (HT.out.below hb1)).mono ?_
          rintro e w2 ⟨p, cap, rfl, hr, hb'⟩
          have hb2 := bt hb1 hb'
          clear hb' hr
          go_wp2_with fail
          refine (CT.out _ (HT.out.below hb2)).mono ?_
          rintro e w3 ⟨p3, cap3, rfl, hr, hb'⟩
          have hb3 := bt hb2 hb'
          clear hb' hr
          go_wp2
          go_loop [12] (fun i => ∃ k : Nat, j ≤ k ∧ k ≤ s.size ∧ i = .int .i64 k) (fun i => s.size - (intOf i).toNat)
          case atStart => exact ⟨j, Nat.le_refl _, by omega, rfl⟩
          case round =>
            obtain ⟨k, hjk, hk, rfl⟩ := hrel
            by_cases hgo : ∃ h : k < s.size, s[k].toNat ≠ 10
            · obtain ⟨hlt, hn⟩ := hgo
              have e10 : (((s[k].toNat : Nat) : Int) != 10) = true := by simp; omega
              clear hn
              go_wp2
              go_round
              case rel => exact ⟨k + 1, by omega, by omega, by go_num⟩
              case measure => simp [intOf]; omega
            · have hend : k = s.data.toList.length ∨ (s.data.toList.getD k 0).toNat = 10 := by
                rw [s_len]
                by_cases hlt : k < s.size
                · right
                  rw [← s_at s k hlt]
                  exact Classical.byContradiction fun h => hgo ⟨hlt, h⟩
                · left; omega
              have hjk2 : j < k := by
                rcases Nat.lt_or_ge j k with h | h
                · exact h
                · exfalso
                  obtain rfl : j = k := by omega
                  rcases hend with h2 | h2
                  · rw [s_len] at h2; omega
                  · exact H10.out h2
              have hol : (s.extract 0 k ++ (⟨#[10]⟩ : ByteArray) ++ t).data.toList = s.data.toList.take k ++ 10 :: t.data.toList := by rw [app_list, ex_take]
              have hoz : (s.extract 0 k ++ (⟨#[10]⟩ : ByteArray) ++ t).size = k + 1 + t.size := by
                have := congrArg List.length hol
                rw [s_len, List.length_append, List.length_take, List.length_cons, s_len, s_len] at this
                omega
              have HF : Hid (k + 1 + t.size ≤ 8000 → ∀ u, Syms u → Calls Tryd.prog 12 #[.string (s.extract 0 k ++ (⟨#[10]⟩ : ByteArray) ++ t)] u (LexC [] _ _ u)) := fun h8 u hu => by
                refine lex_c _ u (by unfold maxLen; omega) hu ?_
                rw [hol]
                refine fe_same (by first | exact .inl rfl | exact .inr rfl) H0.out hjk2 (by rw [s_len]; exact hk) hend _ ?_
                rw [← hol, s_len]; omega
              have hk0 : 0 ≤ (k : Int) := by omega
              have hk1 : (k : Int) ≤ (s.size : Int) := by omega
              have hc1 : ¬ 9223372036854775807 < k + 1 := by omega
              have hc2 : ¬ 9223372036854775807 < k + 1 + t.size := by omega
              have hstop : Hid (k < s.size → s.data.toList.getD k 0 = 10) := fun h => by
                rcases hend with h2 | h2
                · rw [s_len] at h2; omega
                · exact (byte_eq (n := 10) h2 (by omega)).trans rfl
              clear hol hoz hend hgo
              by_cases hlt : k < s.size
              · have e10 : (((s[k].toNat : Nat) : Int) != 10) = false := by
                  have := hstop.out hlt
                  rw [← s_at s k hlt] at this
                  rw [this]; rfl
                go_wp2_with fail
                · go_ret
                  exact ⟨rfl, hb3⟩
                · have hle : (k : Int) + 1 + (t.size : Int) ≤ 8000 := by assumption
                  with_reducible refine (HF.out (by omega) _ (HT.out.below hb3)).mono ?_
                  rintro e w4 ⟨p4, cap4, rfl, hr, hb'⟩
                  have hb4 := bt hb3 hb'
                  clear hb' hr
                  go_wp2
                  go_ret
                  exact ⟨rfl, hb4⟩
              · have hlt2 : (s.size : Int) ≤ (k : Int) := by omega
                go_wp2_with fail
                · go_ret
                  exact ⟨rfl, hb3⟩
                · have hle : (k : Int) + 1 + (t.size : Int) ≤ 8000 := by assumption
                  with_reducible refine (HF.out (by omega) _ (HT.out.below hb3)).mono ?_
                  rintro e w4 ⟨p4, cap4, rfl, hr, hb'⟩
                  have hb4 := bt hb3 hb'
                  clear hb' hr
                  go_wp2
                  go_ret
                  exact ⟨rfl, hb4⟩

end Lx
end Go.Proofs.YtdhemkcbaoebcaaDoor
