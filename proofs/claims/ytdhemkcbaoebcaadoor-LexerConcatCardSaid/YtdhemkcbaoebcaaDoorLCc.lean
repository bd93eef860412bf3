/-
  The walk of LexerConcat.
-/
import Derived.Test.YtdhemkcbaoebcaaDoorLPr
import Derived.Test.YtdhemkcbaoebcaaDoorLFe
namespace Go.Proofs.YtdhemkcbaoebcaaDoor
open Go.RowKit
namespace Lx

/-- The box of the token that is asked for. -/
theorem box3 {w w1 : World} {x y z : Value} {t : TypeId} (h : w1.heap[w.heap.size]? = some (.cells #[x, y, z] t (0, 0))) :
    w1.cell? ⟨w.heap.size, 0, none⟩ = some x ∧ w1.cell? ⟨w.heap.size, 1, none⟩ = some y ∧ w1.cell? ⟨w.heap.size, 2, none⟩ = some z := by
  simp [World.cell?, h]
theorem reads_len {w : World} {p : Option Addr} {n cap : Nat} {ts : List Tk} (h : Reads w (.slice p n cap) ts) : n = ts.length := by
  obtain ⟨p', cap', hv, -⟩ := h
  cases hv; rfl

theorem cc_at {xs ts zs : List Tk} {d n : Nat} (hd : d = n) (hzs : zs = xs ++ ts.map (moved (d + 1))) (i : Nat) (h : i < zs.length) :
    (i < xs.length → ∀ h' : i < xs.length, zs[i] = xs[i]) ∧ (xs.length ≤ i → ∀ h' : i - xs.length < ts.length, zs[i] = moved (n + 1) ts[i - xs.length]) := by
  subst hd
  subst hzs
  refine ⟨fun _ h' => List.getElem_append_left h', fun hge h' => ?_⟩
  rw [List.getElem_append_right hge, List.getElem_map]

set_option maxRecDepth 100000 in
set_option maxHeartbeats 16000000 in
theorem lawCc_any (s t : ByteArray) (w : World) (hs : s.size ≤ maxLen) (ht : t.size ≤ maxLen) (hT : Syms w) :
    Calls Tryd.prog 7 #[.string s, .string t] w fun e w' => e = .returned (.bool true) ∧ Below w.heap.size w w' := by
  have CH := hid (head_any w hT)
  have HT := hid hT
  clear hT
  by_cases h4 : 4000 < s.size
  · unfold maxLen at hs ht
    go_enter Tryd.func7, Tryd.ntmps7
    go_wp2_with fail
    refine CH.out.mono ?_
    rintro e w1 ⟨rfl, hb1⟩
    go_wp2
    go_ret
    exact ⟨rfl, hb1⟩
  · by_cases h39 : 3999 < t.size
    · unfold maxLen at hs ht
      go_enter Tryd.func7, Tryd.ntmps7
      go_wp2_with fail
      refine CH.out.mono ?_
      rintro e w1 ⟨rfl, hb1⟩
      go_wp2
      go_ret
      exact ⟨rfl, hb1⟩
    · have HS := hid hs
      have HTs := hid ht
      have u1 : decide (4000 < (s.size : Int)) = false := by rw [decide_eq_false_iff_not]; omega
      have u2 : decide (3999 < (t.size : Int)) = false := by rw [decide_eq_false_iff_not]; omega
      have hsl : s.data.toList.length ≤ 8000 := by rw [s_len]; omega
      have htl : t.data.toList.length ≤ 8000 := by rw [s_len]; omega
      have hol : (s ++ (⟨#[10]⟩ : ByteArray) ++ t).data.toList = s.data.toList ++ 10 :: t.data.toList := app_list s t
      have holl : (s.data.toList ++ 10 :: t.data.toList).length ≤ 8000 := by rw [List.length_append, List.length_cons, s_len, s_len]; omega
      have hoz : (s ++ (⟨#[10]⟩ : ByteArray) ++ t).size ≤ maxLen := by
        have := congrArg List.length hol
        rw [s_len] at this
        rw [this]; unfold maxLen; omega
      have hc1 : ¬ 9223372036854775807 < s.size + 1 := by omega
      have hc2 : ¬ 9223372036854775807 < s.size + 1 + t.size := by omega
      have hs4 : s.size ≤ 4000 := by omega
      have ht4 : t.size ≤ 3999 := by omega
      obtain ⟨ts, tx, ty, hRt⟩ : ∃ (ts : List Tk) (x y : Int), lexR t.data.toList = (ts, x, y) := ⟨_, _, _, rfl⟩
      have CT := hid (fun u (h : Syms u) => lex_c t u HTs.out h hRt)
      rcases lexR_ways s.data.toList with ⟨hl, -⟩ | ⟨-, h0, hR⟩ | ⟨-, er, j, he, hj, h10, h0, hR⟩
      · omega
      · have hxs : lexL s.data.toList 0 0 = ((lexL s.data.toList 0 0).1, 0, -1) := by rw [← h0]
        obtain ⟨xs, hxe⟩ : ∃ xs, xs = (lexL s.data.toList 0 0).1 := ⟨_, rfl⟩
        rw [← hxe] at hxs
        have hRs := hR.trans hxs
        have CS := hid (fun u (h : Syms u) => lex_c s u HS.out h hRs)
        by_cases htx : tx = 0
        · -- both are without error
          have hLt : lexL t.data.toList 0 0 = (ts, 0, -1) ∧ ty = -1 := by
            rcases lexR_ways t.data.toList with ⟨hl, -⟩ | ⟨-, g0, gR⟩ | ⟨-, er, j, he, hj, h10, g0, gR⟩
            · omega
            · have e1 : lexL t.data.toList 0 0 = ((lexL t.data.toList 0 0).1, 0, -1) := by rw [← g0]
              rw [gR, e1] at hRt
              cases hRt
              exact ⟨e1, rfl⟩
            · rw [gR] at hRt; cases hRt; omega
          obtain ⟨hLt, rfl⟩ := hLt
          subst htx
          have hnx := (lex_count s.data.toList 0 0).1 (by omega)
          have hnt := (lex_count t.data.toList 0 0).1 (by omega)
          rw [hxs] at hnx
          rw [hLt] at hnt
          simp only [Nat.zero_add] at hnx hnt
          by_cases h3 : 3000 < xs.length + ts.length
          · obtain ⟨pp, hRo⟩ := cc_many hxs hLt holl h3
            rw [← hol] at hRo
            have CO := hid (fun u (h : Syms u) => lex_c (s ++ (⟨#[10]⟩ : ByteArray) ++ t) u hoz h hRo)
            have u3 : decide (3000 < (xs.length : Int) + (ts.length : Int)) = true := by rw [decide_eq_true_eq]; omega
            clear hR h0 hxs hxe hRs hLt hRo hol holl hoz hsl htl hRt h3 h4 h39 hs ht
            go_enter Tryd.func7, Tryd.ntmps7
            go_wp2_with fail
            refine CH.out.mono ?_
            rintro e w1 ⟨rfl, hb1⟩
            go_wp2_with fail
            refine (CS.out _ (HT.out.below hb1)).mono ?_
            rintro e w2 ⟨p, cap, rfl, hr, hb'⟩
            have hb2 := bt hb1 hb'
            clear hb' hr
            go_wp2_with fail
            refine (CT.out _ (HT.out.below hb2)).mono ?_
            rintro e w3 ⟨p3, cap3, rfl, hr, hb'⟩
            have hb3 := bt hb2 hb'
            clear hb' hr
            go_wp2_with fail
            with_reducible refine (CO.out _ (HT.out.below hb3)).mono ?_
            rintro e w4 ⟨p4, cap4, rfl, hr, hb'⟩
            have hb4 := bt hb3 hb'
            clear hb' hr
            go_wp2
            go_ret
            exact ⟨rfl, hb4⟩
          · have hRo := cc_ok hxs hLt holl (by omega)
            rw [← hol] at hRo
            have CO := hid (fun u (h : Syms u) => lex_c (s ++ (⟨#[10]⟩ : ByteArray) ++ t) u hoz h hRo)
            have hml : (xs ++ ts.map (moved (s.data.toList.length + 1))).length = xs.length + ts.length := by rw [List.length_append, List.length_map]
            obtain ⟨zs, hzs⟩ : ∃ zs, zs = xs ++ ts.map (moved (s.data.toList.length + 1)) := ⟨_, rfl⟩
            rw [← hzs] at CO hml
            have HZ := hid (fun i h => cc_at (n := s.size) (by rw [s_len]) hzs i h)
            have HCt : Hid (∀ m (h : m < ts.length), ts[m].p ≤ 8000) := fun m h => by
              have hcov := cov_top (l := t.data.toList) (by rw [hLt])
              rw [hLt] at hcov
              have := (cov_end t.data.toList ts 0 hcov m h).1
              rw [s_len] at this; omega
            have u3 : decide (3000 < (xs.length : Int) + (ts.length : Int)) = false := by rw [decide_eq_false_iff_not]; omega
            have h3b : xs.length + ts.length ≤ 3000 := by omega
            clear hR h0 hxs hxe hRs hLt hRo hol holl hoz hsl htl hRt h3 h4 h39 hs ht hzs
            have HML := hid hml
            have u4 : ((zs.length : Int) != (xs.length : Int) + (ts.length : Int)) = false := by rw [bne_eq_false_iff_eq]; omega
            clear hml
            go_enter Tryd.func7, Tryd.ntmps7
            go_wp2_with fail
            refine CH.out.mono ?_
            rintro e w1 ⟨rfl, hb1⟩
            go_wp2_with fail
            refine (CS.out _ (HT.out.below hb1)).mono ?_
            rintro e w2 ⟨p, cap, rfl, hr, hb'⟩
            have hb2 := bt hb1 hb'
            clear hb'
            go_wp2_with fail
            refine (CT.out _ (HT.out.below hb2)).mono ?_
            rintro e w3 ⟨p3, cap3, rfl, hr3, hb'⟩
            have hb3 := bt hb2 hb'
            have hr := hid (hr.out.on hb')
            clear hb'
            go_wp2_with fail
            with_reducible refine (CO.out _ (HT.out.below hb3)).mono ?_
            rintro e w4 ⟨p4, cap4, rfl, hr4, hb'⟩
            have hb4 := bt hb3 hb'
            have hr := hid (hr.out.on hb')
            have hr3 := hid (hr3.out.on hb')
            clear hb'
            go_wp2
            clear u3 u4
            go_loopw [15] (fun i wr => ∃ k : Nat, k ≤ zs.length ∧ i = .int .i64 k ∧ Below w4.heap.size w4 wr) (fun i _ => zs.length - (intOf i).toNat)
            case atStart => exact ⟨0, by omega, rfl, Below.refl _ _⟩
            case round =>
              obtain ⟨k, hk, rfl, hbr⟩ := hrel
              by_cases hlt : k < zs.length
              · have hml := HML.out
                obtain ⟨g4, rfl, hg4, c0, c1, c2⟩ := hr4.out.at hlt
                obtain ⟨HZ1, HZ2⟩ := HZ.out k hlt
                have e0 := (hbr.cell (p := (⟨g4, k * 3, none⟩ : Addr)) hg4).trans c0
                have e1 := (hbr.cell (p := (⟨g4, k * 3 + 1, none⟩ : Addr)) hg4).trans c1
                have e2 := (hbr.cell (p := (⟨g4, k * 3 + 2, none⟩ : Addr)) hg4).trans c2
                clear c0 c1 c2
                have hg4r : g4 < wr.heap.size := Nat.lt_of_lt_of_le hg4 hbr.size
                have hi0 : 0 ≤ (k : Int) := by omega
                have hi1 : (k : Int) < (zs.length : Int) := by omega
                by_cases hkx : k < xs.length
                · obtain ⟨g, rfl, hg, c0, c1, c2⟩ := hr.out.at hkx
                  rw [HZ1 hkx hkx] at e0 e1 e2
                  have f0 := (hbr.cell (p := (⟨g, k * 3, none⟩ : Addr)) hg).trans c0
                  have f1 := (hbr.cell (p := (⟨g, k * 3 + 1, none⟩ : Addr)) hg).trans c1
                  have f2 := (hbr.cell (p := (⟨g, k * 3 + 2, none⟩ : Addr)) hg).trans c2
                  have hgr : g < wr.heap.size := Nat.lt_of_lt_of_le hg hbr.size
                  obtain ⟨X, hX⟩ : ∃ X : ByteArray, X = ⟨(xs[k].t).toArray⟩ := ⟨_, rfl⟩
                  obtain ⟨P, hP⟩ : ∃ P : Int, P = (xs[k].p : Int) := ⟨_, rfl⟩
                  obtain ⟨K, hK⟩ : ∃ K : Int, K = (xs[k].k : Int) := ⟨_, rfl⟩
                  rw [← hX] at e1 f1
                  rw [← hP] at e2 f2
                  rw [← hK] at e0 f0
                  have hkx1 : (k : Int) < (xs.length : Int) := by omega
                  clear hX hP hK c0 c1 c2 HZ1 HZ2 hml
                  have hbb := b0 wr (.cells #[.int .i64 K, .string X, .int .i64 P] 31)
                  have e0 := (hbb.cell (p := (⟨g4, k * 3, none⟩ : Addr)) hg4r).trans e0
                  have e1 := (hbb.cell (p := (⟨g4, k * 3 + 1, none⟩ : Addr)) hg4r).trans e1
                  have e2 := (hbb.cell (p := (⟨g4, k * 3 + 2, none⟩ : Addr)) hg4r).trans e2
                  have hb5 := hbr.trans (hbb.mono hbr.size)
                  go_wp2
                  go_quiet (fail)
                  clear hbb e0 e1 e2 f0 f1 f2
                  go_wp2
                  go_roundw
                  case rel => exact ⟨k + 1, by omega, by go_num, below_drewN hb5 _⟩
                  case measure => simp [intOf]; omega
                · obtain ⟨m, hm⟩ : ∃ m, m = k - xs.length := ⟨_, rfl⟩
                  have hmt : m < ts.length := by omega
                  obtain ⟨g, rfl, hg, c0, c1, c2⟩ := hr3.out.at hmt
                  have hzm := HZ2 (by omega) (by omega)
                  simp only [← hm] at hzm
                  rw [hzm] at e0 e1 e2
                  have f0 := (hbr.cell (p := (⟨g, m * 3, none⟩ : Addr)) hg).trans c0
                  have f1 := (hbr.cell (p := (⟨g, m * 3 + 1, none⟩ : Addr)) hg).trans c1
                  have f2 := (hbr.cell (p := (⟨g, m * 3 + 2, none⟩ : Addr)) hg).trans c2
                  have hgr : g < wr.heap.size := Nat.lt_of_lt_of_le hg hbr.size
                  simp only [moved] at e0 e1 e2
                  obtain ⟨X, hX⟩ : ∃ X : ByteArray, X = ⟨(ts[m].t).toArray⟩ := ⟨_, rfl⟩
                  obtain ⟨P, hP⟩ : ∃ P : Int, P = (ts[m].p : Int) := ⟨_, rfl⟩
                  obtain ⟨K, hK⟩ : ∃ K : Int, K = (ts[m].k : Int) := ⟨_, rfl⟩
                  have hPb : 0 ≤ P ∧ P ≤ 8000 := by have := HCt.out m hmt; omega
                  rw [show ((ts[m].p + (s.size + 1) : Nat) : Int) = P + (s.size : Int) + 1 by omega] at e2
                  rw [← hX] at e1 f1
                  rw [← hP] at f2
                  rw [← hK] at e0 f0
                  have hkx1 : (xs.length : Int) ≤ (k : Int) := by omega
                  have hwm : IntKind.i64.wrap ((k : Int) - (xs.length : Int)) = (m : Int) := by rw [IntWalk.i64_in _ (by omega)]; omega
                  have hwm2 : (k : Int) - (xs.length : Int) = (m : Int) := by omega
                  have hm0 : 0 ≤ (m : Int) := by omega
                  have hk3 : k ≤ 3000 := by omega
                  have hm1 : (m : Int) < (ts.length : Int) := by omega
                  obtain ⟨hP0, hP1⟩ := hPb
                  clear hX hP hK c0 c1 c2 HZ1 HZ2 hml hzm hm
                  have hbb := b0 wr (.cells #[.int .i64 K, .string X, .int .i64 (P + (s.size : Int) + 1)] 31)
                  have e0 := (hbb.cell (p := (⟨g4, k * 3, none⟩ : Addr)) hg4r).trans e0
                  have e1 := (hbb.cell (p := (⟨g4, k * 3 + 1, none⟩ : Addr)) hg4r).trans e1
                  have e2 := (hbb.cell (p := (⟨g4, k * 3 + 2, none⟩ : Addr)) hg4r).trans e2
                  have hb5 := hbr.trans (hbb.mono hbr.size)
                  go_wp2
                  go_quiet (fail)
                  clear hbb e0 e1 e2 f0 f1 f2 hwm hwm2
                  go_wp2
                  go_roundw
                  case rel => exact ⟨k + 1, by omega, by go_num, below_drewN hb5 _⟩
                  case measure => simp [intOf]; omega
              · go_wp2
                go_ret
                exact ⟨rfl, bt hb4 hbr⟩
        · -- the second one has an error
          have e1 : ((tx : Int) != 0) = true := by simp [htx]
          clear hR h0 hxs hxe hRs hol holl hsl htl hRt h4 h39 hs ht
          have CO := hid (fun u (h : Syms u) => lex_c (s ++ (⟨#[10]⟩ : ByteArray) ++ t) u hoz h (ts := (lexR (s ++ (⟨#[10]⟩ : ByteArray) ++ t).data.toList).1) (x := (lexR (s ++ (⟨#[10]⟩ : ByteArray) ++ t).data.toList).2.1) (y := (lexR (s ++ (⟨#[10]⟩ : ByteArray) ++ t).data.toList).2.2) rfl)
          obtain ⟨os, hos⟩ : ∃ r, r = lexR (s ++ (⟨#[10]⟩ : ByteArray) ++ t).data.toList := ⟨_, rfl⟩
          rw [← hos] at CO
          obtain ⟨o1, o2, o3⟩ := os
          simp only at CO
          clear hos hoz
          go_enter Tryd.func7, Tryd.ntmps7
          go_wp2_with fail
          refine CH.out.mono ?_
          rintro e w1 ⟨rfl, hb1⟩
          go_wp2_with fail
          refine (CS.out _ (HT.out.below hb1)).mono ?_
          rintro e w2 ⟨p, cap, rfl, hr, hb'⟩
          have hb2 := bt hb1 hb'
          clear hb' hr
          go_wp2_with fail
          refine (CT.out _ (HT.out.below hb2)).mono ?_
          rintro e w3 ⟨p3, cap3, rfl, hr, hb'⟩
          have hb3 := bt hb2 hb'
          clear hb' hr
          go_wp2_with fail
          with_reducible refine (CO.out _ (HT.out.below hb3)).mono ?_
          rintro e w4 ⟨p4, cap4, rfl, hr, hb'⟩
          have hb4 := bt hb3 hb'
          clear hb' hr
          go_wp2
          go_ret
          exact ⟨rfl, hb4⟩
      · have CS := hid (fun u (h : Syms u) => lex_c s u HS.out h hR)
        have hRo := cc_err (b := t.data.toList) hsl h0 he holl
        rw [← hol] at hRo
        have CO := hid (fun u (h : Syms u) => lex_c (s ++ (⟨#[10]⟩ : ByteArray) ++ t) u hoz h hRo)
        have e1 : ((er : Int) != 0) = true := by rw [bne_iff_ne]; omega
        clear hR h0 hRo hol holl hoz hsl htl hRt h4 h39 hs ht he h10 hj
        go_enter Tryd.func7, Tryd.ntmps7
        go_wp2_with fail
        refine CH.out.mono ?_
        rintro e w1 ⟨rfl, hb1⟩
        go_wp2_with fail
        refine (CS.out _ (HT.out.below hb1)).mono ?_
        rintro e w2 ⟨p, cap, rfl, hr, hb'⟩
        have hb2 := bt hb1 hb'
        clear hb' hr
        go_wp2_with fail
        refine (CT.out _ (HT.out.below hb2)).mono ?_
        rintro e w3 ⟨p3, cap3, rfl, hr, hb'⟩
        have hb3 := bt hb2 hb'
        clear hb' hr
        go_wp2_with fail
        with_reducible refine (CO.out _ (HT.out.below hb3)).mono ?_
        rintro e w4 ⟨p4, cap4, rfl, hr, hb'⟩
        have hb4 := bt hb3 hb'
        clear hb' hr
        go_wp2
        go_ret
        exact ⟨rfl, hb4⟩

end Lx
end Go.Proofs.YtdhemkcbaoebcaaDoor
