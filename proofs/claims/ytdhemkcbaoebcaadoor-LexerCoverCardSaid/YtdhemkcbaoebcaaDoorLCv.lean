/-
  The walk of LexerCover.
-/
import Derived.Test.YtdhemkcbaoebcaaDoorLPr
import Derived.Test.YtdhemkcbaoebcaaDoorR1
namespace Go.Proofs.YtdhemkcbaoebcaaDoor
open Go.RowKit
namespace Lx

theorem ex_mid (s : ByteArray) (a b : Nat) : (s.extract a b).data.toList = (s.data.toList.drop a).take (b - a) := Lib.extract_data s a b
theorem ba_eq {x y : ByteArray} (h : x.data.toList = y.data.toList) : x = y := by
  rw [ba_of h]
set_option maxRecDepth 100000 in
set_option maxHeartbeats 16000000 in
theorem lawCv_any (s : ByteArray) (w : World) (hs : s.size ≤ maxLen) (hT : Syms w) :
    Calls Tryd.prog 4 #[.string s] w fun e w' => e = .returned (.bool true) ∧ Below w.heap.size w w' := by
  have CH := hid (head_any w hT)
  have HT := hid hT
  have CM := small_any s
  clear hT
  by_cases h81 : s.size ≤ 8100
  · rw [decide_eq_true h81] at CM
    have CMh := hid CM
    clear CM
    have HS := hid hs
    have early : ∀ (E P : Int), lexR s.data.toList = ([], E, P) → E ≠ 0 → Calls Tryd.prog 4 #[.string s] w fun e w' => e = .returned (.bool true) ∧ Below w.heap.size w w' := by
      intro E P hR hE
      have CL := hid (fun u (h : Syms u) => lex_c s u HS.out h hR)
      have e1 : ((E : Int) != 0) = true := by simp [hE]
      clear hR hE
      go_enter Tryd.func4, Tryd.ntmps4
      go_wp2_with fail
      refine CH.out.mono ?_
      rintro e w1 ⟨rfl, hb1⟩
      go_wp2_with fail
      refine (CMh.out _).mono ?_
      rintro e w1' ⟨rfl, rfl⟩
      go_wp2_with fail
      refine (CL.out _ (HT.out.below hb1)).mono ?_
      rintro e w2 ⟨p, cap, rfl, hr, hb'⟩
      have hb2 := bt hb1 hb'
      clear hb' hr
      go_wp2
      go_ret
      exact ⟨rfl, hb2⟩
    rcases lexR_ways s.data.toList with ⟨-, hR⟩ | ⟨hsl, h0, hR⟩ | ⟨-, er, j, he, hj, h10, h0, hR⟩
    · exact early 2 8000 hR (by decide)
    · clear early
      obtain ⟨ts, hts⟩ : ∃ ts, ts = (lexL s.data.toList 0 0).1 := ⟨_, rfl⟩
      have hL : lexL s.data.toList 0 0 = (ts, 0, -1) := by rw [hts, ← h0]
      have hRR := hR.trans hL
      have hcnt := (lex_count s.data.toList 0 0).1 (by omega)
      rw [hL] at hcnt
      simp only at hcnt
      have hcov := cov_top (l := s.data.toList) (by rw [hL])
      rw [hL] at hcov
      have HC := hid hcov
      have CL := hid (fun u (h : Syms u) => lex_c s u HS.out h hRR)
      have hs8 : s.size ≤ 8000 := by rw [s_len] at hsl; exact hsl
      clear hR h0 hL hRR hts hcov hs hsl
      go_enter Tryd.func4, Tryd.ntmps4
      go_wp2_with fail
      refine CH.out.mono ?_
      rintro e w1 ⟨rfl, hb1⟩
      go_wp2_with fail
      refine (CMh.out _).mono ?_
      rintro e w1' ⟨rfl, rfl⟩
      go_wp2_with fail
      refine (CL.out _ (HT.out.below hb1)).mono ?_
      rintro e w2 ⟨p, cap, rfl, hr, hb'⟩
      have hb2 := bt hb1 hb'
      clear hb'
      go_wp2
      go_loopw [7, 8] (fun at_ i wr => ∃ (k a : Nat), k ≤ ts.length ∧ a ≤ s.size ∧ i = .int .i64 k ∧ at_ = .int .i64 a ∧ Hid (Cov s.data.toList a (ts.drop k)) ∧ Below w2.heap.size w2 wr) (fun _ i _ => ts.length - (intOf i).toNat)
      case atStart => exact ⟨0, 0, by omega, by omega, rfl, rfl, HC.out, Below.refl _ _⟩
      case round =>
        obtain ⟨k, a, hk, ha, rfl, rfl, hcv, hbr⟩ := hrel
        by_cases hlt : k < ts.length
        · obtain ⟨g, rfl, hg, c0, c1, c2⟩ := hr.out.at hlt
          have hcv1 := hcv.out
          rw [List.drop_eq_getElem_cons hlt] at hcv1
          unfold Cov at hcv1
          obtain ⟨v1, v2, v3, v4, v5, v6, v7, -, -, v10⟩ := hcv1
          obtain ⟨v12, -, -⟩ := kind_head (p := src ts[k]) (by rw [v5]; exact v6)
          have v13 := (kind_head (p := src ts[k]) (by rw [v5]; exact v6)).2.1
          rw [s_len] at v2
          obtain ⟨X, hX⟩ : ∃ X : ByteArray, X = ⟨(ts[k].t).toArray⟩ := ⟨_, rfl⟩
          have hXl : X.data.toList = ts[k].t := by rw [hX]
          have hZ := src_size hX
          have hZl : (srcS ts[k].k X).data.toList = src ts[k] := by rw [hX, srcS_list]
          have hXs : X.size ≤ 202 := by
            have h7 : (src ts[k]).length ≥ ts[k].t.length := by
              unfold src; split
              · simp; omega
              · exact Nat.le_refl _
            rw [← hXl, s_len] at h7
            omega
          have CSr := fun u => source_any ts[k].k ts[k].p X u (by omega)
          obtain ⟨j, hj⟩ : ∃ j, j = ts[k].p + (src ts[k]).length := ⟨_, rfl⟩
          obtain ⟨P, hP⟩ : ∃ P, P = ts[k].p := ⟨_, rfl⟩
          obtain ⟨K, hK⟩ : ∃ K, K = ts[k].k := ⟨_, rfl⟩
          obtain ⟨Z, hZe⟩ : ∃ Z, Z = srcS ts[k].k X := ⟨_, rfl⟩
          rw [← hZe] at hZ CSr hZl
          have hKi : kindS Z = X := by
            apply ba_eq
            rw [kindS_txt (by rw [hZl, v5]; exact v6), hZl, v5, v7, hXl]
          have CK := fun u => rkind_any Z u (by unfold maxLen; omega)
          rw [hZl, v5, hKi] at CK
          rw [← hX] at c1
          rw [← hP] at c2 CSr v1 v2 v3 v4 v10 hj
          rw [← hK] at c0 CSr CK
          have hEq : s.extract P j = Z := by
            apply ba_eq
            rw [ex_mid, hZl, show j - P = (src ts[k]).length by omega]
            exact v3
          have CG := fun u => gap_any (s.extract a P) u (Nat.le_trans (ex_size _ _ _) HS.out)
          rw [ex_mid, v4] at CG
          rw [← hj] at v10
          have HN := hid v10
          have CSh := hid CSr
          have CKh := hid CK
          have CGh := hid CG
          have hwr : IntKind.i64.wrap ((P : Int) + (Z.size : Int)) = (j : Int) := by rw [IntWalk.i64_in _ (by omega)]; omega
          have HSum : Hid ((P : Int) + (Z.size : Int) = (j : Int)) := by show _ = _; omega
          have hwq : IntKind.i64.wrap ((s.size : Int) - (P : Int)) = (s.size : Int) - (P : Int) := IntWalk.i64_in _ (by omega)
          have q1 : decide ((P : Int) < (a : Int)) = false := by rw [decide_eq_false_iff_not]; omega
          have q2 : ((Z.size : Int) == 0) = false := by rw [beq_eq_false_iff_ne]; omega
          have q3 : decide ((s.size : Int) - (P : Int) < (Z.size : Int)) = false := by rw [decide_eq_false_iff_not]; omega
          have b1 : 0 ≤ (P : Int) := by omega
          have b2 : (P : Int) ≤ (j : Int) := by omega
          have b3 : (j : Int) ≤ (s.size : Int) := by omega
          have b4 : 0 ≤ (a : Int) := by omega
          have b5 : (a : Int) ≤ (P : Int) := by omega
          have b6 : (P : Int) ≤ (s.size : Int) := by omega
          have b7 : P ≤ j := by omega
          have b8 : j ≤ s.size := by omega
          have b9 : a ≤ P := by omega
          have b10 : P ≤ s.size := by omega
          have e0 := (hbr.cell (p := (⟨g, k * 3, none⟩ : Addr)) hg).trans c0
          have e1 := (hbr.cell (p := (⟨g, k * 3 + 1, none⟩ : Addr)) hg).trans c1
          have e2 := (hbr.cell (p := (⟨g, k * 3 + 2, none⟩ : Addr)) hg).trans c2
          have hgr : g < wr.heap.size := Nat.lt_of_lt_of_le hg hbr.size
          have hi0 : 0 ≤ (k : Int) := by omega
          have hi1 : (k : Int) < (ts.length : Int) := by omega
          clear c0 c1 c2 v1 v2 v3 v4 v5 v6 v7 v10 v12 v13 hX hXl hZ hZl hXs CSr hj hP hK hZe hKi CK CG hcv
          go_wp2_with fail
          refine (CSh.out _).mono ?_
          rintro e w3 ⟨rfl, hb'⟩
          have f0 := (hb'.cell (p := (⟨g, k * 3, none⟩ : Addr)) hgr).trans e0
          have f1 := (hb'.cell (p := (⟨g, k * 3 + 1, none⟩ : Addr)) hgr).trans e1
          have f2 := (hb'.cell (p := (⟨g, k * 3 + 2, none⟩ : Addr)) hgr).trans e2
          have hg3 : g < w3.heap.size := Nat.lt_of_lt_of_le hgr hb'.size
          have hb3 := hbr.trans (hb'.mono hbr.size)
          clear hb' e0 e1 e2
          go_wp2
          go_quiet ((go_at_call 16; exact quiet_sym (CGh.out _)))
          clear hwr hwq q1 q2 q3 hEq
          go_wp2_with fail
          refine (CKh.out _).mono ?_
          rintro e w4 ⟨rfl, hb'⟩
          have h0 := (hb'.cell (p := (⟨g, k * 3, none⟩ : Addr)) hg3).trans f0
          have h1 := (hb'.cell (p := (⟨g, k * 3 + 1, none⟩ : Addr)) hg3).trans f1
          have h2 := (hb'.cell (p := (⟨g, k * 3 + 2, none⟩ : Addr)) hg3).trans f2
          have hb4 := bt (below_drewN hb3 nq) hb'
          clear hb' f0 f1 f2
          have hwr : (P : Int) + (Z.size : Int) = (j : Int) := HSum.out
          go_wp2
          go_roundw
          case rel => exact ⟨k + 1, j, by omega, by omega, by go_num, by go_num, HN, hb4⟩
          case measure => simp [intOf]; omega
        · have hka : ts.drop k = [] := List.drop_of_length_le (by omega)
          have hcv1 := hcv.out
          rw [hka] at hcv1
          have CG := fun u => gap_any (s.extract a s.size) u (Nat.le_trans (ex_size _ _ _) HS.out)
          rw [ex_drop, hcv1.2] at CG
          have CGh := hid CG
          have b4 : 0 ≤ (a : Int) := by omega
          have b5 : (a : Int) ≤ (s.size : Int) := by omega
          clear CG hcv1 hka hcv
          go_wp2_with fail
          refine (CGh.out _).mono ?_
          rintro e w' ⟨rfl, rfl⟩
          go_wp2
          go_ret
          exact ⟨rfl, bt hb2 hbr⟩
    · exact early er j hR (by omega)
  · rw [decide_eq_false h81] at CM
    have CMh := hid CM
    clear CM
    go_enter Tryd.func4, Tryd.ntmps4
    go_wp2_with fail
    refine CH.out.mono ?_
    rintro e w1 ⟨rfl, hb1⟩
    go_wp2_with fail
    refine (CMh.out _).mono ?_
    rintro e w1' ⟨rfl, rfl⟩
    go_wp2
    go_ret
    exact ⟨rfl, hb1⟩

end Lx
end Go.Proofs.YtdhemkcbaoebcaaDoor
