/-
  The walk of IdentMisread.
-/
import Derived.Test.YtbgniplhlnipoaaDoorNear
namespace Go.Proofs.YtbgniplhlnipoaaDoor
open Go.RowKit Go.Sort
namespace Id1

/-- What the law asks of a text in the list. -/
theorem mis_facts (s : ByteArray) (hsh : shapeB s.data.toList = true) (x : ByteArray) (hx : x.data.toList ∈ misL s.data.toList) :
    x.size = 13 ∧ validB x.data.toList = true ∧ (x.extract 0 2).toList = (s.extract 0 2).toList ∧ (x.extract 11 x.size).toList = (s.extract 11 s.size).toList ∧
      ∃ p, p < 11 ∧ ∀ j (h1 : j < x.size) (h2 : j < s.size), ((((x[j]'h1).toNat : Int) != ((s[j]'h2).toNat : Int)) = decide (j = p)) := by
  obtain ⟨h1, h2, h3, h4, p, h5, h6, h7⟩ := misL_mem hsh hx
  have h13 : x.size = 13 := by rw [Lib.size_eq]; exact h2
  refine ⟨h13, h1, ?_, ?_, p, h6, fun j i1 i2 => ?_⟩
  · rw [Lib.toList_data, Lib.toList_data, ex_take, ex_take, h3]
  · rw [Lib.toList_data, Lib.toList_data, Lib.extract_to_end, Lib.extract_to_end, h4]
  · have e := h7 j (by omega)
    rw [Lib.getD_at x j i1, Lib.getD_at s j i2]
    by_cases hj : j = p
    · have hne : ¬ x.data.toList.getD j 0 = s.data.toList.getD j 0 := fun h => (e.1 h) hj
      have hnn : ¬ (x.data.toList.getD j 0).toNat = (s.data.toList.getD j 0).toNat := fun h => hne (UInt8.toNat.inj h)
      rw [decide_eq_true hj]
      simp only [bne_iff_ne, ne_eq]
      omega
    · rw [e.2 hj, decide_eq_false hj]
      simp

set_option maxRecDepth 100000 in
set_option maxHeartbeats 16000000 in
theorem lawMis_any (s : ByteArray) (w : World) (hs : s.size ≤ maxLen) (hT : Tabs w) :
    Calls Tryd.prog 6 #[.string s] w fun e w' => e = .returned (.bool true) ∧ Below w.heap.size w w' := by
  have CH := hid (head_any w hT)
  have HT := hid hT
  by_cases ls : 40 < s.size
  · have lsd : decide ((40 : Int) < (s.size : Int)) = true := by simp; omega
    clear hT hs
    go_enter Tryd.func6, Tryd.ntmps6
    go_wp2_with fail
    refine CH.out.mono ?_
    rintro e w1 ⟨rfl, hb1⟩
    go_wp2
    go_ret
    exact ⟨rfl, hb1⟩
  have lsd : decide ((40 : Int) < (s.size : Int)) = false := by simp; omega
  have c1 := fun w (hw : Wts w) => misread_any s w hs hw
  have C2 := hid (fun w => rshape_any s w hs)
  have c3 := fun w (hw : Wts w) => valid_any s w hs hw
  have hXl := misL_len s.data.toList
  by_cases hsh : shapeB s.data.toList = true
  · rw [hsh] at C2
    obtain ⟨h13, -, -, -⟩ := shape_parts hsh
    have h13s : s.size = 13 := by rw [← h13]; simp
    have hs13 : 13 ≤ s.size := by omega
    have hs14 : s.size ≤ 13 := by omega
    have hF := fun x hx => mis_facts s hsh x hx
    have hBk := fun (hv : validB s.data.toList = true) x (hx : x ∈ misL s.data.toList) => misL_back hv hx
    obtain ⟨xs, hxs⟩ : ∃ xs, xs = misL s.data.toList := ⟨_, rfl⟩
    obtain ⟨bv, hbv⟩ : ∃ b, b = validB s.data.toList := ⟨_, rfl⟩
    have hLt : ∀ i (h : i + 1 < xs.length), xs[i] < xs[i + 1] := by rw [hxs]; exact misL_lt _
    rw [← hxs] at c1 hF hBk hXl
    rw [← hbv] at c3 hBk
    have C1 := hid c1
    have C3 := hid c3
    have HF := hid hF
    have HLt := hid hLt
    have HBk := hid hBk
    have CI := hid (fun v (l : List (List UInt8)) w (hr : Reads w v l) (hl : l.length ≤ 200) => in_any v l s w hr hl)
    clear c1 c3 hF hLt hBk hxs hbv h13s h13 hsh hT hs
    go_enter Tryd.func6, Tryd.ntmps6
    go_wp2_with fail
    refine CH.out.mono ?_
    rintro e w1 ⟨rfl, hb1⟩
    go_wp2_with fail
    refine (C1.out _ (HT.out.below hb1).wts).mono ?_
    rintro e wM ⟨v, rfl, hown, hbM'⟩
    have hbM := hb1.trans (hbM'.mono hb1.size)
    have hr := reads_of_own hown
    clear hown hbM'
    go_wp2_with fail
    refine (C2.out _).mono ?_
    rintro e w2 ⟨rfl, rfl⟩
    rcases hr with ⟨rfl, hnil⟩ | ⟨g, cap, rfl, hg, hc⟩
    · clear hnil
      go_wp2
      go_rounds 2
      go_ret
      exact ⟨rfl, hbM⟩
    have HCM := hid (fun k (h : k < xs.length) W (hW : Below wM.heap.size wM W) => (show W.cell? ⟨g, k, none⟩ = some (.string ⟨(xs[k]).toArray⟩) by rw [hW.cell (p := (⟨g, k, none⟩ : Addr)) hg]; exact hc k h))
    have HW := hid (fun W (hW : Below wM.heap.size wM W) => hbM.trans (hW.mono hbM.size))
    clear hc hbM
    go_wp2
    go_loopw [5] (fun i wr => ∃ k : Nat, k ≤ xs.length ∧ i = .int .i64 k ∧ Below wM.heap.size wM wr) (fun i _ => xs.length - (intOf i).toNat)
    case atStart => exact ⟨0, by omega, rfl, Below.refl _ _⟩
    case round =>
      obtain ⟨k, hk, rfl, hbr⟩ := hrel
      by_cases hlt : k < xs.length
      · obtain ⟨x, hx⟩ : ∃ x : ByteArray, x = ⟨(xs[k]).toArray⟩ := ⟨_, rfl⟩
        have hxl : x.data.toList = xs[k] := by rw [hx]
        have hxm : x.data.toList ∈ xs := by rw [hxl]; exact List.getElem_mem _
        obtain ⟨x13, xv, xa, xb, p, hp11, hpj⟩ := HF.out x hxm
        have HC1 := hid (fun W hW => (HCM.out k hlt W hW))
        rw [← hx] at HC1
        have hxz : x.size ≤ maxLen := by rw [x13]; unfold maxLen; omega
        have cv := fun (u : Near wM) => (valid_any x u.w hxz (HT.out.below (HW.out _ u.below)).wts).mono (fun e w' (h : _ ∧ _) => (show e = .returned (.bool true) ∧ ∃ u' : Near wM, w' = u'.w from ⟨by rw [h.1, xv], ⟨w', u.below.trans (h.2.mono u.below.size)⟩, rfl⟩))
        have CV := hid cv
        have hcx := fun (u : Near wM) => HC1.out u.w u.below
        have cm := fun W (hW : Wts W) => misread_any x W hxz hW
        have CM := hid cm
        have HPJ := hid hpj
        have hback := hid (fun (hv : bv = true) v w (hr : Reads w v (misL x.data.toList)) => (CI.out v _ w hr (Nat.le_trans (misL_len _) (by omega))).mono (fun e w' (h : _ ∧ _) => (show e = .returned (.bool true) ∧ w = w' from ⟨by rw [h.1, decide_eq_true (HBk.out hv x.data.toList hxm)], h.2⟩)))
        have x13e : ((x.size : Int) != 13) = false := by rw [x13]; rfl
        have x13a : 13 ≤ x.size := by omega
        have x13b : x.size ≤ 13 := by omega
        have x2 : 2 ≤ x.size := by omega
        have x11 : 11 ≤ x.size := by omega
        have s2 : 2 ≤ s.size := by omega
        have s11 : 11 ≤ s.size := by omega
        have hk0 : 0 ≤ (k : Int) := Int.natCast_nonneg _
        have hk1 : (k : Int) < (xs.length : Int) := by omega
        clear cv cm hpj xv hxz hxm x13
        by_cases hz : k = 0
        · have hzd : decide ((0 : Int) < (k : Int)) = false := by simp; omega
          have hzd2 : decide (0 < k) = false := by simp; omega
          have hzd3 : ¬ 0 < k := by omega
          clear hxl hx hz
          go_wp2
          refine wp_region_near (wM := wM) (by kernel_rfl) (by kernel_rfl) hbr ?_
          repeat (go_big_quiet_step ((go_at_call 16; exact CV.out _)))
          refine wpQuiet_nil ?_
          rintro _ ⟨u, rfl⟩
          clear hcx hzd hzd2 hzd3
          go_wp2
          obtain ⟨wo, hwo⟩ : ∃ wo, wo = u.w := ⟨_, rfl⟩
          rw [← hwo]
          have hbo : Below wM.heap.size wM wo := by rw [hwo]; exact u.below
          clear hwo
          go_loopw [6, 7] (fun a b wi => ∃ (j : Nat) (pl : Int), j ≤ 13 ∧ b = .int .i64 j ∧ a = .int .i64 pl ∧ 0 ≤ pl ∧ pl ≤ 13 ∧ Hid (pl = if p < j then 1 else 0) ∧ Below wM.heap.size wM wi) (fun _ b _ => 13 - (intOf b).toNat)
          case atStart => exact ⟨0, 0, by omega, rfl, rfl, by omega, by omega, by show (0 : Int) = _; rw [if_neg (by omega)], hbo⟩
          case round =>
            obtain ⟨j, pl, hj, rfl, rfl, hpl0, hpl1, hpl, hbi⟩ := hrel
            by_cases hjl : j < 13
            · have hjx : j < x.size := by omega
              have hjs : j < s.size := by omega
              have hne := HPJ.out j hjx hjs
              have hj0 : 0 ≤ (j : Int) := Int.natCast_nonneg _
              have hjx1 : (j : Int) < (x.size : Int) := by omega
              have hjs1 : (j : Int) < (s.size : Int) := by omega
              have hcc := HC1.out _ hbi
              by_cases hjp : j = p
              · rw [decide_eq_true hjp] at hne
                have hnx : pl + 1 = if p < j + 1 then 1 else 0 := by rw [hpl.out, if_neg (by omega), if_pos (by omega)]; rfl
                have hp1 : pl + 1 ≤ 13 := by rw [hnx]; split <;> omega
                have hp2 : 0 ≤ pl + 1 := by omega
                have HNX := hid hnx
                clear hnx hjp
                go_wp2
                go_quiet (fail)
                go_wp2
                go_roundw
                case rel => exact ⟨j + 1, pl + 1, by omega, by go_num, by go_num, hp2, hp1, HNX, below_drewN hbi _⟩
                case measure => simp [intOf]; omega
              · rw [decide_eq_false hjp] at hne
                have hnx : pl = if p < j + 1 then 1 else 0 := by
                  rw [hpl.out]
                  by_cases h : p < j
                  · rw [if_pos h, if_pos (by omega)]
                  · rw [if_neg h, if_neg (by omega)]
                have HNX := hid hnx
                clear hnx hjp
                go_wp2
                go_quiet (fail)
                go_wp2
                go_roundw
                case rel => exact ⟨j + 1, pl, by omega, by go_num, rfl, hpl0, hpl1, HNX, below_drewN hbi _⟩
                case measure => simp [intOf]; omega
            · have hpl2 : pl = 1 := by rw [hpl.out, if_pos (by omega)]
              have hj13 : j = 13 := by omega
              clear hpl hpl0 hpl1
              subst hpl2
              subst hj13
              go_wp2_with fail
              refine (C3.out _ (HT.out.below (HW.out _ hbi)).wts).mono ?_
              rintro e wv ⟨rfl, hbv'⟩
              have hbv := hbi.trans (hbv'.mono hbi.size)
              clear hbv'
              cases bv
              · go_wp2
                go_roundw
                case rel => exact ⟨k + 1, by omega, by go_num, hbv⟩
                case measure => simp [intOf]; omega
              · have hcv := HC1.out _ hbv
                have HIN := hid (hback.out rfl)
                go_wp2_with fail
                refine (CM.out _ (HT.out.below (HW.out _ hbv)).wts).mono ?_
                rintro e wm ⟨v', rfl, hown, hbm'⟩
                have hbm := hbv.trans (hbm'.mono hbv.size)
                have hrd := hid (reads_of_own hown)
                clear hown hbm'
                go_wp2_with fail
                refine (HIN.out _ _ hrd.out).mono ?_
                rintro e wn ⟨rfl, rfl⟩
                go_wp2
                go_roundw
                case rel => exact ⟨k + 1, by omega, by go_num, hbm⟩
                case measure => simp [intOf]; omega
        obtain ⟨m, hm⟩ : ∃ m, k = m + 1 := ⟨k - 1, by omega⟩
        have hml : m < xs.length := by omega
        have hmk : xs[m] < xs[k] := by
          subst hm
          exact HLt.out m hlt
        obtain ⟨y, hy⟩ : ∃ y : ByteArray, y = ⟨(xs[m]).toArray⟩ := ⟨_, rfl⟩
        have hbl : Op.bytesLess y.toList x.toList = true := by
          rw [bytesLess_eq, Lib.toList_data, Lib.toList_data, hx, hy]; simpa using hmk
        have HC2 := hid (fun W hW => (HCM.out m hml W hW))
        rw [← hy] at HC2
        have hcy := fun (u : Near wM) => HC2.out u.w u.below
        have hw1 : IntKind.i64.wrap ((k : Int) - 1) = (m : Int) := by rw [IntWalk.i64_in _ (by omega)]; omega
        have hm0 : 0 ≤ (m : Int) := Int.natCast_nonneg _
        have hm1 : (m : Int) < (xs.length : Int) := by omega
        have hzd : decide ((0 : Int) < (k : Int)) = true := by simp; omega
        have hzd2 : decide (0 < k) = true := by simp; omega
        have hzd3 : 0 < k := by omega
        clear hxl hx hz hy hmk hm
        go_wp2
        refine wp_region_near (wM := wM) (by kernel_rfl) (by kernel_rfl) hbr ?_
        repeat (go_big_quiet_step ((go_at_call 16; exact CV.out _)))
        refine wpQuiet_nil ?_
        rintro _ ⟨u, rfl⟩
        clear hcx hcy hzd hzd2 hzd3 hw1 hm0 hm1 hbl
        go_wp2
        obtain ⟨wo, hwo⟩ : ∃ wo, wo = u.w := ⟨_, rfl⟩
        rw [← hwo]
        have hbo : Below wM.heap.size wM wo := by rw [hwo]; exact u.below
        clear hwo
        go_loopw [6, 7] (fun a b wi => ∃ (j : Nat) (pl : Int), j ≤ 13 ∧ b = .int .i64 j ∧ a = .int .i64 pl ∧ 0 ≤ pl ∧ pl ≤ 13 ∧ Hid (pl = if p < j then 1 else 0) ∧ Below wM.heap.size wM wi) (fun _ b _ => 13 - (intOf b).toNat)
        case atStart => exact ⟨0, 0, by omega, rfl, rfl, by omega, by omega, by show (0 : Int) = _; rw [if_neg (by omega)], hbo⟩
        case round =>
          obtain ⟨j, pl, hj, rfl, rfl, hpl0, hpl1, hpl, hbi⟩ := hrel
          by_cases hjl : j < 13
          · have hjx : j < x.size := by omega
            have hjs : j < s.size := by omega
            have hne := HPJ.out j hjx hjs
            have hj0 : 0 ≤ (j : Int) := Int.natCast_nonneg _
            have hjx1 : (j : Int) < (x.size : Int) := by omega
            have hjs1 : (j : Int) < (s.size : Int) := by omega
            have hcc := HC1.out _ hbi
            by_cases hjp : j = p
            · rw [decide_eq_true hjp] at hne
              have hnx : pl + 1 = if p < j + 1 then 1 else 0 := by rw [hpl.out, if_neg (by omega), if_pos (by omega)]; rfl
              have hp1 : pl + 1 ≤ 13 := by rw [hnx]; split <;> omega
              have hp2 : 0 ≤ pl + 1 := by omega
              have HNX := hid hnx
              clear hnx hjp
              go_wp2
              go_quiet (fail)
              go_wp2
              go_roundw
              case rel => exact ⟨j + 1, pl + 1, by omega, by go_num, by go_num, hp2, hp1, HNX, below_drewN hbi _⟩
              case measure => simp [intOf]; omega
            · rw [decide_eq_false hjp] at hne
              have hnx : pl = if p < j + 1 then 1 else 0 := by
                rw [hpl.out]
                by_cases h : p < j
                · rw [if_pos h, if_pos (by omega)]
                · rw [if_neg h, if_neg (by omega)]
              have HNX := hid hnx
              clear hnx hjp
              go_wp2
              go_quiet (fail)
              go_wp2
              go_roundw
              case rel => exact ⟨j + 1, pl, by omega, by go_num, rfl, hpl0, hpl1, HNX, below_drewN hbi _⟩
              case measure => simp [intOf]; omega
          · have hpl2 : pl = 1 := by rw [hpl.out, if_pos (by omega)]
            have hj13 : j = 13 := by omega
            clear hpl hpl0 hpl1
            subst hpl2
            subst hj13
            go_wp2_with fail
            refine (C3.out _ (HT.out.below (HW.out _ hbi)).wts).mono ?_
            rintro e wv ⟨rfl, hbv'⟩
            have hbv := hbi.trans (hbv'.mono hbi.size)
            clear hbv'
            cases bv
            · go_wp2
              go_roundw
              case rel => exact ⟨k + 1, by omega, by go_num, hbv⟩
              case measure => simp [intOf]; omega
            · have hcv := HC1.out _ hbv
              have HIN := hid (hback.out rfl)
              go_wp2_with fail
              refine (CM.out _ (HT.out.below (HW.out _ hbv)).wts).mono ?_
              rintro e wm ⟨v', rfl, hown, hbm'⟩
              have hbm := hbv.trans (hbm'.mono hbv.size)
              have hrd := hid (reads_of_own hown)
              clear hown hbm'
              go_wp2_with fail
              refine (HIN.out _ _ hrd.out).mono ?_
              rintro e wn ⟨rfl, rfl⟩
              go_wp2
              go_roundw
              case rel => exact ⟨k + 1, by omega, by go_num, hbm⟩
              case measure => simp [intOf]; omega
      · go_wp2
        go_ret
        exact ⟨rfl, HW.out _ hbr⟩
  have hf : shapeB s.data.toList = false := by simpa using hsh
  rw [hf] at C2
  have hnil : misL s.data.toList = [] := by unfold misL; rw [if_neg hsh]
  rw [hnil] at c1
  have C1 := hid c1
  clear c1 c3 hXl hf hnil hsh hT hs
  go_enter Tryd.func6, Tryd.ntmps6
  go_wp2_with fail
  refine CH.out.mono ?_
  rintro e w1 ⟨rfl, hb1⟩
  go_wp2_with fail
  refine (C1.out _ (HT.out.below hb1).wts).mono ?_
  rintro e wM ⟨v, rfl, hown, hbM'⟩
  have hbM := hb1.trans (hbM'.mono hb1.size)
  obtain ⟨p0, cap, hv⟩ := (reads_of_own hown).form
  subst hv
  clear hown hbM'
  go_wp2_with fail
  refine (C2.out _).mono ?_
  rintro e w2 ⟨rfl, rfl⟩
  go_wp2
  go_ret
  exact ⟨rfl, hbM⟩

end Id1
end Go.Proofs.YtbgniplhlnipoaaDoor
