/-
  The contract of Parse: the walk.
-/
import Derived.Test.YtcaiejbnhjiflaaGreatDoorW12
namespace Go.Proofs.YtcaiejbnhjiflaaGreatDoor
open Go.RowKit Go.ChangeMaps
namespace Fm

set_option maxRecDepth 100000 in
set_option maxHeartbeats 16000000 in
theorem parse_any (name : W) (fs : List (List Pt)) (fv : Value) (lns : List W) (lv : Value) (w : World) (hF : IsPs w fv fs) (hL : IsW w lv lns) (hn : lns.length ≤ 1000) (hz : ∀ l ∈ lns, l.length ≤ 5000) {rs : List Ad} {x : Int} (h : parseR name fs lns = (rs, x)) :
    Calls Tryz.prog 12 #[.agg #[.string (sB name), fv], lv] w (ParsePost rs x w) := by
  have H := hid h
  obtain ⟨fA, fcap, fvs, hfv, hfS⟩ := id hF
  obtain ⟨lA, lcap, hlv, hlS⟩ := id hL
  subst hfv hlv
  have HF := hid hF
  have HLS := hid hlS
  have HZ := hid hz
  clear hF hL hfS hlS h hz
  obtain ⟨w1, hw1⟩ : ∃ w1, w1 = w.alloc (.cells #[.string (sB name), .slice fA fs.length fcap] 24) := ⟨_, rfl⟩
  have hb1 : Below w.heap.size w w1 := by rw [hw1]; exact b0 _ _
  have hsz1 : w.heap.size < w1.heap.size := by rw [hw1]; simp
  have c0 : w1.cell? ⟨w.heap.size, 0, none⟩ = some (.string (sB name)) := by rw [hw1]; simp
  have c1 : w1.cell? ⟨w.heap.size, 1, none⟩ = some (.slice fA fs.length fcap) := by rw [hw1]; simp
  have CV := hid (valid_any name fs (.slice fA fs.length fcap) w1 (HF.out.on hb1))
  have HB1 := hid hb1
  clear hb1
  cases hv : validB name fs
  · have hr : Hid (([], 1) = (rs, x)) := (parse_bad hv).symm.trans H.out
    rw [hv] at CV
    clear hv
    go_enter Tryz.func12, Tryz.ntmps12
    go_wp2_with fail
    rw [← hw1]
    clear hw1
    refine CV.out.mono ?_
    rintro e w2 ⟨rfl, hb2⟩
    have HB2 := hid hb2
    clear hb2
    go_wp2
    go_ret2
    have hr' := hr.out
    cases hr'
    exact ⟨_, rfl, IsA.nil _, bt HB1.out HB2.out⟩
  · have HV := hid hv
    rw [hv] at CV
    clear hv
    obtain ⟨i0, hi0, hz0, hz1, hz2⟩ := info_parts infoWs
    go_enter Tryz.func12, Tryz.ntmps12
    go_wp2_with fail
    rw [← hw1]
    clear hw1
    refine CV.out.mono ?_
    rintro e w2 ⟨rfl, hb2⟩
    have c1' := (hb2.cell (p := (⟨w.heap.size, 1, none⟩ : Addr)) hsz1).trans c1
    have HB2 := hid (bt HB1.out hb2)
    have hsz2 : w.heap.size < w2.heap.size := Nat.lt_of_lt_of_le hsz1 hb2.size
    clear hb2 c0 c1
    go_wp2_with fail
    go_loopw [6, 7, 17] (fun dv c i wr => ∃ k : Nat, k ≤ lns.length ∧ i = .int .i64 k ∧ c = .int .i64 ((cntW (lns.take k) : Nat) : Int) ∧ cntW (lns.take k) ≤ 40 ∧ (∃ vs, Hid (Div w2 lns k dv vs wr)) ∧ Hid (Below w2.heap.size w2 wr)) (fun _ _ i _ => lns.length - (intOf i).toNat)
    case atStart => exact ⟨0, Nat.zero_le _, rfl, rfl, by simp [cntW], ⟨[], Div.start _ _ _⟩, Below.refl _ _⟩
    case round =>
      obtain ⟨k, hk, rfl, rfl, hc40, ⟨vs, hD⟩, hB2⟩ := hrel
      have hB := hid (bt HB2.out hB2.out)
      by_cases hlt : k < lns.length
      · have hx : lns[k]? = some lns[k] := List.getElem?_eq_getElem hlt
        obtain ⟨l, hl⟩ : ∃ l, l = lns[k] := ⟨_, rfl⟩
        rw [← hl] at hx
        clear hl
        obtain ⟨g, o, rfl, hg, hcell⟩ := (HLS.out.on hB.out).at (k := k) (u := sV l) (by rw [List.getElem?_map, hx]; rfl)
        have HX := hid hx
        have hkk : (k : Int) < (lns.length : Int) := by omega
        have hk0 : 0 ≤ (k : Int) := by omega
        have CW := hid (words_any (sB l) wr (by rw [sB_size]; have := HZ.out l (List.mem_of_getElem? hx); omega))
        have hwn : (wordsL l).length ≤ 5000 := Nat.le_trans (words_len l) (HZ.out l (List.mem_of_getElem? hx))
        have hcs := cnt_snoc hx
        have HCS := hid hcs
        unfold sV at hcell
        clear hx hcs
        go_wp2_with fail
        refine CW.out.mono ?_
        rintro e w3 ⟨v, rfl, hown, hb3⟩
        rw [sB_list] at hown
        obtain ⟨vA, vcap, rfl, -⟩ := SlR.of_own hown
        have HU : Hid (OwnW w2 w3 (.slice vA (wordsL l).length vcap) (wordsL l)) := ownsRow_le' hown hB2.out.size
        have HD3 := hid (hD.out.on hb3)
        have hdo := HD3.out.1
        have HB3 := hid hb3
        have hw3 : w2.heap.size ≤ w3.heap.size := Nat.le_trans hB2.out.size hb3.size
        clear hown hb3
        have hwr := IntWalk.i64_in (((cntW (lns.take k) : Nat) : Int) + ((wordsL l).length : Int)) (by omega)
        by_cases h40 : 40 < cntW (lns.take k) + (wordsL l).length
        · have d40 : decide ((40 : Int) < ((cntW (lns.take k) : Nat) : Int) + ((wordsL l).length : Int)) = true := decide_eq_true (by omega)
          have hr : Hid (([], 2) = (rs, x)) := (parse_many HV.out (by have := cnt_take lns (k + 1); have := HCS.out; omega)).symm.trans H.out
          go_wp2
          go_ret2
          have hr' := hr.out
          cases hr'
          exact ⟨_, rfl, IsA.nil _, bt hB.out HB3.out⟩
        · have d40 : decide ((40 : Int) < ((cntW (lns.take k) : Nat) : Int) + ((wordsL l).length : Int)) = false := decide_eq_false (by omega)
          go_wp2_with (at_builtin; refine wpList_append_lies _ rfl (.tmp 29) (.tmp 31) 54 rfl w2.heap.size 25 i0 _ 1 24 Tryz.underlying54 hi0 hz0 hz1 hz2 rfl (by decide) u6 k vs rfl (hdo.alloc _) ⟨w3.heap.size, 0, none⟩ 1 1 [.slice vA (wordsL l).length vcap] rfl rfl (cell_one_new w3 _ _) (by simp [Value.oneCell']) (by omega) (by unfold maxLen; omega) (by omega) (by simp; omega) (w3.heap.size + 1) (by simp) ?_; intro gg cap2 w4 hown4 hgrow hat hlt4)
          have HD4 := hid (HD3.out.push HX.out HU.out hgrow hown4)
          have HB4 := hid (grow_below (b0 := w2.heap.size) (hB2.out.trans (HB3.out.mono hB2.out.size)) (Nat.le_refl _) hw3 HD3.out.1 hgrow)
          clear hown4 hgrow hat hlt4
          go_roundw
          case rel => exact ⟨k + 1, by omega, by go_num, by rw [HCS.out]; go_num, by rw [HCS.out]; omega, ⟨_, HD4⟩, HB4⟩
          case measure => simp [intOf]; omega
      · have hkl : k = lns.length := by omega
        subst hkl
        rw [List.take_length] at hc40
        have c1w := (hB2.out.cell (p := (⟨w.heap.size, 1, none⟩ : Addr)) hsz2).trans c1'
        have hfd := (hD.out.1)
        obtain ⟨dA, dcap, hdv, -⟩ := SlR.of_own hfd
        subst hdv
        by_cases hfl : lns.length = fs.length
        · have d1 : ((lns.length : Int) != (fs.length : Int)) = false := by simp; omega
          have hr : Hid ((rdA (fs.zip (lns.map wordsL)) ad0, 0) = (rs, x)) := (parse_ok HV.out hc40 hfl).symm.trans H.out
          have HFL := hid hfl
          have hln8 : lns.length ≤ 8 := by have := (valid_parts HV.out).2.1; omega
          clear hfl hfd
          go_wp2_with fail
          refine (kinds_any _).mono ?_
          rintro e w5 ⟨F, rfl, hK, -, hb5⟩
          have c1v := (hb5.cell (p := (⟨w.heap.size, 1, none⟩ : Addr)) (Nat.lt_of_lt_of_le hsz2 hB2.out.size)).trans c1w
          have hz5 : w.heap.size < w5.heap.size := Nat.lt_of_lt_of_le (Nat.lt_of_lt_of_le hsz2 hB2.out.size) hb5.size
          obtain ⟨w6, hw6⟩ : ∃ w6, w6 = w5.alloc (.cells #[.string ⟨#[]⟩, .string ⟨#[]⟩, .int .i64 0, .string ⟨#[]⟩, .string ⟨#[]⟩, .map (some wr.heap.size), .slice none 0 0] 58) := ⟨_, rfl⟩
          have hb6 : Below w5.heap.size w5 w6 := by rw [hw6]; exact b0 _ _
          have hSB : SB w6 w5.heap.size wr.heap.size (.slice none 0 0) ad0 := by rw [hw6]; exact heap_new _ _
          have hB5 := bt hB.out hb5
          obtain ⟨vp1, vp2, vp3, vp4, vp5⟩ := valid_parts HV.out
          have CR := hid (read_any fs (lns.map wordsL) (.slice fA fs.length fcap) (.slice dA lns.length dcap) w5.heap.size wr.heap.size F w5 w6 hb6 (Nat.le_refl _) hK (HF.out.on hB5) ((hD.out.on hb5).isWs) (by rw [List.length_map]; exact HFL.out.symm) vp1 vp2 vp4 (fun ps hp => (vp3 ps hp).2)
            (fun ws hw => by obtain ⟨l, hl, rfl⟩ := List.mem_map.1 hw; exact Nat.le_trans (cnt_mem hl) hc40) (by have := parse_few HV.out (show fs.length = (lns.map wordsL).length by rw [List.length_map]; exact HFL.out.symm) ad0; omega) hSB)
          have c1u := (hb6.cell (p := (⟨w.heap.size, 1, none⟩ : Addr)) hz5).trans c1v
          have HB6 := hid (bt hB5 hb6)
          have hsz6 : w5.heap.size < w6.heap.size := hSB.lt
          have hsz5 : w.heap.size ≤ w5.heap.size := by omega
          clear hK hb5 hb6 hSB hB5 vp1 vp2 vp3 vp4 vp5 c1w c1'
          go_wp2_with fail
          rw [← hw6]
          clear hw6
          refine CR.out.mono ?_
          rintro e w7 ⟨rfl, rv, a', hs7, ho7, hk7⟩
          have c6 := hs7.cell.2.2.2.2.2.2
          obtain ⟨rA, rcap, rfl, hrS⟩ := SlR.of_own ho7
          have HRS := hid hrS
          have HK7 := hid hk7
          clear hs7 ho7 hrS hk7
          go_wp2
          go_ret2
          have hr' := hr.out
          cases hr'
          exact ⟨_, rfl, ⟨rA, rcap, rfl, HRS.out⟩, HB6.out.trans (HK7.out.below hsz5 (by omega))⟩
        · have d1 : ((lns.length : Int) != (fs.length : Int)) = true := by simp; omega
          have hr : Hid (([], 0) = (rs, x)) := (parse_lines HV.out hc40 hfl).symm.trans H.out
          go_wp2
          go_ret2
          have hr' := hr.out
          cases hr'
          exact ⟨_, rfl, IsA.nil _, hB.out⟩

end Fm
end Go.Proofs.YtcaiejbnhjiflaaGreatDoor
