/-
  The contract of Valid.
-/
import Derived.Test.YtcaiejbnhjiflaaGreatDoorW4
namespace Go.Proofs.YtcaiejbnhjiflaaGreatDoor
open Go.RowKit Go.ChangeMaps
namespace Fm

theorem Kinds.lt {w : World} {M : Nat} {F : Int → Nat} {L : List Int} (h : Kinds w M F L) : M < w.heap.size := heap_lt h.map
theorem kd_mid (F : Int → Nat) (k : Int) (h1 : k ≠ 1) (h3 : k ≠ 3) : ∃ m fx cx fy cy, kdV F k = .agg #[.int .i64 m, .func (.func 51) #[] #[], .func (.func fx) #[] cx, .func (.func fy) #[] cy] := by
  unfold kdV
  rw [if_neg h1]
  by_cases h2 : k = 2
  · rw [if_pos h2]; exact ⟨_, _, _, _, _, rfl⟩
  · rw [if_neg h2, if_neg h3]; exact ⟨_, _, _, _, _, rfl⟩
theorem kd_one (F : Int → Nat) (k : Int) (h : k = 1) : ∃ m fx cx fy cy, kdV F k = .agg #[.int .i64 m, .func (.func 48) #[] #[], .func (.func fx) #[] cx, .func (.func fy) #[] cy] := by subst h; exact ⟨_, _, _, _, _, rfl⟩
theorem kd_three (F : Int → Nat) (k : Int) (h : k = 3) : ∃ m fx cx fy cy, kdV F k = .agg #[.int .i64 m, .func (.func 55) #[] #[], .func (.func fx) #[] cx, .func (.func fy) #[] cy] := by subst h; exact ⟨_, _, _, _, _, rfl⟩
theorem isEmpty_b (s : ByteArray) (w : World) : Calls Tryz.prog 51 #[.string s] w fun e w' => e = .returned (.bool (decide (s.data.toList = []))) ∧ Below w.heap.size w w' :=
  (isEmpty_any s w).mono fun _ _ ⟨he, hw⟩ => ⟨he, by rw [← hw]; exact Below.refl _ _⟩
theorem below_ret {w a b : World} (h : Below w.heap.size w a) (k : Below a.heap.size a b) : Below w.heap.size w b := bt h k

set_option maxRecDepth 100000 in
set_option maxHeartbeats 16000000 in
theorem valid_any (name : W) (fs : List (List Pt)) (v : Value) (w : World) (hP : IsPs w v fs) :
    Calls Tryz.prog 20 #[.agg #[.string (sB name), v]] w fun e w' => e = .returned (.bool (validB name fs)) ∧ Below w.heap.size w w' := by
  obtain ⟨A, cap, vs, rfl, hS, hE⟩ := hP
  have HS := hid hS
  have HE := hid hE
  clear hS hE
  have CN := hid (fun w => isName_any (sB name) w)
  rw [sB_list] at CN
  obtain ⟨q, hq⟩ : ∃ q, q = nameW name := ⟨_, rfl⟩
  rw [← hq] at CN
  have HQ := hid hq.symm
  clear hq
  have HB0 := hid (b0 w (.cells #[.string (sB name), .slice A fs.length cap] 24))
  cases q
  · have hv : validB name fs = false := by unfold validB; rw [HQ.out]; rfl
    rw [hv]
    clear hv
    go_enter Tryz.func20, Tryz.ntmps20
    go_wp2_with fail
    refine (CN.out _).mono ?_
    rintro e w1 ⟨rfl, hb⟩
    go_wp2
    go_ret
    exact ⟨rfl, bt HB0.out hb⟩
  · by_cases h1 : fs.length < 1
    · have hv : validB name fs = false := by unfold validB; rw [decide_eq_false (show ¬ 1 ≤ fs.length by omega)]; simp
      have hd : decide ((fs.length : Int) < 1) = true := decide_eq_true (by omega)
      rw [hv]
      clear hv
      go_enter Tryz.func20, Tryz.ntmps20
      go_wp2_with fail
      refine (CN.out _).mono ?_
      rintro e w1 ⟨rfl, hb⟩
      obtain ⟨hc, hf⟩ := bcell hb
      have HB := hid hb
      clear hb
      go_wp2
      go_ret
      exact ⟨rfl, bt HB0.out HB.out⟩
    · have hd1 : decide ((fs.length : Int) < 1) = false := decide_eq_false (by omega)
      by_cases h8 : 8 < fs.length
      · have hv : validB name fs = false := by unfold validB; rw [decide_eq_false (show ¬ fs.length ≤ 8 by omega)]; simp
        have hd : decide ((8 : Int) < (fs.length : Int)) = true := decide_eq_true (by omega)
        have hd' : decide (8 < fs.length) = true := decide_eq_true (by omega)
        rw [hv]
        clear hv
        go_enter Tryz.func20, Tryz.ntmps20
        go_wp2_with fail
        refine (CN.out _).mono ?_
        rintro e w1 ⟨rfl, hb⟩
        obtain ⟨hc, hf⟩ := bcell hb
        have HB := hid hb
        clear hb
        go_wp2
        go_ret
        exact ⟨rfl, bt HB0.out HB.out⟩
      · have hd8 : decide ((8 : Int) < (fs.length : Int)) = false := decide_eq_false (by omega)
        have hd8' : decide (8 < fs.length) = false := decide_eq_false (by omega)
        go_enter Tryz.func20, Tryz.ntmps20
        go_wp2_with fail
        refine (CN.out _).mono ?_
        rintro e w1 ⟨rfl, hb⟩
        obtain ⟨hc, hf⟩ := bcell hb
        have HB := hid (bt HB0.out hb)
        have hz : w.heap.size + 1 ≤ w1.heap.size := by have := hb.size; simp at this; omega
        clear hb
        go_wp2_with fail
        refine (kinds_any _).mono ?_
        rintro e w2 ⟨F, rfl, hK, hF, hb2⟩
        have HK := hid hK
        have HB2 := hid (bt HB.out hb2)
        have hz2 : w1.heap.size < w2.heap.size := hK.lt
        have hc2 : w2.cell? ⟨w.heap.size, 1, none⟩ = some (.slice A fs.length cap) := by
          rw [hb2.cell (p := (⟨w.heap.size, 1, none⟩ : Addr)) (by simp; omega), hc _ _ (by simp)]; simp
        have HW1 := hid (show w.heap.size ≤ w1.heap.size by omega)
        clear hc hf hK hF hb2 hz hz2
        go_wp2
        clear hc2

        go_loopw [30] (fun i wr => ∃ (k : Nat) (L : List Int), k ≤ fs.length ∧ i = .int .i64 k ∧ Hid (Kinds wr w1.heap.size F L) ∧ Hid (VAt fs k 0 L) ∧ Hid (Below w.heap.size w wr)) (fun i _ => fs.length - (intOf i).toNat)
        case atStart => exact ⟨0, allK, Nat.zero_le _, rfl, HK, VAt.start fs, HB2⟩
        case round =>
          obtain ⟨i, L, hi, rfl, hK, hV, hB⟩ := hrel
          by_cases hlt : i < fs.length
          · have hx : fs[i]? = some fs[i] := List.getElem?_eq_getElem hlt
            obtain ⟨ps, hps⟩ : ∃ ps, ps = fs[i] := ⟨_, rfl⟩
            rw [← hps] at hx
            clear hps
            obtain ⟨u, hu, Ap, capp, rfl, hRp⟩ := HE.out i ps hx
            obtain ⟨g, o, rfl, hg, hcell⟩ := (HS.out.on hB.out).at hu
            have HX := hid hx
            have HRp := hid hRp
            have hlt2 : (i : Int) < (fs.length : Int) := by omega
            have hi0 : 0 ≤ (i : Int) := by omega
            clear hu hx hRp
            by_cases hp1 : ps.length < 1
            · have e1 : decide ((ps.length : Int) < 1) = true := decide_eq_true (by omega)
              have hl : lineB ps = false := by unfold lineB; rw [decide_eq_false (show ¬ 1 ≤ ps.length by omega)]; rfl
              have hv : Hid (validB name fs = false) := VAt.badline HX.out hl name
              go_wp2
              go_ret
              exact ⟨by rw [hv.out]; try rfl, hB.out⟩
            · have e1 : decide ((ps.length : Int) < 1) = false := decide_eq_false (by omega)
              by_cases hp8 : 8 < ps.length
              · have e8 : decide ((8 : Int) < (ps.length : Int)) = true := decide_eq_true (by omega)
                have e8' : decide (8 < ps.length) = true := decide_eq_true (by omega)
                have hl : lineB ps = false := by unfold lineB; rw [decide_eq_false (show ¬ ps.length ≤ 8 by omega)]; simp
                have hv : Hid (validB name fs = false) := VAt.badline HX.out hl name
                go_wp2
                go_ret
                exact ⟨by rw [hv.out]; try rfl, hB.out⟩
              · have e8 : decide ((8 : Int) < (ps.length : Int)) = false := decide_eq_false (by omega)
                have e8' : decide (8 < ps.length) = false := decide_eq_false (by omega)
                have hl : Hid (lineB ps = true) := by unfold lineB; rw [decide_eq_true (show 1 ≤ ps.length by omega), decide_eq_true (show ps.length ≤ 8 by omega)]; rfl
                go_wp2
                clear hcell
                go_loopw [44] (fun j wr => ∃ (k : Nat) (L : List Int), k ≤ ps.length ∧ j = .int .i64 k ∧ Hid (Kinds wr w1.heap.size F L) ∧ Hid (VAt fs i k L) ∧ Hid (Below w.heap.size w wr)) (fun j _ => ps.length - (intOf j).toNat)
                case atStart => exact ⟨0, L, Nat.zero_le _, rfl, hK, hV, hB⟩
                case round =>
                  clear hK hV hB
                  obtain ⟨j, L, hj, rfl, hK, hV, hB⟩ := hrel
                  by_cases hjlt : j < ps.length
                  · have hx : ps[j]? = some ps[j] := List.getElem?_eq_getElem hjlt
                    obtain ⟨p, hp⟩ : ∃ p, p = ps[j] := ⟨_, rfl⟩
                    rw [← hp] at hx
                    clear hp
                    obtain ⟨g', o', rfl, hg', hc1, hc2⟩ := RdP.at (HRp.out.on hB.out) hx

                    have HXP := hid hx
                    have hjlt2 : (j : Int) < (ps.length : Int) := by omega
                    have hj0 : 0 ≤ (j : Int) := by omega
                    have HK1 := hid (hK.out.on (b0 wr (.cells #[.int .i64 p.k, .string (sB p.t)] 49)))
                    have HBA := hid (b0 wr (.cells #[.int .i64 p.k, .string (sB p.t)] 49))
                    unfold sV at hc2
                    clear hx
                    by_cases hk : p.k ∈ L
                    · have hk6 := (allK_iff _).1 ((vl_sub hV.out.2).1 _ hk)
                      rcases (show p.k = 1 ∨ p.k = 3 ∨ (p.k ≠ 1 ∧ p.k ≠ 3) by omega) with e | e | ⟨e, e'⟩
                      · obtain ⟨m, fx, cx, fy, cy, hkd⟩ := kd_one F p.k e
                        have CT := hid (fun w => isFit_any (sB p.t) w)
                        have hT : textB p = fitW p.t := by unfold textB; rw [if_pos e]
                        rw [sB_list] at CT
                        rw [← hT] at CT
                        clear hT
                        have r1 := look_yes HK1.out hk true
                        skip
                        rw [hkd] at r1
                        simp only [if_true] at r1
                        have HK2 := hid (HK1.out.on (b0 _ (.cells #[.int .i64 m, .func (.func 48) #[] #[], .func (.func fx) #[] cx, .func (.func fy) #[] cy] 64)))
                        have HB2 := hid ((hB.out.trans (HBA.out.mono hB.out.size)).alloc (by have := hB.out.size; simp; omega) (.cells #[.int .i64 m, .func (.func 48) #[] #[], .func (.func fx) #[] cx, .func (.func fy) #[] cy] 64))
                        have HKM := hid hk
                        clear hk6 hk hkd
                        cases ht : textB p
                        · have hv : Hid (validB name fs = false) := hV.out.bad HX.out HXP.out (fun h => by rw [ht] at h; exact absurd h.2 (by simp)) name
                          rw [ht] at CT
                          clear ht
                          have HE1 := hid e
                          have ne : (p.k != 1) = false := by simp [e]
                          clear e
                          go_wp2_with fail
                          refine (CT.out _).mono ?_
                          rintro e w3 ⟨rfl, hb3⟩
                          have HB3 := hid hb3
                          clear hb3
                          go_wp2
                          go_ret
                          exact ⟨by rw [hv.out]; try rfl, HB2.out.trans (HB3.out.mono HB2.out.size)⟩
                        · have hV2 := hid (hV.out.part HX.out HXP.out HKM.out ht)
                          rw [ht] at CT
                          clear ht
                          have HE1 := hid e
                          have ne : (p.k != 1) = false := by simp [e]
                          clear e
                          go_wp2_with fail
                          refine (CT.out _).mono ?_
                          rintro e w3 ⟨rfl, hb3⟩
                          obtain ⟨hcc, hff⟩ := bcell hb3
                          have hzz : wr.heap.size + 2 ≤ w3.heap.size := by have := hb3.size; simp at this; omega
                          have HK3 := hid (HK2.out.on hb3)
                          have HB3 := hid (HB2.out.trans (hb3.mono HB2.out.size))
                          clear hb3
                          go_wp2
                          go_roundw
                          case rel => exact ⟨j + 1, L, by omega, by go_num, HK3, (by have := hV2.out; rw [if_pos HE1.out] at this; exact this), HB3⟩
                          case measure => simp [intOf]; omega

                      · obtain ⟨m, fx, cx, fy, cy, hkd⟩ := kd_three F p.k e
                        have CT := hid (fun w => isPattern_any (sB p.t) w)
                        have hT : textB p = patW p.t := by unfold textB; rw [if_neg (by omega), if_pos e]
                        rw [sB_list] at CT
                        rw [← hT] at CT
                        clear hT
                        have r1 := look_yes HK1.out hk true
                        skip
                        rw [hkd] at r1
                        simp only [if_true] at r1
                        have HK2 := hid (HK1.out.on (b0 _ (.cells #[.int .i64 m, .func (.func 55) #[] #[], .func (.func fx) #[] cx, .func (.func fy) #[] cy] 64)))
                        have HB2 := hid ((hB.out.trans (HBA.out.mono hB.out.size)).alloc (by have := hB.out.size; simp; omega) (.cells #[.int .i64 m, .func (.func 55) #[] #[], .func (.func fx) #[] cx, .func (.func fy) #[] cy] 64))
                        have HKM := hid hk
                        clear hk6 hk hkd
                        cases ht : textB p
                        · have hv : Hid (validB name fs = false) := hV.out.bad HX.out HXP.out (fun h => by rw [ht] at h; exact absurd h.2 (by simp)) name
                          rw [ht] at CT
                          clear ht
                          have HE1 := hid e
                          have ne : (p.k != 1) = true := by simp [e]
                          clear e
                          go_wp2_with fail
                          refine (CT.out _).mono ?_
                          rintro e w3 ⟨rfl, hb3⟩
                          have HB3 := hid hb3
                          clear hb3
                          go_wp2
                          go_ret
                          exact ⟨by rw [hv.out]; try rfl, HB2.out.trans (HB3.out.mono HB2.out.size)⟩
                        · have hV2 := hid (hV.out.part HX.out HXP.out HKM.out ht)
                          rw [ht] at CT
                          clear ht
                          have HE1 := hid e
                          have ne : (p.k != 1) = true := by simp [e]
                          clear e
                          go_wp2_with fail
                          refine (CT.out _).mono ?_
                          rintro e w3 ⟨rfl, hb3⟩
                          obtain ⟨hcc, hff⟩ := bcell hb3
                          have hzz : wr.heap.size + 2 ≤ w3.heap.size := by have := hb3.size; simp at this; omega
                          have HK3 := hid (HK2.out.on hb3)
                          have HB3 := hid (HB2.out.trans (hb3.mono HB2.out.size))
                          clear hb3
                          obtain ⟨w4, r4, hK4, hz4, hb4⟩ := del_ex HK3.out HKM.out #[55, 3] rfl 0
                          have HK4 := hid hK4
                          have HB4 := hid (HB3.out.trans (hb4 _ HW1.out))
                          clear hK4 hb4
                          go_wp2
                          go_roundw
                          case rel => exact ⟨j + 1, L.erase p.k, by omega, by go_num, HK4, (by have := hV2.out; rw [if_neg (show p.k ≠ 1 from by rw [HE1.out]; decide)] at this; exact this), HB4⟩
                          case measure => simp [intOf]; omega

                      · obtain ⟨m, fx, cx, fy, cy, hkd⟩ := kd_mid F p.k e e'
                        have CT := hid (fun w => isEmpty_b (sB p.t) w)
                        have hT : textB p = decide (p.t = []) := by unfold textB; rw [if_neg e, if_neg e']
                        rw [sB_list] at CT
                        rw [← hT] at CT
                        clear hT
                        have r1 := look_yes HK1.out hk true
                        skip
                        rw [hkd] at r1
                        simp only [if_true] at r1
                        have HK2 := hid (HK1.out.on (b0 _ (.cells #[.int .i64 m, .func (.func 51) #[] #[], .func (.func fx) #[] cx, .func (.func fy) #[] cy] 64)))
                        have HB2 := hid ((hB.out.trans (HBA.out.mono hB.out.size)).alloc (by have := hB.out.size; simp; omega) (.cells #[.int .i64 m, .func (.func 51) #[] #[], .func (.func fx) #[] cx, .func (.func fy) #[] cy] 64))
                        have HKM := hid hk
                        clear hk6 hk hkd
                        cases ht : textB p
                        · have hv : Hid (validB name fs = false) := hV.out.bad HX.out HXP.out (fun h => by rw [ht] at h; exact absurd h.2 (by simp)) name
                          rw [ht] at CT
                          clear ht
                          have ne : (p.k != 1) = true := by simp [e]
                          have HE1 := hid e
                          clear e e'
                          go_wp2_with fail
                          refine (CT.out _).mono ?_
                          rintro e w3 ⟨rfl, hb3⟩
                          have HB3 := hid hb3
                          clear hb3
                          go_wp2
                          go_ret
                          exact ⟨by rw [hv.out]; try rfl, HB2.out.trans (HB3.out.mono HB2.out.size)⟩
                        · have hV2 := hid (hV.out.part HX.out HXP.out HKM.out ht)
                          rw [ht] at CT
                          clear ht
                          have ne : (p.k != 1) = true := by simp [e]
                          have HE1 := hid e
                          clear e e'
                          go_wp2_with fail
                          refine (CT.out _).mono ?_
                          rintro e w3 ⟨rfl, hb3⟩
                          obtain ⟨hcc, hff⟩ := bcell hb3
                          have hzz : wr.heap.size + 2 ≤ w3.heap.size := by have := hb3.size; simp at this; omega
                          have HK3 := hid (HK2.out.on hb3)
                          have HB3 := hid (HB2.out.trans (hb3.mono HB2.out.size))
                          clear hb3
                          obtain ⟨w4, r4, hK4, hz4, hb4⟩ := del_ex HK3.out HKM.out #[55, 3] rfl 0
                          have HK4 := hid hK4
                          have HB4 := hid (HB3.out.trans (hb4 _ HW1.out))
                          clear hK4 hb4
                          go_wp2
                          go_roundw
                          case rel => exact ⟨j + 1, L.erase p.k, by omega, by go_num, HK4, (by have := hV2.out; rw [if_neg (show p.k ≠ 1 from HE1.out)] at this; exact this), HB4⟩
                          case measure => simp [intOf]; omega

                    · have r1 := look_no HK1.out hk true
                      simp only [if_true, zeroK] at r1
                      have hv : Hid (validB name fs = false) := hV.out.bad HX.out HXP.out (fun h => hk h.1) name
                      clear hk
                      go_wp2
                      go_ret
                      exact ⟨by rw [hv.out]; try rfl, (hB.out.trans (HBA.out.mono hB.out.size)).alloc (by have := hB.out.size; simp; omega) _⟩
                  · obtain rfl : j = ps.length := by omega
                    have hV2 : Hid (VAt fs (i + 1) 0 L) := hV.out.line HX.out (Nat.le_refl _) hl.out
                    go_wp2
                    go_roundw
                    case rel => exact ⟨i + 1, L, by omega, by go_num, hK, hV2, hB⟩
                    case measure => simp [intOf]; omega
          · obtain rfl : i = fs.length := by omega
            have hv : Hid (validB name fs = true) := hV.out.good HQ.out (by omega) (by omega)
            go_wp2
            go_ret
            exact ⟨by rw [hv.out]; try rfl, hB.out⟩

end Fm
end Go.Proofs.YtcaiejbnhjiflaaGreatDoor
