/-
  Contracts of the document's part and Has.
-/
import Derived.Test.YtcaiejbnhjiflaaGreatDoorR7
namespace Go.Proofs.YtcaiejbnhjiflaaGreatDoor
open Go.RowKit Go.ChangeMaps
namespace Fm

theorem partB_mid {p : Pt} (h1 : p.k ≠ 1) (h3 : p.k ≠ 3) : partB p = (decide (2 ≤ p.k) && decide (p.k ≤ 6) && decide (p.t = [])) := by
  unfold partB; rw [if_neg h1, if_neg h3]
set_option maxRecDepth 100000 in
set_option maxHeartbeats 8000000 in
theorem rpart_any (p : Pt) (w : World) (hp : p.t.length ≤ 1000) :
    Calls Tryz.prog 42 #[.agg #[.int .i64 p.k, .string (sB p.t)]] w fun e w' => e = .returned (.bool (partB p)) ∧ Below w.heap.size w w' := by
  have CF := hid (fun u => rfit_any (sB p.t) u (by rw [sB_size]; omega))
  have CP := hid (fun u => rpattern_any (sB p.t) u (by rw [sB_size]; omega))
  have HB := hid (b0 w (.cells #[.int .i64 p.k, .string (sB p.t)] 49))
  obtain ⟨k, t⟩ := p
  simp only at CF CP HB ⊢
  obtain ⟨r, hr⟩ : ∃ r, r = partB ⟨k, t⟩ := ⟨_, rfl⟩
  rw [← hr]
  have HR := hid hr
  obtain ⟨s, hs⟩ : ∃ s, s = sB t := ⟨_, rfl⟩
  rw [← hs] at CF CP HB ⊢
  have hst : s.data.toList = t := by rw [hs]; rfl
  have HS := hid hst
  clear hr hs hst hp
  by_cases h1 : k = 1
  · have q1 : (k == 1) = true := by simp [h1]
    have HV : Hid (r = fitW s.data.toList) := by show _ = _; rw [HR.out, HS.out]; unfold partB; rw [if_pos h1]
    clear h1
    go_enter Tryz.func42, Tryz.ntmps42
    go_wp2_with fail
    refine (CF.out _).mono ?_
    rintro e w1 ⟨rfl, rfl⟩
    go_wp2
    go_ret
    exact ⟨by rw [HV.out]; rfl, HB.out⟩
  · have q1 : (k == 1) = false := by simp [h1]
    by_cases h3 : k = 3
    · have q3 : (k == 3) = true := by simp [h3]
      have HV : Hid (r = patW s.data.toList) := by show _ = _; rw [HR.out, HS.out]; unfold partB; rw [if_neg h1, if_pos h3]
      clear h1 h3
      go_enter Tryz.func42, Tryz.ntmps42
      go_wp2_with fail
      refine (CP.out _).mono ?_
      rintro e w1 ⟨rfl, rfl⟩
      go_wp2
      go_ret
      exact ⟨by rw [HV.out]; rfl, HB.out⟩
    · have q3 : (k == 3) = false := by simp [h3]
      have hmid := partB_mid (p := ⟨k, t⟩) h1 h3
      simp only at hmid
      have HM := hid (HR.out.trans hmid)
      have H1 := hid h1
      have H3 := hid h3
      clear h1 h3 hmid
      by_cases h2 : k = 2
      · have q2 : (k == 2) = true := by simp [h2]
        by_cases h0 : t = []
        · have ht : s.toList.isEmpty = true := by rw [Lib.toList_data, HS.out, h0]; rfl
          have hts : s.toList = [] := by rw [Lib.toList_data, HS.out, h0]
          have HV : Hid (r = true) := by show _ = _; rw [HM.out, decide_eq_true (show 2 ≤ k by omega), decide_eq_true (show k ≤ 6 by omega), decide_eq_true h0]; rfl
          clear h0 h2
          go_enter Tryz.func42, Tryz.ntmps42
          go_wp2
          go_ret
          exact ⟨by rw [HV.out]; simp, HB.out⟩
        · have ht : s.toList.isEmpty = false := by rw [Lib.toList_data, HS.out]; simp [h0]
          have hts : ¬ s.toList = [] := by rw [Lib.toList_data, HS.out]; exact h0
          have HV : Hid (r = false) := by show _ = _; rw [HM.out, decide_eq_false h0, Bool.and_false]
          clear h0 h2
          go_enter Tryz.func42, Tryz.ntmps42
          go_wp2
          go_ret
          exact ⟨by rw [HV.out]; simp, HB.out⟩
      have q2 : (k == 2) = false := by simp [h2]
      by_cases h4 : k = 4
      · have q4 : (k == 4) = true := by simp [h4]
        by_cases h0 : t = []
        · have ht : s.toList.isEmpty = true := by rw [Lib.toList_data, HS.out, h0]; rfl
          have hts : s.toList = [] := by rw [Lib.toList_data, HS.out, h0]
          have HV : Hid (r = true) := by show _ = _; rw [HM.out, decide_eq_true (show 2 ≤ k by omega), decide_eq_true (show k ≤ 6 by omega), decide_eq_true h0]; rfl
          clear h0 h4
          go_enter Tryz.func42, Tryz.ntmps42
          go_wp2
          go_ret
          exact ⟨by rw [HV.out]; simp, HB.out⟩
        · have ht : s.toList.isEmpty = false := by rw [Lib.toList_data, HS.out]; simp [h0]
          have hts : ¬ s.toList = [] := by rw [Lib.toList_data, HS.out]; exact h0
          have HV : Hid (r = false) := by show _ = _; rw [HM.out, decide_eq_false h0, Bool.and_false]
          clear h0 h4
          go_enter Tryz.func42, Tryz.ntmps42
          go_wp2
          go_ret
          exact ⟨by rw [HV.out]; simp, HB.out⟩
      have q4 : (k == 4) = false := by simp [h4]
      by_cases h5 : k = 5
      · have q5 : (k == 5) = true := by simp [h5]
        by_cases h0 : t = []
        · have ht : s.toList.isEmpty = true := by rw [Lib.toList_data, HS.out, h0]; rfl
          have hts : s.toList = [] := by rw [Lib.toList_data, HS.out, h0]
          have HV : Hid (r = true) := by show _ = _; rw [HM.out, decide_eq_true (show 2 ≤ k by omega), decide_eq_true (show k ≤ 6 by omega), decide_eq_true h0]; rfl
          clear h0 h5
          go_enter Tryz.func42, Tryz.ntmps42
          go_wp2
          go_ret
          exact ⟨by rw [HV.out]; simp, HB.out⟩
        · have ht : s.toList.isEmpty = false := by rw [Lib.toList_data, HS.out]; simp [h0]
          have hts : ¬ s.toList = [] := by rw [Lib.toList_data, HS.out]; exact h0
          have HV : Hid (r = false) := by show _ = _; rw [HM.out, decide_eq_false h0, Bool.and_false]
          clear h0 h5
          go_enter Tryz.func42, Tryz.ntmps42
          go_wp2
          go_ret
          exact ⟨by rw [HV.out]; simp, HB.out⟩
      have q5 : (k == 5) = false := by simp [h5]
      by_cases h6 : k = 6
      · have q6 : (k == 6) = true := by simp [h6]
        by_cases h0 : t = []
        · have ht : s.toList.isEmpty = true := by rw [Lib.toList_data, HS.out, h0]; rfl
          have hts : s.toList = [] := by rw [Lib.toList_data, HS.out, h0]
          have HV : Hid (r = true) := by show _ = _; rw [HM.out, decide_eq_true (show 2 ≤ k by omega), decide_eq_true (show k ≤ 6 by omega), decide_eq_true h0]; rfl
          clear h0 h6
          go_enter Tryz.func42, Tryz.ntmps42
          go_wp2
          go_ret
          exact ⟨by rw [HV.out]; simp, HB.out⟩
        · have ht : s.toList.isEmpty = false := by rw [Lib.toList_data, HS.out]; simp [h0]
          have hts : ¬ s.toList = [] := by rw [Lib.toList_data, HS.out]; exact h0
          have HV : Hid (r = false) := by show _ = _; rw [HM.out, decide_eq_false h0, Bool.and_false]
          clear h0 h6
          go_enter Tryz.func42, Tryz.ntmps42
          go_wp2
          go_ret
          exact ⟨by rw [HV.out]; simp, HB.out⟩
      have q6 : (k == 6) = false := by simp [h6]
      have HV : Hid (r = false) := by
        show _ = _
        rw [HM.out, Bool.eq_false_iff]
        intro h
        simp only [Bool.and_eq_true, decide_eq_true_eq] at h
        have := H1.out
        have := H3.out
        omega
      clear h2 h4 h5 h6
      go_enter Tryz.func42, Tryz.ntmps42
      go_wp2
      go_ret
      exact ⟨by rw [HV.out]; try rfl, HB.out⟩

/-- How many parts are of a kind. -/
def hasN (ps : List Pt) (k : Int) : Nat := (ps.filter fun p => decide (p.k = k)).length
theorem has_snoc {ps : List Pt} {j : Nat} {p : Pt} {k : Int} (h : ps[j]? = some p) : hasN (ps.take (j + 1)) k = hasN (ps.take j) k + if p.k = k then 1 else 0 := by
  unfold hasN
  rw [List.take_add_one, h, List.filter_append, List.length_append]
  by_cases hk : p.k = k <;> simp [hk]
theorem has_le (ps : List Pt) (k : Int) : hasN ps k ≤ ps.length := List.length_filter_le _ _
set_option maxRecDepth 100000 in
set_option maxHeartbeats 8000000 in
theorem rhas_any (name : W) (fs : List (List Pt)) (fv : Value) (k : Int) (w : World) (hF : IsPs w fv fs) (h10 : fs.length ≤ 10) (hp : ∀ ps ∈ fs, ps.length ≤ 10) :
    Calls Tryz.prog 43 #[.agg #[.string (sB name), fv], .int .i64 k] w fun e w' => e = .returned (.int .i64 (hasN fs.flatten k : Nat)) ∧ Below w.heap.size w w' := by
  obtain ⟨A, cap, fvs, hfv, -⟩ := id hF
  subst hfv
  have hb1 := b0 w (.cells #[.string (sB name), .slice A fs.length cap] 24)
  have CP := hid (parts_any name fs (.slice A fs.length cap) _ (hF.on hb1) h10 hp)
  have HB1 := hid hb1
  have hfl := flat_le hp fs.length
  rw [List.take_length] at hfl
  obtain ⟨qs, hqs⟩ : ∃ qs, qs = fs.flatten := ⟨_, rfl⟩
  have CP' : Hid (Calls Tryz.prog 29 #[.agg #[.string (sB name), .slice A fs.length cap]] (w.alloc (.cells #[.string (sB name), .slice A fs.length cap] 24)) fun e w' => ∃ v, e = .returned v ∧ Hid (IsP w' v qs) ∧ Below (w.alloc (.cells #[.string (sB name), .slice A fs.length cap] 24)).heap.size (w.alloc (.cells #[.string (sB name), .slice A fs.length cap] 24)) w') := by
    rw [hqs]; exact CP.out
  rw [← hqs] at hfl ⊢
  clear hqs hb1 hF hp CP
  go_enter Tryz.func43, Tryz.ntmps43
  go_wp2_with fail
  refine CP'.out.mono ?_
  rintro e w2 ⟨v, rfl, hV, hb2⟩
  obtain ⟨vA, vcap, rfl, hvR⟩ := id hV.out
  have HVR := hid hvR
  have HB2 := hid (bt HB1.out hb2)
  clear hb2 hV hvR CP' HB1
  go_wp2
  go_loop [5, 7] (fun n i => ∃ j : Nat, j ≤ qs.length ∧ i = .int .i64 j ∧ n = .int .i64 (hasN (qs.take j) k : Nat)) (fun _ i => qs.length - (intOf i).toNat)
  case atStart => exact ⟨0, Nat.zero_le _, rfl, rfl⟩
  case round =>
    obtain ⟨j, hj, rfl, rfl⟩ := hrel
    have hle := has_le (qs.take j) k
    rw [List.length_take] at hle
    by_cases hlt : j < qs.length
    · obtain ⟨p, hp⟩ : ∃ p, qs[j]? = some p := ⟨_, List.getElem?_eq_getElem hlt⟩
      obtain ⟨g, o, rfl, hg, hc, -⟩ := RdP.at HVR.out hp
      have hkk : (j : Int) < (qs.length : Int) := by omega
      have hk0 : 0 ≤ (j : Int) := by omega
      have hsn := has_snoc (k := k) hp
      have HSN := hid hsn
      clear hp hsn
      by_cases hk : p.k = k
      · have q1 : (p.k == k) = true := by simp [hk]
        have HN : Hid (hasN (qs.take (j + 1)) k = hasN (qs.take j) k + 1) := by show _ = _; rw [HSN.out, if_pos hk]
        clear hk
        go_wp2
        go_round
        case rel => exact ⟨j + 1, by omega, by go_num, by rw [HN.out]; go_num⟩
        case measure => simp [intOf]; omega
      · have q1 : (p.k == k) = false := by simp [hk]
        have HN : Hid (hasN (qs.take (j + 1)) k = hasN (qs.take j) k) := by show _ = _; rw [HSN.out, if_neg hk, Nat.add_zero]
        clear hk
        go_wp2
        go_round
        case rel => exact ⟨j + 1, by omega, by go_num, by rw [HN.out]⟩
        case measure => simp [intOf]; omega
    · obtain rfl : j = qs.length := by omega
      have HN : Hid (hasN (qs.take qs.length) k = hasN qs k) := by show _ = _; rw [List.take_length]
      rw [HN.out]
      go_wp2
      go_ret
      exact ⟨rfl, HB2.out⟩

end Fm
end Go.Proofs.YtcaiejbnhjiflaaGreatDoor
