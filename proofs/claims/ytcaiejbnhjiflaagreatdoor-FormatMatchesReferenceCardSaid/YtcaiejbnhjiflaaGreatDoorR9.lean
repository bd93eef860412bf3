/-
  The contract of the document's Valid.
-/
import Derived.Test.YtcaiejbnhjiflaaGreatDoorR8
import Derived.Test.YtcaiejbnhjiflaaGreatDoorVl
import Derived.Deep.RegionHeld3
namespace Go.Proofs.YtcaiejbnhjiflaaGreatDoor
open Go.RowKit Go.ChangeMaps
namespace Fm

theorem has_cons (q : Pt) (ps : List Pt) (k : Int) : hasN (q :: ps) k = (if q.k = k then 1 else 0) + hasN ps k := by
  unfold hasN
  rw [List.filter_cons]
  by_cases h : q.k = k <;> simp [h]; omega
theorem has_kin (ps : List Pt) (k : Int) : kin ps k ↔ 0 < hasN ps k := by
  induction ps with
  | nil => simp [kin, hasN]
  | cons q ps ih =>
    rw [kin_cons, has_cons, ih]
    by_cases h : q.k = k
    · rw [if_pos h]; exact ⟨fun _ => by omega, fun _ => .inl h⟩
    · rw [if_neg h, Nat.zero_add]; exact ⟨fun x => x.resolve_left h, .inr⟩
theorem has_mono (q : Pt) (ps : List Pt) (k : Int) : hasN ps k ≤ hasN (q :: ps) k := by rw [has_cons]; omega
theorem uniq_has (ps : List Pt) : uniq ps ↔ ∀ p ∈ ps, p.k ≠ 1 → hasN ps p.k ≤ 1 := by
  induction ps with
  | nil => exact Iff.intro (fun _ p hp => (by cases hp)) (fun _ => trivial)
  | cons q ps ih =>
    show (q.k ≠ 1 → ¬ kin ps q.k) ∧ uniq ps ↔ _
    rw [ih]
    constructor
    · rintro ⟨h1, h2⟩ p hp hk
      rw [has_cons]
      rcases List.mem_cons.1 hp with rfl | hp
      · have := h1 hk
        rw [has_kin] at this
        rw [if_pos rfl]; omega
      · by_cases he : q.k = p.k
        · have := h1 (by rw [he]; exact hk)
          exact absurd ⟨p, hp, he.symm⟩ this
        · rw [if_neg he]; have := h2 p hp hk; omega
    · intro h
      refine ⟨fun hk hkin => ?_, fun p hp hk => Nat.le_trans (has_mono q ps p.k) (h p (List.mem_cons_of_mem _ hp) hk)⟩
      have h1 := h q (List.mem_cons_self ..) hk
      rw [has_cons, if_pos rfl] at h1
      rw [has_kin] at hkin
      omega
/-- When a format is well-formed. -/
theorem valid_yes {name : W} {fs : List (List Pt)} (h1 : nameW name = true) (h2 : 1 ≤ fs.length) (h3 : fs.length ≤ 8) (h4 : ∀ ps ∈ fs, 1 ≤ ps.length ∧ ps.length ≤ 8) (h5 : ∀ p ∈ fs.flatten, partB p = true ∧ (p.k ≠ 1 → hasN fs.flatten p.k ≤ 1)) : validB name fs = true := by
  unfold validB
  rw [h1, decide_eq_true h2, decide_eq_true h3, (vl_all _).2 ⟨fun p hp => (h5 p hp).1, (uniq_has _).2 fun p hp => (h5 p hp).2⟩]
  have : fs.all lineB = true := by
    rw [List.all_eq_true]
    intro ps hps
    unfold lineB
    rw [decide_eq_true (h4 ps hps).1, decide_eq_true (h4 ps hps).2]; rfl
  rw [this]; rfl
theorem valid_no {name : W} {fs : List (List Pt)} (h : nameW name = false ∨ ¬ (1 ≤ fs.length ∧ fs.length ≤ 8) ∨ (∃ ps ∈ fs, ¬ (1 ≤ ps.length ∧ ps.length ≤ 8)) ∨ ∃ p ∈ fs.flatten, partB p = false ∨ (p.k ≠ 1 ∧ ¬ hasN fs.flatten p.k ≤ 1)) : validB name fs = false := by
  rw [Bool.eq_false_iff]
  intro hv
  obtain ⟨v1, v2, v3, v4, v5⟩ := valid_parts hv
  rcases h with h | h | ⟨ps, hps, h⟩ | ⟨p, hp, h | ⟨hk, h⟩⟩
  · unfold validB at hv; rw [h] at hv; cases hv
  · exact h ⟨v1, v2⟩
  · exact h (v3 ps hps)
  · rw [v4 p hp] at h; cases h
  · exact h ((uniq_has _).1 v5 p hp hk)

set_option maxRecDepth 100000 in
set_option maxHeartbeats 16000000 in
theorem rvalid_any (name : W) (fs : List (List Pt)) (fv : Value) (w : World) (hF : IsPs w fv fs) (hnm : name.length ≤ 100000) (ht : ∀ p ∈ fs.flatten, p.t.length ≤ 1000) :
    Calls Tryz.prog 21 #[.agg #[.string (sB name), fv]] w fun e w' => e = .returned (.bool (validB name fs)) ∧ Below w.heap.size w w' := by
  obtain ⟨A, cap, fvs, hfv, -⟩ := id hF
  subst hfv
  have CN := hid (fun u => rnamed_any (sB name) u (by rw [sB_size]; exact hnm))
  obtain ⟨q, hq⟩ : ∃ q, q = nameW (sB name).data.toList := ⟨_, rfl⟩
  rw [← hq] at CN
  have HQ : Hid (nameW name = q) := hq.symm
  obtain ⟨r, hr⟩ : ∃ r, r = validB name fs := ⟨_, rfl⟩
  have HR := hid hr
  rw [← hr]
  obtain ⟨w1, hw1⟩ : ∃ w1, w1 = w.alloc (.cells #[.string (sB name), .slice A fs.length cap] 24) := ⟨_, rfl⟩
  have hb1 : Below w.heap.size w w1 := by rw [hw1]; exact b0 _ _
  have HF1 := hid (hF.on hb1)
  have HB1 := hid hb1
  have hsz1 : w.heap.size < w1.heap.size := by rw [hw1]; simp
  have c0 : w1.cell? ⟨w.heap.size, 0, none⟩ = some (.string (sB name)) := by rw [hw1]; simp
  have c1 : w1.cell? ⟨w.heap.size, 1, none⟩ = some (.slice A fs.length cap) := by rw [hw1]; simp
  have CPa := hid (fun u (hu : Below w1.heap.size w1 u) (h10 : fs.length ≤ 10) (hp : ∀ ps ∈ fs, ps.length ≤ 10) => parts_any name fs (.slice A fs.length cap) u (HF1.out.on hu) h10 hp)
  have CHa := hid (fun u (hu : Below w1.heap.size w1 u) (h10 : fs.length ≤ 10) (hp : ∀ ps ∈ fs, ps.length ≤ 10) (k : Int) => rhas_any name fs (.slice A fs.length cap) k u (HF1.out.on hu) h10 hp)
  have HTX := hid ht
  obtain ⟨nm, hnmd⟩ : ∃ nm, nm = sB name := ⟨_, rfl⟩
  rw [← hnmd] at CN hw1 c0 CPa CHa ⊢
  clear hnmd hq hr hb1 hF hnm ht
  cases q
  · have HV := hid (HR.out.trans (valid_no (fs := fs) (.inl HQ.out)))
    go_enter Tryz.func21, Tryz.ntmps21
    go_wp2_with fail
    rw [← hw1]
    clear hw1
    refine (CN.out _).mono ?_
    rintro e w2 ⟨rfl, rfl⟩
    go_wp2
    go_ret
    exact ⟨by rw [HV.out]; rfl, HB1.out⟩
  · by_cases h1 : fs.length < 1
    · have d1 : decide ((fs.length : Int) < 1) = true := decide_eq_true (by omega)
      have HV := hid (HR.out.trans (valid_no (name := name) (fs := fs) (.inr (.inl (fun h => by omega)))))
      go_enter Tryz.func21, Tryz.ntmps21
      go_wp2_with fail
      rw [← hw1]
      clear hw1
      refine (CN.out _).mono ?_
      rintro e w2 ⟨rfl, rfl⟩
      go_wp2
      go_ret
      exact ⟨by rw [HV.out]; rfl, HB1.out⟩
    · have d1 : decide ((fs.length : Int) < 1) = false := decide_eq_false (by omega)
      by_cases h8 : 8 < fs.length
      · have d8 : decide ((8 : Int) < (fs.length : Int)) = true := decide_eq_true (by omega)
        have HV := hid (HR.out.trans (valid_no (name := name) (fs := fs) (.inr (.inl (fun h => by omega)))))
        go_enter Tryz.func21, Tryz.ntmps21
        go_wp2_with fail
        rw [← hw1]
        clear hw1
        refine (CN.out _).mono ?_
        rintro e w2 ⟨rfl, rfl⟩
        go_wp2
        go_ret
        exact ⟨by rw [HV.out]; rfl, HB1.out⟩
      · have d8 : decide ((8 : Int) < (fs.length : Int)) = false := decide_eq_false (by omega)
        go_enter Tryz.func21, Tryz.ntmps21
        go_wp2_with fail
        rw [← hw1]
        clear hw1
        refine (CN.out _).mono ?_
        rintro e w2 ⟨rfl, rfl⟩
        go_wp2
        clear d1 d8
        go_loop [3] (fun i => ∃ k : Nat, k ≤ fs.length ∧ i = .int .i64 k ∧ Hid (∀ ps ∈ fs.take k, 1 ≤ ps.length ∧ ps.length ≤ 8)) (fun i => fs.length - (intOf i).toNat)
        case atStart => exact ⟨0, Nat.zero_le _, rfl, by intro ps hps; simp at hps⟩
        case round =>
          obtain ⟨k, hk, rfl, hP⟩ := hrel
          by_cases hlt : k < fs.length
          · obtain ⟨ps, hps⟩ : ∃ ps, fs[k]? = some ps := ⟨_, List.getElem?_eq_getElem hlt⟩
            obtain ⟨g, o, A', cap', rfl, hg, hc, -⟩ := isPs_at HF1.out hps
            have hkk : (k : Int) < (fs.length : Int) := by omega
            have hk0 : 0 ≤ (k : Int) := by omega
            have HPS := hid hps
            clear hps
            by_cases p1 : ps.length < 1
            · have e1 : decide ((ps.length : Int) < 1) = true := decide_eq_true (by omega)
              have HV := hid (HR.out.trans (valid_no (name := name) (fs := fs) (.inr (.inr (.inl ⟨ps, List.mem_of_getElem? HPS.out, fun h => by omega⟩)))))
              go_wp2
              go_ret
              exact ⟨by rw [HV.out]; rfl, HB1.out⟩
            · have e1 : decide ((ps.length : Int) < 1) = false := decide_eq_false (by omega)
              by_cases p8 : 8 < ps.length
              · have e8 : decide ((8 : Int) < (ps.length : Int)) = true := decide_eq_true (by omega)
                have HV := hid (HR.out.trans (valid_no (name := name) (fs := fs) (.inr (.inr (.inl ⟨ps, List.mem_of_getElem? HPS.out, fun h => by omega⟩)))))
                go_wp2
                go_ret
                exact ⟨by rw [HV.out]; rfl, HB1.out⟩
              · have e8 : decide ((8 : Int) < (ps.length : Int)) = false := decide_eq_false (by omega)
                have HN : Hid (∀ q ∈ fs.take (k + 1), 1 ≤ q.length ∧ q.length ≤ 8) := mem_snoc (P := fun q : List Pt => 1 ≤ q.length ∧ q.length ≤ 8) hP.out HPS.out ⟨by omega, by omega⟩
                go_wp2
                go_round
                case rel => exact ⟨k + 1, by omega, by go_num, HN⟩
                case measure => simp [intOf]; omega
          · obtain rfl : k = fs.length := by omega
            have HP : Hid (∀ ps ∈ fs, 1 ≤ ps.length ∧ ps.length ≤ 8) := by have := hP.out; rwa [List.take_length] at this
            have hp10 : ∀ ps ∈ fs, ps.length ≤ 10 := fun ps hps => by have := HP.out ps hps; omega
            have HP10 := hid hp10
            have hfl := flat_le hp10 fs.length
            rw [List.take_length] at hfl
            obtain ⟨qs, hqs⟩ : ∃ qs, qs = fs.flatten := ⟨_, rfl⟩
            have CP : Hid (Calls Tryz.prog 29 #[.agg #[.string nm, .slice A fs.length cap]] w1 fun e w' => ∃ v, e = .returned v ∧ Hid (IsP w' v qs) ∧ Below w1.heap.size w1 w') := by
              rw [hqs]; exact CPa.out w1 (Below.refl _ _) (by omega) hp10
            rw [← hqs] at hfl HTX
            have HQS := hid hqs
            have HF8 : Hid (1 ≤ fs.length ∧ fs.length ≤ 8) := ⟨by omega, by omega⟩
            clear hP hp10 hqs
            go_wp2_with fail
            refine CP.out.mono ?_
            rintro e w2 ⟨v, rfl, hV, hb2⟩
            obtain ⟨vA, vcap, rfl, hvR⟩ := id hV.out
            have HVR := hid hvR
            have HB2 := hid hb2
            clear hV hb2 hvR CP
            go_wp2
            go_loopw [5] (fun i wr => ∃ j : Nat, j ≤ qs.length ∧ i = .int .i64 j ∧ Hid (∀ p ∈ qs.take j, partB p = true ∧ (p.k ≠ 1 → hasN qs p.k ≤ 1)) ∧ Hid (Below w2.heap.size w2 wr)) (fun i _ => qs.length - (intOf i).toNat)
            case atStart => exact ⟨0, Nat.zero_le _, rfl, by intro p hp; simp at hp, Below.refl _ _⟩
            case round =>
              obtain ⟨j, hj, rfl, hT, hB⟩ := hrel
              have HB12 := hid (bt HB2.out hB.out)
              by_cases hlt : j < qs.length
              · obtain ⟨p, hp⟩ : ∃ p, qs[j]? = some p := ⟨_, List.getElem?_eq_getElem hlt⟩
                obtain ⟨g, o, rfl, hg, hc, hc1⟩ := RdP.at (HVR.out.on hB.out) hp
                have hpm := List.mem_of_getElem? hp
                have HPM : Hid (p ∈ fs.flatten) := by show _ ∈ _; rw [← HQS.out]; exact hpm
                have CPt := hid (fun u => rpart_any p u (HTX.out p hpm))
                have CH : Hid (∀ u, Below wr.heap.size wr u → Calls Tryz.prog 43 #[.agg #[.string nm, .slice A fs.length cap], .int .i64 p.k] u fun e w' => e = .returned (.int .i64 (hasN qs p.k : Nat)) ∧ Below u.heap.size u w') := fun u hu => by
                  rw [HQS.out]; exact CHa.out u (bt HB12.out hu) (by have := HF8.out; omega) HP10.out p.k
                have HPP := hid hp
                obtain ⟨kk, hkd⟩ : ∃ kk, kk = p.k := ⟨_, rfl⟩
                obtain ⟨t, htd⟩ : ∃ t, t = sB p.t := ⟨_, rfl⟩
                unfold sV at hc1
                rw [← htd] at hc1 CPt
                rw [← hkd] at hc CPt CH
                obtain ⟨pb, hpb⟩ : ∃ pb, pb = partB p := ⟨_, rfl⟩
                rw [← hpb] at CPt
                have HPB := hid hpb
                have HKD := hid hkd
                have d0 := (HB12.out.cell (p := (⟨w.heap.size, 0, none⟩ : Addr)) hsz1).trans c0
                have d1 := (HB12.out.cell (p := (⟨w.heap.size, 1, none⟩ : Addr)) hsz1).trans c1
                have hlw : w.heap.size < wr.heap.size := Nat.lt_of_lt_of_le hsz1 HB12.out.size
                have SK : Hid (∀ u, Below wr.heap.size wr u → u.cell? ⟨w.heap.size, 0, none⟩ = some (.string nm) ∧ u.cell? ⟨w.heap.size, 1, none⟩ = some (.slice A fs.length cap) ∧ u.cell? ⟨g, o + j * 2, none⟩ = some (.int .i64 kk) ∧ u.cell? ⟨g, o + j * 2 + 1, none⟩ = some (.string t)) := fun u hu => by
                  have q0 := fun q => hu.cell (p := (⟨g, q, none⟩ : Addr)) hg
                  have q1 := fun q => hu.cell (p := (⟨w.heap.size, q, none⟩ : Addr)) hlw
                  exact ⟨(q1 _).trans d0, (q1 _).trans d1, (q0 _).trans hc, (q0 _).trans hc1⟩
                have hj0 : 0 ≤ (j : Int) := by omega
                have hj1 : (j : Int) < (qs.length : Int) := by omega
                have hhl : hasN qs kk ≤ 100 := by have := has_le qs kk; omega
                clear hp hpm hkd htd hpb
                cases pb
                · have HV := hid (HR.out.trans (valid_no (name := name) (fs := fs) (.inr (.inr (.inr ⟨p, HPM.out, .inl HPB.out.symm⟩)))))
                  go_wp2_with fail
                  refine wp_region_held_drew (S := fun w' => w'.cell? ⟨w.heap.size, 0, none⟩ = some (.string nm) ∧ w'.cell? ⟨w.heap.size, 1, none⟩ = some (.slice A fs.length cap) ∧ w'.cell? ⟨g, o + j * 2, none⟩ = some (.int .i64 kk) ∧ w'.cell? ⟨g, o + j * 2 + 1, none⟩ = some (.string t)) (by kernel_rfl) ⟨d0, d1, hc, hc1⟩ (fun hHeld => ?_)
                  refine wpAnyH_take (i := 0) (oi := ⟨some 53, _, _, _, _, _⟩) (v := .slice (some ⟨g, o, none⟩) qs.length vcap) rfl (by kernel_rfl) (by kernel_rfl) (by kernel_rfl) (fun _ _ _ h => h) (Or.inl ⟨by rfl, ?_⟩) hHeld ?_
                  · intro u hu
                    go_simp
                  try simp only [Act.put, List.setIfInBounds_toArray, List.set_cons_zero, List.set_cons_succ]
                  refine wpAnyH_take (i := 1) (oi := ⟨some 54, _, _, _, _, _⟩) (v := .int .i64 (j : Int)) rfl (by kernel_rfl) (by kernel_rfl) (by kernel_rfl) (fun _ _ _ h => h) (Or.inl ⟨by rfl, ?_⟩) hHeld ?_
                  · intro u hu
                    go_simp
                  try simp only [Act.put, List.setIfInBounds_toArray, List.set_cons_zero, List.set_cons_succ]
                  refine wpAnyH_take (i := 2) (oi := ⟨some 55, _, _, _, _, _⟩) (v := .pointer (some ⟨g, o + j * 2, none⟩)) rfl (by kernel_rfl) (by kernel_rfl) (by kernel_rfl) (fun _ _ _ h => h) (Or.inl ⟨by rfl, ?_⟩) hHeld ?_
                  · intro u hu
                    go_simp
                  try simp only [Act.put, List.setIfInBounds_toArray, List.set_cons_zero, List.set_cons_succ]
                  refine wpAnyH_take (i := 3) (oi := ⟨some 56, _, _, _, _, _⟩) (v := .agg #[.int .i64 kk, .string t]) rfl (by kernel_rfl) (by kernel_rfl) (by kernel_rfl) (fun _ _ _ h => h) (Or.inl ⟨by rfl, ?_⟩) hHeld ?_
                  · intro u hu
                    go_simp
                  try simp only [Act.put, List.setIfInBounds_toArray, List.set_cons_zero, List.set_cons_succ]
                  refine wpAnyH_ready (rs := [4]) (by kernel_rfl) (by simp) ?_
                  refine AllReadyH.cons (o := ⟨some 57, _, _, _, _, _⟩) rfl (fun K hK => ?_) AllReadyH.nil
                  go_simp
                  go_at_call 42
                  refine (CPt.out _).mono ?_
                  rintro e u1 ⟨rfl, h1⟩
                  have B1 : Below wr.heap.size wr u1 := bt ((Below.refl _ wr).drew) h1
                  clear h1
                  refine hK.out _ _ (SK.out _ B1) (fun hHeld => ?_)
                  clear hK K
                  try simp only [Act.put, List.setIfInBounds_toArray, List.set_cons_zero, List.set_cons_succ]
                  refine wpAnyH_take (i := 5) (oi := ⟨some 58, _, _, _, _, _⟩) (v := .bool true) rfl (by kernel_rfl) (by kernel_rfl) (by kernel_rfl) (fun _ _ _ h => h) (Or.inl ⟨by rfl, ?_⟩) hHeld ?_
                  · intro u hu
                    go_simp
                  try simp only [Act.put, List.setIfInBounds_toArray, List.set_cons_zero, List.set_cons_succ]
                  refine wpAnyH_take (i := 6) (oi := ⟨some 59, _, _, _, _, _⟩) (v := .bool true) rfl (by kernel_rfl) (by kernel_rfl) (by kernel_rfl) (fun _ _ _ h => h) (Or.inl ⟨by rfl, ?_⟩) hHeld ?_
                  · intro u hu
                    go_simp
                  try simp only [Act.put, List.setIfInBounds_toArray, List.set_cons_zero, List.set_cons_succ]
                  refine wpAnyH_take (i := 7) (oi := ⟨some 60, _, _, _, _, _⟩) (v := undef) rfl (by kernel_rfl) (by kernel_rfl) (by kernel_rfl) (fun _ _ _ h => h) (Or.inr ⟨by rfl, rfl⟩) hHeld ?_
                  try simp only [Act.put, List.setIfInBounds_toArray, List.set_cons_zero, List.set_cons_succ]
                  refine wpAnyH_take (i := 8) (oi := ⟨some 61, _, _, _, _, _⟩) (v := undef) rfl (by kernel_rfl) (by kernel_rfl) (by kernel_rfl) (fun _ _ _ h => h) (Or.inr ⟨by rfl, rfl⟩) hHeld ?_
                  try simp only [Act.put, List.setIfInBounds_toArray, List.set_cons_zero, List.set_cons_succ]
                  refine wpAnyH_take (i := 9) (oi := ⟨some 62, _, _, _, _, _⟩) (v := undef) rfl (by kernel_rfl) (by kernel_rfl) (by kernel_rfl) (fun _ _ _ h => h) (Or.inr ⟨by rfl, rfl⟩) hHeld ?_
                  try simp only [Act.put, List.setIfInBounds_toArray, List.set_cons_zero, List.set_cons_succ]
                  refine wpAnyH_take (i := 10) (oi := ⟨some 63, _, _, _, _, _⟩) (v := undef) rfl (by kernel_rfl) (by kernel_rfl) (by kernel_rfl) (fun _ _ _ h => h) (Or.inr ⟨by rfl, rfl⟩) hHeld ?_
                  try simp only [Act.put, List.setIfInBounds_toArray, List.set_cons_zero, List.set_cons_succ]
                  refine wpAnyH_take (i := 11) (oi := ⟨some 64, _, _, _, _, _⟩) (v := undef) rfl (by kernel_rfl) (by kernel_rfl) (by kernel_rfl) (fun _ _ _ h => h) (Or.inr ⟨by rfl, rfl⟩) hHeld ?_
                  try simp only [Act.put, List.setIfInBounds_toArray, List.set_cons_zero, List.set_cons_succ]
                  refine wpAnyH_take (i := 12) (oi := ⟨some 65, _, _, _, _, _⟩) (v := undef) rfl (by kernel_rfl) (by kernel_rfl) (by kernel_rfl) (fun _ _ _ h => h) (Or.inr ⟨by rfl, rfl⟩) hHeld ?_
                  try simp only [Act.put, List.setIfInBounds_toArray, List.set_cons_zero, List.set_cons_succ]
                  refine wpAnyH_take (i := 13) (oi := ⟨some 66, _, _, _, _, _⟩) (v := undef) rfl (by kernel_rfl) (by kernel_rfl) (by kernel_rfl) (fun _ _ _ h => h) (Or.inr ⟨by rfl, rfl⟩) hHeld ?_
                  try simp only [Act.put, List.setIfInBounds_toArray, List.set_cons_zero, List.set_cons_succ]
                  refine wpAnyH_take (i := 14) (oi := ⟨some 67, _, _, _, _, _⟩) (v := undef) rfl (by kernel_rfl) (by kernel_rfl) (by kernel_rfl) (fun _ _ _ h => h) (Or.inr ⟨by rfl, rfl⟩) hHeld ?_
                  try simp only [Act.put, List.setIfInBounds_toArray, List.set_cons_zero, List.set_cons_succ]
                  refine wpAnyH_take (i := 15) (oi := ⟨some 68, _, _, _, _, _⟩) (v := undef) rfl (by kernel_rfl) (by kernel_rfl) (by kernel_rfl) (fun _ _ _ h => h) (Or.inr ⟨by rfl, rfl⟩) hHeld ?_
                  try simp only [Act.put, List.setIfInBounds_toArray, List.set_cons_zero, List.set_cons_succ]
                  refine wpAnyH_take (i := 16) (oi := ⟨some 69, _, _, _, _, _⟩) (v := undef) rfl (by kernel_rfl) (by kernel_rfl) (by kernel_rfl) (fun _ _ _ h => h) (Or.inr ⟨by rfl, rfl⟩) hHeld ?_
                  try simp only [Act.put, List.setIfInBounds_toArray, List.set_cons_zero, List.set_cons_succ]
                  refine wpAnyH_take (i := 17) (oi := ⟨some 70, _, _, _, _, _⟩) (v := undef) rfl (by kernel_rfl) (by kernel_rfl) (by kernel_rfl) (fun _ _ _ h => h) (Or.inr ⟨by rfl, rfl⟩) hHeld ?_
                  try simp only [Act.put, List.setIfInBounds_toArray, List.set_cons_zero, List.set_cons_succ]
                  refine wpAnyH_take (i := 18) (oi := ⟨some 71, _, _, _, _, _⟩) (v := undef) rfl (by kernel_rfl) (by kernel_rfl) (by kernel_rfl) (fun _ _ _ h => h) (Or.inr ⟨by rfl, rfl⟩) hHeld ?_
                  try simp only [Act.put, List.setIfInBounds_toArray, List.set_cons_zero, List.set_cons_succ]
                  refine wpAnyH_take (i := 19) (oi := ⟨some 72, _, _, _, _, _⟩) (v := undef) rfl (by kernel_rfl) (by kernel_rfl) (by kernel_rfl) (fun _ _ _ h => h) (Or.inr ⟨by rfl, rfl⟩) hHeld ?_
                  try simp only [Act.put, List.setIfInBounds_toArray, List.set_cons_zero, List.set_cons_succ]
                  refine wpAnyH_take (i := 20) (oi := ⟨some 73, _, _, _, _, _⟩) (v := undef) rfl (by kernel_rfl) (by kernel_rfl) (by kernel_rfl) (fun _ _ _ h => h) (Or.inr ⟨by rfl, rfl⟩) hHeld ?_
                  try simp only [Act.put, List.setIfInBounds_toArray, List.set_cons_zero, List.set_cons_succ]
                  refine wpAnyH_take (i := 21) (oi := ⟨some 74, _, _, _, _, _⟩) (v := undef) rfl (by kernel_rfl) (by kernel_rfl) (by kernel_rfl) (fun _ _ _ h => h) (Or.inr ⟨by rfl, rfl⟩) hHeld ?_
                  try simp only [Act.put, List.setIfInBounds_toArray, List.set_cons_zero, List.set_cons_succ]
                  refine wpAnyH_take (i := 22) (oi := ⟨some 75, _, _, _, _, _⟩) (v := undef) rfl (by kernel_rfl) (by kernel_rfl) (by kernel_rfl) (fun _ _ _ h => h) (Or.inr ⟨by rfl, rfl⟩) hHeld ?_
                  try simp only [Act.put, List.setIfInBounds_toArray, List.set_cons_zero, List.set_cons_succ]
                  refine wpAnyH_take (i := 23) (oi := ⟨some 76, _, _, _, _, _⟩) (v := .bool true) rfl (by kernel_rfl) (by kernel_rfl) (by kernel_rfl) (fun _ _ _ h => h) (Or.inl ⟨by rfl, ?_⟩) hHeld ?_
                  · intro u hu
                    go_simp
                  try simp only [Act.put, List.setIfInBounds_toArray, List.set_cons_zero, List.set_cons_succ]
                  refine wpAnyH_done (by kernel_rfl) ?_ _
                  clear hHeld
                  go_wp2
                  go_ret
                  exact ⟨by rw [HV.out]; rfl, HB1.out.trans ((bt HB12.out B1).mono HB1.out.size)⟩
                · by_cases hk1 : kk = 1
                  · have q1 : (kk != 1) = false := by simp [hk1]
                    have HN : Hid (∀ q ∈ qs.take (j + 1), partB q = true ∧ (q.k ≠ 1 → hasN qs q.k ≤ 1)) := mem_snoc (P := fun q : Pt => partB q = true ∧ (q.k ≠ 1 → hasN qs q.k ≤ 1)) hT.out HPP.out ⟨HPB.out.symm, fun h => absurd (HKD.out.symm.trans hk1) h⟩
                    clear hk1
                    go_wp2_with fail
                    refine wp_region_held_drew (S := fun w' => w'.cell? ⟨w.heap.size, 0, none⟩ = some (.string nm) ∧ w'.cell? ⟨w.heap.size, 1, none⟩ = some (.slice A fs.length cap) ∧ w'.cell? ⟨g, o + j * 2, none⟩ = some (.int .i64 kk) ∧ w'.cell? ⟨g, o + j * 2 + 1, none⟩ = some (.string t)) (by kernel_rfl) ⟨d0, d1, hc, hc1⟩ (fun hHeld => ?_)
                    refine wpAnyH_take (i := 0) (oi := ⟨some 53, _, _, _, _, _⟩) (v := .slice (some ⟨g, o, none⟩) qs.length vcap) rfl (by kernel_rfl) (by kernel_rfl) (by kernel_rfl) (fun _ _ _ h => h) (Or.inl ⟨by rfl, ?_⟩) hHeld ?_
                    · intro u hu
                      go_simp
                    try simp only [Act.put, List.setIfInBounds_toArray, List.set_cons_zero, List.set_cons_succ]
                    refine wpAnyH_take (i := 1) (oi := ⟨some 54, _, _, _, _, _⟩) (v := .int .i64 (j : Int)) rfl (by kernel_rfl) (by kernel_rfl) (by kernel_rfl) (fun _ _ _ h => h) (Or.inl ⟨by rfl, ?_⟩) hHeld ?_
                    · intro u hu
                      go_simp
                    try simp only [Act.put, List.setIfInBounds_toArray, List.set_cons_zero, List.set_cons_succ]
                    refine wpAnyH_take (i := 2) (oi := ⟨some 55, _, _, _, _, _⟩) (v := .pointer (some ⟨g, o + j * 2, none⟩)) rfl (by kernel_rfl) (by kernel_rfl) (by kernel_rfl) (fun _ _ _ h => h) (Or.inl ⟨by rfl, ?_⟩) hHeld ?_
                    · intro u hu
                      go_simp
                    try simp only [Act.put, List.setIfInBounds_toArray, List.set_cons_zero, List.set_cons_succ]
                    refine wpAnyH_take (i := 3) (oi := ⟨some 56, _, _, _, _, _⟩) (v := .agg #[.int .i64 kk, .string t]) rfl (by kernel_rfl) (by kernel_rfl) (by kernel_rfl) (fun _ _ _ h => h) (Or.inl ⟨by rfl, ?_⟩) hHeld ?_
                    · intro u hu
                      go_simp
                    try simp only [Act.put, List.setIfInBounds_toArray, List.set_cons_zero, List.set_cons_succ]
                    refine wpAnyH_ready (rs := [4]) (by kernel_rfl) (by simp) ?_
                    refine AllReadyH.cons (o := ⟨some 57, _, _, _, _, _⟩) rfl (fun K hK => ?_) AllReadyH.nil
                    go_simp
                    go_at_call 42
                    refine (CPt.out _).mono ?_
                    rintro e u1 ⟨rfl, h1⟩
                    have B1 : Below wr.heap.size wr u1 := bt ((Below.refl _ wr).drew) h1
                    clear h1
                    refine hK.out _ _ (SK.out _ B1) (fun hHeld => ?_)
                    clear hK K
                    try simp only [Act.put, List.setIfInBounds_toArray, List.set_cons_zero, List.set_cons_succ]
                    refine wpAnyH_take (i := 5) (oi := ⟨some 58, _, _, _, _, _⟩) (v := .bool false) rfl (by kernel_rfl) (by kernel_rfl) (by kernel_rfl) (fun _ _ _ h => h) (Or.inl ⟨by rfl, ?_⟩) hHeld ?_
                    · intro u hu
                      go_simp
                    try simp only [Act.put, List.setIfInBounds_toArray, List.set_cons_zero, List.set_cons_succ]
                    refine wpAnyH_take (i := 6) (oi := ⟨some 59, _, _, _, _, _⟩) (v := .bool false) rfl (by kernel_rfl) (by kernel_rfl) (by kernel_rfl) (fun _ _ _ h => h) (Or.inl ⟨by rfl, ?_⟩) hHeld ?_
                    · intro u hu
                      go_simp
                    try simp only [Act.put, List.setIfInBounds_toArray, List.set_cons_zero, List.set_cons_succ]
                    refine wpAnyH_take (i := 7) (oi := ⟨some 60, _, _, _, _, _⟩) (v := .slice (some ⟨g, o, none⟩) qs.length vcap) rfl (by kernel_rfl) (by kernel_rfl) (by kernel_rfl) (fun _ _ _ h => h) (Or.inl ⟨by rfl, ?_⟩) hHeld ?_
                    · intro u hu
                      go_simp
                    try simp only [Act.put, List.setIfInBounds_toArray, List.set_cons_zero, List.set_cons_succ]
                    refine wpAnyH_take (i := 8) (oi := ⟨some 61, _, _, _, _, _⟩) (v := .int .i64 (j : Int)) rfl (by kernel_rfl) (by kernel_rfl) (by kernel_rfl) (fun _ _ _ h => h) (Or.inl ⟨by rfl, ?_⟩) hHeld ?_
                    · intro u hu
                      go_simp
                    try simp only [Act.put, List.setIfInBounds_toArray, List.set_cons_zero, List.set_cons_succ]
                    refine wpAnyH_take (i := 9) (oi := ⟨some 62, _, _, _, _, _⟩) (v := .pointer (some ⟨g, o + j * 2, none⟩)) rfl (by kernel_rfl) (by kernel_rfl) (by kernel_rfl) (fun _ _ _ h => h) (Or.inl ⟨by rfl, ?_⟩) hHeld ?_
                    · intro u hu
                      go_simp
                    try simp only [Act.put, List.setIfInBounds_toArray, List.set_cons_zero, List.set_cons_succ]
                    refine wpAnyH_take (i := 10) (oi := ⟨some 63, _, _, _, _, _⟩) (v := .pointer (some ⟨g, o + j * 2, none⟩)) rfl (by kernel_rfl) (by kernel_rfl) (by kernel_rfl) (fun _ _ _ h => h) (Or.inl ⟨by rfl, ?_⟩) hHeld ?_
                    · intro u hu
                      go_simp
                    try simp only [Act.put, List.setIfInBounds_toArray, List.set_cons_zero, List.set_cons_succ]
                    refine wpAnyH_take (i := 11) (oi := ⟨some 64, _, _, _, _, _⟩) (v := .int .i64 kk) rfl (by kernel_rfl) (by kernel_rfl) (by kernel_rfl) (fun _ _ _ h => h) (Or.inl ⟨by rfl, ?_⟩) hHeld ?_
                    · intro u hu
                      go_simp
                    try simp only [Act.put, List.setIfInBounds_toArray, List.set_cons_zero, List.set_cons_succ]
                    refine wpAnyH_take (i := 12) (oi := ⟨some 65, _, _, _, _, _⟩) (v := .bool false) rfl (by kernel_rfl) (by kernel_rfl) (by kernel_rfl) (fun _ _ _ h => h) (Or.inl ⟨by rfl, ?_⟩) hHeld ?_
                    · intro u hu
                      go_simp
                    try simp only [Act.put, List.setIfInBounds_toArray, List.set_cons_zero, List.set_cons_succ]
                    refine wpAnyH_take (i := 13) (oi := ⟨some 66, _, _, _, _, _⟩) (v := .bool false) rfl (by kernel_rfl) (by kernel_rfl) (by kernel_rfl) (fun _ _ _ h => h) (Or.inl ⟨by rfl, ?_⟩) hHeld ?_
                    · intro u hu
                      go_simp
                    try simp only [Act.put, List.setIfInBounds_toArray, List.set_cons_zero, List.set_cons_succ]
                    refine wpAnyH_take (i := 14) (oi := ⟨some 67, _, _, _, _, _⟩) (v := undef) rfl (by kernel_rfl) (by kernel_rfl) (by kernel_rfl) (fun _ _ _ h => h) (Or.inr ⟨by rfl, rfl⟩) hHeld ?_
                    try simp only [Act.put, List.setIfInBounds_toArray, List.set_cons_zero, List.set_cons_succ]
                    refine wpAnyH_take (i := 15) (oi := ⟨some 68, _, _, _, _, _⟩) (v := undef) rfl (by kernel_rfl) (by kernel_rfl) (by kernel_rfl) (fun _ _ _ h => h) (Or.inr ⟨by rfl, rfl⟩) hHeld ?_
                    try simp only [Act.put, List.setIfInBounds_toArray, List.set_cons_zero, List.set_cons_succ]
                    refine wpAnyH_take (i := 16) (oi := ⟨some 69, _, _, _, _, _⟩) (v := undef) rfl (by kernel_rfl) (by kernel_rfl) (by kernel_rfl) (fun _ _ _ h => h) (Or.inr ⟨by rfl, rfl⟩) hHeld ?_
                    try simp only [Act.put, List.setIfInBounds_toArray, List.set_cons_zero, List.set_cons_succ]
                    refine wpAnyH_take (i := 17) (oi := ⟨some 70, _, _, _, _, _⟩) (v := undef) rfl (by kernel_rfl) (by kernel_rfl) (by kernel_rfl) (fun _ _ _ h => h) (Or.inr ⟨by rfl, rfl⟩) hHeld ?_
                    try simp only [Act.put, List.setIfInBounds_toArray, List.set_cons_zero, List.set_cons_succ]
                    refine wpAnyH_take (i := 18) (oi := ⟨some 71, _, _, _, _, _⟩) (v := undef) rfl (by kernel_rfl) (by kernel_rfl) (by kernel_rfl) (fun _ _ _ h => h) (Or.inr ⟨by rfl, rfl⟩) hHeld ?_
                    try simp only [Act.put, List.setIfInBounds_toArray, List.set_cons_zero, List.set_cons_succ]
                    refine wpAnyH_take (i := 19) (oi := ⟨some 72, _, _, _, _, _⟩) (v := undef) rfl (by kernel_rfl) (by kernel_rfl) (by kernel_rfl) (fun _ _ _ h => h) (Or.inr ⟨by rfl, rfl⟩) hHeld ?_
                    try simp only [Act.put, List.setIfInBounds_toArray, List.set_cons_zero, List.set_cons_succ]
                    refine wpAnyH_take (i := 20) (oi := ⟨some 73, _, _, _, _, _⟩) (v := undef) rfl (by kernel_rfl) (by kernel_rfl) (by kernel_rfl) (fun _ _ _ h => h) (Or.inr ⟨by rfl, rfl⟩) hHeld ?_
                    try simp only [Act.put, List.setIfInBounds_toArray, List.set_cons_zero, List.set_cons_succ]
                    refine wpAnyH_take (i := 21) (oi := ⟨some 74, _, _, _, _, _⟩) (v := undef) rfl (by kernel_rfl) (by kernel_rfl) (by kernel_rfl) (fun _ _ _ h => h) (Or.inr ⟨by rfl, rfl⟩) hHeld ?_
                    try simp only [Act.put, List.setIfInBounds_toArray, List.set_cons_zero, List.set_cons_succ]
                    refine wpAnyH_take (i := 22) (oi := ⟨some 75, _, _, _, _, _⟩) (v := .bool false) rfl (by kernel_rfl) (by kernel_rfl) (by kernel_rfl) (fun _ _ _ h => h) (Or.inl ⟨by rfl, ?_⟩) hHeld ?_
                    · intro u hu
                      go_simp
                    try simp only [Act.put, List.setIfInBounds_toArray, List.set_cons_zero, List.set_cons_succ]
                    refine wpAnyH_take (i := 23) (oi := ⟨some 76, _, _, _, _, _⟩) (v := .bool false) rfl (by kernel_rfl) (by kernel_rfl) (by kernel_rfl) (fun _ _ _ h => h) (Or.inl ⟨by rfl, ?_⟩) hHeld ?_
                    · intro u hu
                      go_simp
                    try simp only [Act.put, List.setIfInBounds_toArray, List.set_cons_zero, List.set_cons_succ]
                    refine wpAnyH_done (by kernel_rfl) ?_ _
                    clear hHeld
                    go_wp2
                    go_roundw
                    case rel => exact ⟨j + 1, by omega, by go_num, HN, bt hB.out B1⟩
                    case measure => simp [intOf]; omega
                  · have q1 : (kk != 1) = true := by simp [hk1]
                    by_cases hm : 1 < hasN qs kk
                    · have dm : decide ((1 : Int) < ((hasN qs kk : Nat) : Int)) = true := decide_eq_true (by omega)
                      have dm2 : decide (1 < hasN qs kk) = true := decide_eq_true hm
                      have HV := hid (HR.out.trans (valid_no (name := name) (fs := fs) (.inr (.inr (.inr ⟨p, HPM.out, .inr ⟨by rw [← HKD.out]; exact hk1, by rw [← HKD.out, ← HQS.out]; omega⟩⟩)))))
                      clear hk1
                      go_wp2_with fail
                      refine wp_region_held_drew (S := fun w' => w'.cell? ⟨w.heap.size, 0, none⟩ = some (.string nm) ∧ w'.cell? ⟨w.heap.size, 1, none⟩ = some (.slice A fs.length cap) ∧ w'.cell? ⟨g, o + j * 2, none⟩ = some (.int .i64 kk) ∧ w'.cell? ⟨g, o + j * 2 + 1, none⟩ = some (.string t)) (by kernel_rfl) ⟨d0, d1, hc, hc1⟩ (fun hHeld => ?_)
                      refine wpAnyH_take (i := 0) (oi := ⟨some 53, _, _, _, _, _⟩) (v := .slice (some ⟨g, o, none⟩) qs.length vcap) rfl (by kernel_rfl) (by kernel_rfl) (by kernel_rfl) (fun _ _ _ h => h) (Or.inl ⟨by rfl, ?_⟩) hHeld ?_
                      · intro u hu
                        go_simp
                      try simp only [Act.put, List.setIfInBounds_toArray, List.set_cons_zero, List.set_cons_succ]
                      refine wpAnyH_take (i := 1) (oi := ⟨some 54, _, _, _, _, _⟩) (v := .int .i64 (j : Int)) rfl (by kernel_rfl) (by kernel_rfl) (by kernel_rfl) (fun _ _ _ h => h) (Or.inl ⟨by rfl, ?_⟩) hHeld ?_
                      · intro u hu
                        go_simp
                      try simp only [Act.put, List.setIfInBounds_toArray, List.set_cons_zero, List.set_cons_succ]
                      refine wpAnyH_take (i := 2) (oi := ⟨some 55, _, _, _, _, _⟩) (v := .pointer (some ⟨g, o + j * 2, none⟩)) rfl (by kernel_rfl) (by kernel_rfl) (by kernel_rfl) (fun _ _ _ h => h) (Or.inl ⟨by rfl, ?_⟩) hHeld ?_
                      · intro u hu
                        go_simp
                      try simp only [Act.put, List.setIfInBounds_toArray, List.set_cons_zero, List.set_cons_succ]
                      refine wpAnyH_take (i := 3) (oi := ⟨some 56, _, _, _, _, _⟩) (v := .agg #[.int .i64 kk, .string t]) rfl (by kernel_rfl) (by kernel_rfl) (by kernel_rfl) (fun _ _ _ h => h) (Or.inl ⟨by rfl, ?_⟩) hHeld ?_
                      · intro u hu
                        go_simp
                      try simp only [Act.put, List.setIfInBounds_toArray, List.set_cons_zero, List.set_cons_succ]
                      refine wpAnyH_ready (rs := [4]) (by kernel_rfl) (by simp) ?_
                      refine AllReadyH.cons (o := ⟨some 57, _, _, _, _, _⟩) rfl (fun K hK => ?_) AllReadyH.nil
                      go_simp
                      go_at_call 42
                      refine (CPt.out _).mono ?_
                      rintro e u1 ⟨rfl, h1⟩
                      have B1 : Below wr.heap.size wr u1 := bt ((Below.refl _ wr).drew) h1
                      clear h1
                      refine hK.out _ _ (SK.out _ B1) (fun hHeld => ?_)
                      clear hK K
                      try simp only [Act.put, List.setIfInBounds_toArray, List.set_cons_zero, List.set_cons_succ]
                      refine wpAnyH_take (i := 5) (oi := ⟨some 58, _, _, _, _, _⟩) (v := .bool false) rfl (by kernel_rfl) (by kernel_rfl) (by kernel_rfl) (fun _ _ _ h => h) (Or.inl ⟨by rfl, ?_⟩) hHeld ?_
                      · intro u hu
                        go_simp
                      try simp only [Act.put, List.setIfInBounds_toArray, List.set_cons_zero, List.set_cons_succ]
                      refine wpAnyH_take (i := 6) (oi := ⟨some 59, _, _, _, _, _⟩) (v := .bool false) rfl (by kernel_rfl) (by kernel_rfl) (by kernel_rfl) (fun _ _ _ h => h) (Or.inl ⟨by rfl, ?_⟩) hHeld ?_
                      · intro u hu
                        go_simp
                      try simp only [Act.put, List.setIfInBounds_toArray, List.set_cons_zero, List.set_cons_succ]
                      refine wpAnyH_take (i := 7) (oi := ⟨some 60, _, _, _, _, _⟩) (v := .slice (some ⟨g, o, none⟩) qs.length vcap) rfl (by kernel_rfl) (by kernel_rfl) (by kernel_rfl) (fun _ _ _ h => h) (Or.inl ⟨by rfl, ?_⟩) hHeld ?_
                      · intro u hu
                        go_simp
                      try simp only [Act.put, List.setIfInBounds_toArray, List.set_cons_zero, List.set_cons_succ]
                      refine wpAnyH_take (i := 8) (oi := ⟨some 61, _, _, _, _, _⟩) (v := .int .i64 (j : Int)) rfl (by kernel_rfl) (by kernel_rfl) (by kernel_rfl) (fun _ _ _ h => h) (Or.inl ⟨by rfl, ?_⟩) hHeld ?_
                      · intro u hu
                        go_simp
                      try simp only [Act.put, List.setIfInBounds_toArray, List.set_cons_zero, List.set_cons_succ]
                      refine wpAnyH_take (i := 9) (oi := ⟨some 62, _, _, _, _, _⟩) (v := .pointer (some ⟨g, o + j * 2, none⟩)) rfl (by kernel_rfl) (by kernel_rfl) (by kernel_rfl) (fun _ _ _ h => h) (Or.inl ⟨by rfl, ?_⟩) hHeld ?_
                      · intro u hu
                        go_simp
                      try simp only [Act.put, List.setIfInBounds_toArray, List.set_cons_zero, List.set_cons_succ]
                      refine wpAnyH_take (i := 10) (oi := ⟨some 63, _, _, _, _, _⟩) (v := .pointer (some ⟨g, o + j * 2, none⟩)) rfl (by kernel_rfl) (by kernel_rfl) (by kernel_rfl) (fun _ _ _ h => h) (Or.inl ⟨by rfl, ?_⟩) hHeld ?_
                      · intro u hu
                        go_simp
                      try simp only [Act.put, List.setIfInBounds_toArray, List.set_cons_zero, List.set_cons_succ]
                      refine wpAnyH_take (i := 11) (oi := ⟨some 64, _, _, _, _, _⟩) (v := .int .i64 kk) rfl (by kernel_rfl) (by kernel_rfl) (by kernel_rfl) (fun _ _ _ h => h) (Or.inl ⟨by rfl, ?_⟩) hHeld ?_
                      · intro u hu
                        go_simp
                      try simp only [Act.put, List.setIfInBounds_toArray, List.set_cons_zero, List.set_cons_succ]
                      refine wpAnyH_take (i := 12) (oi := ⟨some 65, _, _, _, _, _⟩) (v := .bool true) rfl (by kernel_rfl) (by kernel_rfl) (by kernel_rfl) (fun _ _ _ h => h) (Or.inl ⟨by rfl, ?_⟩) hHeld ?_
                      · intro u hu
                        go_simp
                      try simp only [Act.put, List.setIfInBounds_toArray, List.set_cons_zero, List.set_cons_succ]
                      refine wpAnyH_take (i := 13) (oi := ⟨some 66, _, _, _, _, _⟩) (v := .bool true) rfl (by kernel_rfl) (by kernel_rfl) (by kernel_rfl) (fun _ _ _ h => h) (Or.inl ⟨by rfl, ?_⟩) hHeld ?_
                      · intro u hu
                        go_simp
                      try simp only [Act.put, List.setIfInBounds_toArray, List.set_cons_zero, List.set_cons_succ]
                      refine wpAnyH_take (i := 14) (oi := ⟨some 67, _, _, _, _, _⟩) (v := .agg #[.string nm, .slice A fs.length cap]) rfl (by kernel_rfl) (by kernel_rfl) (by kernel_rfl) (fun _ _ _ h => h) (Or.inl ⟨by rfl, ?_⟩) hHeld ?_
                      · intro u hu
                        go_simp
                      try simp only [Act.put, List.setIfInBounds_toArray, List.set_cons_zero, List.set_cons_succ]
                      refine wpAnyH_take (i := 15) (oi := ⟨some 68, _, _, _, _, _⟩) (v := .slice (some ⟨g, o, none⟩) qs.length vcap) rfl (by kernel_rfl) (by kernel_rfl) (by kernel_rfl) (fun _ _ _ h => h) (Or.inl ⟨by rfl, ?_⟩) hHeld ?_
                      · intro u hu
                        go_simp
                      try simp only [Act.put, List.setIfInBounds_toArray, List.set_cons_zero, List.set_cons_succ]
                      refine wpAnyH_take (i := 16) (oi := ⟨some 69, _, _, _, _, _⟩) (v := .int .i64 (j : Int)) rfl (by kernel_rfl) (by kernel_rfl) (by kernel_rfl) (fun _ _ _ h => h) (Or.inl ⟨by rfl, ?_⟩) hHeld ?_
                      · intro u hu
                        go_simp
                      try simp only [Act.put, List.setIfInBounds_toArray, List.set_cons_zero, List.set_cons_succ]
                      refine wpAnyH_take (i := 17) (oi := ⟨some 70, _, _, _, _, _⟩) (v := .pointer (some ⟨g, o + j * 2, none⟩)) rfl (by kernel_rfl) (by kernel_rfl) (by kernel_rfl) (fun _ _ _ h => h) (Or.inl ⟨by rfl, ?_⟩) hHeld ?_
                      · intro u hu
                        go_simp
                      try simp only [Act.put, List.setIfInBounds_toArray, List.set_cons_zero, List.set_cons_succ]
                      refine wpAnyH_take (i := 18) (oi := ⟨some 71, _, _, _, _, _⟩) (v := .pointer (some ⟨g, o + j * 2, none⟩)) rfl (by kernel_rfl) (by kernel_rfl) (by kernel_rfl) (fun _ _ _ h => h) (Or.inl ⟨by rfl, ?_⟩) hHeld ?_
                      · intro u hu
                        go_simp
                      try simp only [Act.put, List.setIfInBounds_toArray, List.set_cons_zero, List.set_cons_succ]
                      refine wpAnyH_take (i := 19) (oi := ⟨some 72, _, _, _, _, _⟩) (v := .int .i64 kk) rfl (by kernel_rfl) (by kernel_rfl) (by kernel_rfl) (fun _ _ _ h => h) (Or.inl ⟨by rfl, ?_⟩) hHeld ?_
                      · intro u hu
                        go_simp
                      try simp only [Act.put, List.setIfInBounds_toArray, List.set_cons_zero, List.set_cons_succ]
                      refine wpAnyH_ready (rs := [20]) (by kernel_rfl) (by simp) ?_
                      refine AllReadyH.cons (o := ⟨some 73, _, _, _, _, _⟩) rfl (fun K hK => ?_) AllReadyH.nil
                      go_simp
                      go_at_call 43
                      refine (CH.out _ B1).mono ?_
                      rintro e u2 ⟨rfl, h2⟩
                      have B2 : Below wr.heap.size wr u2 := bt B1 h2
                      clear h2
                      refine hK.out _ _ (SK.out _ B2) (fun hHeld => ?_)
                      clear hK K
                      try simp only [Act.put, List.setIfInBounds_toArray, List.set_cons_zero, List.set_cons_succ]
                      refine wpAnyH_take (i := 21) (oi := ⟨some 74, _, _, _, _, _⟩) (v := .bool true) rfl (by kernel_rfl) (by kernel_rfl) (by kernel_rfl) (fun _ _ _ h => h) (Or.inl ⟨by rfl, ?_⟩) hHeld ?_
                      · intro u hu
                        go_simp
                      try simp only [Act.put, List.setIfInBounds_toArray, List.set_cons_zero, List.set_cons_succ]
                      refine wpAnyH_take (i := 22) (oi := ⟨some 75, _, _, _, _, _⟩) (v := .bool true) rfl (by kernel_rfl) (by kernel_rfl) (by kernel_rfl) (fun _ _ _ h => h) (Or.inl ⟨by rfl, ?_⟩) hHeld ?_
                      · intro u hu
                        go_simp
                      try simp only [Act.put, List.setIfInBounds_toArray, List.set_cons_zero, List.set_cons_succ]
                      refine wpAnyH_take (i := 23) (oi := ⟨some 76, _, _, _, _, _⟩) (v := .bool true) rfl (by kernel_rfl) (by kernel_rfl) (by kernel_rfl) (fun _ _ _ h => h) (Or.inl ⟨by rfl, ?_⟩) hHeld ?_
                      · intro u hu
                        go_simp
                      try simp only [Act.put, List.setIfInBounds_toArray, List.set_cons_zero, List.set_cons_succ]
                      refine wpAnyH_done (by kernel_rfl) ?_ _
                      clear hHeld
                      go_wp2
                      go_ret
                      exact ⟨by rw [HV.out]; rfl, HB1.out.trans ((bt HB12.out B2).mono HB1.out.size)⟩
                    · have dm : decide ((1 : Int) < ((hasN qs kk : Nat) : Int)) = false := decide_eq_false (by omega)
                      have dm2 : decide (1 < hasN qs kk) = false := decide_eq_false hm
                      have HN : Hid (∀ q ∈ qs.take (j + 1), partB q = true ∧ (q.k ≠ 1 → hasN qs q.k ≤ 1)) := mem_snoc (P := fun q : Pt => partB q = true ∧ (q.k ≠ 1 → hasN qs q.k ≤ 1)) hT.out HPP.out ⟨HPB.out.symm, fun _ => by rw [← HKD.out]; omega⟩
                      clear hk1
                      go_wp2_with fail
                      refine wp_region_held_drew (S := fun w' => w'.cell? ⟨w.heap.size, 0, none⟩ = some (.string nm) ∧ w'.cell? ⟨w.heap.size, 1, none⟩ = some (.slice A fs.length cap) ∧ w'.cell? ⟨g, o + j * 2, none⟩ = some (.int .i64 kk) ∧ w'.cell? ⟨g, o + j * 2 + 1, none⟩ = some (.string t)) (by kernel_rfl) ⟨d0, d1, hc, hc1⟩ (fun hHeld => ?_)
                      refine wpAnyH_take (i := 0) (oi := ⟨some 53, _, _, _, _, _⟩) (v := .slice (some ⟨g, o, none⟩) qs.length vcap) rfl (by kernel_rfl) (by kernel_rfl) (by kernel_rfl) (fun _ _ _ h => h) (Or.inl ⟨by rfl, ?_⟩) hHeld ?_
                      · intro u hu
                        go_simp
                      try simp only [Act.put, List.setIfInBounds_toArray, List.set_cons_zero, List.set_cons_succ]
                      refine wpAnyH_take (i := 1) (oi := ⟨some 54, _, _, _, _, _⟩) (v := .int .i64 (j : Int)) rfl (by kernel_rfl) (by kernel_rfl) (by kernel_rfl) (fun _ _ _ h => h) (Or.inl ⟨by rfl, ?_⟩) hHeld ?_
                      · intro u hu
                        go_simp
                      try simp only [Act.put, List.setIfInBounds_toArray, List.set_cons_zero, List.set_cons_succ]
                      refine wpAnyH_take (i := 2) (oi := ⟨some 55, _, _, _, _, _⟩) (v := .pointer (some ⟨g, o + j * 2, none⟩)) rfl (by kernel_rfl) (by kernel_rfl) (by kernel_rfl) (fun _ _ _ h => h) (Or.inl ⟨by rfl, ?_⟩) hHeld ?_
                      · intro u hu
                        go_simp
                      try simp only [Act.put, List.setIfInBounds_toArray, List.set_cons_zero, List.set_cons_succ]
                      refine wpAnyH_take (i := 3) (oi := ⟨some 56, _, _, _, _, _⟩) (v := .agg #[.int .i64 kk, .string t]) rfl (by kernel_rfl) (by kernel_rfl) (by kernel_rfl) (fun _ _ _ h => h) (Or.inl ⟨by rfl, ?_⟩) hHeld ?_
                      · intro u hu
                        go_simp
                      try simp only [Act.put, List.setIfInBounds_toArray, List.set_cons_zero, List.set_cons_succ]
                      refine wpAnyH_ready (rs := [4]) (by kernel_rfl) (by simp) ?_
                      refine AllReadyH.cons (o := ⟨some 57, _, _, _, _, _⟩) rfl (fun K hK => ?_) AllReadyH.nil
                      go_simp
                      go_at_call 42
                      refine (CPt.out _).mono ?_
                      rintro e u1 ⟨rfl, h1⟩
                      have B1 : Below wr.heap.size wr u1 := bt ((Below.refl _ wr).drew) h1
                      clear h1
                      refine hK.out _ _ (SK.out _ B1) (fun hHeld => ?_)
                      clear hK K
                      try simp only [Act.put, List.setIfInBounds_toArray, List.set_cons_zero, List.set_cons_succ]
                      refine wpAnyH_take (i := 5) (oi := ⟨some 58, _, _, _, _, _⟩) (v := .bool false) rfl (by kernel_rfl) (by kernel_rfl) (by kernel_rfl) (fun _ _ _ h => h) (Or.inl ⟨by rfl, ?_⟩) hHeld ?_
                      · intro u hu
                        go_simp
                      try simp only [Act.put, List.setIfInBounds_toArray, List.set_cons_zero, List.set_cons_succ]
                      refine wpAnyH_take (i := 6) (oi := ⟨some 59, _, _, _, _, _⟩) (v := .bool false) rfl (by kernel_rfl) (by kernel_rfl) (by kernel_rfl) (fun _ _ _ h => h) (Or.inl ⟨by rfl, ?_⟩) hHeld ?_
                      · intro u hu
                        go_simp
                      try simp only [Act.put, List.setIfInBounds_toArray, List.set_cons_zero, List.set_cons_succ]
                      refine wpAnyH_take (i := 7) (oi := ⟨some 60, _, _, _, _, _⟩) (v := .slice (some ⟨g, o, none⟩) qs.length vcap) rfl (by kernel_rfl) (by kernel_rfl) (by kernel_rfl) (fun _ _ _ h => h) (Or.inl ⟨by rfl, ?_⟩) hHeld ?_
                      · intro u hu
                        go_simp
                      try simp only [Act.put, List.setIfInBounds_toArray, List.set_cons_zero, List.set_cons_succ]
                      refine wpAnyH_take (i := 8) (oi := ⟨some 61, _, _, _, _, _⟩) (v := .int .i64 (j : Int)) rfl (by kernel_rfl) (by kernel_rfl) (by kernel_rfl) (fun _ _ _ h => h) (Or.inl ⟨by rfl, ?_⟩) hHeld ?_
                      · intro u hu
                        go_simp
                      try simp only [Act.put, List.setIfInBounds_toArray, List.set_cons_zero, List.set_cons_succ]
                      refine wpAnyH_take (i := 9) (oi := ⟨some 62, _, _, _, _, _⟩) (v := .pointer (some ⟨g, o + j * 2, none⟩)) rfl (by kernel_rfl) (by kernel_rfl) (by kernel_rfl) (fun _ _ _ h => h) (Or.inl ⟨by rfl, ?_⟩) hHeld ?_
                      · intro u hu
                        go_simp
                      try simp only [Act.put, List.setIfInBounds_toArray, List.set_cons_zero, List.set_cons_succ]
                      refine wpAnyH_take (i := 10) (oi := ⟨some 63, _, _, _, _, _⟩) (v := .pointer (some ⟨g, o + j * 2, none⟩)) rfl (by kernel_rfl) (by kernel_rfl) (by kernel_rfl) (fun _ _ _ h => h) (Or.inl ⟨by rfl, ?_⟩) hHeld ?_
                      · intro u hu
                        go_simp
                      try simp only [Act.put, List.setIfInBounds_toArray, List.set_cons_zero, List.set_cons_succ]
                      refine wpAnyH_take (i := 11) (oi := ⟨some 64, _, _, _, _, _⟩) (v := .int .i64 kk) rfl (by kernel_rfl) (by kernel_rfl) (by kernel_rfl) (fun _ _ _ h => h) (Or.inl ⟨by rfl, ?_⟩) hHeld ?_
                      · intro u hu
                        go_simp
                      try simp only [Act.put, List.setIfInBounds_toArray, List.set_cons_zero, List.set_cons_succ]
                      refine wpAnyH_take (i := 12) (oi := ⟨some 65, _, _, _, _, _⟩) (v := .bool true) rfl (by kernel_rfl) (by kernel_rfl) (by kernel_rfl) (fun _ _ _ h => h) (Or.inl ⟨by rfl, ?_⟩) hHeld ?_
                      · intro u hu
                        go_simp
                      try simp only [Act.put, List.setIfInBounds_toArray, List.set_cons_zero, List.set_cons_succ]
                      refine wpAnyH_take (i := 13) (oi := ⟨some 66, _, _, _, _, _⟩) (v := .bool true) rfl (by kernel_rfl) (by kernel_rfl) (by kernel_rfl) (fun _ _ _ h => h) (Or.inl ⟨by rfl, ?_⟩) hHeld ?_
                      · intro u hu
                        go_simp
                      try simp only [Act.put, List.setIfInBounds_toArray, List.set_cons_zero, List.set_cons_succ]
                      refine wpAnyH_take (i := 14) (oi := ⟨some 67, _, _, _, _, _⟩) (v := .agg #[.string nm, .slice A fs.length cap]) rfl (by kernel_rfl) (by kernel_rfl) (by kernel_rfl) (fun _ _ _ h => h) (Or.inl ⟨by rfl, ?_⟩) hHeld ?_
                      · intro u hu
                        go_simp
                      try simp only [Act.put, List.setIfInBounds_toArray, List.set_cons_zero, List.set_cons_succ]
                      refine wpAnyH_take (i := 15) (oi := ⟨some 68, _, _, _, _, _⟩) (v := .slice (some ⟨g, o, none⟩) qs.length vcap) rfl (by kernel_rfl) (by kernel_rfl) (by kernel_rfl) (fun _ _ _ h => h) (Or.inl ⟨by rfl, ?_⟩) hHeld ?_
                      · intro u hu
                        go_simp
                      try simp only [Act.put, List.setIfInBounds_toArray, List.set_cons_zero, List.set_cons_succ]
                      refine wpAnyH_take (i := 16) (oi := ⟨some 69, _, _, _, _, _⟩) (v := .int .i64 (j : Int)) rfl (by kernel_rfl) (by kernel_rfl) (by kernel_rfl) (fun _ _ _ h => h) (Or.inl ⟨by rfl, ?_⟩) hHeld ?_
                      · intro u hu
                        go_simp
                      try simp only [Act.put, List.setIfInBounds_toArray, List.set_cons_zero, List.set_cons_succ]
                      refine wpAnyH_take (i := 17) (oi := ⟨some 70, _, _, _, _, _⟩) (v := .pointer (some ⟨g, o + j * 2, none⟩)) rfl (by kernel_rfl) (by kernel_rfl) (by kernel_rfl) (fun _ _ _ h => h) (Or.inl ⟨by rfl, ?_⟩) hHeld ?_
                      · intro u hu
                        go_simp
                      try simp only [Act.put, List.setIfInBounds_toArray, List.set_cons_zero, List.set_cons_succ]
                      refine wpAnyH_take (i := 18) (oi := ⟨some 71, _, _, _, _, _⟩) (v := .pointer (some ⟨g, o + j * 2, none⟩)) rfl (by kernel_rfl) (by kernel_rfl) (by kernel_rfl) (fun _ _ _ h => h) (Or.inl ⟨by rfl, ?_⟩) hHeld ?_
                      · intro u hu
                        go_simp
                      try simp only [Act.put, List.setIfInBounds_toArray, List.set_cons_zero, List.set_cons_succ]
                      refine wpAnyH_take (i := 19) (oi := ⟨some 72, _, _, _, _, _⟩) (v := .int .i64 kk) rfl (by kernel_rfl) (by kernel_rfl) (by kernel_rfl) (fun _ _ _ h => h) (Or.inl ⟨by rfl, ?_⟩) hHeld ?_
                      · intro u hu
                        go_simp
                      try simp only [Act.put, List.setIfInBounds_toArray, List.set_cons_zero, List.set_cons_succ]
                      refine wpAnyH_ready (rs := [20]) (by kernel_rfl) (by simp) ?_
                      refine AllReadyH.cons (o := ⟨some 73, _, _, _, _, _⟩) rfl (fun K hK => ?_) AllReadyH.nil
                      go_simp
                      go_at_call 43
                      refine (CH.out _ B1).mono ?_
                      rintro e u2 ⟨rfl, h2⟩
                      have B2 : Below wr.heap.size wr u2 := bt B1 h2
                      clear h2
                      refine hK.out _ _ (SK.out _ B2) (fun hHeld => ?_)
                      clear hK K
                      try simp only [Act.put, List.setIfInBounds_toArray, List.set_cons_zero, List.set_cons_succ]
                      refine wpAnyH_take (i := 21) (oi := ⟨some 74, _, _, _, _, _⟩) (v := .bool false) rfl (by kernel_rfl) (by kernel_rfl) (by kernel_rfl) (fun _ _ _ h => h) (Or.inl ⟨by rfl, ?_⟩) hHeld ?_
                      · intro u hu
                        go_simp
                      try simp only [Act.put, List.setIfInBounds_toArray, List.set_cons_zero, List.set_cons_succ]
                      refine wpAnyH_take (i := 22) (oi := ⟨some 75, _, _, _, _, _⟩) (v := .bool false) rfl (by kernel_rfl) (by kernel_rfl) (by kernel_rfl) (fun _ _ _ h => h) (Or.inl ⟨by rfl, ?_⟩) hHeld ?_
                      · intro u hu
                        go_simp
                      try simp only [Act.put, List.setIfInBounds_toArray, List.set_cons_zero, List.set_cons_succ]
                      refine wpAnyH_take (i := 23) (oi := ⟨some 76, _, _, _, _, _⟩) (v := .bool false) rfl (by kernel_rfl) (by kernel_rfl) (by kernel_rfl) (fun _ _ _ h => h) (Or.inl ⟨by rfl, ?_⟩) hHeld ?_
                      · intro u hu
                        go_simp
                      try simp only [Act.put, List.setIfInBounds_toArray, List.set_cons_zero, List.set_cons_succ]
                      refine wpAnyH_done (by kernel_rfl) ?_ _
                      clear hHeld
                      go_wp2
                      go_roundw
                      case rel => exact ⟨j + 1, by omega, by go_num, HN, bt hB.out B2⟩
                      case measure => simp [intOf]; omega
              · obtain rfl : j = qs.length := by omega
                have hall := hT.out
                rw [List.take_length, HQS.out] at hall
                have HV := hid (HR.out.trans (valid_yes HQ.out HF8.out.1 HF8.out.2 HP.out hall))
                clear hall
                go_wp2
                go_ret
                exact ⟨by rw [HV.out]; rfl, HB1.out.trans (HB12.out.mono HB1.out.size)⟩

end Fm
end Go.Proofs.YtcaiejbnhjiflaaGreatDoor
