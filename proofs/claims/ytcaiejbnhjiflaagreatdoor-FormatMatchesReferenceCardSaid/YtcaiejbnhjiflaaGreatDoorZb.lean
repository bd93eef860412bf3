/-
  FormatMatchesReference: all functions return what the document's own ones return. For every input; the listed package-level variables hold what the program's text lays (the card ties them).
-/
import Derived.Test.YtcaiejbnhjiflaaGreatDoorLPr
import Derived.Test.YtcaiejbnhjiflaaGreatDoorZa
import Derived.Deep.RegionHeld3
import Derived.Test.YtcaiejbnhjiflaaGreatDoorOpen2
namespace Go.Proofs.YtcaiejbnhjiflaaGreatDoor
open Go.RowKit Go.ChangeMaps
namespace Fm

theorem print_few (name : W) (fs : List (List Pt)) (x : Ad) (h : fs.length ≤ 10) : (printR name fs x).1.length ≤ 10 := by
  unfold printR
  split
  · simpa using h
  · simp
set_option maxRecDepth 100000 in
set_option maxHeartbeats 16000000 in
theorem matches_law (name : W) (fs : List (List Pt)) (fv : Value) (lns : List W) (lv : Value) (x : Ad) (w : World) (hT : Tab w) (hF : IsPs w fv fs) (hL : IsW w lv lns) (hx : BigAd x) :
    Calls Tryz.prog 3 #[.agg #[.string (sB name), fv], lv, adV x] w fun e w' => e = .returned (.bool true) ∧ Below w.heap.size w w' := by
  obtain ⟨A, cap, fvs, hfv, -⟩ := id hF
  subst hfv
  obtain ⟨lA, lcap, hlv, hlS⟩ := id hL
  subst hlv
  have HT := hid hT
  obtain ⟨w1, hw1⟩ : ∃ w1, w1 = (w.alloc (.cells #[.string (sB name), .slice A fs.length cap] 24)).alloc (.cells #[.string (sB x.person), .string (sB x.street), .int .i64 x.number, .string (sB x.code), .string (sB x.town)] 27) := ⟨_, rfl⟩
  have hb1 : Below w.heap.size w w1 := by rw [hw1]; exact (b0 _ _).alloc (by simp) _
  have HX1 : Hid (XB w1 (w.heap.size + 1) x) := by
    show XB _ _ _
    rw [hw1]; unfold XB; rw [hpk, if_pos (World.size_alloc w _).symm]
  have HS1 : Hid (Fx w w.heap.size name fs A cap w1) := ⟨by rw [hw1, Below.heap_alloc _ _ _ (by simp)]; exact heap_new _ _, hF.on hb1, hb1⟩
  have HL1 := hid (hL.on hb1)
  have BX := hid hx
  have CFew := hid (fun u (h : Fx w w.heap.size name fs A cap u) (hl : IsW u (.slice lA lns.length lcap) lns) => few_any name fs (.slice A fs.length cap) lns (.slice lA lns.length lcap) u h.isp hl)
  have CPr := hid (fun u (h : Fx w w.heap.size name fs A cap u) (hs : Small x) (ls : List W) (er : Int) (hp : printR name fs x = (ls, er)) => print_any name fs (.slice A fs.length cap) x u h.isp hs (tab_on HT.out h.bel) hp)
  have CRp := hid (fun u (h : Fx w w.heap.size name fs A cap u) (h10 : fs.length ≤ 10) (hp : ∀ ps ∈ fs, ps.length ≤ 10) (hnm : name.length ≤ 100000) (ht : ∀ p ∈ fs.flatten, p.t.length ≤ 1000) (hs : Small x) (ls : List W) (er : Int) (hq : printR name fs x = (ls, er)) => rprint_any name fs (.slice A fs.length cap) x u h.isp h10 hp hnm ht hs hq)
  have CPa := hid (fun u (h : Fx w w.heap.size name fs A cap u) (hl : IsW u (.slice lA lns.length lcap) lns) (hn : lns.length ≤ 1000) (hz : ∀ l ∈ lns, l.length ≤ 5000) (rs : List Ad) (er : Int) (hp : parseR name fs lns = (rs, er)) => parse_any name fs (.slice A fs.length cap) lns (.slice lA lns.length lcap) u h.isp hl hn hz hp)
  have CRa := hid (fun u (h : Fx w w.heap.size name fs A cap u) (hl : IsW u (.slice lA lns.length lcap) lns) (hnm : name.length ≤ 100000) (ht : ∀ p ∈ fs.flatten, p.t.length ≤ 1000) (hn : lns.length ≤ 1000) (hz : ∀ l ∈ lns, l.length ≤ 1000) (rs : List Ad) (er : Int) (hp : parseR name fs lns = (rs, er)) => rparse_any name fs (.slice A fs.length cap) lns (.slice lA lns.length lcap) u h.isp hl hnm ht hn hz hp)
  have CVa := hid (fun u (h : Fx w w.heap.size name fs A cap u) => valid_any name fs (.slice A fs.length cap) u h.isp)
  have CVr := hid (fun u (h : Fx w w.heap.size name fs A cap u) (hnm : name.length ≤ 100000) (ht : ∀ p ∈ fs.flatten, p.t.length ≤ 1000) => rvalid_any name fs (.slice A fs.length cap) u h.isp hnm ht)
  have HXC := hid (fun (u : World) (h : XB u (w.heap.size + 1) x) => h.cell)
  have HSC := hid (fun (u : World) (h : Fx w w.heap.size name fs A cap u) => h.cells)
  have bp := sB_size x.person
  have bs := sB_size x.street
  have bc := sB_size x.code
  have bt' := sB_size x.town
  have hx1 := hx.p
  have hx2 := hx.s
  have hx3 := hx.c
  have hx4 := hx.t
  unfold adV at CPr CRp ⊢
  clear hT hF hL hlS hx hb1
  obtain ⟨nm, hnm⟩ : ∃ nm, nm = sB name := ⟨_, rfl⟩
  obtain ⟨p, hp⟩ : ∃ p, p = sB x.person := ⟨_, rfl⟩
  obtain ⟨s, hs⟩ : ∃ s, s = sB x.street := ⟨_, rfl⟩
  obtain ⟨c, hc⟩ : ∃ c, c = sB x.code := ⟨_, rfl⟩
  obtain ⟨t, ht⟩ : ∃ t, t = sB x.town := ⟨_, rfl⟩
  rw [← hnm] at hw1 CFew CPr CRp CPa CRa CVa CVr HSC ⊢
  rw [← hp] at hw1 CPr CRp HXC bp ⊢
  rw [← hs] at hw1 CPr CRp HXC bs ⊢
  rw [← hc] at hw1 CPr CRp HXC bc ⊢
  rw [← ht] at hw1 CPr CRp HXC bt' ⊢
  clear hnm hp hs hc ht
  go_enter Tryz.func3, Tryz.ntmps3
  go_wp2_with fail
  rw [← hw1]
  clear hw1
  refine (head_any _ (tab_on HT.out HS1.out.bel)).mono ?_
  rintro e w2 ⟨rfl, hb2⟩
  have HS2 := hid (HS1.out.on hb2)
  have HX2 := hid (HX1.out.on hb2)
  have HL2 := hid (HL1.out.on hb2)
  obtain ⟨d0, d1⟩ := HSC.out _ HS2.out
  have hl2 := HS2.out.lt
  clear hb2 HS1 HX1 HL1
  go_wp2_with fail
  refine (CFew.out _ HS2.out HL2.out).mono ?_
  rintro e w3 ⟨b, rfl, hFew, hb3⟩
  have HS3 := hid (HS2.out.on hb3)
  have HX3 := hid (HX2.out.on hb3)
  have HL3 := hid (HL2.out.on hb3)
  obtain ⟨d0, d1⟩ := HSC.out _ HS3.out
  obtain ⟨x0, x1, x2, x3, x4⟩ := HXC.out _ HX3.out
  have hl3 := HS3.out.lt
  have hl3' : w.heap.size + 1 < w3.heap.size := heap_lt HX3.out
  clear hb3 HS2 HX2 HL2 hl2
  cases b
  · go_wp2
    go_ret
    exact ⟨rfl, HS3.out.bel⟩
  · have HFew := hid (hFew.out rfl)
    clear hFew
    by_cases h400 : 400 < s.size + t.size + p.size + c.size
    · have d400 : decide ((400 : Int) < (s.size : Int) + (t.size : Int) + (p.size : Int) + (c.size : Int)) = true := decide_eq_true (by omega)
      have z1 : s.size ≤ 140737488355328 := by omega
      have z2 : t.size ≤ 140737488355328 := by omega
      have z3 : p.size ≤ 140737488355328 := by omega
      have z4 : c.size ≤ 140737488355328 := by omega
      clear bp bs bc bt' hx1 hx2 hx3 hx4 h400
      go_wp2
      go_ret
      exact ⟨rfl, HS3.out.bel⟩
    · have d400 : decide ((400 : Int) < (s.size : Int) + (t.size : Int) + (p.size : Int) + (c.size : Int)) = false := decide_eq_false (by omega)
      have z1 : s.size ≤ 400 := by omega
      have z2 : t.size ≤ 400 := by omega
      have z3 : p.size ≤ 400 := by omega
      have z4 : c.size ≤ 400 := by omega
      have HSm : Hid (Small x) := ⟨by omega, by omega, by omega, by omega, BX.out.n0, BX.out.n1⟩
      clear bp bs bc bt' hx1 hx2 hx3 hx4 h400
      have hln8 := HFew.out.ln
      have HNM : Hid (name.length ≤ 100000) := by have := HFew.out.nm; show _ ≤ _; omega
      have HTS : Hid (∀ p ∈ fs.flatten, p.t.length ≤ 1000) := fun p hp => by have := HFew.out.ts p hp; omega
      have HZ1 : Hid (∀ x ∈ lns, x.length ≤ 5000) := fun x hx => by have := HFew.out.ls x hx; omega
      have HZ2 : Hid (∀ x ∈ lns, x.length ≤ 1000) := fun x hx => by have := HFew.out.ls x hx; omega
      obtain ⟨rs, er, hpa⟩ : ∃ rs er, parseR name fs lns = (rs, er) := ⟨_, _, rfl⟩
      obtain ⟨ls, ep, hpr⟩ : ∃ ls ep, printR name fs x = (ls, ep) := ⟨_, _, rfl⟩
      have HN16 : Hid (rs.length ≤ 100000) := by have := parse_len name fs lns; rw [hpa] at this; show _ ≤ _; simp only at this; omega
      have HN8 : Hid (ls.length ≤ 100000) := by have := print_few name fs x HFew.out.fn; rw [hpr] at this; show _ ≤ _; simp only at this; omega
      have HPA := hid hpa
      have HPR := hid hpr
      clear hpa hpr
      go_wp2_with fail
      refine (CPa.out _ HS3.out HL3.out (by omega) HZ1.out rs er HPA.out).mono ?_
      rintro e w4 ⟨v4, rfl, hA4, hb4⟩
      have HS4 := hid (HS3.out.on hb4)
      have HX4 := hid (HX3.out.on hb4)
      have HL4 := hid (HL3.out.on hb4)
      clear d0 d1 x0 x1 x2 x3 x4 hb4 HS3 HX3 HL3 hl3 hl3' d400
      obtain ⟨d0, d1⟩ := HSC.out _ HS4.out
      have hl4 := HS4.out.lt
      go_wp2_with fail
      refine (CRa.out _ HS4.out HL4.out HNM.out HTS.out (by omega) HZ2.out rs er HPA.out).mono ?_
      rintro e w5 ⟨v5, rfl, hA5, hb5⟩
      have HA4 := hid (hA4.out.on hb5)
      have HS5 := hid (HS4.out.on hb5)
      have HX5 := hid (HX4.out.on hb5)
      have HL5 := hid (HL4.out.on hb5)
      clear d0 d1 hb5 HS4 HX4 HL4 hl4 hA4
      obtain ⟨d0, d1⟩ := HSC.out _ HS5.out
      obtain ⟨x0, x1, x2, x3, x4⟩ := HXC.out _ HX5.out
      have hl5 := HS5.out.lt
      have hl5' : w.heap.size + 1 < w5.heap.size := heap_lt HX5.out
      go_wp2_with fail
      refine (CPr.out _ HS5.out HSm.out ls ep HPR.out).mono ?_
      rintro e w6 ⟨v6, rfl, hA6, hb6⟩
      have HA4 := hid (HA4.out.on hb6)
      have HA5 := hid (hA5.out.on hb6)
      have HS6 := hid (HS5.out.on hb6)
      have HX6 := hid (HX5.out.on hb6)
      have HL6 := hid (HL5.out.on hb6)
      clear d0 d1 x0 x1 x2 x3 x4 hb6 HS5 HX5 HL5 hl5 hl5' hA5
      obtain ⟨d0, d1⟩ := HSC.out _ HS6.out
      obtain ⟨x0, x1, x2, x3, x4⟩ := HXC.out _ HX6.out
      have hl6 := HS6.out.lt
      have hl6' : w.heap.size + 1 < w6.heap.size := heap_lt HX6.out
      go_wp2_with fail
      refine (CRp.out _ HS6.out HFew.out.fn HFew.out.ps HNM.out HTS.out HSm.out ls ep HPR.out).mono ?_
      rintro e w7 ⟨v7, rfl, hA7, hb7⟩
      have HA4 := hid (HA4.out.on hb7)
      have HA5 := hid (HA5.out.on hb7)
      have HA6 := hid (hA6.out.on hb7)
      have HA7 := hid hA7.out
      have HS7 := hid (HS6.out.on hb7)
      have HL7 := hid (HL6.out.on hb7)
      clear d0 d1 x0 x1 x2 x3 x4 hb7 HS6 HX6 HL6 hl6 hl6' hA6 hA7
      go_wp2
      go_loopw [16, 17] (fun b i wr => ∃ k : Nat, k ≤ lns.length ∧ i = .int .i64 k ∧ b = .bool true ∧ Hid (Below w7.heap.size w7 wr)) (fun _ i _ => lns.length - (intOf i).toNat)
      case atStart => exact ⟨0, Nat.zero_le _, rfl, rfl, Below.refl _ _⟩
      case round =>
        obtain ⟨k, hk, rfl, rfl, hB⟩ := hrel
        by_cases hlt : k < lns.length
        · obtain ⟨l, hl⟩ : ∃ l, lns[k]? = some l := ⟨_, List.getElem?_eq_getElem hlt⟩
          obtain ⟨_, _, e2, hLR⟩ := HL7.out.on hB.out
          cases e2
          obtain ⟨lg, lo, rfl, hlg, cl⟩ := SlR.at hLR (k := k) (u := sV l) (by rw [List.getElem?_map, hl]; rfl)
          unfold sV at cl
          have hll := HZ2.out l (List.mem_of_getElem? hl)
          have CW1 : Hid (∀ u, Calls Tryz.prog 17 #[.string (sB l)] u fun e w' => ∃ v, e = .returned v ∧ IsW w' v (wordsL l) ∧ Below u.heap.size u w') := fun u => (words_any (sB l) u (by rw [sB_size]; omega)).mono fun e w' ⟨v, he, ho, hb⟩ => ⟨v, he, IsW.of_own ho, hb⟩
          have CW2 : Hid (∀ u, Calls Tryz.prog 18 #[.string (sB l)] u fun e w' => ∃ v, e = .returned v ∧ IsW w' v (wordsL l) ∧ Below u.heap.size u w') := fun u => by
            have h := rwords_any (sB l) u (by rw [sB_size]; omega)
            rw [sB_list] at h
            exact h
          obtain ⟨ws, hws⟩ : ∃ ws, ws = wordsL l := ⟨_, rfl⟩
          have HWN : Hid (ws.length ≤ 100000) := by show _ ≤ _; rw [hws]; have := words_len l; omega
          rw [← hws] at CW1 CW2
          obtain ⟨z, hz⟩ : ∃ z, z = sB l := ⟨_, rfl⟩
          rw [← hz] at CW1 CW2 cl
          have SK : Hid (∀ u, Below wr.heap.size wr u → u.cell? ⟨lg, lo + k, none⟩ = some (.string z)) := fun u hu => (hu.cell (p := (⟨lg, lo + k, none⟩ : Addr)) hlg).trans cl
          have hk0 : 0 ≤ (k : Int) := by omega
          have hk1 : (k : Int) < (lns.length : Int) := by omega
          clear hl hLR hll hws hz cl
          go_wp2_with fail
          refine wp_region_held_drew (S := fun w' => w'.cell? ⟨lg, lo + k, none⟩ = some (.string z)) (by kernel_rfl) (SK.out _ (Below.refl _ _).drew) (fun hHeld => ?_)
          obtain ⟨wd, hwd⟩ : ∃ u, u = wr.drew := ⟨_, rfl⟩
          have bd : Below wr.heap.size wr wd := by rw [hwd]; exact (Below.refl _ _).drew
          rw [← hwd] at hHeld ⊢
          clear hwd
          refine wpAnyH_take (i := 0) (oi := ⟨some 72, _, _, _, _, _⟩) (v := .bool true) rfl (by kernel_rfl) (by kernel_rfl) (by kernel_rfl) (fun _ _ _ h => h) (Or.inl ⟨by rfl, ?_⟩) hHeld ?_
          · intro u hu
            go_simp
          try simp only [Act.put, List.setIfInBounds_toArray, List.set_cons_zero, List.set_cons_succ]
          refine wpAnyH_take (i := 1) (oi := ⟨some 73, _, _, _, _, _⟩) (v := .bool true) rfl (by kernel_rfl) (by kernel_rfl) (by kernel_rfl) (fun _ _ _ h => h) (Or.inl ⟨by rfl, ?_⟩) hHeld ?_
          · intro u hu
            go_simp
          try simp only [Act.put, List.setIfInBounds_toArray, List.set_cons_zero, List.set_cons_succ]
          refine wpAnyH_take (i := 2) (oi := ⟨some 74, _, _, _, _, _⟩) (v := .slice (some ⟨lg, lo, none⟩) lns.length lcap) rfl (by kernel_rfl) (by kernel_rfl) (by kernel_rfl) (fun _ _ _ h => h) (Or.inl ⟨by rfl, ?_⟩) hHeld ?_
          · intro u hu
            go_simp
          try simp only [Act.put, List.setIfInBounds_toArray, List.set_cons_zero, List.set_cons_succ]
          refine wpAnyH_take (i := 3) (oi := ⟨some 75, _, _, _, _, _⟩) (v := .int .i64 (k : Int)) rfl (by kernel_rfl) (by kernel_rfl) (by kernel_rfl) (fun _ _ _ h => h) (Or.inl ⟨by rfl, ?_⟩) hHeld ?_
          · intro u hu
            go_simp
          try simp only [Act.put, List.setIfInBounds_toArray, List.set_cons_zero, List.set_cons_succ]
          refine wpAnyH_take (i := 4) (oi := ⟨some 76, _, _, _, _, _⟩) (v := .pointer (some ⟨lg, lo + k, none⟩)) rfl (by kernel_rfl) (by kernel_rfl) (by kernel_rfl) (fun _ _ _ h => h) (Or.inl ⟨by rfl, ?_⟩) hHeld ?_
          · intro u hu
            go_simp
          try simp only [Act.put, List.setIfInBounds_toArray, List.set_cons_zero, List.set_cons_succ]
          refine wpAnyH_take (i := 5) (oi := ⟨some 77, _, _, _, _, _⟩) (v := .string z) rfl (by kernel_rfl) (by kernel_rfl) (by kernel_rfl) (fun _ _ _ h => h) (Or.inl ⟨by rfl, ?_⟩) hHeld ?_
          · intro u hu
            go_simp
          try simp only [Act.put, List.setIfInBounds_toArray, List.set_cons_zero, List.set_cons_succ]
          refine wpAnyH_take (i := 7) (oi := ⟨some 79, _, _, _, _, _⟩) (v := .slice (some ⟨lg, lo, none⟩) lns.length lcap) rfl (by kernel_rfl) (by kernel_rfl) (by kernel_rfl) (fun _ _ _ h => h) (Or.inl ⟨by rfl, ?_⟩) hHeld ?_
          · intro u hu
            go_simp
          try simp only [Act.put, List.setIfInBounds_toArray, List.set_cons_zero, List.set_cons_succ]
          refine wpAnyH_take (i := 8) (oi := ⟨some 80, _, _, _, _, _⟩) (v := .int .i64 (k : Int)) rfl (by kernel_rfl) (by kernel_rfl) (by kernel_rfl) (fun _ _ _ h => h) (Or.inl ⟨by rfl, ?_⟩) hHeld ?_
          · intro u hu
            go_simp
          try simp only [Act.put, List.setIfInBounds_toArray, List.set_cons_zero, List.set_cons_succ]
          refine wpAnyH_take (i := 9) (oi := ⟨some 81, _, _, _, _, _⟩) (v := .pointer (some ⟨lg, lo + k, none⟩)) rfl (by kernel_rfl) (by kernel_rfl) (by kernel_rfl) (fun _ _ _ h => h) (Or.inl ⟨by rfl, ?_⟩) hHeld ?_
          · intro u hu
            go_simp
          try simp only [Act.put, List.setIfInBounds_toArray, List.set_cons_zero, List.set_cons_succ]
          refine wpAnyH_take (i := 10) (oi := ⟨some 82, _, _, _, _, _⟩) (v := .string z) rfl (by kernel_rfl) (by kernel_rfl) (by kernel_rfl) (fun _ _ _ h => h) (Or.inl ⟨by rfl, ?_⟩) hHeld ?_
          · intro u hu
            go_simp
          try simp only [Act.put, List.setIfInBounds_toArray, List.set_cons_zero, List.set_cons_succ]
          refine wpAnyH_ready (rs := [6]) (by kernel_rfl) (by simp) ?_
          refine AllReadyH.cons (o := ⟨some 78, _, _, _, _, _⟩) rfl (fun K hK => ?_) AllReadyH.nil
          go_simp
          go_at_call 17
          refine (CW1.out _).mono ?_
          rintro e y1 ⟨va, rfl, hVa, h9⟩
          have Y1 : Below wr.heap.size wr y1 := bt bd h9
          have HVa := hid hVa
          clear h9 hVa
          refine hK.out _ _ (SK.out _ Y1) (fun hHeld => ?_)
          clear hK K
          try simp only [Act.put, List.setIfInBounds_toArray, List.set_cons_zero, List.set_cons_succ]
          refine wpAnyH_ready (rs := [11]) (by kernel_rfl) (by simp) ?_
          refine AllReadyH.cons (o := ⟨some 83, _, _, _, _, _⟩) rfl (fun K hK => ?_) AllReadyH.nil
          go_simp
          go_at_call 18
          refine (CW2.out _).mono ?_
          rintro e y2 ⟨vb, rfl, hVb, h9⟩
          have Y2 : Below wr.heap.size wr y2 := bt Y1 h9
          have HVa := hid (HVa.out.on h9)
          have HVb := hid hVb
          clear h9 hVb
          refine hK.out _ _ (SK.out _ Y2) (fun hHeld => ?_)
          clear hK K
          try simp only [Act.put, List.setIfInBounds_toArray, List.set_cons_zero, List.set_cons_succ]
          refine wpAnyH_ready (rs := [12]) (by kernel_rfl) (by simp) ?_
          refine AllReadyH.cons (o := ⟨some 84, _, _, _, _, _⟩) rfl (fun K hK => ?_) AllReadyH.nil
          go_simp
          go_at_call 16
          refine (rstrings_any va vb ws ws _ HVa.out HVb.out HWN.out HWN.out).mono ?_
          rintro e y3 ⟨rfl, h9⟩
          have Y3 : Below wr.heap.size wr y3 := bt Y2 h9
          clear h9
          try rw [decide_eq_true (rfl : ws = ws)]
          refine hK.out _ _ (SK.out _ Y3) (fun hHeld => ?_)
          clear hK K
          try simp only [Act.put, List.setIfInBounds_toArray, List.set_cons_zero, List.set_cons_succ]
          refine wpAnyH_take (i := 13) (oi := ⟨some 85, _, _, _, _, _⟩) (v := .bool true) rfl (by kernel_rfl) (by kernel_rfl) (by kernel_rfl) (fun _ _ _ h => h) (Or.inl ⟨by rfl, ?_⟩) hHeld ?_
          · intro u hu
            go_simp
          try simp only [Act.put, List.setIfInBounds_toArray, List.set_cons_zero, List.set_cons_succ]
          refine wpAnyH_take (i := 14) (oi := ⟨some 16, _, _, _, _, _⟩) (v := .bool true) rfl (by kernel_rfl) (by kernel_rfl) (by kernel_rfl) (fun _ _ _ h => h) (Or.inl ⟨by rfl, ?_⟩) hHeld ?_
          · intro u hu
            go_simp
          try simp only [Act.put, List.setIfInBounds_toArray, List.set_cons_zero, List.set_cons_succ]
          refine wpAnyH_done (by kernel_rfl) ?_ _
          clear hHeld
          clear hHeld
          go_wp2
          go_roundw
          case rel => exact ⟨k + 1, by omega, by go_num, rfl, bt hB.out Y3⟩
          case measure => simp [intOf]; omega
        · have HS8 := hid (HS7.out.on hB.out)
          have HA4 := hid (HA4.out.on hB.out)
          have HA5 := hid (HA5.out.on hB.out)
          have HA6 := hid (HA6.out.on hB.out)
          have HA7 := hid (HA7.out.on hB.out)
          have SK : Hid (∀ u, Below wr.heap.size wr u → u.cell? ⟨w.heap.size, 0, none⟩ = some (.string nm) ∧ u.cell? ⟨w.heap.size, 1, none⟩ = some (.slice A fs.length cap)) := fun u hu => HSC.out _ (HS8.out.on hu)
          have CV1 := hid (fun u (hu : Below wr.heap.size wr u) => CVa.out u (HS8.out.on hu))
          have CV2 := hid (fun u (hu : Below wr.heap.size wr u) => CVr.out u (HS8.out.on hu) HNM.out HTS.out)
          obtain ⟨vb, hvb⟩ : ∃ vb, vb = validB name fs := ⟨_, rfl⟩
          rw [← hvb] at CV1 CV2
          have q1 : ((er : Int) == er) = true := by simp
          have q2 : ((ep : Int) == ep) = true := by simp
          have q3 : (vb == vb) = true := by simp
          clear hvb
          go_wp2_with fail
          refine wp_region_held_drew (S := fun w' => w'.cell? ⟨w.heap.size, 0, none⟩ = some (.string nm) ∧ w'.cell? ⟨w.heap.size, 1, none⟩ = some (.slice A fs.length cap)) (by kernel_rfl) (SK.out _ (Below.refl _ _).drew) (fun hHeld => ?_)
          obtain ⟨wd, hwd⟩ : ∃ u, u = wr.drew := ⟨_, rfl⟩
          have bd : Below wr.heap.size wr wd := by rw [hwd]; exact (Below.refl _ _).drew
          rw [← hwd] at hHeld ⊢
          clear hwd
          refine wpAnyH_take (i := 0) (oi := ⟨some 86, _, _, _, _, _⟩) (v := .bool true) rfl (by kernel_rfl) (by kernel_rfl) (by kernel_rfl) (fun _ _ _ h => h) (Or.inl ⟨by rfl, ?_⟩) hHeld ?_
          · intro u hu
            go_simp
          try simp only [Act.put, List.setIfInBounds_toArray, List.set_cons_zero, List.set_cons_succ]
          refine wpAnyH_take (i := 1) (oi := ⟨some 87, _, _, _, _, _⟩) (v := .bool true) rfl (by kernel_rfl) (by kernel_rfl) (by kernel_rfl) (fun _ _ _ h => h) (Or.inl ⟨by rfl, ?_⟩) hHeld ?_
          · intro u hu
            go_simp
          try simp only [Act.put, List.setIfInBounds_toArray, List.set_cons_zero, List.set_cons_succ]
          refine wpAnyH_take (i := 2) (oi := ⟨some 88, _, _, _, _, _⟩) (v := .int .i64 er) rfl (by kernel_rfl) (by kernel_rfl) (by kernel_rfl) (fun _ _ _ h => h) (Or.inl ⟨by rfl, ?_⟩) hHeld ?_
          · intro u hu
            go_simp
          try simp only [Act.put, List.setIfInBounds_toArray, List.set_cons_zero, List.set_cons_succ]
          refine wpAnyH_take (i := 3) (oi := ⟨some 89, _, _, _, _, _⟩) (v := .int .i64 er) rfl (by kernel_rfl) (by kernel_rfl) (by kernel_rfl) (fun _ _ _ h => h) (Or.inl ⟨by rfl, ?_⟩) hHeld ?_
          · intro u hu
            go_simp
          try simp only [Act.put, List.setIfInBounds_toArray, List.set_cons_zero, List.set_cons_succ]
          refine wpAnyH_take (i := 4) (oi := ⟨some 90, _, _, _, _, _⟩) (v := .bool true) rfl (by kernel_rfl) (by kernel_rfl) (by kernel_rfl) (fun _ _ _ h => h) (Or.inl ⟨by rfl, ?_⟩) hHeld ?_
          · intro u hu
            go_simp
          try simp only [Act.put, List.setIfInBounds_toArray, List.set_cons_zero, List.set_cons_succ]
          refine wpAnyH_take (i := 5) (oi := ⟨some 91, _, _, _, _, _⟩) (v := .bool true) rfl (by kernel_rfl) (by kernel_rfl) (by kernel_rfl) (fun _ _ _ h => h) (Or.inl ⟨by rfl, ?_⟩) hHeld ?_
          · intro u hu
            go_simp
          try simp only [Act.put, List.setIfInBounds_toArray, List.set_cons_zero, List.set_cons_succ]
          refine wpAnyH_take (i := 6) (oi := ⟨some 92, _, _, _, _, _⟩) (v := .bool true) rfl (by kernel_rfl) (by kernel_rfl) (by kernel_rfl) (fun _ _ _ h => h) (Or.inl ⟨by rfl, ?_⟩) hHeld ?_
          · intro u hu
            go_simp
          try simp only [Act.put, List.setIfInBounds_toArray, List.set_cons_zero, List.set_cons_succ]
          refine wpAnyH_take (i := 7) (oi := ⟨some 93, _, _, _, _, _⟩) (v := v4) rfl (by kernel_rfl) (by kernel_rfl) (by kernel_rfl) (fun _ _ _ h => h) (Or.inl ⟨by rfl, ?_⟩) hHeld ?_
          · intro u hu
            go_simp
          try simp only [Act.put, List.setIfInBounds_toArray, List.set_cons_zero, List.set_cons_succ]
          refine wpAnyH_take (i := 8) (oi := ⟨some 94, _, _, _, _, _⟩) (v := v5) rfl (by kernel_rfl) (by kernel_rfl) (by kernel_rfl) (fun _ _ _ h => h) (Or.inl ⟨by rfl, ?_⟩) hHeld ?_
          · intro u hu
            go_simp
          try simp only [Act.put, List.setIfInBounds_toArray, List.set_cons_zero, List.set_cons_succ]
          refine wpAnyH_ready (rs := [9]) (by kernel_rfl) (by simp) ?_
          refine AllReadyH.cons (o := ⟨some 95, _, _, _, _, _⟩) rfl (fun K hK => ?_) AllReadyH.nil
          go_simp
          go_at_call 19
          refine (rsame_any v4 v5 rs rs _ (HA4.out.on bd) (HA5.out.on bd) HN16.out HN16.out).mono ?_
          rintro e y1 ⟨rfl, h9⟩
          have Y1 : Below wr.heap.size wr y1 := bt bd h9
          clear h9
          try rw [decide_eq_true (rfl : rs = rs)]
          refine hK.out _ _ (SK.out _ Y1) (fun hHeld => ?_)
          clear hK K
          try simp only [Act.put, List.setIfInBounds_toArray, List.set_cons_zero, List.set_cons_succ]
          refine wpAnyH_take (i := 10) (oi := ⟨some 96, _, _, _, _, _⟩) (v := .bool true) rfl (by kernel_rfl) (by kernel_rfl) (by kernel_rfl) (fun _ _ _ h => h) (Or.inl ⟨by rfl, ?_⟩) hHeld ?_
          · intro u hu
            go_simp
          try simp only [Act.put, List.setIfInBounds_toArray, List.set_cons_zero, List.set_cons_succ]
          refine wpAnyH_take (i := 11) (oi := ⟨some 97, _, _, _, _, _⟩) (v := .bool true) rfl (by kernel_rfl) (by kernel_rfl) (by kernel_rfl) (fun _ _ _ h => h) (Or.inl ⟨by rfl, ?_⟩) hHeld ?_
          · intro u hu
            go_simp
          try simp only [Act.put, List.setIfInBounds_toArray, List.set_cons_zero, List.set_cons_succ]
          refine wpAnyH_take (i := 12) (oi := ⟨some 98, _, _, _, _, _⟩) (v := .int .i64 ep) rfl (by kernel_rfl) (by kernel_rfl) (by kernel_rfl) (fun _ _ _ h => h) (Or.inl ⟨by rfl, ?_⟩) hHeld ?_
          · intro u hu
            go_simp
          try simp only [Act.put, List.setIfInBounds_toArray, List.set_cons_zero, List.set_cons_succ]
          refine wpAnyH_take (i := 13) (oi := ⟨some 99, _, _, _, _, _⟩) (v := .int .i64 ep) rfl (by kernel_rfl) (by kernel_rfl) (by kernel_rfl) (fun _ _ _ h => h) (Or.inl ⟨by rfl, ?_⟩) hHeld ?_
          · intro u hu
            go_simp
          try simp only [Act.put, List.setIfInBounds_toArray, List.set_cons_zero, List.set_cons_succ]
          refine wpAnyH_take (i := 14) (oi := ⟨some 100, _, _, _, _, _⟩) (v := .bool true) rfl (by kernel_rfl) (by kernel_rfl) (by kernel_rfl) (fun _ _ _ h => h) (Or.inl ⟨by rfl, ?_⟩) hHeld ?_
          · intro u hu
            go_simp
          try simp only [Act.put, List.setIfInBounds_toArray, List.set_cons_zero, List.set_cons_succ]
          refine wpAnyH_take (i := 15) (oi := ⟨some 101, _, _, _, _, _⟩) (v := .bool true) rfl (by kernel_rfl) (by kernel_rfl) (by kernel_rfl) (fun _ _ _ h => h) (Or.inl ⟨by rfl, ?_⟩) hHeld ?_
          · intro u hu
            go_simp
          try simp only [Act.put, List.setIfInBounds_toArray, List.set_cons_zero, List.set_cons_succ]
          refine wpAnyH_take (i := 16) (oi := ⟨some 102, _, _, _, _, _⟩) (v := .bool true) rfl (by kernel_rfl) (by kernel_rfl) (by kernel_rfl) (fun _ _ _ h => h) (Or.inl ⟨by rfl, ?_⟩) hHeld ?_
          · intro u hu
            go_simp
          try simp only [Act.put, List.setIfInBounds_toArray, List.set_cons_zero, List.set_cons_succ]
          refine wpAnyH_take (i := 17) (oi := ⟨some 103, _, _, _, _, _⟩) (v := v6) rfl (by kernel_rfl) (by kernel_rfl) (by kernel_rfl) (fun _ _ _ h => h) (Or.inl ⟨by rfl, ?_⟩) hHeld ?_
          · intro u hu
            go_simp
          try simp only [Act.put, List.setIfInBounds_toArray, List.set_cons_zero, List.set_cons_succ]
          refine wpAnyH_take (i := 18) (oi := ⟨some 104, _, _, _, _, _⟩) (v := v7) rfl (by kernel_rfl) (by kernel_rfl) (by kernel_rfl) (fun _ _ _ h => h) (Or.inl ⟨by rfl, ?_⟩) hHeld ?_
          · intro u hu
            go_simp
          try simp only [Act.put, List.setIfInBounds_toArray, List.set_cons_zero, List.set_cons_succ]
          refine wpAnyH_ready (rs := [19]) (by kernel_rfl) (by simp) ?_
          refine AllReadyH.cons (o := ⟨some 105, _, _, _, _, _⟩) rfl (fun K hK => ?_) AllReadyH.nil
          go_simp
          go_at_call 16
          refine (rstrings_any v6 v7 ls ls _ (HA6.out.on Y1) (HA7.out.on Y1) HN8.out HN8.out).mono ?_
          rintro e y2 ⟨rfl, h9⟩
          have Y2 : Below wr.heap.size wr y2 := bt Y1 h9
          clear h9
          try rw [decide_eq_true (rfl : ls = ls)]
          refine hK.out _ _ (SK.out _ Y2) (fun hHeld => ?_)
          clear hK K
          try simp only [Act.put, List.setIfInBounds_toArray, List.set_cons_zero, List.set_cons_succ]
          refine wpAnyH_take (i := 20) (oi := ⟨some 106, _, _, _, _, _⟩) (v := .bool true) rfl (by kernel_rfl) (by kernel_rfl) (by kernel_rfl) (fun _ _ _ h => h) (Or.inl ⟨by rfl, ?_⟩) hHeld ?_
          · intro u hu
            go_simp
          try simp only [Act.put, List.setIfInBounds_toArray, List.set_cons_zero, List.set_cons_succ]
          refine wpAnyH_take (i := 21) (oi := ⟨some 107, _, _, _, _, _⟩) (v := .bool true) rfl (by kernel_rfl) (by kernel_rfl) (by kernel_rfl) (fun _ _ _ h => h) (Or.inl ⟨by rfl, ?_⟩) hHeld ?_
          · intro u hu
            go_simp
          try simp only [Act.put, List.setIfInBounds_toArray, List.set_cons_zero, List.set_cons_succ]
          refine wpAnyH_take (i := 22) (oi := ⟨some 108, _, _, _, _, _⟩) (v := .bool true) rfl (by kernel_rfl) (by kernel_rfl) (by kernel_rfl) (fun _ _ _ h => h) (Or.inl ⟨by rfl, ?_⟩) hHeld ?_
          · intro u hu
            go_simp
          try simp only [Act.put, List.setIfInBounds_toArray, List.set_cons_zero, List.set_cons_succ]
          refine wpAnyH_take (i := 23) (oi := ⟨some 109, _, _, _, _, _⟩) (v := .bool true) rfl (by kernel_rfl) (by kernel_rfl) (by kernel_rfl) (fun _ _ _ h => h) (Or.inl ⟨by rfl, ?_⟩) hHeld ?_
          · intro u hu
            go_simp
          try simp only [Act.put, List.setIfInBounds_toArray, List.set_cons_zero, List.set_cons_succ]
          refine wpAnyH_take (i := 24) (oi := ⟨some 110, _, _, _, _, _⟩) (v := .bool true) rfl (by kernel_rfl) (by kernel_rfl) (by kernel_rfl) (fun _ _ _ h => h) (Or.inl ⟨by rfl, ?_⟩) hHeld ?_
          · intro u hu
            go_simp
          try simp only [Act.put, List.setIfInBounds_toArray, List.set_cons_zero, List.set_cons_succ]
          refine wpAnyH_take (i := 25) (oi := ⟨some 111, _, _, _, _, _⟩) (v := .agg #[.string nm, .slice A fs.length cap]) rfl (by kernel_rfl) (by kernel_rfl) (by kernel_rfl) (fun _ _ _ h => h) (Or.inl ⟨by rfl, ?_⟩) hHeld ?_
          · intro u hu
            go_simp
          try simp only [Act.put, List.setIfInBounds_toArray, List.set_cons_zero, List.set_cons_succ]
          refine wpAnyH_take (i := 27) (oi := ⟨some 113, _, _, _, _, _⟩) (v := .agg #[.string nm, .slice A fs.length cap]) rfl (by kernel_rfl) (by kernel_rfl) (by kernel_rfl) (fun _ _ _ h => h) (Or.inl ⟨by rfl, ?_⟩) hHeld ?_
          · intro u hu
            go_simp
          try simp only [Act.put, List.setIfInBounds_toArray, List.set_cons_zero, List.set_cons_succ]
          refine wpAnyH_ready (rs := [26]) (by kernel_rfl) (by simp) ?_
          refine AllReadyH.cons (o := ⟨some 112, _, _, _, _, _⟩) rfl (fun K hK => ?_) AllReadyH.nil
          go_simp
          go_at_call 20
          refine (CV1.out _ Y2).mono ?_
          rintro e y3 ⟨rfl, h9⟩
          have Y3 : Below wr.heap.size wr y3 := bt Y2 h9
          clear h9
          refine hK.out _ _ (SK.out _ Y3) (fun hHeld => ?_)
          clear hK K
          try simp only [Act.put, List.setIfInBounds_toArray, List.set_cons_zero, List.set_cons_succ]
          refine wpAnyH_ready (rs := [28]) (by kernel_rfl) (by simp) ?_
          refine AllReadyH.cons (o := ⟨some 114, _, _, _, _, _⟩) rfl (fun K hK => ?_) AllReadyH.nil
          go_simp
          go_at_call 21
          refine (CV2.out _ Y3).mono ?_
          rintro e y4 ⟨rfl, h9⟩
          have Y4 : Below wr.heap.size wr y4 := bt Y3 h9
          clear h9
          refine hK.out _ _ (SK.out _ Y4) (fun hHeld => ?_)
          clear hK K
          try simp only [Act.put, List.setIfInBounds_toArray, List.set_cons_zero, List.set_cons_succ]
          refine wpAnyH_take (i := 29) (oi := ⟨some 115, _, _, _, _, _⟩) (v := .bool true) rfl (by kernel_rfl) (by kernel_rfl) (by kernel_rfl) (fun _ _ _ h => h) (Or.inl ⟨by rfl, ?_⟩) hHeld ?_
          · intro u hu
            go_simp
          try simp only [Act.put, List.setIfInBounds_toArray, List.set_cons_zero, List.set_cons_succ]
          refine wpAnyH_take (i := 30) (oi := ⟨some 116, _, _, _, _, _⟩) (v := .bool true) rfl (by kernel_rfl) (by kernel_rfl) (by kernel_rfl) (fun _ _ _ h => h) (Or.inl ⟨by rfl, ?_⟩) hHeld ?_
          · intro u hu
            go_simp
          try simp only [Act.put, List.setIfInBounds_toArray, List.set_cons_zero, List.set_cons_succ]
          refine wpAnyH_take (i := 31) (oi := ⟨some 6, _, _, _, _, _⟩) (v := .bool true) rfl (by kernel_rfl) (by kernel_rfl) (by kernel_rfl) (fun _ _ _ h => h) (Or.inl ⟨by rfl, ?_⟩) hHeld ?_
          · intro u hu
            go_simp
          try simp only [Act.put, List.setIfInBounds_toArray, List.set_cons_zero, List.set_cons_succ]
          refine wpAnyH_done (by kernel_rfl) ?_ _
          clear hHeld
          clear hHeld
          go_wp2
          go_ret
          exact ⟨rfl, bt HS8.out.bel Y4⟩

end Fm
end Go.Proofs.YtcaiejbnhjiflaaGreatDoor

namespace Go.Proofs.YtcaiejbnhjiflaaGreatDoor.lawMr
open Go.ChangeShapes Go.WideShapes Go.ChangeAt Go.RowKit Go.Proofs.YtcaiejbnhjiflaaGreatDoor.Fm
open Go.ChangeMaps (open_string shut_string)

set_option maxRecDepth 100000 in
theorem contract (H : Type) (enc : TypeId × Value → H) (W : World) (base : Nat) (args : Array Value) (ds gs : List (DataW H)) (before : List MemPlace)
    (hval : ∀ (j : Nat) t v, Tryz.f3.params[j]? = some t → args[j]? = some v → Value.okWide Tryz.prog W .any base t v)
    (hW : DataW.Whole enc Tryz.prog Tryz.f3.params.toList Rows.formatMatchesReferenceSpec.vars false W args.toList ds gs before) (hL : laidMetH Tryz.prog Rows.formatMatchesReferenceRow.laid W) (hwt : (DataW.weightsEach Tryz.prog (Tryz.f3.params.toList ++ (OpenSpec.ofChange Rows.formatMatchesReferenceSpec).bare.plain.varTypes Tryz.prog) (ds ++ gs)).all (· ≤ reachBytes) = true) :
    Calls Tryz.prog 3 args W fun e W' => ∃ v, e = .returned v ∧ Rows.formatMatchesReferenceSpec.post enc Tryz.prog Tryz.f3 false true false false W args v W' := by
  have hW' := hW
  obtain ⟨p, q, hA0, hV, rfl, hfz, hnd⟩ := hW
  have hA : DataW.TrodAll enc Tryz.prog W 0 (fun _ => true) true Tryz.f3.params.toList args.toList ds p := hA0
  rw [Tryz.params3] at hA hval
  obtain ⟨v0, vs0, d0, ds0, p0, q0, hargs, rfl, rfl, h0, r0⟩ := trodAll_cons hA
  obtain ⟨v1, vs1, d1, ds1, p1, q1, rfl, rfl, rfl, h1, r1⟩ := trodAll_cons r0
  obtain ⟨v2, vs2, d2, ds2, p2, q2, rfl, rfl, rfl, h2, r2⟩ := trodAll_cons r1
  obtain ⟨rfl, rfl, rfl⟩ := trodAll_nil r2
  obtain rfl : args = #[v0, v1, v2] := by cases args; simp_all
  obtain ⟨rfl, rfl⟩ := trodVars_none hV
  have hlt0 : ∀ x ∈ p0, x.block < W.heap.size := fun x hx => by simpa using hW'.lt x (by simp [hx])
  obtain ⟨nm0, fv0, fs0, rfl, F0, b0⟩ := format_of (hval 0 24 v0 rfl rfl) h0
  have hlt1 : ∀ x ∈ p1, x.block < W.heap.size := fun x hx => by simpa using hW'.lt x (by simp [hx])
  obtain ⟨A1, cap1, ws1, rfl, R1, n1, z1⟩ := texts_of (hval 1 25 v1 rfl rfl) h1
  have hlt2 : ∀ x ∈ p2, x.block < W.heap.size := fun x hx => by simpa using hW'.lt x (by simp [hx])
  obtain ⟨x2, rfl, w2⟩ := address_of (hval 2 27 v2 rfl rfl) h2
  have hBA2 := w2 (fun z hz => by
    have := List.all_eq_true.1 hwt z (by rw [Tryz.params3]; show z ∈ DataW.weights Tryz.prog 24 d0 ++ (DataW.weights Tryz.prog 25 d1 ++ (DataW.weights Tryz.prog 27 d2 ++ DataW.weightsEach _ _ _)); simp [hz])
    simpa using this)
  clear hA0
  refine (matches_law nm0 fs0 fv0 ws1 (.slice A1 ws1.length cap1) x2 W (tab_of_laid hL) F0 ⟨A1, cap1, rfl, R1⟩ hBA2).mono fun e W' ⟨he, hb⟩ => ?_
  subst he
  refine ⟨_, rfl, _, _, _, [], (p0 ++ (p1 ++ (p2 ++ ([] : List MemPlace)))), [], hW', ?_, ?_, rfl, hb.frame _, fun h => by cases h⟩
  · exact trodAll_cons_mk (shut_bool Tryz.underlying4 _) trodAll_mk0
  · exact trodAll_cons_mk (Below.trod laidOut (by kernel_rfl) (of_decide_eq_true (by kernel_rfl)) h0 hb hlt0) (trodAll_cons_mk (Below.trod laidOut (by kernel_rfl) (of_decide_eq_true (by kernel_rfl)) h1 hb hlt1) (trodAll_cons_mk (Below.trod laidOut (by kernel_rfl) (of_decide_eq_true (by kernel_rfl)) h2 hb hlt2) trodAll_mk0))

def wit : Array Value := #[.agg #[.string ⟨#[]⟩, .slice none 0 0], .slice none 0 0, .agg #[.string ⟨#[]⟩, .string ⟨#[]⟩, .int .i64 0, .string ⟨#[]⟩, .string ⟨#[]⟩]]
theorem reads (os : Os) {H : Type} (enc : TypeId × Value → H) : ∃ places, DataW.whole enc Tryz.prog ((laidWorld os).forCall (fun _ _ => 0) ⟨#[], wit, []⟩).memory Tryz.f3.params.toList Rows.formatMatchesReferenceSpec.vars false wit.toList 8 = some ([.agg [.lit (.string []), .nil], .nil, .agg [.lit (.string []), .lit (.string []), .lit (.int .i64 0), .lit (.string []), .lit (.string [])]], [], places) :=
  ⟨[], by kernel_rfl⟩

set_option maxRecDepth 100000 in
theorem lifted (os : Os) (started : os.Started) (H : Type) (enc : TypeId × Value → H) (F : Stop.Interp) :
    ReturnsInHanded {} Tryz.checked os 3 .any ((OpenSpec.ofChange Rows.formatMatchesReferenceSpec).preRow enc Tryz.prog Tryz.f3 Rows.formatMatchesReferenceRow.domain false Rows.formatMatchesReferenceRow.laid) (((OpenSpec.ofChange Rows.formatMatchesReferenceSpec).at F).post enc Tryz.prog Tryz.f3 false true false false) := by
  obtain ⟨places, hx⟩ := reads os enc
  refine returnsInHanded_of_row (C := Tryz.checked) (s := OpenSpec.ofChange Rows.formatMatchesReferenceSpec) own started (by kernel_rfl) Tryz.func3
    (witness_row_sh (enc := enc) (C := Tryz.checked) false (laidWorld os) wit (laidWorld_os os) (shaped os wit) (by kernel_rfl)
      (OpenSpec.preRow_of_cond 8 hx (by kernel_rfl) (fun k hk => by cases hk) (by kernel_rfl) (laid_met os wit))) ?_
  intro W base args ds gs before hval hW _ _ hwt hL _ _
  exact contract H enc W base args ds gs before hval hW hL hwt

theorem said : Rows.FormatMatchesReferenceSaid :=
  OpenClaim.holds_of_cond 3 Tryz.f3 rfl rfl rfl rfl rfl rfl rfl ⟨rfl, rfl, rfl, rfl, rfl⟩ rfl rfl rfl rfl rfl (by kernel_rfl) Tryz.func3 (by kernel_rfl)
    (of_decide_eq_true (by kernel_rfl)) (by unfold Func.isWrapper; first | (rw [if_pos (by decide +kernel)]; kernel_rfl) | (rw [if_neg (by decide +kernel)]; exact ⟨rfl, rfl⟩))
    (fun os started H enc _ F => by rw [OpenClaim.pre_eq_preRow]; exact lifted os started H enc F)

theorem plain (f : FuncId) (fn : Func) (hf : Tryz.pinned.checked.prog.funcNamed "postilion/postilionlaw04.FormatMatchesReference" = some f) (hfn : Tryz.pinned.checked.prog.funcs[f]? = some fn) :
    true = Tryz.pinned.checked.prog.looks [] ∧ ∀ (j : Nat) t, fn.params[j]? = some t → Tryz.pinned.checked.prog.wantsStandIn t = false := by
  obtain rfl : f = 3 := Option.some.inj ((show Tryz.prog.funcNamed "postilion/postilionlaw04.FormatMatchesReference" = some 3 by kernel_rfl).symm.trans hf) |>.symm
  obtain rfl : fn = Tryz.f3 := (Option.some.inj (Tryz.func3.symm.trans hfn)).symm
  refine ⟨by kernel_rfl, fun j t ht => ?_⟩
  rw [Tryz.params3] at ht
  have hm := Array.mem_of_getElem? ht
  simp at hm
  have hk0 : Tryz.prog.wantsStandIn 24 = false := by kernel_rfl
  have hk1 : Tryz.prog.wantsStandIn 25 = false := by kernel_rfl
  have hk2 : Tryz.prog.wantsStandIn 27 = false := by kernel_rfl
  have hd : t = 24 ∨ t = 25 ∨ t = 27 := by first | omega | grind
  rcases hd with rfl | rfl | rfl
  · exact hk0
  · exact hk1
  · exact hk2

/-- THE CARD. -/
theorem card : Rows.FormatMatchesReferenceCardSaid :=
  Claim7.holds_tied_plain_at .later [] _ _ _ _ said (fun _ h => by cases h) (by kernel_rfl) (fun _ h => by cases h) formatMatchesReference_row_tie rfl ⟨rfl, rfl⟩ (by kernel_rfl) rfl plain (by kernel_rfl)
end Go.Proofs.YtcaiejbnhjiflaaGreatDoor.lawMr
