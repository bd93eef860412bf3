/-
  FormatReading: the walk.
-/
import Derived.Test.YtcaiejbnhjiflaaGreatDoorLOr
import Derived.Test.YtcaiejbnhjiflaaGreatDoorR14
import Derived.Test.YtcaiejbnhjiflaaGreatDoorMt
import Derived.Deep.RegionHeld3
namespace Go.Proofs.YtcaiejbnhjiflaaGreatDoor
open Go.RowKit Go.ChangeMaps
namespace Fm

set_option maxRecDepth 100000 in
set_option maxHeartbeats 16000000 in
theorem reading_law (name : W) (fs : List (List Pt)) (fv : Value) (lns : List W) (lv : Value) (w : World) (hT : Tab w) (hF : IsPs w fv fs) (hL : IsW w lv lns) :
    Calls Tryz.prog 5 #[.agg #[.string (sB name), fv], lv] w fun e w' => e = .returned (.bool true) ∧ Below w.heap.size w w' := by
  obtain ⟨A, cap, fvs, hfv, -⟩ := id hF
  subst hfv
  obtain ⟨lA, lcap, hlv, hlS⟩ := id hL
  subst hlv
  have HT := hid hT
  obtain ⟨w1, hw1'⟩ : ∃ w1, w1 = w.alloc (.cells #[.string (sB name), .slice A fs.length cap] 24) := ⟨_, rfl⟩
  have hb1 : Below w.heap.size w w1 := by rw [hw1']; exact b0 _ _
  have HS1 : Hid (Fx w w.heap.size name fs A cap w1) := ⟨by rw [hw1']; exact heap_new _ _, hF.on hb1, hb1⟩
  have HL1 := hid (hL.on hb1)
  have CFew := hid (fun u (h : Fx w w.heap.size name fs A cap u) (hl : IsW u (.slice lA lns.length lcap) lns) => few_any name fs (.slice A fs.length cap) lns (.slice lA lns.length lcap) u h.isp hl)
  have CPa := hid (fun u (h : Fx w w.heap.size name fs A cap u) (hl : IsW u (.slice lA lns.length lcap) lns) (hn : lns.length ≤ 1000) (hz : ∀ l ∈ lns, l.length ≤ 5000) (rs : List Ad) (er : Int) (hp : parseR name fs lns = (rs, er)) => parse_any name fs (.slice A fs.length cap) lns (.slice lA lns.length lcap) u h.isp hl hn hz hp)
  have CPr := hid (fun u (h : Fx w w.heap.size name fs A cap u) (x : Ad) (hs : Small x) (ls : List W) (er : Int) (hp : printR name fs x = (ls, er)) => print_any name fs (.slice A fs.length cap) x u h.isp hs (tab_on HT.out h.bel) hp)
  have CFi := hid (fun u (h : Fx w w.heap.size name fs A cap u) (x : Ad) (h10 : fs.length ≤ 10) (hp : ∀ ps ∈ fs, ps.length ≤ 10) (ht : ∀ p ∈ fs.flatten, p.t.length ≤ 1000) (hs : Small x) => rfits_any name fs (.slice A fs.length cap) x u h.isp h10 hp ht hs)
  unfold adV at CPr CFi
  have HSC := hid (fun (u : World) (h : Fx w w.heap.size name fs A cap u) => h.cells)
  obtain ⟨nm, hnm⟩ : ∃ nm, nm = sB name := ⟨_, rfl⟩
  rw [← hnm] at hw1' CFew CPa CPr CFi HSC ⊢
  clear hnm hT hF hL hlS hb1
  go_enter Tryz.func5, Tryz.ntmps5
  go_wp2_with fail
  rw [← hw1']
  clear hw1'
  refine (head_any _ (tab_on HT.out HS1.out.bel)).mono ?_
  rintro e w2 ⟨rfl, hb2⟩
  have HS2 := hid (HS1.out.on hb2)
  have HL2 := hid (HL1.out.on hb2)
  obtain ⟨d0, d1⟩ := HSC.out _ HS2.out
  have hl2 := HS2.out.lt
  clear hb2 HS1 HL1
  go_wp2_with fail
  refine (CFew.out _ HS2.out HL2.out).mono ?_
  rintro e w3 ⟨b, rfl, hFew, hb3⟩
  have HS3 := hid (HS2.out.on hb3)
  have HL3 := hid (HL2.out.on hb3)
  obtain ⟨d0, d1⟩ := HSC.out _ HS3.out
  have hl3 := HS3.out.lt
  clear hb3 HS2 HL2 hl2
  cases b
  · go_wp2
    go_ret
    exact ⟨rfl, HS3.out.bel⟩
  · have HFew := hid (hFew.out rfl)
    clear hFew
    have hln8 := HFew.out.ln
    have hz1' : ∀ x ∈ lns, x.length ≤ 5000 := fun x hx => by have := HFew.out.ls x hx; omega
    have HZ1 := hid hz1'
    clear hz1'
    obtain ⟨rs, er, hpr⟩ : ∃ rs er, parseR name fs lns = (rs, er) := ⟨_, _, rfl⟩
    have hrl := parse_len name fs lns
    rw [hpr] at hrl
    simp only at hrl
    have HPR := hid hpr
    clear hpr
    go_wp2_with fail
    refine (CPa.out _ HS3.out HL3.out (by omega) HZ1.out rs er HPR.out).mono ?_
    rintro e w4 ⟨va, rfl, hA4, hb4⟩
    obtain ⟨rA, rc, rfl, hR4⟩ := id hA4.out
    have HR4 := hid hR4
    have HS4 := hid (HS3.out.on hb4)
    have HL4 := hid (HL3.out.on hb4)
    clear hb4 HS3 HL3 hl3 d0 d1 hR4 hA4
    by_cases he : er = 0
    · subst he
      go_wp2
      go_loopw [8] (fun i wr => ∃ i' : Nat, i' ≤ rs.length ∧ i = .int .i64 i' ∧ Hid (Below w4.heap.size w4 wr)) (fun i _ => rs.length - (intOf i).toNat)
      case atStart => exact ⟨0, Nat.zero_le _, rfl, Below.refl _ _⟩
      case round =>
        obtain ⟨i, hi, rfl, hB⟩ := hrel
        have HS5 := hid (HS4.out.on hB.out)
        have HL5 := hid (HL4.out.on hB.out)
        obtain ⟨d0, d1⟩ := HSC.out _ HS5.out
        have hl5 := HS5.out.lt
        by_cases hlt : i < rs.length
        · obtain ⟨x, hx⟩ : ∃ x, rs[i]? = some x := ⟨_, List.getElem?_eq_getElem hlt⟩
          have HXI := hid hx
          obtain ⟨ls, hls⟩ := reading_is HPR.out (List.mem_of_getElem? hx)
          have HRD := hid hls
          obtain ⟨g, o, rfl, hg, a0, a1, a2, a3, a4⟩ := ad_at (HR4.out.on hB.out) hx
          have hll := hls.len
          have CPx := hid (fun u (hu : Below wr.heap.size wr u) => CPr.out u (HS5.out.on hu) x HRD.out.small ls 0 HRD.out.print)
          have CFx := hid (fun u (hu : Below wr.heap.size wr u) => CFi.out u (HS5.out.on hu) x HFew.out.fn HFew.out.ps (fun p hp => by have := HFew.out.ts p hp; omega) HRD.out.small)
          rw [hls.fits] at CFx
          have HEQ := hid (fun (y : Ad) => eql_run y x)
          unfold adV at HEQ
          obtain ⟨p1, hp1⟩ : ∃ p, p = sB x.person := ⟨_, rfl⟩
          obtain ⟨s1, hs1⟩ : ∃ p, p = sB x.street := ⟨_, rfl⟩
          obtain ⟨c1, hc1⟩ : ∃ p, p = sB x.code := ⟨_, rfl⟩
          obtain ⟨t1, ht1⟩ : ∃ p, p = sB x.town := ⟨_, rfl⟩
          rw [← hp1] at a0 CPx CFx HEQ
          rw [← hs1] at a1 CPx CFx HEQ
          rw [← hc1] at a3 CPx CFx HEQ
          rw [← ht1] at a4 CPx CFx HEQ
          have SK : Hid (∀ u, Below wr.heap.size wr u → u.cell? ⟨w.heap.size, 0, none⟩ = some (.string nm) ∧ u.cell? ⟨w.heap.size, 1, none⟩ = some (.slice A fs.length cap) ∧ u.cell? ⟨g, o + i * 5, none⟩ = some (.string p1) ∧ u.cell? ⟨g, o + i * 5 + 1, none⟩ = some (.string s1) ∧ u.cell? ⟨g, o + i * 5 + 2, none⟩ = some (.int .i64 x.number) ∧ u.cell? ⟨g, o + i * 5 + 3, none⟩ = some (.string c1) ∧ u.cell? ⟨g, o + i * 5 + 4, none⟩ = some (.string t1)) := fun u hu => by
            have q0 := fun q => hu.cell (p := (⟨g, q, none⟩ : Addr)) hg
            have q1 := fun q => hu.cell (p := (⟨w.heap.size, q, none⟩ : Addr)) hl5
            exact ⟨(q1 _).trans d0, (q1 _).trans d1, (q0 _).trans a0, (q0 _).trans a1, (q0 _).trans a2, (q0 _).trans a3, (q0 _).trans a4⟩
          have hi0 : 0 ≤ (i : Int) := by omega
          have hi1 : (i : Int) < (rs.length : Int) := by omega
          have hln : ((ls.length : Int) != (lns.length : Int)) = false := by rw [hll]; simp
          have hls8 : ls.length ≤ 8 := by omega
          clear hx hls hll hp1 hs1 hc1 ht1 d0 d1 a0 a1 a2 a3 a4
          go_wp2_with fail
          refine wp_region_held_drew (S := fun w' => w'.cell? ⟨w.heap.size, 0, none⟩ = some (.string nm) ∧ w'.cell? ⟨w.heap.size, 1, none⟩ = some (.slice A fs.length cap) ∧ w'.cell? ⟨g, o + i * 5, none⟩ = some (.string p1) ∧ w'.cell? ⟨g, o + i * 5 + 1, none⟩ = some (.string s1) ∧ w'.cell? ⟨g, o + i * 5 + 2, none⟩ = some (.int .i64 x.number) ∧ w'.cell? ⟨g, o + i * 5 + 3, none⟩ = some (.string c1) ∧ w'.cell? ⟨g, o + i * 5 + 4, none⟩ = some (.string t1)) (by kernel_rfl) (SK.out _ (Below.refl _ _).drew) (fun hHeld => ?_)
          refine wpAnyH_take (i := 0) (oi := ⟨some 40, _, _, _, _, _⟩) (v := .agg #[.string nm, .slice A fs.length cap]) rfl (by kernel_rfl) (by kernel_rfl) (by kernel_rfl) (fun _ _ _ h => h) (Or.inl ⟨by rfl, ?_⟩) hHeld ?_
          · intro u hu
            go_simp
          try simp only [Act.put, List.setIfInBounds_toArray, List.set_cons_zero, List.set_cons_succ]
          refine wpAnyH_take (i := 1) (oi := ⟨some 41, _, _, _, _, _⟩) (v := .slice (some ⟨g, o, none⟩) rs.length rc) rfl (by kernel_rfl) (by kernel_rfl) (by kernel_rfl) (fun _ _ _ h => h) (Or.inl ⟨by rfl, ?_⟩) hHeld ?_
          · intro u hu
            go_simp
          try simp only [Act.put, List.setIfInBounds_toArray, List.set_cons_zero, List.set_cons_succ]
          refine wpAnyH_take (i := 2) (oi := ⟨some 42, _, _, _, _, _⟩) (v := .int .i64 (i : Int)) rfl (by kernel_rfl) (by kernel_rfl) (by kernel_rfl) (fun _ _ _ h => h) (Or.inl ⟨by rfl, ?_⟩) hHeld ?_
          · intro u hu
            go_simp
          try simp only [Act.put, List.setIfInBounds_toArray, List.set_cons_zero, List.set_cons_succ]
          refine wpAnyH_take (i := 3) (oi := ⟨some 43, _, _, _, _, _⟩) (v := .pointer (some ⟨g, o + i * 5, none⟩)) rfl (by kernel_rfl) (by kernel_rfl) (by kernel_rfl) (fun _ _ _ h => h) (Or.inl ⟨by rfl, ?_⟩) hHeld ?_
          · intro u hu
            go_simp
          try simp only [Act.put, List.setIfInBounds_toArray, List.set_cons_zero, List.set_cons_succ]
          refine wpAnyH_take (i := 4) (oi := ⟨some 44, _, _, _, _, _⟩) (v := .agg #[.string p1, .string s1, .int .i64 x.number, .string c1, .string t1]) rfl (by kernel_rfl) (by kernel_rfl) (by kernel_rfl) (fun _ _ _ h => h) (Or.inl ⟨by rfl, ?_⟩) hHeld ?_
          · intro u hu
            go_simp
          try simp only [Act.put, List.setIfInBounds_toArray, List.set_cons_zero, List.set_cons_succ]
          refine wpAnyH_ready (rs := [5]) (by kernel_rfl) (by simp) ?_
          refine AllReadyH.cons (o := ⟨some 45, _, _, _, _, _⟩) rfl (fun K hK => ?_) AllReadyH.nil
          go_simp
          go_at_call 14
          refine (CPx.out _ (Below.refl _ _).drew).mono ?_
          rintro e w5 ⟨v5, rfl, hV5, h5⟩
          obtain ⟨pA, pc, rfl, -⟩ := id hV5.out
          have B5 : Below wr.heap.size wr w5 := bt (Below.refl _ wr).drew h5
          clear h5
          refine hK.out _ _ (SK.out _ B5) (fun hHeld => ?_)
          clear hK K
          try simp only [Act.put, List.setIfInBounds_toArray, List.set_cons_zero, List.set_cons_succ]
          refine wpAnyH_take (i := 6) (oi := ⟨some 39, _, _, _, _, _⟩) (v := .tuple #[.slice pA ls.length pc, .int .i64 0]) rfl (by kernel_rfl) (by kernel_rfl) (by kernel_rfl) (fun _ _ _ h => h) (Or.inl ⟨by rfl, ?_⟩) hHeld ?_
          · intro u hu
            go_simp
          try simp only [Act.put, List.setIfInBounds_toArray, List.set_cons_zero, List.set_cons_succ]
          refine wpAnyH_take (i := 7) (oi := ⟨some 46, _, _, _, _, _⟩) (v := .slice pA ls.length pc) rfl (by kernel_rfl) (by kernel_rfl) (by kernel_rfl) (fun _ _ _ h => h) (Or.inl ⟨by rfl, ?_⟩) hHeld ?_
          · intro u hu
            go_simp
          try simp only [Act.put, List.setIfInBounds_toArray, List.set_cons_zero, List.set_cons_succ]
          refine wpAnyH_take (i := 8) (oi := ⟨some 47, _, _, _, _, _⟩) (v := .int .i64 0) rfl (by kernel_rfl) (by kernel_rfl) (by kernel_rfl) (fun _ _ _ h => h) (Or.inl ⟨by rfl, ?_⟩) hHeld ?_
          · intro u hu
            go_simp
          try simp only [Act.put, List.setIfInBounds_toArray, List.set_cons_zero, List.set_cons_succ]
          refine wpAnyH_take (i := 9) (oi := ⟨some 9, _, _, _, _, _⟩) (v := .slice pA ls.length pc) rfl (by kernel_rfl) (by kernel_rfl) (by kernel_rfl) (fun _ _ _ h => h) (Or.inl ⟨by rfl, ?_⟩) hHeld ?_
          · intro u hu
            go_simp
          try simp only [Act.put, List.setIfInBounds_toArray, List.set_cons_zero, List.set_cons_succ]
          refine wpAnyH_take (i := 10) (oi := ⟨some 10, _, _, _, _, _⟩) (v := .int .i64 0) rfl (by kernel_rfl) (by kernel_rfl) (by kernel_rfl) (fun _ _ _ h => h) (Or.inl ⟨by rfl, ?_⟩) hHeld ?_
          · intro u hu
            go_simp
          try simp only [Act.put, List.setIfInBounds_toArray, List.set_cons_zero, List.set_cons_succ]
          refine wpAnyH_done (by kernel_rfl) ?_ _
          clear hHeld
          go_wp2_with fail
          refine wp_region_held_drew (S := fun w' => w'.cell? ⟨w.heap.size, 0, none⟩ = some (.string nm) ∧ w'.cell? ⟨w.heap.size, 1, none⟩ = some (.slice A fs.length cap) ∧ w'.cell? ⟨g, o + i * 5, none⟩ = some (.string p1) ∧ w'.cell? ⟨g, o + i * 5 + 1, none⟩ = some (.string s1) ∧ w'.cell? ⟨g, o + i * 5 + 2, none⟩ = some (.int .i64 x.number) ∧ w'.cell? ⟨g, o + i * 5 + 3, none⟩ = some (.string c1) ∧ w'.cell? ⟨g, o + i * 5 + 4, none⟩ = some (.string t1)) (by kernel_rfl) (SK.out _ B5.drew) (fun hHeld => ?_)
          refine wpAnyH_take (i := 0) (oi := ⟨some 48, _, _, _, _, _⟩) (v := .agg #[.string nm, .slice A fs.length cap]) rfl (by kernel_rfl) (by kernel_rfl) (by kernel_rfl) (fun _ _ _ h => h) (Or.inl ⟨by rfl, ?_⟩) hHeld ?_
          · intro u hu
            go_simp
          try simp only [Act.put, List.setIfInBounds_toArray, List.set_cons_zero, List.set_cons_succ]
          refine wpAnyH_take (i := 1) (oi := ⟨some 49, _, _, _, _, _⟩) (v := .slice (some ⟨g, o, none⟩) rs.length rc) rfl (by kernel_rfl) (by kernel_rfl) (by kernel_rfl) (fun _ _ _ h => h) (Or.inl ⟨by rfl, ?_⟩) hHeld ?_
          · intro u hu
            go_simp
          try simp only [Act.put, List.setIfInBounds_toArray, List.set_cons_zero, List.set_cons_succ]
          refine wpAnyH_take (i := 2) (oi := ⟨some 50, _, _, _, _, _⟩) (v := .int .i64 (i : Int)) rfl (by kernel_rfl) (by kernel_rfl) (by kernel_rfl) (fun _ _ _ h => h) (Or.inl ⟨by rfl, ?_⟩) hHeld ?_
          · intro u hu
            go_simp
          try simp only [Act.put, List.setIfInBounds_toArray, List.set_cons_zero, List.set_cons_succ]
          refine wpAnyH_take (i := 3) (oi := ⟨some 51, _, _, _, _, _⟩) (v := .pointer (some ⟨g, o + i * 5, none⟩)) rfl (by kernel_rfl) (by kernel_rfl) (by kernel_rfl) (fun _ _ _ h => h) (Or.inl ⟨by rfl, ?_⟩) hHeld ?_
          · intro u hu
            go_simp
          try simp only [Act.put, List.setIfInBounds_toArray, List.set_cons_zero, List.set_cons_succ]
          refine wpAnyH_take (i := 4) (oi := ⟨some 52, _, _, _, _, _⟩) (v := .agg #[.string p1, .string s1, .int .i64 x.number, .string c1, .string t1]) rfl (by kernel_rfl) (by kernel_rfl) (by kernel_rfl) (fun _ _ _ h => h) (Or.inl ⟨by rfl, ?_⟩) hHeld ?_
          · intro u hu
            go_simp
          try simp only [Act.put, List.setIfInBounds_toArray, List.set_cons_zero, List.set_cons_succ]
          refine wpAnyH_ready (rs := [5]) (by kernel_rfl) (by simp) ?_
          refine AllReadyH.cons (o := ⟨some 53, _, _, _, _, _⟩) rfl (fun K hK => ?_) AllReadyH.nil
          go_simp
          go_at_call 22
          refine (CFx.out _ B5.drew).mono ?_
          rintro e w6 ⟨rfl, h6⟩
          have B6 : Below wr.heap.size wr w6 := bt B5.drew h6
          have HV6 := hid (hV5.out.on (bt (Below.refl _ w5).drew h6))
          clear h6
          refine hK.out _ _ (SK.out _ B6) (fun hHeld => ?_)
          clear hK K
          try simp only [Act.put, List.setIfInBounds_toArray, List.set_cons_zero, List.set_cons_succ]
          refine wpAnyH_take (i := 6) (oi := ⟨some 54, _, _, _, _, _⟩) (v := .bool false) rfl (by kernel_rfl) (by kernel_rfl) (by kernel_rfl) (fun _ _ _ h => h) (Or.inl ⟨by rfl, ?_⟩) hHeld ?_
          · intro u hu
            go_simp
          try simp only [Act.put, List.setIfInBounds_toArray, List.set_cons_zero, List.set_cons_succ]
          refine wpAnyH_take (i := 7) (oi := ⟨some 55, _, _, _, _, _⟩) (v := .bool false) rfl (by kernel_rfl) (by kernel_rfl) (by kernel_rfl) (fun _ _ _ h => h) (Or.inl ⟨by rfl, ?_⟩) hHeld ?_
          · intro u hu
            go_simp
          try simp only [Act.put, List.setIfInBounds_toArray, List.set_cons_zero, List.set_cons_succ]
          refine wpAnyH_take (i := 8) (oi := ⟨some 56, _, _, _, _, _⟩) (v := .int .i64 0) rfl (by kernel_rfl) (by kernel_rfl) (by kernel_rfl) (fun _ _ _ h => h) (Or.inl ⟨by rfl, ?_⟩) hHeld ?_
          · intro u hu
            go_simp
          try simp only [Act.put, List.setIfInBounds_toArray, List.set_cons_zero, List.set_cons_succ]
          refine wpAnyH_take (i := 9) (oi := ⟨some 57, _, _, _, _, _⟩) (v := .bool false) rfl (by kernel_rfl) (by kernel_rfl) (by kernel_rfl) (fun _ _ _ h => h) (Or.inl ⟨by rfl, ?_⟩) hHeld ?_
          · intro u hu
            go_simp
          try simp only [Act.put, List.setIfInBounds_toArray, List.set_cons_zero, List.set_cons_succ]
          refine wpAnyH_take (i := 10) (oi := ⟨some 58, _, _, _, _, _⟩) (v := .bool false) rfl (by kernel_rfl) (by kernel_rfl) (by kernel_rfl) (fun _ _ _ h => h) (Or.inl ⟨by rfl, ?_⟩) hHeld ?_
          · intro u hu
            go_simp
          try simp only [Act.put, List.setIfInBounds_toArray, List.set_cons_zero, List.set_cons_succ]
          refine wpAnyH_take (i := 11) (oi := ⟨some 59, _, _, _, _, _⟩) (v := .bool false) rfl (by kernel_rfl) (by kernel_rfl) (by kernel_rfl) (fun _ _ _ h => h) (Or.inl ⟨by rfl, ?_⟩) hHeld ?_
          · intro u hu
            go_simp
          try simp only [Act.put, List.setIfInBounds_toArray, List.set_cons_zero, List.set_cons_succ]
          refine wpAnyH_take (i := 12) (oi := ⟨some 60, _, _, _, _, _⟩) (v := .slice pA ls.length pc) rfl (by kernel_rfl) (by kernel_rfl) (by kernel_rfl) (fun _ _ _ h => h) (Or.inl ⟨by rfl, ?_⟩) hHeld ?_
          · intro u hu
            go_simp
          try simp only [Act.put, List.setIfInBounds_toArray, List.set_cons_zero, List.set_cons_succ]
          refine wpAnyH_take (i := 13) (oi := ⟨some 61, _, _, _, _, _⟩) (v := .int .i64 (ls.length : Int)) rfl (by kernel_rfl) (by kernel_rfl) (by kernel_rfl) (fun _ _ _ h => h) (Or.inl ⟨by rfl, ?_⟩) hHeld ?_
          · intro u hu
            go_simp
          try simp only [Act.put, List.setIfInBounds_toArray, List.set_cons_zero, List.set_cons_succ]
          refine wpAnyH_take (i := 14) (oi := ⟨some 62, _, _, _, _, _⟩) (v := .slice lA lns.length lcap) rfl (by kernel_rfl) (by kernel_rfl) (by kernel_rfl) (fun _ _ _ h => h) (Or.inl ⟨by rfl, ?_⟩) hHeld ?_
          · intro u hu
            go_simp
          try simp only [Act.put, List.setIfInBounds_toArray, List.set_cons_zero, List.set_cons_succ]
          refine wpAnyH_take (i := 15) (oi := ⟨some 63, _, _, _, _, _⟩) (v := .int .i64 (lns.length : Int)) rfl (by kernel_rfl) (by kernel_rfl) (by kernel_rfl) (fun _ _ _ h => h) (Or.inl ⟨by rfl, ?_⟩) hHeld ?_
          · intro u hu
            go_simp
          try simp only [Act.put, List.setIfInBounds_toArray, List.set_cons_zero, List.set_cons_succ]
          refine wpAnyH_take (i := 16) (oi := ⟨some 64, _, _, _, _, _⟩) (v := .bool false) rfl (by kernel_rfl) (by kernel_rfl) (by kernel_rfl) (fun _ _ _ h => h) (Or.inl ⟨by rfl, ?_⟩) hHeld ?_
          · intro u hu
            go_simp
          try simp only [Act.put, List.setIfInBounds_toArray, List.set_cons_zero, List.set_cons_succ]
          refine wpAnyH_take (i := 17) (oi := ⟨some 65, _, _, _, _, _⟩) (v := .bool false) rfl (by kernel_rfl) (by kernel_rfl) (by kernel_rfl) (fun _ _ _ h => h) (Or.inl ⟨by rfl, ?_⟩) hHeld ?_
          · intro u hu
            go_simp
          try simp only [Act.put, List.setIfInBounds_toArray, List.set_cons_zero, List.set_cons_succ]
          refine wpAnyH_done (by kernel_rfl) ?_ _
          clear hHeld
          have HB6 := hid (hB.out.trans (B6.mono hB.out.size))
          have HL6 := hid (HL5.out.on B6)
          have HSK6 := hid (fun u (hu : Below w6.heap.size w6 u) => SK.out u (bt B6 hu))
          clear hHeld B5 B6 hV5 CPx CFx
          go_wp2
          clear hln
          go_loopw [11] (fun q wq => ∃ k : Nat, k ≤ ls.length ∧ q = .int .i64 k ∧ Hid (Below w6.heap.size w6 wq)) (fun q _ => ls.length - (intOf q).toNat)
          case atStart => exact ⟨0, Nat.zero_le _, rfl, Below.refl _ _⟩
          case round =>
            obtain ⟨k, hk, rfl, hQ⟩ := hrel
            by_cases hkl : k < ls.length
            · have hkn : k < lns.length := by have := HRD.out.len; omega
              obtain ⟨za, hza⟩ : ∃ z, ls[k]? = some z := ⟨_, List.getElem?_eq_getElem hkl⟩
              obtain ⟨zb, hzb⟩ : ∃ z, lns[k]? = some z := ⟨_, List.getElem?_eq_getElem hkn⟩
              obtain ⟨_, _, e1, hPR⟩ := HV6.out.on hQ.out
              cases e1
              obtain ⟨_, _, e2, hLR⟩ := HL6.out.on hQ.out
              cases e2
              obtain ⟨pg, po, rfl, hpg, ca⟩ := SlR.at hPR (k := k) (u := sV za) (by rw [List.getElem?_map, hza]; rfl)
              obtain ⟨lg, lo, rfl, hlg, cb⟩ := SlR.at hLR (k := k) (u := sV zb) (by rw [List.getElem?_map, hzb]; rfl)
              unfold sV at ca cb
              have hz1 := HRD.out.short za (List.mem_of_getElem? hza)
              have hz2 := HFew.out.ls zb (List.mem_of_getElem? hzb)
              have hsame := HRD.out.same k za zb hza hzb
              have CUa := hid (fun u => rupper_any za u hz1)
              have CUb := hid (fun u => rupper_any zb u (by omega))
              obtain ⟨ws, hws⟩ : ∃ ws, ws = wordsL (upL zb) := ⟨_, rfl⟩
              have HWN : Hid (ws.length ≤ 100000) := by show _ ≤ _; rw [hws]; have := words_len (upL zb); rw [upL_length] at this; omega
              have CWa : Hid (∀ u, Calls Tryz.prog 18 #[.string (sB (upL za))] u fun e w' => ∃ v, e = .returned v ∧ IsW w' v ws ∧ Below u.heap.size u w') := fun u => by
                rw [hws, ← hsame]
                have h := rwords_any (sB (upL za)) u (by rw [sB_size, upL_length]; omega)
                rw [sB_list] at h
                exact h
              have CWb : Hid (∀ u, Calls Tryz.prog 18 #[.string (sB (upL zb))] u fun e w' => ∃ v, e = .returned v ∧ IsW w' v ws ∧ Below u.heap.size u w') := fun u => by
                rw [hws]
                have h := rwords_any (sB (upL zb)) u (by rw [sB_size, upL_length]; omega)
                rw [sB_list] at h
                exact h
              obtain ⟨ua, hua⟩ : ∃ s, s = sB (upL za) := ⟨_, rfl⟩
              obtain ⟨ub, hub⟩ : ∃ s, s = sB (upL zb) := ⟨_, rfl⟩
              rw [← hua] at CUa CWa
              rw [← hub] at CUb CWb
              obtain ⟨sa, hsa⟩ : ∃ s, s = sB za := ⟨_, rfl⟩
              obtain ⟨sb, hsb⟩ : ∃ s, s = sB zb := ⟨_, rfl⟩
              rw [← hsa] at CUa ca
              rw [← hsb] at CUb cb
              have SK2 : Hid (∀ u, Below wr.heap.size wr u → u.cell? ⟨pg, po + k, none⟩ = some (.string sa) ∧ u.cell? ⟨lg, lo + k, none⟩ = some (.string sb)) := fun u hu => ⟨(hu.cell (p := (⟨pg, po + k, none⟩ : Addr)) hpg).trans ca, (hu.cell (p := (⟨lg, lo + k, none⟩ : Addr)) hlg).trans cb⟩
              have hk0 : 0 ≤ (k : Int) := by omega
              have hk1 : (k : Int) < (ls.length : Int) := by omega
              have hk2 : (k : Int) < (lns.length : Int) := by omega
              clear hza hzb hPR hLR ca cb hz1 hz2 hsame hws hua hub hsa hsb hkn
              go_wp2_with fail
              refine wp_region_held_drew (S := fun w' => w'.cell? ⟨pg, po + k, none⟩ = some (.string sa) ∧ w'.cell? ⟨lg, lo + k, none⟩ = some (.string sb)) (by kernel_rfl) (SK2.out _ (Below.refl _ _).drew) (fun hHeld => ?_)
              refine wpAnyH_take (i := 0) (oi := ⟨some 72, _, _, _, _, _⟩) (v := .slice (some ⟨pg, po, none⟩) ls.length pc) rfl (by kernel_rfl) (by kernel_rfl) (by kernel_rfl) (fun _ _ _ h => h) (Or.inl ⟨by rfl, ?_⟩) hHeld ?_
              · intro u hu
                go_simp
              try simp only [Act.put, List.setIfInBounds_toArray, List.set_cons_zero, List.set_cons_succ]
              refine wpAnyH_take (i := 1) (oi := ⟨some 73, _, _, _, _, _⟩) (v := .int .i64 (k : Int)) rfl (by kernel_rfl) (by kernel_rfl) (by kernel_rfl) (fun _ _ _ h => h) (Or.inl ⟨by rfl, ?_⟩) hHeld ?_
              · intro u hu
                go_simp
              try simp only [Act.put, List.setIfInBounds_toArray, List.set_cons_zero, List.set_cons_succ]
              refine wpAnyH_take (i := 2) (oi := ⟨some 74, _, _, _, _, _⟩) (v := .pointer (some ⟨pg, po + k, none⟩)) rfl (by kernel_rfl) (by kernel_rfl) (by kernel_rfl) (fun _ _ _ h => h) (Or.inl ⟨by rfl, ?_⟩) hHeld ?_
              · intro u hu
                go_simp
              try simp only [Act.put, List.setIfInBounds_toArray, List.set_cons_zero, List.set_cons_succ]
              refine wpAnyH_take (i := 3) (oi := ⟨some 75, _, _, _, _, _⟩) (v := .string sa) rfl (by kernel_rfl) (by kernel_rfl) (by kernel_rfl) (fun _ _ _ h => h) (Or.inl ⟨by rfl, ?_⟩) hHeld ?_
              · intro u hu
                go_simp
              try simp only [Act.put, List.setIfInBounds_toArray, List.set_cons_zero, List.set_cons_succ]
              refine wpAnyH_take (i := 6) (oi := ⟨some 78, _, _, _, _, _⟩) (v := .slice (some ⟨lg, lo, none⟩) lns.length lcap) rfl (by kernel_rfl) (by kernel_rfl) (by kernel_rfl) (fun _ _ _ h => h) (Or.inl ⟨by rfl, ?_⟩) hHeld ?_
              · intro u hu
                go_simp
              try simp only [Act.put, List.setIfInBounds_toArray, List.set_cons_zero, List.set_cons_succ]
              refine wpAnyH_take (i := 7) (oi := ⟨some 79, _, _, _, _, _⟩) (v := .int .i64 (k : Int)) rfl (by kernel_rfl) (by kernel_rfl) (by kernel_rfl) (fun _ _ _ h => h) (Or.inl ⟨by rfl, ?_⟩) hHeld ?_
              · intro u hu
                go_simp
              try simp only [Act.put, List.setIfInBounds_toArray, List.set_cons_zero, List.set_cons_succ]
              refine wpAnyH_take (i := 8) (oi := ⟨some 80, _, _, _, _, _⟩) (v := .pointer (some ⟨lg, lo + k, none⟩)) rfl (by kernel_rfl) (by kernel_rfl) (by kernel_rfl) (fun _ _ _ h => h) (Or.inl ⟨by rfl, ?_⟩) hHeld ?_
              · intro u hu
                go_simp
              try simp only [Act.put, List.setIfInBounds_toArray, List.set_cons_zero, List.set_cons_succ]
              refine wpAnyH_take (i := 9) (oi := ⟨some 81, _, _, _, _, _⟩) (v := .string sb) rfl (by kernel_rfl) (by kernel_rfl) (by kernel_rfl) (fun _ _ _ h => h) (Or.inl ⟨by rfl, ?_⟩) hHeld ?_
              · intro u hu
                go_simp
              try simp only [Act.put, List.setIfInBounds_toArray, List.set_cons_zero, List.set_cons_succ]
              refine wpAnyH_ready (rs := [4]) (by kernel_rfl) (by simp) ?_
              refine AllReadyH.cons (o := ⟨some 76, _, _, _, _, _⟩) rfl (fun K hK => ?_) AllReadyH.nil
              go_simp
              go_at_call 23
              refine (CUa.out _).mono ?_
              rintro e y1 ⟨rfl, h1⟩
              have Y1 : Below wr.heap.size wr y1 := bt (Below.refl _ wr).drew h1
              clear h1
              refine hK.out _ _ (SK2.out _ Y1) (fun hHeld => ?_)
              clear hK K
              try simp only [Act.put, List.setIfInBounds_toArray, List.set_cons_zero, List.set_cons_succ]
              refine wpAnyH_ready (rs := [5]) (by kernel_rfl) (by simp) ?_
              refine AllReadyH.cons (o := ⟨some 77, _, _, _, _, _⟩) rfl (fun K hK => ?_) AllReadyH.nil
              go_simp
              go_at_call 18
              refine (CWa.out _).mono ?_
              rintro e y2 ⟨va, rfl, hVa, h2⟩
              have Y2 : Below wr.heap.size wr y2 := bt Y1 h2
              clear h2
              have HVa := hid hVa
              clear hVa
              refine hK.out _ _ (SK2.out _ Y2) (fun hHeld => ?_)
              clear hK K
              try simp only [Act.put, List.setIfInBounds_toArray, List.set_cons_zero, List.set_cons_succ]
              refine wpAnyH_ready (rs := [10]) (by kernel_rfl) (by simp) ?_
              refine AllReadyH.cons (o := ⟨some 82, _, _, _, _, _⟩) rfl (fun K hK => ?_) AllReadyH.nil
              go_simp
              go_at_call 23
              refine (CUb.out _).mono ?_
              rintro e y3 ⟨rfl, h3⟩
              have Y3 : Below wr.heap.size wr y3 := bt Y2 h3
              have HVa := hid (HVa.out.on h3)
              clear h3
              refine hK.out _ _ (SK2.out _ Y3) (fun hHeld => ?_)
              clear hK K
              try simp only [Act.put, List.setIfInBounds_toArray, List.set_cons_zero, List.set_cons_succ]
              refine wpAnyH_ready (rs := [11]) (by kernel_rfl) (by simp) ?_
              refine AllReadyH.cons (o := ⟨some 83, _, _, _, _, _⟩) rfl (fun K hK => ?_) AllReadyH.nil
              go_simp
              go_at_call 18
              refine (CWb.out _).mono ?_
              rintro e y4 ⟨vb, rfl, hVb, h4⟩
              have Y4 : Below wr.heap.size wr y4 := bt Y3 h4
              have HVa := hid (HVa.out.on h4)
              have HVb := hid hVb
              clear h4 hVb
              refine hK.out _ _ (SK2.out _ Y4) (fun hHeld => ?_)
              clear hK K
              try simp only [Act.put, List.setIfInBounds_toArray, List.set_cons_zero, List.set_cons_succ]
              refine wpAnyH_ready (rs := [12]) (by kernel_rfl) (by simp) ?_
              refine AllReadyH.cons (o := ⟨some 84, _, _, _, _, _⟩) rfl (fun K hK => ?_) AllReadyH.nil
              go_simp
              go_at_call 16
              refine (rstrings_any va vb ws ws _ HVa.out HVb.out HWN.out HWN.out).mono ?_
              rintro e y5 ⟨rfl, h5⟩
              have Y5 : Below wr.heap.size wr y5 := bt Y4 h5
              clear h5
              try rw [decide_eq_true (rfl : ws = ws)]
              refine hK.out _ _ (SK2.out _ Y5) (fun hHeld => ?_)
              clear hK K
              try simp only [Act.put, List.setIfInBounds_toArray, List.set_cons_zero, List.set_cons_succ]
              refine wpAnyH_take (i := 13) (oi := ⟨some 85, _, _, _, _, _⟩) (v := .bool false) rfl (by kernel_rfl) (by kernel_rfl) (by kernel_rfl) (fun _ _ _ h => h) (Or.inl ⟨by rfl, ?_⟩) hHeld ?_
              · intro u hu
                go_simp
              try simp only [Act.put, List.setIfInBounds_toArray, List.set_cons_zero, List.set_cons_succ]
              refine wpAnyH_done (by kernel_rfl) ?_ _
              clear hHeld
              go_wp2
              go_roundw
              case rel => exact ⟨k + 1, by omega, by go_num, bt hQ.out Y5⟩
              case measure => simp [intOf]; omega
            · go_wp2
              go_loopw [12] (fun q wz => ∃ k : Nat, k ≤ i ∧ q = .int .i64 k ∧ Hid (Below wr.heap.size wr wz)) (fun q _ => i - (intOf q).toNat)
              case atStart => exact ⟨0, Nat.zero_le _, rfl, Below.refl _ _⟩
              case round =>
                obtain ⟨z, hz, rfl, hZ⟩ := hrel
                by_cases hzi : z < i
                · obtain ⟨y, hy⟩ : ∃ y, rs[z]? = some y := ⟨_, List.getElem?_eq_getElem (by omega)⟩
                  have hne := reading_apart HPR.out hzi hy HXI.out
                  have hBZ := bt hQ.out hZ.out
                  obtain ⟨g2, o2, e2, -, b0, b1, b2, b3, b4⟩ := ad_at (HR4.out.on (bt HB6.out hBZ)) hy
                  cases e2
                  obtain ⟨d0, d1, a0, a1, a2, a3, a4⟩ := HSK6.out _ hBZ
                  have hq := HEQ.out y
                  rw [decide_eq_false hne] at hq
                  have hz0 : 0 ≤ (z : Int) := by omega
                  have hz1 : (z : Int) < (rs.length : Int) := by omega
                  have hz2 : (z : Int) < (i : Int) := by omega
                  clear hne hy hBZ
                  go_wp2
                  go_quiet (fail)
                  go_wp2
                  go_roundw
                  case rel => exact ⟨z + 1, by omega, by go_num, below_drewN hZ.out _⟩
                  case measure => simp [intOf]; omega
                · have hz2 : ¬ (z : Int) < (i : Int) := by omega
                  go_wp2
                  go_roundw
                  case rel => exact ⟨i + 1, by omega, by go_num, bt HB6.out (bt hQ.out hZ.out)⟩
                  case measure => simp [intOf]; omega
        · go_wp2
          go_ret
          exact ⟨rfl, HS5.out.bel⟩
    · have hr0 := parse_err HPR.out he
      have q1 : ((er : Int) != 0) = true := by simpa using he
      have q2 : ((rs.length : Int) == 0) = true := by rw [hr0]; rfl
      clear he hr0
      go_wp2
      go_ret
      exact ⟨rfl, HS4.out.bel⟩

end Fm
end Go.Proofs.YtcaiejbnhjiflaaGreatDoor
