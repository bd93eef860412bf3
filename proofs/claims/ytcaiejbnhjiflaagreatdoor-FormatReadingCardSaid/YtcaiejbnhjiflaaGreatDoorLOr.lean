/-
  FormatOrder: the walk.
-/
import Derived.Test.YtcaiejbnhjiflaaGreatDoorLBl
import Derived.Test.YtcaiejbnhjiflaaGreatDoorR6
import Derived.Test.YtcaiejbnhjiflaaGreatDoorMo
import Derived.Deep.RegionHeld3
namespace Go.Proofs.YtcaiejbnhjiflaaGreatDoor
open Go.RowKit Go.ChangeMaps
namespace Fm

theorem bt' {w0 w1 w2 : World} (h : Below w0.heap.size w0 w1) (h2 : Below w1.heap.size w1 w2) : Below w0.heap.size w0 w2 := bt h h2
theorem own_small {x : Ad} (hx : Small x) (ps : List Pt) (hw : ∀ p ∈ ps, partB p = true) : ∀ n ∈ cnts ps x, n ≤ 1000 := by
  intro n hn
  unfold cnts at hn
  obtain ⟨p, hp, rfl⟩ := List.mem_map.1 hn
  rw [own_show]
  exact Nat.le_trans (words_len _) (show_len hx (hw p (List.mem_filter.1 hp).1))

set_option maxRecDepth 100000 in
set_option maxHeartbeats 16000000 in
theorem order_law (name : W) (fs : List (List Pt)) (fv : Value) (lns : List W) (lv : Value) (w : World) (hT : Tab w) (hF : IsPs w fv fs) (hL : IsW w lv lns) :
    Calls Tryz.prog 6 #[.agg #[.string (sB name), fv], lv] w fun e w' => e = .returned (.bool true) ∧ Below w.heap.size w w' := by
  obtain ⟨A, cap, fvs, hfv, -⟩ := id hF
  subst hfv
  obtain ⟨lA, lcap, hlv, hlS⟩ := id hL
  subst hlv
  have HT := hid hT
  obtain ⟨w1, hw1'⟩ : ∃ w1, w1 = w.alloc (.cells #[.string (sB name), .slice A fs.length cap] 24) := ⟨_, rfl⟩
  have hb1 : Below w.heap.size w w1 := by rw [hw1']; exact b0 _ _
  have HS1 : Hid (Fx w w.heap.size name fs A cap w1) := ⟨by rw [hw1']; exact heap_new _ _, hF.on hb1, hb1⟩
  have HL1 := hid (hL.on hb1)
  have CFew := hid (fun u (h : Fx w w.heap.size name fs A cap u) (hl : IsW u (.slice lA lns.length lcap) lns) => few_any name fs (.slice A fs.length cap) lns (.slice lA lns.length lcap) u h.isp hl)
  have CPa := hid (fun u (h : Fx w w.heap.size name fs A cap u) (hl : IsW u (.slice lA lns.length lcap) lns) (hn : lns.length ≤ 1000) (hz : ∀ l ∈ lns, l.length ≤ 5000) (rs : List Ad) (er : Int) (hp : parseR name fs lns = (rs, er)) => parse_any name fs (.slice A fs.length cap) lns (.slice lA lns.length lcap) u h.isp hl hn hz hp)
  have CC := hid (fun u (h : Fx w w.heap.size name fs A cap u) (h10 : fs.length ≤ 10) (hp : ∀ ps ∈ fs, ps.length ≤ 10) (hk : ∀ p ∈ fs.flatten, 1 ≤ p.k ∧ p.k ≤ 6) (x : Ad) (hx : Small x) => counts_any name fs (.slice A fs.length cap) x u h.isp h10 hp hk hx.p hx.s hx.t)
  unfold adV at CC
  have HSC := hid (fun (u : World) (h : Fx w w.heap.size name fs A cap u) => h.cells)
  obtain ⟨nm, hnm⟩ : ∃ nm, nm = sB name := ⟨_, rfl⟩
  rw [← hnm] at hw1' CFew CPa CC HSC ⊢
  clear hnm hT hF hL hlS hb1
  go_enter Tryz.func6, Tryz.ntmps6
  go_wp2_with fail
  rw [← hw1']
  clear hw1'
  refine (head_any _ (tab_on HT.out HS1.out.bel)).mono ?_
  rintro e w2 ⟨rfl, hb2⟩
  have HS2 := hid (HS1.out.on hb2)
  have HL2 := hid (HL1.out.on hb2)
  obtain ⟨d0, d1⟩ := HSC.out _ HS2.out
  have hl2 := HS2.out.lt
  clear hb2 HS1 HL1
  go_wp2_with fail
  refine (CFew.out _ HS2.out HL2.out).mono ?_
  rintro e w3 ⟨b, rfl, hFew, hb3⟩
  have HS3 := hid (HS2.out.on hb3)
  have HL3 := hid (HL2.out.on hb3)
  obtain ⟨d0, d1⟩ := HSC.out _ HS3.out
  have hl3 := HS3.out.lt
  clear hb3 HS2 HL2 hl2
  cases b
  · go_wp2
    go_ret
    exact ⟨rfl, HS3.out.bel⟩
  · have HFew := hid (hFew.out rfl)
    clear hFew
    have hln8 := HFew.out.ln
    have hz1' : ∀ x ∈ lns, x.length ≤ 5000 := fun x hx => by have := HFew.out.ls x hx; omega
    have HZ1 := hid hz1'
    clear hz1'
    obtain ⟨rs, er, hpr⟩ : ∃ rs er, parseR name fs lns = (rs, er) := ⟨_, _, rfl⟩
    have hrl := parse_len name fs lns
    rw [hpr] at hrl
    simp only at hrl
    have HPR := hid hpr
    clear hpr
    go_wp2_with fail
    refine (CPa.out _ HS3.out HL3.out (by omega) HZ1.out rs er HPR.out).mono ?_
    rintro e w4 ⟨va, rfl, hA4, hb4⟩
    obtain ⟨rA, rc, rfl, hR4⟩ := id hA4.out
    have HR4 := hid hR4
    have HS4 := hid (HS3.out.on hb4)
    clear hb4 HS3 HL3 hl3 d0 d1 hR4 hA4
    go_wp2
    go_loopw [8] (fun i wr => ∃ k j : Nat, j = k + 1 ∧ j ≤ rs.length + 1 ∧ i = .int .i64 j ∧ Below w4.heap.size w4 wr) (fun i _ => rs.length + 1 - (intOf i).toNat)
    case atStart => exact ⟨0, 1, rfl, by omega, rfl, Below.refl _ _⟩
    case round =>
      obtain ⟨k, j, hj, hjr, rfl, hb⟩ := hrel
      have HB := hid hb
      have HS5 := hid (HS4.out.on hb)
      obtain ⟨d0, d1⟩ := HSC.out _ HS5.out
      have hl5 := HS5.out.lt
      by_cases hlt : j < rs.length
      · obtain ⟨x, hx⟩ : ∃ x, rs[k]? = some x := ⟨_, List.getElem?_eq_getElem (by omega)⟩
        obtain ⟨y, hy⟩ : ∃ y, rs[j]? = some y := ⟨_, List.getElem?_eq_getElem hlt⟩
        obtain ⟨g, o, rfl, hg, a0, a1, a2, a3, a4⟩ := ad_at (HR4.out.on hb) hx
        obtain ⟨g', o', e', -, b0, b1, b2, b3, b4⟩ := ad_at (HR4.out.on hb) hy
        cases e'
        obtain ⟨hv, _, hsx⟩ := parse_fits HPR.out (List.mem_of_getElem? hx)
        obtain ⟨_, _, hsy⟩ := parse_fits HPR.out (List.mem_of_getElem? hy)
        obtain ⟨_, _, _, v4, _⟩ := valid_parts hv
        have hkk : ∀ p ∈ fs.flatten, 1 ≤ p.k ∧ p.k ≤ 6 := fun p hp => by obtain ⟨q1, q2, _⟩ := wfp (v4 p hp); exact ⟨q1, q2⟩
        have HLT := hid (parse_order HPR.out hx (by rw [← hj]; exact hy))
        have hfl := flat_le HFew.out.ps fs.length
        rw [List.take_length] at hfl
        have hfn := HFew.out.fn
        have HCL : Hid ((cnts fs.flatten x).length ≤ 100000) := by show _ ≤ _; have := cnts_le fs.flatten x; omega
        have HC1 := hid (own_small hsx fs.flatten v4)
        have HC2 := hid (own_small hsy fs.flatten v4)
        have CX := hid (fun u (hu : Below wr.heap.size wr u) => CC.out u (HS5.out.on hu) HFew.out.fn HFew.out.ps hkk x hsx)
        have CY := hid (fun u (hu : Below wr.heap.size wr u) => CC.out u (HS5.out.on hu) HFew.out.fn HFew.out.ps hkk y hsy)
        obtain ⟨p1, hp1⟩ : ∃ p, p = sB x.person := ⟨_, rfl⟩
        obtain ⟨s1, hs1⟩ : ∃ p, p = sB x.street := ⟨_, rfl⟩
        obtain ⟨c1, hc1⟩ : ∃ p, p = sB x.code := ⟨_, rfl⟩
        obtain ⟨t1, ht1⟩ : ∃ p, p = sB x.town := ⟨_, rfl⟩
        obtain ⟨p2, hp2⟩ : ∃ p, p = sB y.person := ⟨_, rfl⟩
        obtain ⟨s2, hs2⟩ : ∃ p, p = sB y.street := ⟨_, rfl⟩
        obtain ⟨c2, hc2⟩ : ∃ p, p = sB y.code := ⟨_, rfl⟩
        obtain ⟨t2, ht2⟩ : ∃ p, p = sB y.town := ⟨_, rfl⟩
        rw [← hp1] at a0 CX
        rw [← hs1] at a1 CX
        rw [← hc1] at a3 CX
        rw [← ht1] at a4 CX
        rw [← hp2] at b0 CY
        rw [← hs2] at b1 CY
        rw [← hc2] at b3 CY
        rw [← ht2] at b4 CY
        have SK : Hid (∀ u, Below wr.heap.size wr u → u.cell? ⟨w.heap.size, 0, none⟩ = some (.string nm) ∧ u.cell? ⟨w.heap.size, 1, none⟩ = some (.slice A fs.length cap) ∧ u.cell? ⟨g, o + k * 5, none⟩ = some (.string p1) ∧ u.cell? ⟨g, o + k * 5 + 1, none⟩ = some (.string s1) ∧ u.cell? ⟨g, o + k * 5 + 2, none⟩ = some (.int .i64 x.number) ∧ u.cell? ⟨g, o + k * 5 + 3, none⟩ = some (.string c1) ∧ u.cell? ⟨g, o + k * 5 + 4, none⟩ = some (.string t1) ∧ u.cell? ⟨g, o + j * 5, none⟩ = some (.string p2) ∧ u.cell? ⟨g, o + j * 5 + 1, none⟩ = some (.string s2) ∧ u.cell? ⟨g, o + j * 5 + 2, none⟩ = some (.int .i64 y.number) ∧ u.cell? ⟨g, o + j * 5 + 3, none⟩ = some (.string c2) ∧ u.cell? ⟨g, o + j * 5 + 4, none⟩ = some (.string t2)) := fun u hu => by
          have q0 := fun q => hu.cell (p := (⟨g, q, none⟩ : Addr)) hg
          have q1 := fun q => hu.cell (p := (⟨w.heap.size, q, none⟩ : Addr)) hl5
          exact ⟨(q1 _).trans d0, (q1 _).trans d1, (q0 _).trans a0, (q0 _).trans a1, (q0 _).trans a2, (q0 _).trans a3, (q0 _).trans a4, (q0 _).trans b0, (q0 _).trans b1, (q0 _).trans b2, (q0 _).trans b3, (q0 _).trans b4⟩
        have hj0 : 0 ≤ (j : Int) := by omega
        have hj1 : (j : Int) < (rs.length : Int) := by omega
        have hk0 : 0 ≤ (k : Int) := by omega
        have hk1 : (k : Int) < (rs.length : Int) := by omega
        have hwr : IntKind.i64.wrap ((j : Int) - 1) = (k : Int) := by rw [IntWalk.i64_in _ (by omega)]; omega
        have HJ := hid hj
        clear hx hy hp1 hs1 hc1 ht1 hp2 hs2 hc2 ht2 hkk hsx hsy v4 hv hj
        · go_wp2_with fail
          refine wp_region_held_drew (S := fun w' => w'.cell? ⟨w.heap.size, 0, none⟩ = some (.string nm) ∧ w'.cell? ⟨w.heap.size, 1, none⟩ = some (.slice A fs.length cap) ∧ w'.cell? ⟨g, o + k * 5, none⟩ = some (.string p1) ∧ w'.cell? ⟨g, o + k * 5 + 1, none⟩ = some (.string s1) ∧ w'.cell? ⟨g, o + k * 5 + 2, none⟩ = some (.int .i64 x.number) ∧ w'.cell? ⟨g, o + k * 5 + 3, none⟩ = some (.string c1) ∧ w'.cell? ⟨g, o + k * 5 + 4, none⟩ = some (.string t1) ∧ w'.cell? ⟨g, o + j * 5, none⟩ = some (.string p2) ∧ w'.cell? ⟨g, o + j * 5 + 1, none⟩ = some (.string s2) ∧ w'.cell? ⟨g, o + j * 5 + 2, none⟩ = some (.int .i64 y.number) ∧ w'.cell? ⟨g, o + j * 5 + 3, none⟩ = some (.string c2) ∧ w'.cell? ⟨g, o + j * 5 + 4, none⟩ = some (.string t2)) (by kernel_rfl) ⟨d0, d1, a0, a1, a2, a3, a4, b0, b1, b2, b3, b4⟩ (fun hHeld => ?_)
          refine wpAnyH_take (i := 0) (oi := ⟨some 27, _, _, _, _, _⟩) (v := .agg #[.string nm, .slice A fs.length cap]) rfl (by kernel_rfl) (by kernel_rfl) (by kernel_rfl) (fun _ _ _ h => h) (Or.inl ⟨by rfl, ?_⟩) hHeld ?_
          · intro u hu
            go_simp
          try simp only [Act.put, List.setIfInBounds_toArray, List.set_cons_zero, List.set_cons_succ]
          refine wpAnyH_take (i := 1) (oi := ⟨some 28, _, _, _, _, _⟩) (v := .slice (some ⟨g, o, none⟩) rs.length rc) rfl (by kernel_rfl) (by kernel_rfl) (by kernel_rfl) (fun _ _ _ h => h) (Or.inl ⟨by rfl, ?_⟩) hHeld ?_
          · intro u hu
            go_simp
          try simp only [Act.put, List.setIfInBounds_toArray, List.set_cons_zero, List.set_cons_succ]
          refine wpAnyH_take (i := 2) (oi := ⟨some 29, _, _, _, _, _⟩) (v := .int .i64 (j : Int)) rfl (by kernel_rfl) (by kernel_rfl) (by kernel_rfl) (fun _ _ _ h => h) (Or.inl ⟨by rfl, ?_⟩) hHeld ?_
          · intro u hu
            go_simp
          try simp only [Act.put, List.setIfInBounds_toArray, List.set_cons_zero, List.set_cons_succ]
          refine wpAnyH_take (i := 3) (oi := ⟨some 30, _, _, _, _, _⟩) (v := .int .i64 (k : Int)) rfl (by kernel_rfl) (by kernel_rfl) (by kernel_rfl) (fun _ _ _ h => h) (Or.inl ⟨by rfl, ?_⟩) hHeld ?_
          · intro u hu
            go_simp
          try simp only [Act.put, List.setIfInBounds_toArray, List.set_cons_zero, List.set_cons_succ]
          refine wpAnyH_take (i := 4) (oi := ⟨some 31, _, _, _, _, _⟩) (v := .pointer (some ⟨g, o + k * 5, none⟩)) rfl (by kernel_rfl) (by kernel_rfl) (by kernel_rfl) (fun _ _ _ h => h) (Or.inl ⟨by rfl, ?_⟩) hHeld ?_
          · intro u hu
            go_simp
          try simp only [Act.put, List.setIfInBounds_toArray, List.set_cons_zero, List.set_cons_succ]
          refine wpAnyH_take (i := 5) (oi := ⟨some 32, _, _, _, _, _⟩) (v := .agg #[.string p1, .string s1, .int .i64 x.number, .string c1, .string t1]) rfl (by kernel_rfl) (by kernel_rfl) (by kernel_rfl) (fun _ _ _ h => h) (Or.inl ⟨by rfl, ?_⟩) hHeld ?_
          · intro u hu
            go_simp
          try simp only [Act.put, List.setIfInBounds_toArray, List.set_cons_zero, List.set_cons_succ]
          refine wpAnyH_take (i := 7) (oi := ⟨some 34, _, _, _, _, _⟩) (v := .agg #[.string nm, .slice A fs.length cap]) rfl (by kernel_rfl) (by kernel_rfl) (by kernel_rfl) (fun _ _ _ h => h) (Or.inl ⟨by rfl, ?_⟩) hHeld ?_
          · intro u hu
            go_simp
          try simp only [Act.put, List.setIfInBounds_toArray, List.set_cons_zero, List.set_cons_succ]
          refine wpAnyH_take (i := 8) (oi := ⟨some 35, _, _, _, _, _⟩) (v := .slice (some ⟨g, o, none⟩) rs.length rc) rfl (by kernel_rfl) (by kernel_rfl) (by kernel_rfl) (fun _ _ _ h => h) (Or.inl ⟨by rfl, ?_⟩) hHeld ?_
          · intro u hu
            go_simp
          try simp only [Act.put, List.setIfInBounds_toArray, List.set_cons_zero, List.set_cons_succ]
          refine wpAnyH_take (i := 9) (oi := ⟨some 36, _, _, _, _, _⟩) (v := .int .i64 (j : Int)) rfl (by kernel_rfl) (by kernel_rfl) (by kernel_rfl) (fun _ _ _ h => h) (Or.inl ⟨by rfl, ?_⟩) hHeld ?_
          · intro u hu
            go_simp
          try simp only [Act.put, List.setIfInBounds_toArray, List.set_cons_zero, List.set_cons_succ]
          refine wpAnyH_take (i := 10) (oi := ⟨some 37, _, _, _, _, _⟩) (v := .pointer (some ⟨g, o + j * 5, none⟩)) rfl (by kernel_rfl) (by kernel_rfl) (by kernel_rfl) (fun _ _ _ h => h) (Or.inl ⟨by rfl, ?_⟩) hHeld ?_
          · intro u hu
            go_simp
          try simp only [Act.put, List.setIfInBounds_toArray, List.set_cons_zero, List.set_cons_succ]
          refine wpAnyH_take (i := 11) (oi := ⟨some 38, _, _, _, _, _⟩) (v := .agg #[.string p2, .string s2, .int .i64 y.number, .string c2, .string t2]) rfl (by kernel_rfl) (by kernel_rfl) (by kernel_rfl) (fun _ _ _ h => h) (Or.inl ⟨by rfl, ?_⟩) hHeld ?_
          · intro u hu
            go_simp
          try simp only [Act.put, List.setIfInBounds_toArray, List.set_cons_zero, List.set_cons_succ]
          refine wpAnyH_ready (rs := [6]) (by kernel_rfl) (by simp) ?_
          refine AllReadyH.cons (o := ⟨some 33, _, _, _, _, _⟩) rfl (fun K hK => ?_) AllReadyH.nil
          go_simp
          go_at_call 25
          refine (CX.out _ (Below.refl _ wr).drew).mono ?_
          rintro e w5 ⟨va, rfl, Hva, hw5⟩
          have B5 : Below wr.heap.size wr w5 := bt' (Below.refl _ wr).drew hw5
          clear hw5
          refine hK.out _ _ (SK.out _ B5) (fun hHeld => ?_)
          clear hK K
          try simp only [Act.put, List.setIfInBounds_toArray, List.set_cons_zero, List.set_cons_succ]
          refine wpAnyH_ready (rs := [12]) (by kernel_rfl) (by simp) ?_
          refine AllReadyH.cons (o := ⟨some 39, _, _, _, _, _⟩) rfl (fun K hK => ?_) AllReadyH.nil
          go_simp
          go_at_call 25
          refine (CY.out _ B5).mono ?_
          rintro e w6 ⟨vb, rfl, Hvb, hw6⟩
          have hw6x := hw6
          have B6 : Below wr.heap.size wr w6 := bt' B5 hw6
          clear hw6
          refine hK.out _ _ (SK.out _ B6) (fun hHeld => ?_)
          clear hK K
          try simp only [Act.put, List.setIfInBounds_toArray, List.set_cons_zero, List.set_cons_succ]
          refine wpAnyH_ready (rs := [13]) (by kernel_rfl) (by simp) ?_
          refine AllReadyH.cons (o := ⟨some 40, _, _, _, _, _⟩) rfl (fun K hK => ?_) AllReadyH.nil
          go_simp
          go_at_call 24
          refine (less_any va vb _ _ _ (Hva.out.on hw6x) Hvb.out HCL.out HC1.out HC2.out HLT.out).mono ?_
          rintro e w7 ⟨rfl, h7⟩
          have B7 : Below wr.heap.size wr w7 := bt' B6 h7
          clear h7
          refine hK.out _ _ (SK.out _ B7) (fun hHeld => ?_)
          clear hK K
          try simp only [Act.put, List.setIfInBounds_toArray, List.set_cons_zero, List.set_cons_succ]
          refine wpAnyH_take (i := 14) (oi := ⟨some 41, _, _, _, _, _⟩) (v := .bool false) rfl (by kernel_rfl) (by kernel_rfl) (by kernel_rfl) (fun _ _ _ h => h) (Or.inl ⟨by rfl, ?_⟩) hHeld ?_
          · intro u hu
            go_simp
          try simp only [Act.put, List.setIfInBounds_toArray, List.set_cons_zero, List.set_cons_succ]
          refine wpAnyH_done (by kernel_rfl) ?_ _
          clear hHeld
          go_wp2
          go_roundw
          case rel => exact ⟨j, j + 1, by omega, by omega, by go_num, bt HB.out B7⟩
          case measure => simp [intOf]; omega
      · go_wp2
        go_ret
        exact ⟨rfl, HS5.out.bel⟩

end Fm
end Go.Proofs.YtcaiejbnhjiflaaGreatDoor
