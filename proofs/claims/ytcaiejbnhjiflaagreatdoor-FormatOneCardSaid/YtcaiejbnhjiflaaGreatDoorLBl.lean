/-
  FormatBlanks: the walk.
-/
import Derived.Test.YtcaiejbnhjiflaaGreatDoorLPr
import Derived.Test.YtcaiejbnhjiflaaGreatDoorMq
namespace Go.Proofs.YtcaiejbnhjiflaaGreatDoor
open Go.RowKit Go.ChangeMaps
namespace Fm

theorem rem_nat (a n : Nat) (h : 0 < n) : ∃ m : Nat, (Int.tmod (a : Int) (n : Int)) = (m : Int) ∧ m < n := ⟨a % n, by rw [Int.tmod_eq_emod_of_nonneg (by omega)]; rfl, Nat.mod_lt _ h⟩

set_option maxRecDepth 100000 in
set_option maxHeartbeats 16000000 in
theorem blanks_law (name : W) (fs : List (List Pt)) (fv : Value) (lns : List W) (lv : Value) (wz az : Int) (w : World) (hT : Tab w) (hF : IsPs w fv fs) (hL : IsW w lv lns) (hw0 : 0 ≤ wz) (hw1 : wz ≤ 255) (ha0 : 0 ≤ az) (ha1 : az ≤ 255) :
    Calls Tryz.prog 7 #[.agg #[.string (sB name), fv], lv, .int .u8 wz, .int .u8 az] w fun e w' => e = .returned (.bool true) ∧ Below w.heap.size w w' := by
  obtain ⟨A, cap, fvs, hfv, -⟩ := id hF
  subst hfv
  obtain ⟨lA, lcap, hlv, hlS⟩ := id hL
  subst hlv
  have HT := hid hT
  obtain ⟨w1, hw1'⟩ : ∃ w1, w1 = w.alloc (.cells #[.string (sB name), .slice A fs.length cap] 24) := ⟨_, rfl⟩
  have hb1 : Below w.heap.size w w1 := by rw [hw1']; exact b0 _ _
  have HS1 : Hid (Fx w w.heap.size name fs A cap w1) := ⟨by rw [hw1']; exact heap_new _ _, hF.on hb1, hb1⟩
  have HL1 := hid (hL.on hb1)
  have CFew := hid (fun u (h : Fx w w.heap.size name fs A cap u) (hl : IsW u (.slice lA lns.length lcap) lns) => few_any name fs (.slice A fs.length cap) lns (.slice lA lns.length lcap) u h.isp hl)
  have CPa := hid (fun u (h : Fx w w.heap.size name fs A cap u) (ls : List W) (lA : Option Addr) (n lc : Nat) (e : n = ls.length) (hl : IsW u (.slice lA n lc) ls) (hn : ls.length ≤ 1000) (hz : ∀ l ∈ ls, l.length ≤ 5000) (rs : List Ad) (er : Int) (hp : parseR name fs ls = (rs, er)) => (by subst e; exact parse_any name fs (.slice A fs.length cap) ls (.slice lA ls.length lc) u h.isp hl hn hz hp : Calls Tryz.prog 12 #[.agg #[.string (sB name), .slice A fs.length cap], .slice lA n lc] u (ParsePost rs er u)))
  have HSC := hid (fun (u : World) (h : Fx w w.heap.size name fs A cap u) => h.cells)
  obtain ⟨nm, hnm⟩ : ∃ nm, nm = sB name := ⟨_, rfl⟩
  rw [← hnm] at hw1' CFew CPa HSC ⊢
  obtain ⟨wn, rfl⟩ : ∃ wn : Nat, wz = wn := ⟨wz.toNat, by omega⟩
  obtain ⟨an, rfl⟩ : ∃ an : Nat, az = an := ⟨az.toNat, by omega⟩
  clear hnm hT hF hL hlS hb1
  go_enter Tryz.func7, Tryz.ntmps7
  go_wp2_with fail
  rw [← hw1']
  clear hw1'
  refine (head_any _ (tab_on HT.out HS1.out.bel)).mono ?_
  rintro e w2 ⟨rfl, hb2⟩
  have HS2 := hid (HS1.out.on hb2)
  have HL2 := hid (HL1.out.on hb2)
  obtain ⟨d0, d1⟩ := HSC.out _ HS2.out
  have hl2 := HS2.out.lt
  clear hb2 HS1 HL1
  go_wp2_with fail
  refine (CFew.out _ HS2.out HL2.out).mono ?_
  rintro e w3 ⟨b, rfl, hFew, hb3⟩
  have HS3 := hid (HS2.out.on hb3)
  have HL3 := hid (HL2.out.on hb3)
  obtain ⟨d0, d1⟩ := HSC.out _ HS3.out
  have hl3 := HS3.out.lt
  clear hb3 HS2 HL2 hl2
  cases b
  · go_wp2
    go_ret
    exact ⟨rfl, HS3.out.bel⟩
  · have HFew := hid (hFew.out rfl)
    clear hFew
    have hln8 := HFew.out.ln
    by_cases h0 : lns.length = 0
    · have e0 : ((lns.length : Int) == 0) = true := by rw [h0]; rfl
      clear h0 hln8
      go_wp2
      go_ret
      exact ⟨rfl, HS3.out.bel⟩
    · have e0 : ((lns.length : Int) == 0) = false := by rw [beq_eq_false_iff_ne]; omega
      obtain ⟨m, hm, hmn⟩ := rem_nat wn lns.length (by omega)
      obtain ⟨l, hl⟩ : ∃ l, lns[m]? = some l := ⟨_, List.getElem?_eq_getElem hmn⟩
      have hl200 := HFew.out.ls l (List.mem_of_getElem? hl)
      obtain ⟨lA3, lc3, hls3, hR3⟩ := id HL3.out
      cases hls3
      obtain ⟨g, o, rfl, hg, hc⟩ := SlR.at hR3 (k := m) (u := sV l) (by rw [List.getElem?_map, hl]; rfl)
      have HR3 := hid hR3
      unfold sV at hc
      have HLM := hid hl
      have hmi : (m : Int) < (lns.length : Int) := by omega
      have hm0 : 0 ≤ (m : Int) := by omega
      have CW := hid (rwords_any (sB l) w3 (by rw [sB_size]; omega))
      rw [sB_list] at CW
      obtain ⟨s, hs⟩ : ∃ s, s = sB l := ⟨_, rfl⟩
      rw [← hs] at hc CW
      have HNEW : Hid (∀ u, Below w3.heap.size w3 u → ∀ (j : Nat) z, (lns.map sV)[j]? = some z → u.cell? ((⟨g, o, none⟩ : Addr).add j) = some z) := fun u hb j z hj => by
        obtain ⟨g2, o2, e2, hg2, hcc⟩ := (HR3.out.on hb).2.2 (by omega)
        cases e2
        rw [addr_add]
        exact hcc j z hj
      clear hs hl hR3
      go_wp2_with fail
      refine CW.out.mono ?_
      rintro e w4 ⟨v, rfl, hW, hb4⟩
      have hsum := words_sum l
      have his := fun x (hx : x ∈ wordsL l) => words_is hx
      have hwl := words_len l
      obtain ⟨ws, hws⟩ : ∃ ws, ws = wordsL l := ⟨_, rfl⟩
      rw [← hws] at hW hsum his hwl
      obtain ⟨vA, vc, rfl, hV⟩ := id hW
      have HV := hid hV
      have HIS := hid his
      have HWS := hid hws
      have HB34 := hid hb4
      have HS4 := hid (HS3.out.on hb4)
      have HR4 := hid (HR3.out.on hb4)
      have hg4 : g < w4.heap.size := Nat.lt_of_lt_of_le hg hb4.size
      obtain ⟨q, hq, hqn⟩ := rem_nat an (ws.length + 1) (by omega)
      rw [show ((ws.length + 1 : Nat) : Int) = (ws.length : Int) + 1 from by omega] at hq
      have hs200 : (ws.map List.length).sum ≤ 200 := by omega
      have hn200 : ws.length ≤ 200 := by omega
      have hne1 : ((ws.length : Int) + 1) ≠ 0 := by omega
      clear hb4 hW hV his hws hsum hwl HS3 HL3 HR3 hc CW d0 d1 hl200 hl3 hm
      go_wp2
      clear hq hne1 e0
      go_loop [13, 14] (fun c i => ∃ (k : Nat) (t : ByteArray), k ≤ ws.length ∧ i = .int .i64 k ∧ c = .string t ∧ Hid (LayAt ws q k t.data.toList)) (fun _ i => ws.length - (intOf i).toNat)
      case atStart => exact ⟨0, ⟨#[]⟩, Nat.zero_le _, rfl, rfl, LayAt.start ws q⟩
      case round =>
        obtain ⟨k, t, hk, rfl, rfl, hA⟩ := hrel
        have htz : t.size ≤ 402 := by have := hA.out.small; rw [size_len] at this; omega
        by_cases hlt : k < ws.length
        · obtain ⟨x, hx⟩ : ∃ x, ws[k]? = some x := ⟨_, List.getElem?_eq_getElem hlt⟩
          obtain ⟨vg, vo, rfl, hvg, hvc⟩ := HV.out.at (k := k) (u := sV x) (by rw [List.getElem?_map, hx]; rfl)
          unfold sV at hvc
          have hxi := HIS.out x (List.mem_of_getElem? hx)
          have hxl : x.length ≤ 200 := by have := le_sum (List.mem_of_getElem? hx); omega
          have hkk : (k : Int) < (ws.length : Int) := by omega
          have hk0 : 0 ≤ (k : Int) := by omega
          have hsz := sB_size x
          obtain ⟨s2, hs2⟩ : ∃ s2, s2 = sB x := ⟨_, rfl⟩
          rw [← hs2] at hvc hsz
          have hs2l : s2.data.toList = x := by rw [hs2]; rfl
          have hs2z : s2.size ≤ 200 := by omega
          by_cases hkq : k = q
          · have e1 : ((k : Int) == (q : Int)) = true := by simp; omega
            have HN := hid (hA.out.two hx hxi hkq)
            have HX : Hid ((t ++ ⟨#[9, 32]⟩ ++ s2 ++ ⟨#[32]⟩).data.toList = t.data.toList ++ [9, 32] ++ x ++ [32]) := by
              show _ = _
              rw [ByteArray.data_append, ByteArray.data_append, ByteArray.data_append, Array.toList_append, Array.toList_append, Array.toList_append, hs2l]
            clear hx hxi hxl hsz hs2 hs2l hkq
            go_wp2
            go_round
            case rel => exact ⟨k + 1, t ++ ⟨#[9, 32]⟩ ++ s2 ++ ⟨#[32]⟩, by omega, by go_num, rfl, by rw [HX.out]; exact HN⟩
            case measure => simp [intOf]; omega
          · have e1 : ((k : Int) == (q : Int)) = false := by simp; omega
            have HN := hid (hA.out.one hx hxi hkq)
            have HX : Hid ((t ++ s2 ++ ⟨#[32]⟩).data.toList = t.data.toList ++ x ++ [32]) := by
              show _ = _
              rw [ByteArray.data_append, ByteArray.data_append, Array.toList_append, Array.toList_append, hs2l]
            clear hx hxi hxl hsz hs2 hs2l hkq
            go_wp2
            go_round
            case rel => exact ⟨k + 1, t ++ s2 ++ ⟨#[32]⟩, by omega, by go_num, rfl, by rw [HX.out]; exact HN⟩
            case measure => simp [intOf]; omega
        · obtain rfl : k = ws.length := by omega
          have hje := hA.out.join.end
          rw [List.take_length] at hje
          obtain ⟨t2, ht2⟩ : ∃ t2 : ByteArray, t2 = t ++ ⟨#[32, 32]⟩ := ⟨_, rfl⟩
          have ht2l : t2.data.toList = t.data.toList ++ [32, 32] := by rw [ht2, ByteArray.data_append, Array.toList_append]
          have ht2z : t2.size ≤ 404 := by rw [← size_len, ht2l, List.length_append, size_len]; simp; omega
          have HEW : Hid (wordsL t2.data.toList = wordsL l) := by show _ = _; rw [ht2l, hje, HWS.out]
          have HST := hid (set_words HLM.out HEW.out)
          have hz2 : ∀ x ∈ lns.set m t2.data.toList, x.length ≤ 5000 := by
            intro x hx
            rcases List.mem_or_eq_of_mem_set hx with h | h
            · have := HFew.out.ls x h; omega
            · rw [h, size_len]; omega
          have HZ2 := hid hz2
          obtain ⟨i0, hi0, hz0, hz1, hz2'⟩ := info_parts infoStr
          obtain ⟨d0, d1⟩ := HSC.out _ HS4.out
          have hl4 := HS4.out.lt
          clear hje ht2l hz2 hA
          have hb4 := HS4.out.bel.size
          have HPK : Hid (∀ (gg cap2 : Nat) (w5 : World), w5.ownsRow w4.heap.size 9 1 (.slice (some ⟨gg, 0, none⟩) (0 + lns.length) cap2) (0 + lns.length) ([] ++ lns.map sV) →
              (w4.alloc (.cells #[] 9)).grownBy w5 (Value.ownBlock (.slice (some ⟨w4.heap.size, 0, none⟩) 0 0)) →
              w5.cell? ⟨gg, m, none⟩ = some (sV l) ∧ w5.frozen? ⟨gg, m, none⟩ = false ∧ w5.cell? ⟨w.heap.size, 0, none⟩ = some (.string nm) ∧ w5.cell? ⟨w.heap.size, 1, none⟩ = some (.slice A fs.length cap) ∧ ¬ gg = w.heap.size ∧ ¬ w.heap.size = gg ∧
              (w5.setCell ⟨gg, m, none⟩ (.string (t ++ ⟨#[32, 32]⟩))).cell? ⟨w.heap.size, 0, none⟩ = some (.string nm) ∧ (w5.setCell ⟨gg, m, none⟩ (.string (t ++ ⟨#[32, 32]⟩))).cell? ⟨w.heap.size, 1, none⟩ = some (.slice A fs.length cap) ∧
              Hid (Below w4.heap.size w4 (w5.setCell ⟨gg, m, none⟩ (.string (t ++ ⟨#[32, 32]⟩))) ∧ IsW (w5.setCell ⟨gg, m, none⟩ (.string (t ++ ⟨#[32, 32]⟩))) (.slice (some ⟨gg, 0, none⟩) (lns.set m t2.data.toList).length cap2) (lns.set m t2.data.toList))) := by
            intro gg cap2 w5 hown5 hgrow
            rw [Nat.zero_add, List.nil_append] at hown5
            have hgg := (hown5.lt gg rfl).1
            have hb45 : Below w4.heap.size w4 w5 := Below.grown (b0 w4 _) hgrow (b0 w4 _).size (fun j e => ((own_empty w4 w4.heap.size w4.heap.size (Nat.le_refl _) rfl 9).lt j e).1)
            have hb46 := hb45.setCell (p := ⟨gg, m, none⟩) hgg (.string (t ++ ⟨#[32, 32]⟩))
            obtain ⟨j0, j1⟩ := HSC.out _ (HS4.out.on hb45)
            obtain ⟨k0, k1⟩ := HSC.out _ (HS4.out.on hb46)
            refine ⟨(hown5.cellAt m (by omega)).trans ?_, hown5.frozenAt m, j0, j1, by omega, by omega, k0, k1, hb46, ?_⟩
            · rw [List.getElem?_map, HLM.out]; rfl
            · have h := (hown5.stored m (.string (t ++ ⟨#[32, 32]⟩))).1
              refine IsW.of_own (B := w4.heap.size) ?_
              rw [List.map_set, List.length_set]
              rw [← ht2] at h ⊢
              rw [← sV_of]
              exact h
          go_wp2_with (at_builtin; refine wpList_append_lies _ rfl (.tmp 65) (.tmp 66) 25 rfl w4.heap.size 9 i0 _ 1 16 Tryz.underlying25 hi0 hz0 hz1 hz2' rfl (by decide) (.slice (some ⟨w4.heap.size, 0, none⟩) 0 0) 0 [] rfl (own_empty w4 _ _ (Nat.le_refl _) rfl _) ⟨g, o, none⟩ lns.length lcap (lns.map sV) rfl (by simp) (HNEW.out _ (HB34.out.alloc (by have := HB34.out.size; omega) _)) (one_strs _) (by omega) (by unfold maxLen; omega) (by omega) (by simp) (w4.heap.size + 1) (by simp) ?_; intro gg cap2 w5 hown5 hgrow hat hlt5; obtain ⟨hc5, hf5, j0, j1, hne1, hne2, k0, k1, HP⟩ := HPK.out gg cap2 w5 hown5 hgrow; clear hown5 hgrow hat hlt5)
          obtain ⟨HB46, HW6⟩ := HP.out
          have HS6 := hid (HS4.out.on HB46)
          have HL6 : Hid (IsW (w5.setCell ⟨gg, m, none⟩ (.string (t ++ ⟨#[32, 32]⟩))) (.slice (some ⟨g, o, none⟩) lns.length lcap) lns) := ⟨_, _, rfl, HR4.out.on HB46⟩
          obtain ⟨w6, hw6⟩ : ∃ w6, w6 = w5.setCell ⟨gg, m, none⟩ (.string (t ++ ⟨#[32, 32]⟩)) := ⟨_, rfl⟩
          rw [← hw6] at HB46 HW6 HS6 HL6
          rw [← hw6]
          clear hw6 HP hc5 hf5 d0 d1 j0 j1 k0 k1
          obtain ⟨d0, d1⟩ := HSC.out _ HS6.out
          have hl6 := HS6.out.lt
          have hz1' : ∀ x ∈ lns, x.length ≤ 5000 := fun x hx => by have := HFew.out.ls x hx; omega
          have HZ1 := hid hz1'
          clear hz1'
          obtain ⟨rs, er, hpr⟩ : ∃ rs er, parseR name fs lns = (rs, er) := ⟨_, _, rfl⟩
          have hpr2 := (parse_words (name := name) (fs := fs) HST.out).trans hpr
          have hrl := parse_len name fs lns
          rw [hpr] at hrl
          simp only at hrl
          have HPR := hid hpr
          have HPR2 := hid hpr2
          clear hpr hpr2
          go_wp2_with fail
          refine (CPa.out _ HS6.out lns (some ⟨g, o, none⟩) lns.length lcap rfl HL6.out (by omega) HZ1.out rs er HPR.out).mono ?_
          rintro e w7 ⟨va, rfl, hA7, hb7⟩
          have HS7 := hid (HS6.out.on hb7)
          have HW7 := hid (HW6.on hb7)
          clear d0 d1 HS6 HW6 HL6 hl6
          obtain ⟨d0, d1⟩ := HSC.out _ HS7.out
          have hl7 := HS7.out.lt
          clear hb7
          go_wp2_with fail
          refine (CPa.out _ HS7.out (lns.set m t2.data.toList) (some ⟨gg, 0, none⟩) lns.length cap2 (by rw [List.length_set]) (by have := HW7.out; rwa [List.length_set] at this) (by rw [List.length_set]; omega) HZ2.out rs er HPR2.out).mono ?_
          rintro e w8 ⟨vb, rfl, hA8, hb8⟩
          have HA8 := hid (hA7.out.on hb8)
          have HS8 := hid (HS7.out.on hb8)
          clear hb8 HS7 HW7 hl7 d0 d1 hA7
          go_wp2_with fail
          refine (rsame_any va vb rs rs _ HA8.out hA8.out (by omega) (by omega)).mono ?_
          rintro e w9 ⟨rfl, hb9⟩
          rw [decide_eq_true (rfl : rs = rs)]
          go_wp2
          go_ret
          exact ⟨rfl, bt HS8.out.bel hb9⟩

end Fm
end Go.Proofs.YtcaiejbnhjiflaaGreatDoor
