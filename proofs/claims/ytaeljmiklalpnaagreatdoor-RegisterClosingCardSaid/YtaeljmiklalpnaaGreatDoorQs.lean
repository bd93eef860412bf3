/-
  Contracts of the document's Same.
-/
import Derived.Test.YtaeljmiklalpnaaGreatDoorR3
import Derived.Test.YtaeljmiklalpnaaGreatDoorQf
import Derived.Outline
import Derived.Deep.RegionHeld3
namespace Go.Proofs.YtaeljmiklalpnaaGreatDoor
open Go.RowKit Go.ChangeMaps Gn
namespace Rg

set_option maxRecDepth 100000 in
set_option maxHeartbeats 4000000 in
theorem rstrings_eq (ws : List W) (a b : Value) (w : World) (ha : IsW w a ws) (hb : IsW w b ws) (hlen : ws.length ≤ 100000) :
    Calls Tryz.prog 40 #[a, b] w fun e w' => e = .returned (.bool true) ∧ Below w.heap.size w w' := by
  obtain ⟨A, cap, rfl, hA⟩ := ha
  obtain ⟨A2, cap2, rfl, hA2⟩ := hb
  have HA := hid hA
  have HA2 := hid hA2
  obtain ⟨m, hm⟩ : ∃ m, m = ws.length := ⟨_, rfl⟩
  rw [← hm] at hlen ⊢
  have HM := hid hm
  clear hm hA hA2
  go_enter Tryz.func40, Tryz.ntmps40
  go_wp2_with fail
  go_loopw [5] (fun i wr => ∃ k : Nat, k ≤ m ∧ i = .int .i64 k ∧ Hid (Below w.heap.size w wr)) (fun i _ => m - (intOf i).toNat)
  case atStart => exact ⟨0, Nat.zero_le _, rfl, Below.refl _ _⟩
  case round =>
    obtain ⟨k, hk, rfl, hB⟩ := hrel
    by_cases hlt : k < m
    · obtain ⟨x, hx⟩ : ∃ x, ws[k]? = some x := ⟨_, List.getElem?_eq_getElem (by have := HM.out; omega)⟩
      obtain ⟨g1, o1, rfl, -, c1⟩ := (SlR.on HA.out hB.out).at (k := k) (u := sV x) (by rw [List.getElem?_map, hx]; rfl)
      obtain ⟨g2, o2, rfl, -, c2⟩ := (SlR.on HA2.out hB.out).at (k := k) (u := sV x) (by rw [List.getElem?_map, hx]; rfl)
      unfold sV at c1 c2
      obtain ⟨tx, htx⟩ : ∃ t, t = sB x := ⟨_, rfl⟩
      rw [← htx] at c1 c2
      have hk0 : 0 ≤ (k : Int) := by omega
      have hk1 : (k : Int) < (m : Int) := by omega
      have hw0 : Below wr.heap.size wr wr.drew := (Below.refl _ _).drew
      clear hx htx
      go_wp2_with fail
      refine wp_region_held_drew (S := fun w' => w'.cell? ⟨g1, o1 + k, none⟩ = some (.string tx) ∧ w'.cell? ⟨g2, o2 + k, none⟩ = some (.string tx)) (by kernel_rfl) ⟨by simpa using c1, by simpa using c2⟩ (fun hHeld => ?_)
      obtain ⟨wd, hwd⟩ : ∃ u, u = wr.drew := ⟨_, rfl⟩
      rw [← hwd] at hw0 hHeld ⊢
      clear hwd
      refine wpAnyH_take (i := 0) (oi := ⟨some 17, _, _, _, _, _⟩) (v := .slice (some ⟨g1, o1, none⟩) m cap) rfl (by kernel_rfl) (by kernel_rfl) (by kernel_rfl) (fun _ _ _ h => h) (Or.inl ⟨by rfl, ?_⟩) hHeld ?_
      · intro u hu
        go_simp
      try simp only [Act.put, List.setIfInBounds_toArray, List.set_cons_zero, List.set_cons_succ]
      refine wpAnyH_take (i := 1) (oi := ⟨some 18, _, _, _, _, _⟩) (v := .int .i64 (k : Int)) rfl (by kernel_rfl) (by kernel_rfl) (by kernel_rfl) (fun _ _ _ h => h) (Or.inl ⟨by rfl, ?_⟩) hHeld ?_
      · intro u hu
        go_simp
      try simp only [Act.put, List.setIfInBounds_toArray, List.set_cons_zero, List.set_cons_succ]
      refine wpAnyH_take (i := 2) (oi := ⟨some 19, _, _, _, _, _⟩) (v := .pointer (some ⟨g1, o1 + k, none⟩)) rfl (by kernel_rfl) (by kernel_rfl) (by kernel_rfl) (fun _ _ _ h => h) (Or.inl ⟨by rfl, ?_⟩) hHeld ?_
      · intro u hu
        go_simp
      try simp only [Act.put, List.setIfInBounds_toArray, List.set_cons_zero, List.set_cons_succ]
      refine wpAnyH_take (i := 3) (oi := ⟨some 20, _, _, _, _, _⟩) (v := .string tx) rfl (by kernel_rfl) (by kernel_rfl) (by kernel_rfl) (fun _ _ _ h => h) (Or.inl ⟨by rfl, ?_⟩) hHeld ?_
      · intro u hu
        go_simp
      try simp only [Act.put, List.setIfInBounds_toArray, List.set_cons_zero, List.set_cons_succ]
      refine wpAnyH_take (i := 4) (oi := ⟨some 21, _, _, _, _, _⟩) (v := .slice (some ⟨g2, o2, none⟩) m cap2) rfl (by kernel_rfl) (by kernel_rfl) (by kernel_rfl) (fun _ _ _ h => h) (Or.inl ⟨by rfl, ?_⟩) hHeld ?_
      · intro u hu
        go_simp
      try simp only [Act.put, List.setIfInBounds_toArray, List.set_cons_zero, List.set_cons_succ]
      refine wpAnyH_take (i := 5) (oi := ⟨some 22, _, _, _, _, _⟩) (v := .int .i64 (k : Int)) rfl (by kernel_rfl) (by kernel_rfl) (by kernel_rfl) (fun _ _ _ h => h) (Or.inl ⟨by rfl, ?_⟩) hHeld ?_
      · intro u hu
        go_simp
      try simp only [Act.put, List.setIfInBounds_toArray, List.set_cons_zero, List.set_cons_succ]
      refine wpAnyH_take (i := 6) (oi := ⟨some 23, _, _, _, _, _⟩) (v := .pointer (some ⟨g2, o2 + k, none⟩)) rfl (by kernel_rfl) (by kernel_rfl) (by kernel_rfl) (fun _ _ _ h => h) (Or.inl ⟨by rfl, ?_⟩) hHeld ?_
      · intro u hu
        go_simp
      try simp only [Act.put, List.setIfInBounds_toArray, List.set_cons_zero, List.set_cons_succ]
      refine wpAnyH_take (i := 7) (oi := ⟨some 24, _, _, _, _, _⟩) (v := .string tx) rfl (by kernel_rfl) (by kernel_rfl) (by kernel_rfl) (fun _ _ _ h => h) (Or.inl ⟨by rfl, ?_⟩) hHeld ?_
      · intro u hu
        go_simp
      try simp only [Act.put, List.setIfInBounds_toArray, List.set_cons_zero, List.set_cons_succ]
      refine wpAnyH_take (i := 8) (oi := ⟨some 25, _, _, _, _, _⟩) (v := .bool false) rfl (by kernel_rfl) (by kernel_rfl) (by kernel_rfl) (fun _ _ _ h => h) (Or.inl ⟨by rfl, ?_⟩) hHeld ?_
      · intro u hu
        go_simp
      try simp only [Act.put, List.setIfInBounds_toArray, List.set_cons_zero, List.set_cons_succ]
      refine wpAnyH_done (by kernel_rfl) ?_ _
      clear hHeld
      clear c1 c2
      go_wp2_with fail
      go_roundw
      case rel => exact ⟨k + 1, by omega, by go_num, bt hB.out hw0⟩
      case measure => simp [intOf]; omega
    · go_wp2
      go_ret
      exact ⟨rfl, hB.out⟩

set_option maxRecDepth 100000 in
set_option maxHeartbeats 4000000 in
theorem rsamest_eq (s : St) (a b : Value) (w : World) (ha : IsW w a s.al) (hb : IsW w b s.al) (hlen : s.al.length ≤ 100000) :
    Calls Tryz.prog 25 #[stA s a, stA s b] w fun e w' => e = .returned (.bool true) ∧ Below w.heap.size w w' := by
  have CS := hid (fun u hu1 hu2 => rstrings_eq s.al a b u hu1 hu2 hlen)
  obtain ⟨A, cap, rfl, hA⟩ := ha
  obtain ⟨A2, cap2, rfl, hA2⟩ := hb
  have HA : Hid (IsW w (.slice A s.al.length cap) s.al) := ⟨_, _, rfl, hA⟩
  have HA2 : Hid (IsW w (.slice A2 s.al.length cap2) s.al) := ⟨_, _, rfl, hA2⟩
  clear hA hA2
  unfold stA
  go_enter Tryz.func25, Tryz.ntmps25
  go_wp2_with fail
  obtain ⟨w1, hw1⟩ : ∃ u, u = (w.alloc (.cells #[.string (sB s.code), .string (sB s.town), .string (sB s.name), .slice A s.al.length cap, .int .i64 s.low, .int .i64 s.high, .int .i64 s.shift, .bool s.isOpen] 44)).alloc (.cells #[.string (sB s.code), .string (sB s.town), .string (sB s.name), .slice A2 s.al.length cap2, .int .i64 s.low, .int .i64 s.high, .int .i64 s.shift, .bool s.isOpen] 44) := ⟨_, rfl⟩
  have hz1 : (w.alloc (.cells #[.string (sB s.code), .string (sB s.town), .string (sB s.name), .slice A s.al.length cap, .int .i64 s.low, .int .i64 s.high, .int .i64 s.shift, .bool s.isOpen] 44)).heap.size = w.heap.size + 1 := by simp [World.alloc, -World.alloc_eq]
  have hbb : Below w.heap.size w w1 := by rw [hw1]; exact (b0 w _).alloc (b0 w _).size _
  have f1 : w1.heap[w.heap.size]? = some (.cells #[.string (sB s.code), .string (sB s.town), .string (sB s.name), .slice A s.al.length cap, .int .i64 s.low, .int .i64 s.high, .int .i64 s.shift, .bool s.isOpen] 44 (0, 0)) := by rw [hw1, hpk, if_neg (by rw [hz1]; omega)]; exact heap_new _ _
  have f2 : w1.heap[w.heap.size + 1]? = some (.cells #[.string (sB s.code), .string (sB s.town), .string (sB s.name), .slice A2 s.al.length cap2, .int .i64 s.low, .int .i64 s.high, .int .i64 s.shift, .bool s.isOpen] 44 (0, 0)) := by rw [hw1]; exact heap_new' _ _ _ hz1.symm
  rw [← hw1]
  clear hw1 hz1
  refine (CS.out _ (HA.out.on hbb) (HA2.out.on hbb)).mono ?_
  rintro e w2 ⟨rfl, hb2⟩
  obtain ⟨c0, c1, c2, c3, c4, c5, c6, c7⟩ := blk_cells ((hb2.block _ (heap_lt f1)).trans f1)
  obtain ⟨d0, d1, d2, d3, d4, d5, d6, d7⟩ := blk_cells ((hb2.block _ (heap_lt f2)).trans f2)
  have HB := hid (bt hbb hb2)
  clear hb2 hbb f1 f2
  go_wp2
  go_ret
  exact ⟨by first | rfl | simp, HB.out⟩

end Rg
end Go.Proofs.YtaeljmiklalpnaaGreatDoor

namespace Go.Proofs.YtaeljmiklalpnaaGreatDoor
open Go.RowKit Go.ChangeMaps Gn
namespace Rg

set_option maxRecDepth 100000 in
set_option maxHeartbeats 8000000 in
theorem rsame_eq (l : List St) (vs1 vs2 : List Value) (a b : Value) (w : World) (ha : IsSts w a l vs1) (hb : IsSts w b l vs2) (hlen : l.length ≤ 100000) (hal : ∀ s ∈ l, s.al.length ≤ 100000) :
    Calls Tryz.prog 14 #[a, b] w fun e w' => e = .returned (.bool true) ∧ Below w.heap.size w w' := by
  obtain ⟨A, cap, rfl, hL1⟩ := ha.parts
  obtain ⟨A2, cap2, rfl, hL2⟩ := hb.parts
  have HL1 := hid hL1
  have HL2 := hid hL2
  have HAL := hid hal
  obtain ⟨m, hm⟩ : ∃ m, m = l.length := ⟨_, rfl⟩
  rw [← hm] at hlen HL1 HL2 ⊢
  have HM := hid hm
  clear hm hL1 hL2 hal ha hb
  go_enter Tryz.func14, Tryz.ntmps14
  go_wp2_with fail
  go_loopw [5] (fun i wr => ∃ k : Nat, k ≤ m ∧ i = .int .i64 k ∧ Hid (Below w.heap.size w wr)) (fun i _ => m - (intOf i).toNat)
  case atStart => exact ⟨0, Nat.zero_le _, rfl, Below.refl _ _⟩
  case round =>
    obtain ⟨k, hk, rfl, hB⟩ := hrel
    by_cases hlt : k < m
    · obtain ⟨s, hs⟩ : ∃ s, l[k]? = some s := ⟨_, List.getElem?_eq_getElem (by have := HM.out; omega)⟩
      have h1 := HL1.out.on hB.out
      have h2 := HL2.out.on hB.out
      rw [HM.out] at h1 h2
      obtain ⟨g1, o1, u1, hgo, hg1, hu1, hc1, hw1⟩ := h1.at hs
      cases hgo
      obtain ⟨g2, o2, u2, hgo, hg2, hu2, hc2, hw2⟩ := h2.at hs
      cases hgo
      have CT0 := fun u hu => rsamest_eq s u1 u2 u (hw1.on hu) (hw2.on hu) (HAL.out s (List.mem_of_getElem? hs))
      have hs1 : ∀ u, Below wr.heap.size wr u → StAt u g1 (o1 + k * 8) s u1 := fun u hu => hc1.on hu hg1
      have hs2 : ∀ u, Below wr.heap.size wr u → StAt u g2 (o2 + k * 8) s u2 := fun u hu => hc2.on hu hg2
      obtain ⟨tc, htc⟩ : ∃ t, t = sB s.code := ⟨_, rfl⟩
      obtain ⟨tt, htt⟩ : ∃ t, t = sB s.town := ⟨_, rfl⟩
      obtain ⟨tn, htn⟩ : ∃ t, t = sB s.name := ⟨_, rfl⟩
      unfold stA at CT0
      rw [← htc, ← htt, ← htn] at CT0
      have SK : Hid (∀ w', Below wr.heap.size wr w' → w'.cell? ⟨g1, o1 + k * 8, none⟩ = some (.string tc) ∧ w'.cell? ⟨g1, o1 + k * 8 + 1, none⟩ = some (.string tt) ∧ w'.cell? ⟨g1, o1 + k * 8 + 2, none⟩ = some (.string tn) ∧ w'.cell? ⟨g1, o1 + k * 8 + 3, none⟩ = some (u1) ∧ w'.cell? ⟨g1, o1 + k * 8 + 4, none⟩ = some (.int .i64 s.low) ∧ w'.cell? ⟨g1, o1 + k * 8 + 5, none⟩ = some (.int .i64 s.high) ∧ w'.cell? ⟨g1, o1 + k * 8 + 6, none⟩ = some (.int .i64 s.shift) ∧ w'.cell? ⟨g1, o1 + k * 8 + 7, none⟩ = some (.bool s.isOpen) ∧ w'.cell? ⟨g2, o2 + k * 8, none⟩ = some (.string tc) ∧ w'.cell? ⟨g2, o2 + k * 8 + 1, none⟩ = some (.string tt) ∧ w'.cell? ⟨g2, o2 + k * 8 + 2, none⟩ = some (.string tn) ∧ w'.cell? ⟨g2, o2 + k * 8 + 3, none⟩ = some (u2) ∧ w'.cell? ⟨g2, o2 + k * 8 + 4, none⟩ = some (.int .i64 s.low) ∧ w'.cell? ⟨g2, o2 + k * 8 + 5, none⟩ = some (.int .i64 s.high) ∧ w'.cell? ⟨g2, o2 + k * 8 + 6, none⟩ = some (.int .i64 s.shift) ∧ w'.cell? ⟨g2, o2 + k * 8 + 7, none⟩ = some (.bool s.isOpen)) := fun w' hu => by
        obtain ⟨c0, c1, c2, c3, c4, c5, c6, c7⟩ := hs1 w' hu
        obtain ⟨d0, d1, d2, d3, d4, d5, d6, d7⟩ := hs2 w' hu
        rw [← htc] at c0 d0
        rw [← htt] at c1 d1
        rw [← htn] at c2 d2
        exact ⟨c0, c1, c2, c3, c4, c5, c6, c7, d0, d1, d2, d3, d4, d5, d6, d7⟩
      have CT := hid CT0
      have hk0 : 0 ≤ (k : Int) := by omega
      have hk1 : (k : Int) < (m : Int) := by omega
      have hw0 : Below wr.heap.size wr wr.drew := (Below.refl _ _).drew
      obtain ⟨c0, c1, c2, c3, c4, c5, c6, c7, d0, d1, d2, d3, d4, d5, d6, d7⟩ := SK.out _ (Below.refl _ _)
      clear hs h1 h2 hu1 hu2 hc1 hc2 hw1 hw2 CT0 hs1 hs2 htc htt htn
      go_wp2_with fail
      refine wp_region_held_drew (S := fun w' => w'.cell? ⟨g1, o1 + k * 8, none⟩ = some (.string tc) ∧ w'.cell? ⟨g1, o1 + k * 8 + 1, none⟩ = some (.string tt) ∧ w'.cell? ⟨g1, o1 + k * 8 + 2, none⟩ = some (.string tn) ∧ w'.cell? ⟨g1, o1 + k * 8 + 3, none⟩ = some (u1) ∧ w'.cell? ⟨g1, o1 + k * 8 + 4, none⟩ = some (.int .i64 s.low) ∧ w'.cell? ⟨g1, o1 + k * 8 + 5, none⟩ = some (.int .i64 s.high) ∧ w'.cell? ⟨g1, o1 + k * 8 + 6, none⟩ = some (.int .i64 s.shift) ∧ w'.cell? ⟨g1, o1 + k * 8 + 7, none⟩ = some (.bool s.isOpen) ∧ w'.cell? ⟨g2, o2 + k * 8, none⟩ = some (.string tc) ∧ w'.cell? ⟨g2, o2 + k * 8 + 1, none⟩ = some (.string tt) ∧ w'.cell? ⟨g2, o2 + k * 8 + 2, none⟩ = some (.string tn) ∧ w'.cell? ⟨g2, o2 + k * 8 + 3, none⟩ = some (u2) ∧ w'.cell? ⟨g2, o2 + k * 8 + 4, none⟩ = some (.int .i64 s.low) ∧ w'.cell? ⟨g2, o2 + k * 8 + 5, none⟩ = some (.int .i64 s.high) ∧ w'.cell? ⟨g2, o2 + k * 8 + 6, none⟩ = some (.int .i64 s.shift) ∧ w'.cell? ⟨g2, o2 + k * 8 + 7, none⟩ = some (.bool s.isOpen)) (by kernel_rfl) (by refine ⟨?_, ?_, ?_, ?_, ?_, ?_, ?_, ?_, ?_, ?_, ?_, ?_, ?_, ?_, ?_, ?_⟩ <;> first | simpa using c0 | simpa using c1 | simpa using c2 | simpa using c3 | simpa using c4 | simpa using c5 | simpa using c6 | simpa using c7 | simpa using d0 | simpa using d1 | simpa using d2 | simpa using d3 | simpa using d4 | simpa using d5 | simpa using d6 | simpa using d7) (fun hHeld => ?_)
      have HH0 := hid hHeld
      obtain ⟨wd, hwd⟩ : ∃ u, u = wr.drew := ⟨_, rfl⟩
      rw [← hwd] at hw0 hHeld HH0 ⊢
      clear hwd
      refine wpAnyH_take (i := 0) (oi := ⟨some 17, _, _, _, _, _⟩) (v := .slice (some ⟨g1, o1, none⟩) m cap) rfl (by kernel_rfl) (by kernel_rfl) (by kernel_rfl) (fun _ _ _ h => h) (Or.inl ⟨by rfl, ?_⟩) hHeld ?_
      · intro u hu
        go_simp
      try simp only [Act.put, List.setIfInBounds_toArray, List.set_cons_zero, List.set_cons_succ]
      refine wpAnyH_take (i := 1) (oi := ⟨some 18, _, _, _, _, _⟩) (v := .int .i64 (k : Int)) rfl (by kernel_rfl) (by kernel_rfl) (by kernel_rfl) (fun _ _ _ h => h) (Or.inl ⟨by rfl, ?_⟩) hHeld ?_
      · intro u hu
        go_simp
      try simp only [Act.put, List.setIfInBounds_toArray, List.set_cons_zero, List.set_cons_succ]
      refine wpAnyH_take (i := 2) (oi := ⟨some 19, _, _, _, _, _⟩) (v := .pointer (some ⟨g1, o1 + k * 8, none⟩)) rfl (by kernel_rfl) (by kernel_rfl) (by kernel_rfl) (fun _ _ _ h => h) (Or.inl ⟨by rfl, ?_⟩) hHeld ?_
      · intro u hu
        go_simp
      try simp only [Act.put, List.setIfInBounds_toArray, List.set_cons_zero, List.set_cons_succ]
      refine wpAnyH_take (i := 3) (oi := ⟨some 20, _, _, _, _, _⟩) (v := .agg #[.string tc, .string tt, .string tn, u1, .int .i64 s.low, .int .i64 s.high, .int .i64 s.shift, .bool s.isOpen]) rfl (by kernel_rfl) (by kernel_rfl) (by kernel_rfl) (fun _ _ _ h => h) (Or.inl ⟨by rfl, ?_⟩) hHeld ?_
      · intro u hu
        go_simp
      try simp only [Act.put, List.setIfInBounds_toArray, List.set_cons_zero, List.set_cons_succ]
      refine wpAnyH_take (i := 4) (oi := ⟨some 21, _, _, _, _, _⟩) (v := .slice (some ⟨g2, o2, none⟩) m cap2) rfl (by kernel_rfl) (by kernel_rfl) (by kernel_rfl) (fun _ _ _ h => h) (Or.inl ⟨by rfl, ?_⟩) hHeld ?_
      · intro u hu
        go_simp
      try simp only [Act.put, List.setIfInBounds_toArray, List.set_cons_zero, List.set_cons_succ]
      refine wpAnyH_take (i := 5) (oi := ⟨some 22, _, _, _, _, _⟩) (v := .int .i64 (k : Int)) rfl (by kernel_rfl) (by kernel_rfl) (by kernel_rfl) (fun _ _ _ h => h) (Or.inl ⟨by rfl, ?_⟩) hHeld ?_
      · intro u hu
        go_simp
      try simp only [Act.put, List.setIfInBounds_toArray, List.set_cons_zero, List.set_cons_succ]
      refine wpAnyH_take (i := 6) (oi := ⟨some 23, _, _, _, _, _⟩) (v := .pointer (some ⟨g2, o2 + k * 8, none⟩)) rfl (by kernel_rfl) (by kernel_rfl) (by kernel_rfl) (fun _ _ _ h => h) (Or.inl ⟨by rfl, ?_⟩) hHeld ?_
      · intro u hu
        go_simp
      try simp only [Act.put, List.setIfInBounds_toArray, List.set_cons_zero, List.set_cons_succ]
      refine wpAnyH_take (i := 7) (oi := ⟨some 24, _, _, _, _, _⟩) (v := .agg #[.string tc, .string tt, .string tn, u2, .int .i64 s.low, .int .i64 s.high, .int .i64 s.shift, .bool s.isOpen]) rfl (by kernel_rfl) (by kernel_rfl) (by kernel_rfl) (fun _ _ _ h => h) (Or.inl ⟨by rfl, ?_⟩) hHeld ?_
      · intro u hu
        go_simp
      try simp only [Act.put, List.setIfInBounds_toArray, List.set_cons_zero, List.set_cons_succ]
      refine wpAnyH_ready (rs := [8]) (by kernel_rfl) (by simp) ?_
      refine AllReadyH.cons (o := ⟨some 25, _, _, _, _, _⟩) rfl (fun K hK => ?_) AllReadyH.nil
      go_simp
      go_at_call 25
      refine (CT.out _ hw0).mono ?_
      rintro e w2 ⟨rfl, hb2⟩
      have HB2 := hid (bt hw0 hb2)
      refine hK.out _ _ (SK.out _ HB2.out) (fun hHeld => ?_)
      clear hK K hb2
      try simp only [Act.put, List.setIfInBounds_toArray, List.set_cons_zero, List.set_cons_succ]
      refine wpAnyH_take (i := 9) (oi := ⟨some 26, _, _, _, _, _⟩) (v := .bool false) rfl (by kernel_rfl) (by kernel_rfl) (by kernel_rfl) (fun _ _ _ h => h) (Or.inl ⟨by rfl, ?_⟩) hHeld ?_
      · intro u hu
        go_simp
      try simp only [Act.put, List.setIfInBounds_toArray, List.set_cons_zero, List.set_cons_succ]
      refine wpAnyH_done (by kernel_rfl) ?_ _
      clear hHeld
      clear c0 c1 c2 c3 c4 c5 c6 c7 d0 d1 d2 d3 d4 d5 d6 d7
      go_wp2_with fail
      go_roundw
      case rel => exact ⟨k + 1, by omega, by go_num, bt hB.out HB2.out⟩
      case measure => simp [intOf]; omega
    · go_wp2
      go_ret
      exact ⟨rfl, hB.out⟩

end Rg
end Go.Proofs.YtaeljmiklalpnaaGreatDoor
