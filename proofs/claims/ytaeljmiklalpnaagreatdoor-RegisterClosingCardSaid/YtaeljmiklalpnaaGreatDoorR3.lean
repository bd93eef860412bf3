/-
  Contract of the document's common.
-/
import Derived.Test.YtaeljmiklalpnaaGreatDoorBs
namespace Go.Proofs.YtaeljmiklalpnaaGreatDoor
open Go.RowKit Go.ChangeMaps Gn
namespace Rg

set_option maxRecDepth 100000 in
set_option maxHeartbeats 8000000 in
theorem rcommon_any (a b : St) (al bl : Value) (w : World) (hal : IsW w al a.al) (hbl : IsW w bl b.al) (ha : SmS a) (hb : SmS b) :
    Calls Tryz.prog 77 #[stA a al, stA b bl] w fun e w' => e = .returned (.bool (common a b)) ∧ Below w.heap.size w w' := by
  obtain ⟨aA, ac, rfl, hR⟩ := hal
  obtain ⟨r, hr⟩ : ∃ r, r = common a b := ⟨_, rfl⟩
  rw [← hr]
  have HR := hid hr
  obtain ⟨w1, hw1⟩ : ∃ w1, w1 = (w.alloc (.cells #[.string (sB a.code), .string (sB a.town), .string (sB a.name), .slice aA a.al.length ac, .int .i64 a.low, .int .i64 a.high, .int .i64 a.shift, .bool a.isOpen] 44)).alloc (.cells #[.string (sB b.code), .string (sB b.town), .string (sB b.name), bl, .int .i64 b.low, .int .i64 b.high, .int .i64 b.shift, .bool b.isOpen] 44) := ⟨_, rfl⟩
  have hb1 : Below w.heap.size w w1 := by rw [hw1]; exact (b0 _ _).alloc (by simp) _
  have HRA : Hid (w1.heap[w.heap.size]? = some (.cells #[.string (sB a.code), .string (sB a.town), .string (sB a.name), .slice aA a.al.length ac, .int .i64 a.low, .int .i64 a.high, .int .i64 a.shift, .bool a.isOpen] 44 (0, 0))) := by
    show _ = _
    rw [hw1, hpk, if_neg (by simp), hpk, if_pos rfl]
  have HRB : Hid (w1.heap[w.heap.size + 1]? = some (.cells #[.string (sB b.code), .string (sB b.town), .string (sB b.name), bl, .int .i64 b.low, .int .i64 b.high, .int .i64 b.shift, .bool b.isOpen] 44 (0, 0))) := by
    show _ = _
    rw [hw1, hpk, if_pos (by simp)]
  have HCA : Hid (∀ u, Below w1.heap.size w1 u → u.cell? ⟨w.heap.size, 2, none⟩ = some (.string (sB a.name)) ∧ u.cell? ⟨w.heap.size, 3, none⟩ = some (.slice aA a.al.length ac)) := fun u hu => by
    have h := (hu.block _ (heap_lt HRA.out)).trans HRA.out
    exact ⟨by rw [cell_at h]; rfl, by rw [cell_at h]; rfl⟩
  have HCB : Hid (∀ u, Below w1.heap.size w1 u → u.cell? ⟨w.heap.size + 1, 0, none⟩ = some (.string (sB b.code)) ∧ u.cell? ⟨w.heap.size + 1, 1, none⟩ = some (.string (sB b.town)) ∧ u.cell? ⟨w.heap.size + 1, 2, none⟩ = some (.string (sB b.name)) ∧ u.cell? ⟨w.heap.size + 1, 3, none⟩ = some (bl) ∧ u.cell? ⟨w.heap.size + 1, 4, none⟩ = some (.int .i64 b.low) ∧ u.cell? ⟨w.heap.size + 1, 5, none⟩ = some (.int .i64 b.high) ∧ u.cell? ⟨w.heap.size + 1, 6, none⟩ = some (.int .i64 b.shift) ∧ u.cell? ⟨w.heap.size + 1, 7, none⟩ = some (.bool b.isOpen)) := fun u hu => by
    have h := (hu.block _ (heap_lt HRB.out)).trans HRB.out
    refine ⟨?_, ?_, ?_, ?_, ?_, ?_, ?_, ?_⟩ <;> (rw [cell_at h]; rfl)
  have HRD := hid (SlR.on hR hb1)
  have HB1 := hid hb1
  have HAL := hid ha.al
  have hfew := ha.few
  have CN := hid (fun (y : W) (hy : y.length ≤ 1000) u (hu : Below w1.heap.size w1 u) => rnamed_any b bl y u (hbl.on (bt hb1 hu)) hb hy)
  have CN0 := hid (CN.out a.name ha.name)
  obtain ⟨c2, c3⟩ := HCA.out _ (Below.refl _ _)
  obtain ⟨q0, q1, q2, q3, q4, q5, q6, q7⟩ := HCB.out _ (Below.refl _ _)
  obtain ⟨qn, hqn⟩ : ∃ q, q = named b a.name := ⟨_, rfl⟩
  rw [← hqn] at CN0
  have HQN := hid hqn
  clear hr hb1 hR ha hb hqn hbl
  unfold stA at CN0 CN ⊢
  go_enter Tryz.func77, Tryz.ntmps77
  go_wp2_with fail
  rw [← hw1]
  clear hw1
  refine (CN0.out _ (Below.refl _ _)).mono ?_
  rintro e w2 ⟨rfl, hb2⟩
  cases qn
  · have HB2 := hid hb2
    clear hb2 c2 c3 q0 q1 q2 q3 q4 q5 q6 q7
    obtain ⟨c2, c3⟩ := HCA.out _ HB2.out
    go_wp2
    go_loopw [5] (fun i wr => ∃ k : Nat, k ≤ a.al.length ∧ i = .int .i64 k ∧ Hid (∀ y ∈ a.al.take k, named b y = false) ∧ Hid (Below w1.heap.size w1 wr)) (fun i _ => a.al.length - (intOf i).toNat)
    case atStart => exact ⟨0, Nat.zero_le _, rfl, by intro y hy; simp at hy, HB2⟩
    case round =>
      obtain ⟨k, hk, rfl, hN, hB⟩ := hrel
      clear c2 c3
      obtain ⟨c2, c3⟩ := HCA.out _ hB.out
      by_cases hlt : k < a.al.length
      · obtain ⟨y, hy⟩ : ∃ y, a.al[k]? = some y := ⟨_, List.getElem?_eq_getElem hlt⟩
        obtain ⟨ag, ao, rfl, hag, ca⟩ := (SlR.on HRD.out hB.out).at (k := k) (u := sV y) (by rw [List.getElem?_map, hy]; rfl)
        unfold sV at ca
        have CY := hid (fun u (hu : Below wr.heap.size wr u) => CN.out y (HAL.out y (List.mem_of_getElem? hy)) u (bt hB.out hu))
        have hk0 : 0 ≤ (k : Int) := by omega
        have hk1 : (k : Int) < (a.al.length : Int) := by omega
        have HY := hid hy
        obtain ⟨ys, hys⟩ : ∃ t, t = sB y := ⟨_, rfl⟩
        rw [← hys] at ca CY
        have SK : Hid (∀ u, Below wr.heap.size wr u → u.cell? ⟨w.heap.size + 1, 0, none⟩ = some (.string (sB b.code)) ∧ u.cell? ⟨w.heap.size + 1, 1, none⟩ = some (.string (sB b.town)) ∧ u.cell? ⟨w.heap.size + 1, 2, none⟩ = some (.string (sB b.name)) ∧ u.cell? ⟨w.heap.size + 1, 3, none⟩ = some (bl) ∧ u.cell? ⟨w.heap.size + 1, 4, none⟩ = some (.int .i64 b.low) ∧ u.cell? ⟨w.heap.size + 1, 5, none⟩ = some (.int .i64 b.high) ∧ u.cell? ⟨w.heap.size + 1, 6, none⟩ = some (.int .i64 b.shift) ∧ u.cell? ⟨w.heap.size + 1, 7, none⟩ = some (.bool b.isOpen) ∧ u.cell? ⟨w.heap.size, 3, none⟩ = some (.slice (some ⟨ag, ao, none⟩) a.al.length ac) ∧ u.cell? ⟨ag, ao + k, none⟩ = some (.string ys)) := fun u hu => by
          obtain ⟨q0, q1, q2, q3, q4, q5, q6, q7⟩ := HCB.out _ (bt hB.out hu)
          exact ⟨q0, q1, q2, q3, q4, q5, q6, q7, (HCA.out _ (bt hB.out hu)).2, (hu.cell (p := (⟨ag, ao + k, none⟩ : Addr)) hag).trans ca⟩
        obtain ⟨qy, hqy⟩ : ∃ q, q = named b y := ⟨_, rfl⟩
        rw [← hqy] at CY
        have HQY := hid hqy
        clear hy hys hqy
        cases qy
        · have HN2 : Hid (∀ y ∈ a.al.take (k + 1), named b y = false) := fun v hv => by
            rw [List.take_add_one, HY.out] at hv
            rcases List.mem_append.1 hv with h | h
            · exact hN.out v h
            · simp at h; rw [h]; exact HQY.out.symm
          go_wp2_with fail
          refine wp_region_held_drew (S := fun w' => w'.cell? ⟨w.heap.size + 1, 0, none⟩ = some (.string (sB b.code)) ∧ w'.cell? ⟨w.heap.size + 1, 1, none⟩ = some (.string (sB b.town)) ∧ w'.cell? ⟨w.heap.size + 1, 2, none⟩ = some (.string (sB b.name)) ∧ w'.cell? ⟨w.heap.size + 1, 3, none⟩ = some (bl) ∧ w'.cell? ⟨w.heap.size + 1, 4, none⟩ = some (.int .i64 b.low) ∧ w'.cell? ⟨w.heap.size + 1, 5, none⟩ = some (.int .i64 b.high) ∧ w'.cell? ⟨w.heap.size + 1, 6, none⟩ = some (.int .i64 b.shift) ∧ w'.cell? ⟨w.heap.size + 1, 7, none⟩ = some (.bool b.isOpen) ∧ w'.cell? ⟨w.heap.size, 3, none⟩ = some (.slice (some ⟨ag, ao, none⟩) a.al.length ac) ∧ w'.cell? ⟨ag, ao + k, none⟩ = some (.string ys)) (by kernel_rfl) (SK.out _ (Below.refl _ _).drew) (fun hHeld => ?_)
          obtain ⟨wd, hwd⟩ : ∃ u, u = wr.drew := ⟨_, rfl⟩
          have bd : Below wr.heap.size wr wd := by rw [hwd]; exact (Below.refl _ _).drew
          rw [← hwd] at hHeld ⊢
          clear hwd
          refine wpAnyH_take (i := 0) (oi := ⟨some 17, _, _, _, _, _⟩) (v := .agg #[.string (sB b.code), .string (sB b.town), .string (sB b.name), bl, .int .i64 b.low, .int .i64 b.high, .int .i64 b.shift, .bool b.isOpen]) rfl (by kernel_rfl) (by kernel_rfl) (by kernel_rfl) (fun _ _ _ h => h) (Or.inl ⟨by rfl, ?_⟩) hHeld ?_
          · intro u hu
            go_simp
          try simp only [Act.put, List.setIfInBounds_toArray, List.set_cons_zero, List.set_cons_succ]
          refine wpAnyH_take (i := 1) (oi := ⟨some 18, _, _, _, _, _⟩) (v := .pointer (some ⟨w.heap.size, 3, none⟩)) rfl (by kernel_rfl) (by kernel_rfl) (by kernel_rfl) (fun _ _ _ h => h) (Or.inl ⟨by rfl, ?_⟩) hHeld ?_
          · intro u hu
            go_simp
          try simp only [Act.put, List.setIfInBounds_toArray, List.set_cons_zero, List.set_cons_succ]
          refine wpAnyH_take (i := 2) (oi := ⟨some 19, _, _, _, _, _⟩) (v := .slice (some ⟨ag, ao, none⟩) a.al.length ac) rfl (by kernel_rfl) (by kernel_rfl) (by kernel_rfl) (fun _ _ _ h => h) (Or.inl ⟨by rfl, ?_⟩) hHeld ?_
          · intro u hu
            go_simp
          try simp only [Act.put, List.setIfInBounds_toArray, List.set_cons_zero, List.set_cons_succ]
          refine wpAnyH_take (i := 3) (oi := ⟨some 20, _, _, _, _, _⟩) (v := .int .i64 (k : Int)) rfl (by kernel_rfl) (by kernel_rfl) (by kernel_rfl) (fun _ _ _ h => h) (Or.inl ⟨by rfl, ?_⟩) hHeld ?_
          · intro u hu
            go_simp
          try simp only [Act.put, List.setIfInBounds_toArray, List.set_cons_zero, List.set_cons_succ]
          refine wpAnyH_take (i := 4) (oi := ⟨some 21, _, _, _, _, _⟩) (v := .pointer (some ⟨ag, ao + k, none⟩)) rfl (by kernel_rfl) (by kernel_rfl) (by kernel_rfl) (fun _ _ _ h => h) (Or.inl ⟨by rfl, ?_⟩) hHeld ?_
          · intro u hu
            go_simp
          try simp only [Act.put, List.setIfInBounds_toArray, List.set_cons_zero, List.set_cons_succ]
          refine wpAnyH_take (i := 5) (oi := ⟨some 22, _, _, _, _, _⟩) (v := .string ys) rfl (by kernel_rfl) (by kernel_rfl) (by kernel_rfl) (fun _ _ _ h => h) (Or.inl ⟨by rfl, ?_⟩) hHeld ?_
          · intro u hu
            go_simp
          try simp only [Act.put, List.setIfInBounds_toArray, List.set_cons_zero, List.set_cons_succ]
          refine wpAnyH_ready (rs := [6]) (by kernel_rfl) (by simp) ?_
          refine AllReadyH.cons (o := ⟨some 23, _, _, _, _, _⟩) rfl (fun K hK => ?_) AllReadyH.nil
          go_simp
          go_at_call 17
          refine (CY.out _ bd).mono ?_
          rintro e w3 ⟨rfl, hb3⟩
          have b3 : Below wr.heap.size wr w3 := bt bd hb3
          clear hb3
          refine hK.out _ _ (SK.out _ b3) (fun hHeld => ?_)
          clear hK K
          try simp only [Act.put, List.setIfInBounds_toArray, List.set_cons_zero, List.set_cons_succ]
          refine wpAnyH_done (by kernel_rfl) ?_ _
          clear hHeld
          clear hHeld
          have HB3 := hid (bt hB.out b3)
          go_wp2
          go_roundw
          case rel => exact ⟨k + 1, by omega, by go_num, HN2, HB3⟩
          case measure => simp [intOf]; omega
        · have HV : Hid (r = true) := by
            show _ = _
            rw [HR.out]; unfold common
            rw [List.any_eq_true]; exact ⟨y, List.mem_cons_of_mem _ (List.mem_of_getElem? HY.out), HQY.out.symm⟩
          go_wp2_with fail
          refine wp_region_held_drew (S := fun w' => w'.cell? ⟨w.heap.size + 1, 0, none⟩ = some (.string (sB b.code)) ∧ w'.cell? ⟨w.heap.size + 1, 1, none⟩ = some (.string (sB b.town)) ∧ w'.cell? ⟨w.heap.size + 1, 2, none⟩ = some (.string (sB b.name)) ∧ w'.cell? ⟨w.heap.size + 1, 3, none⟩ = some (bl) ∧ w'.cell? ⟨w.heap.size + 1, 4, none⟩ = some (.int .i64 b.low) ∧ w'.cell? ⟨w.heap.size + 1, 5, none⟩ = some (.int .i64 b.high) ∧ w'.cell? ⟨w.heap.size + 1, 6, none⟩ = some (.int .i64 b.shift) ∧ w'.cell? ⟨w.heap.size + 1, 7, none⟩ = some (.bool b.isOpen) ∧ w'.cell? ⟨w.heap.size, 3, none⟩ = some (.slice (some ⟨ag, ao, none⟩) a.al.length ac) ∧ w'.cell? ⟨ag, ao + k, none⟩ = some (.string ys)) (by kernel_rfl) (SK.out _ (Below.refl _ _).drew) (fun hHeld => ?_)
          obtain ⟨wd, hwd⟩ : ∃ u, u = wr.drew := ⟨_, rfl⟩
          have bd : Below wr.heap.size wr wd := by rw [hwd]; exact (Below.refl _ _).drew
          rw [← hwd] at hHeld ⊢
          clear hwd
          refine wpAnyH_take (i := 0) (oi := ⟨some 17, _, _, _, _, _⟩) (v := .agg #[.string (sB b.code), .string (sB b.town), .string (sB b.name), bl, .int .i64 b.low, .int .i64 b.high, .int .i64 b.shift, .bool b.isOpen]) rfl (by kernel_rfl) (by kernel_rfl) (by kernel_rfl) (fun _ _ _ h => h) (Or.inl ⟨by rfl, ?_⟩) hHeld ?_
          · intro u hu
            go_simp
          try simp only [Act.put, List.setIfInBounds_toArray, List.set_cons_zero, List.set_cons_succ]
          refine wpAnyH_take (i := 1) (oi := ⟨some 18, _, _, _, _, _⟩) (v := .pointer (some ⟨w.heap.size, 3, none⟩)) rfl (by kernel_rfl) (by kernel_rfl) (by kernel_rfl) (fun _ _ _ h => h) (Or.inl ⟨by rfl, ?_⟩) hHeld ?_
          · intro u hu
            go_simp
          try simp only [Act.put, List.setIfInBounds_toArray, List.set_cons_zero, List.set_cons_succ]
          refine wpAnyH_take (i := 2) (oi := ⟨some 19, _, _, _, _, _⟩) (v := .slice (some ⟨ag, ao, none⟩) a.al.length ac) rfl (by kernel_rfl) (by kernel_rfl) (by kernel_rfl) (fun _ _ _ h => h) (Or.inl ⟨by rfl, ?_⟩) hHeld ?_
          · intro u hu
            go_simp
          try simp only [Act.put, List.setIfInBounds_toArray, List.set_cons_zero, List.set_cons_succ]
          refine wpAnyH_take (i := 3) (oi := ⟨some 20, _, _, _, _, _⟩) (v := .int .i64 (k : Int)) rfl (by kernel_rfl) (by kernel_rfl) (by kernel_rfl) (fun _ _ _ h => h) (Or.inl ⟨by rfl, ?_⟩) hHeld ?_
          · intro u hu
            go_simp
          try simp only [Act.put, List.setIfInBounds_toArray, List.set_cons_zero, List.set_cons_succ]
          refine wpAnyH_take (i := 4) (oi := ⟨some 21, _, _, _, _, _⟩) (v := .pointer (some ⟨ag, ao + k, none⟩)) rfl (by kernel_rfl) (by kernel_rfl) (by kernel_rfl) (fun _ _ _ h => h) (Or.inl ⟨by rfl, ?_⟩) hHeld ?_
          · intro u hu
            go_simp
          try simp only [Act.put, List.setIfInBounds_toArray, List.set_cons_zero, List.set_cons_succ]
          refine wpAnyH_take (i := 5) (oi := ⟨some 22, _, _, _, _, _⟩) (v := .string ys) rfl (by kernel_rfl) (by kernel_rfl) (by kernel_rfl) (fun _ _ _ h => h) (Or.inl ⟨by rfl, ?_⟩) hHeld ?_
          · intro u hu
            go_simp
          try simp only [Act.put, List.setIfInBounds_toArray, List.set_cons_zero, List.set_cons_succ]
          refine wpAnyH_ready (rs := [6]) (by kernel_rfl) (by simp) ?_
          refine AllReadyH.cons (o := ⟨some 23, _, _, _, _, _⟩) rfl (fun K hK => ?_) AllReadyH.nil
          go_simp
          go_at_call 17
          refine (CY.out _ bd).mono ?_
          rintro e w3 ⟨rfl, hb3⟩
          have b3 : Below wr.heap.size wr w3 := bt bd hb3
          clear hb3
          refine hK.out _ _ (SK.out _ b3) (fun hHeld => ?_)
          clear hK K
          try simp only [Act.put, List.setIfInBounds_toArray, List.set_cons_zero, List.set_cons_succ]
          refine wpAnyH_done (by kernel_rfl) ?_ _
          clear hHeld
          clear hHeld
          have HB3 := hid (bt hB.out b3)
          go_wp2
          go_ret
          exact ⟨by rw [HV.out]; try rfl, bt HB1.out HB3.out⟩
      · have HV : Hid (r = false) := by
          show _ = _
          rw [HR.out]; unfold common
          rw [List.any_eq_false]
          intro y hy
          rcases List.mem_cons.1 hy with rfl | hy
          · rw [← HQN.out]; simp
          · rw [hN.out y (by rw [List.take_of_length_le (by omega)]; exact hy)]; simp
        go_wp2
        go_ret
        exact ⟨by rw [HV.out]; try rfl, bt HB1.out hB.out⟩
  · have HV : Hid (r = true) := by
      show _ = _
      rw [HR.out]; unfold common
      rw [List.any_eq_true]; exact ⟨a.name, List.mem_cons_self .., HQN.out.symm⟩
    have HB2 := hid hb2
    clear hb2
    go_wp2
    go_ret
    exact ⟨by rw [HV.out]; try rfl, bt HB1.out HB2.out⟩


end Rg
end Go.Proofs.YtaeljmiklalpnaaGreatDoor
