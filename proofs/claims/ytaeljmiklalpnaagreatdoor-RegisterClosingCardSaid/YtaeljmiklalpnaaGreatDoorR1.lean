/-
  Contracts of the document's small, Equal, house, IsCode.
-/
import Derived.Test.YtaeljmiklalpnaaGreatDoorGn
import Derived.Test.YtaeljmiklalpnaaGreatDoorQa
import Derived.Test.YtaeljmiklalpnaaGreatDoorProg
import Derived.Deep.RegionHeld3
namespace Go.Proofs.YtaeljmiklalpnaaGreatDoor
open Go.RowKit Go.ChangeMaps Gn
namespace Rg

theorem lowB_nat (b : UInt8) : (lowB b).toNat = if 65 ≤ b.toNat ∧ b.toNat ≤ 90 then b.toNat + 32 else b.toNat := by
  unfold lowB
  split
  · rename_i h
    rw [UInt8.toNat_add]
    show (b.toNat + 32) % 256 = _
    omega
  · rfl
theorem lowB_eq {a b : UInt8} : lowB a = lowB b ↔ ((lowB a).toNat : Int) = ((lowB b).toNat : Int) :=
  ⟨fun h => by rw [h], fun h => UInt8.toNat_inj.1 (by omega)⟩
set_option maxRecDepth 100000 in
theorem rsmall_any (b : UInt8) (w : World) : Calls Tryz.prog 29 #[.int .u8 (b.toNat : Int)] w fun e w' => e = .returned (.int .u8 ((lowB b).toNat : Int)) ∧ w = w' := by
  have h256 : (b.toNat : Int) < 256 := by have := b.toNat_lt; omega
  have h0 : 0 ≤ (b.toNat : Int) := by omega
  by_cases h : 65 ≤ b.toNat ∧ b.toNat ≤ 90
  · have e : ((lowB b).toNat : Int) = (b.toNat : Int) + 32 := by rw [lowB_nat, if_pos h]; omega
    rw [e]
    have d1 : decide ((65 : Int) ≤ (b.toNat : Int)) = true := decide_eq_true (by omega)
    have d2 : decide ((b.toNat : Int) ≤ 90) = true := decide_eq_true (by omega)
    have h90 : (b.toNat : Int) ≤ 90 := by omega
    clear h e h256
    go_enter Tryz.func29, Tryz.ntmps29
    go_wp2
    go_ret
    exact ⟨rfl, rfl⟩
  · have e : ((lowB b).toNat : Int) = (b.toNat : Int) := by rw [lowB_nat, if_neg h]
    rw [e]
    clear e
    by_cases h1 : 65 ≤ b.toNat
    · have d1 : decide ((65 : Int) ≤ (b.toNat : Int)) = true := decide_eq_true (by omega)
      have d2 : decide ((b.toNat : Int) ≤ 90) = false := decide_eq_false (by omega)
      clear h h1
      go_enter Tryz.func29, Tryz.ntmps29
      go_wp2
      go_ret
      exact ⟨rfl, rfl⟩
    · have d1 : decide ((65 : Int) ≤ (b.toNat : Int)) = false := decide_eq_false (by omega)
      clear h h1
      go_enter Tryz.func29, Tryz.ntmps29
      go_wp2
      go_ret
      exact ⟨rfl, rfl⟩
theorem fold_take {a b : W} {k : Nat} {x y : UInt8} (hx : a[k]? = some x) (hy : b[k]? = some y) (h : foldW (a.take k) = foldW (b.take k)) (hb : lowB x = lowB y) : foldW (a.take (k + 1)) = foldW (b.take (k + 1)) := by
  unfold foldW at h ⊢
  rw [List.take_add_one, List.take_add_one, hx, hy, List.map_append, List.map_append, h]
  simp [hb]
theorem fold_at {a b : W} {k : Nat} {x y : UInt8} (hx : a[k]? = some x) (hy : b[k]? = some y) (h : foldW a = foldW b) : lowB x = lowB y := by
  have := congrArg (fun l => l[k]?) h
  unfold foldW at this
  simp only [List.getElem?_map, hx, hy, Option.map_some] at this
  exact Option.some.inj this
theorem eqW_no {a b : W} (h : ¬ foldW a = foldW b) : eqW a b = false := decide_eq_false h
theorem fold_len {a b : W} (h : foldW a = foldW b) : a.length = b.length := by have := congrArg List.length h; unfold foldW at this; simpa using this
set_option maxRecDepth 100000 in
set_option maxHeartbeats 4000000 in
theorem requal_any (a b : W) (w : World) (ha : a.length ≤ 100000) (hb : b.length ≤ 100000) : Calls Tryz.prog 18 #[.string (sB a), .string (sB b)] w fun e w' => e = .returned (.bool (eqW a b)) ∧ Below w.heap.size w w' := by
  obtain ⟨r, hr⟩ : ∃ r, r = eqW a b := ⟨_, rfl⟩
  rw [← hr]
  have HR := hid hr
  have za := sB_size a
  have zb := sB_size b
  obtain ⟨s, hs⟩ : ∃ s, s = sB a := ⟨_, rfl⟩
  obtain ⟨t, ht⟩ : ∃ t, t = sB b := ⟨_, rfl⟩
  rw [← hs] at za ⊢
  rw [← ht] at zb ⊢
  have HS : Hid (s.data.toList = a) := by show _ = _; rw [hs]; rfl
  have HT : Hid (t.data.toList = b) := by show _ = _; rw [ht]; rfl
  have HZA := hid za
  have HZB := hid zb
  have z1 : s.size ≤ 100000 := by omega
  have z2 : t.size ≤ 100000 := by omega
  clear hr hs ht za zb ha hb
  by_cases hl : s.size = t.size
  · have e0 : ((s.size : Int) != (t.size : Int)) = false := by rw [hl]; simp
    have hle : s.size ≤ t.size := by omega
    have HL := hid hl
    clear hl
    go_enter Tryz.func18, Tryz.ntmps18
    go_wp2
    clear e0
    go_loopw [5] (fun i wr => ∃ k : Nat, k ≤ s.size ∧ i = .int .i64 k ∧ Hid (foldW (a.take k) = foldW (b.take k)) ∧ Hid (Below w.heap.size w wr)) (fun i _ => s.size - (intOf i).toNat)
    case atStart => exact ⟨0, Nat.zero_le _, rfl, rfl, Below.refl _ _⟩
    case round =>
      obtain ⟨k, hk, rfl, hF, hB⟩ := hrel
      by_cases hlt : k < s.size
      · have hlb : k < t.size := by omega
        have hk0 : 0 ≤ (k : Int) := by omega
        have hk1 : (k : Int) < (s.size : Int) := by omega
        have hk2 : (k : Int) < (t.size : Int) := by omega
        have HX := hid (at_get HS.out hlt)
        have HY := hid (at_get HT.out hlb)
        have CX := hid (fun u => rsmall_any s[k] u)
        have CY := hid (fun u => rsmall_any t[k] u)
        by_cases he : lowB s[k] = lowB t[k]
        · have hq : (((lowB s[k]).toNat : Int) != ((lowB t[k]).toNat : Int)) = false := by rw [he]; simp
          have HN := hid (fold_take HX.out HY.out hF.out he)
          clear he
          go_wp2_with fail
          refine wp_region_held_drew (S := fun w' => True) (by kernel_rfl) trivial (fun hHeld => ?_)
          obtain ⟨wd, hwd⟩ : ∃ u, u = wr.drew := ⟨_, rfl⟩
          have bd : Below wr.heap.size wr wd := by rw [hwd]; exact (Below.refl _ _).drew
          rw [← hwd]
          clear hwd
          refine wpAnyH_take (i := 0) (oi := ⟨some 17, _, _, _, _, _⟩) (v := .string s) rfl (by kernel_rfl) (by kernel_rfl) (by kernel_rfl) (fun _ _ _ h => h) (Or.inl ⟨by rfl, ?_⟩) hHeld ?_
          · intro u hu
            go_simp
          try simp only [Act.put, List.setIfInBounds_toArray, List.set_cons_zero, List.set_cons_succ]
          refine wpAnyH_take (i := 1) (oi := ⟨some 18, _, _, _, _, _⟩) (v := .int .i64 (k : Int)) rfl (by kernel_rfl) (by kernel_rfl) (by kernel_rfl) (fun _ _ _ h => h) (Or.inl ⟨by rfl, ?_⟩) hHeld ?_
          · intro u hu
            go_simp
          try simp only [Act.put, List.setIfInBounds_toArray, List.set_cons_zero, List.set_cons_succ]
          refine wpAnyH_take (i := 2) (oi := ⟨some 19, _, _, _, _, _⟩) (v := .int .u8 ((s[k]).toNat : Int)) rfl (by kernel_rfl) (by kernel_rfl) (by kernel_rfl) (fun _ _ _ h => h) (Or.inl ⟨by rfl, ?_⟩) hHeld ?_
          · intro u hu
            go_simp
          try simp only [Act.put, List.setIfInBounds_toArray, List.set_cons_zero, List.set_cons_succ]
          refine wpAnyH_take (i := 4) (oi := ⟨some 21, _, _, _, _, _⟩) (v := .string t) rfl (by kernel_rfl) (by kernel_rfl) (by kernel_rfl) (fun _ _ _ h => h) (Or.inl ⟨by rfl, ?_⟩) hHeld ?_
          · intro u hu
            go_simp
          try simp only [Act.put, List.setIfInBounds_toArray, List.set_cons_zero, List.set_cons_succ]
          refine wpAnyH_take (i := 5) (oi := ⟨some 22, _, _, _, _, _⟩) (v := .int .i64 (k : Int)) rfl (by kernel_rfl) (by kernel_rfl) (by kernel_rfl) (fun _ _ _ h => h) (Or.inl ⟨by rfl, ?_⟩) hHeld ?_
          · intro u hu
            go_simp
          try simp only [Act.put, List.setIfInBounds_toArray, List.set_cons_zero, List.set_cons_succ]
          refine wpAnyH_take (i := 6) (oi := ⟨some 23, _, _, _, _, _⟩) (v := .int .u8 ((t[k]).toNat : Int)) rfl (by kernel_rfl) (by kernel_rfl) (by kernel_rfl) (fun _ _ _ h => h) (Or.inl ⟨by rfl, ?_⟩) hHeld ?_
          · intro u hu
            go_simp
          try simp only [Act.put, List.setIfInBounds_toArray, List.set_cons_zero, List.set_cons_succ]
          refine wpAnyH_ready (rs := [3]) (by kernel_rfl) (by simp) ?_
          refine AllReadyH.cons (o := ⟨some 20, _, _, _, _, _⟩) rfl (fun K hK => ?_) AllReadyH.nil
          go_simp
          go_at_call 29
          refine (CX.out _).mono ?_
          rintro e y1 ⟨rfl, rfl⟩
          refine hK.out _ _ hHeld (fun hHeld => ?_)
          clear hK K
          try simp only [Act.put, List.setIfInBounds_toArray, List.set_cons_zero, List.set_cons_succ]
          refine wpAnyH_ready (rs := [7]) (by kernel_rfl) (by simp) ?_
          refine AllReadyH.cons (o := ⟨some 24, _, _, _, _, _⟩) rfl (fun K hK => ?_) AllReadyH.nil
          go_simp
          go_at_call 29
          refine (CY.out _).mono ?_
          rintro e y1 ⟨rfl, rfl⟩
          refine hK.out _ _ hHeld (fun hHeld => ?_)
          clear hK K
          try simp only [Act.put, List.setIfInBounds_toArray, List.set_cons_zero, List.set_cons_succ]
          refine wpAnyH_take (i := 8) (oi := ⟨some 25, _, _, _, _, _⟩) (v := .bool false) rfl (by kernel_rfl) (by kernel_rfl) (by kernel_rfl) (fun _ _ _ h => h) (Or.inl ⟨by rfl, ?_⟩) hHeld ?_
          · intro u hu
            go_simp
          try simp only [Act.put, List.setIfInBounds_toArray, List.set_cons_zero, List.set_cons_succ]
          refine wpAnyH_done (by kernel_rfl) ?_ _
          clear hHeld
          go_wp2
          go_roundw
          case rel => exact ⟨k + 1, by omega, by go_num, HN, bt hB.out bd⟩
          case measure => simp [intOf]; omega
        · have hq : (((lowB s[k]).toNat : Int) != ((lowB t[k]).toNat : Int)) = true := by
            rw [bne_iff_ne]; exact fun q => he (lowB_eq.2 q)
          have HV : Hid (r = false) := HR.out.trans (eqW_no fun q => he (fold_at HX.out HY.out q))
          clear he
          go_wp2_with fail
          refine wp_region_held_drew (S := fun w' => True) (by kernel_rfl) trivial (fun hHeld => ?_)
          obtain ⟨wd, hwd⟩ : ∃ u, u = wr.drew := ⟨_, rfl⟩
          have bd : Below wr.heap.size wr wd := by rw [hwd]; exact (Below.refl _ _).drew
          rw [← hwd]
          clear hwd
          refine wpAnyH_take (i := 0) (oi := ⟨some 17, _, _, _, _, _⟩) (v := .string s) rfl (by kernel_rfl) (by kernel_rfl) (by kernel_rfl) (fun _ _ _ h => h) (Or.inl ⟨by rfl, ?_⟩) hHeld ?_
          · intro u hu
            go_simp
          try simp only [Act.put, List.setIfInBounds_toArray, List.set_cons_zero, List.set_cons_succ]
          refine wpAnyH_take (i := 1) (oi := ⟨some 18, _, _, _, _, _⟩) (v := .int .i64 (k : Int)) rfl (by kernel_rfl) (by kernel_rfl) (by kernel_rfl) (fun _ _ _ h => h) (Or.inl ⟨by rfl, ?_⟩) hHeld ?_
          · intro u hu
            go_simp
          try simp only [Act.put, List.setIfInBounds_toArray, List.set_cons_zero, List.set_cons_succ]
          refine wpAnyH_take (i := 2) (oi := ⟨some 19, _, _, _, _, _⟩) (v := .int .u8 ((s[k]).toNat : Int)) rfl (by kernel_rfl) (by kernel_rfl) (by kernel_rfl) (fun _ _ _ h => h) (Or.inl ⟨by rfl, ?_⟩) hHeld ?_
          · intro u hu
            go_simp
          try simp only [Act.put, List.setIfInBounds_toArray, List.set_cons_zero, List.set_cons_succ]
          refine wpAnyH_take (i := 4) (oi := ⟨some 21, _, _, _, _, _⟩) (v := .string t) rfl (by kernel_rfl) (by kernel_rfl) (by kernel_rfl) (fun _ _ _ h => h) (Or.inl ⟨by rfl, ?_⟩) hHeld ?_
          · intro u hu
            go_simp
          try simp only [Act.put, List.setIfInBounds_toArray, List.set_cons_zero, List.set_cons_succ]
          refine wpAnyH_take (i := 5) (oi := ⟨some 22, _, _, _, _, _⟩) (v := .int .i64 (k : Int)) rfl (by kernel_rfl) (by kernel_rfl) (by kernel_rfl) (fun _ _ _ h => h) (Or.inl ⟨by rfl, ?_⟩) hHeld ?_
          · intro u hu
            go_simp
          try simp only [Act.put, List.setIfInBounds_toArray, List.set_cons_zero, List.set_cons_succ]
          refine wpAnyH_take (i := 6) (oi := ⟨some 23, _, _, _, _, _⟩) (v := .int .u8 ((t[k]).toNat : Int)) rfl (by kernel_rfl) (by kernel_rfl) (by kernel_rfl) (fun _ _ _ h => h) (Or.inl ⟨by rfl, ?_⟩) hHeld ?_
          · intro u hu
            go_simp
          try simp only [Act.put, List.setIfInBounds_toArray, List.set_cons_zero, List.set_cons_succ]
          refine wpAnyH_ready (rs := [3]) (by kernel_rfl) (by simp) ?_
          refine AllReadyH.cons (o := ⟨some 20, _, _, _, _, _⟩) rfl (fun K hK => ?_) AllReadyH.nil
          go_simp
          go_at_call 29
          refine (CX.out _).mono ?_
          rintro e y1 ⟨rfl, rfl⟩
          refine hK.out _ _ hHeld (fun hHeld => ?_)
          clear hK K
          try simp only [Act.put, List.setIfInBounds_toArray, List.set_cons_zero, List.set_cons_succ]
          refine wpAnyH_ready (rs := [7]) (by kernel_rfl) (by simp) ?_
          refine AllReadyH.cons (o := ⟨some 24, _, _, _, _, _⟩) rfl (fun K hK => ?_) AllReadyH.nil
          go_simp
          go_at_call 29
          refine (CY.out _).mono ?_
          rintro e y1 ⟨rfl, rfl⟩
          refine hK.out _ _ hHeld (fun hHeld => ?_)
          clear hK K
          try simp only [Act.put, List.setIfInBounds_toArray, List.set_cons_zero, List.set_cons_succ]
          refine wpAnyH_take (i := 8) (oi := ⟨some 25, _, _, _, _, _⟩) (v := .bool true) rfl (by kernel_rfl) (by kernel_rfl) (by kernel_rfl) (fun _ _ _ h => h) (Or.inl ⟨by rfl, ?_⟩) hHeld ?_
          · intro u hu
            go_simp
          try simp only [Act.put, List.setIfInBounds_toArray, List.set_cons_zero, List.set_cons_succ]
          refine wpAnyH_done (by kernel_rfl) ?_ _
          clear hHeld
          go_wp2
          go_ret
          exact ⟨by rw [HV.out]; try rfl, bt hB.out bd⟩
      · have HV : Hid (r = true) := by
          have h1 := hF.out
          rw [List.take_of_length_le (by have := HZA.out; omega), List.take_of_length_le (by have := HZB.out; have := HL.out; omega)] at h1
          exact HR.out.trans (decide_eq_true h1)
        go_wp2
        go_ret
        exact ⟨by rw [HV.out]; try rfl, hB.out⟩
  · have e0 : ((s.size : Int) != (t.size : Int)) = true := by simp; omega
    have HV : Hid (r = false) := HR.out.trans (eqW_no fun q => hl (by have := fold_len q; have := HZA.out; have := HZB.out; omega))
    clear hl
    go_enter Tryz.func18, Tryz.ntmps18
    go_wp2
    go_ret
    exact ⟨by rw [HV.out]; try rfl, Below.refl _ _⟩
set_option maxRecDepth 100000 in
theorem rhouse_any (n : Int) (w : World) : Calls Tryz.prog 63 #[.int .i64 n] w fun e w' => e = .returned (.bool (houseB n)) ∧ w = w' := by
  obtain ⟨r, hr⟩ : ∃ r, r = houseB n := ⟨_, rfl⟩
  rw [← hr]
  have HR := hid hr
  clear hr
  by_cases h1 : 1 ≤ n
  · have d1 : decide ((1 : Int) ≤ n) = true := decide_eq_true h1
    have HV : Hid (r = decide (n ≤ 9999)) := by show _ = _; rw [HR.out]; unfold houseB; rw [d1]; rfl
    clear h1
    go_enter Tryz.func63, Tryz.ntmps63
    go_wp2
    go_ret
    exact ⟨by rw [HV.out]; try rfl, rfl⟩
  · have d1 : decide ((1 : Int) ≤ n) = false := decide_eq_false h1
    have HV : Hid (r = false) := by show _ = _; rw [HR.out]; unfold houseB; rw [d1]; rfl
    clear h1
    go_enter Tryz.func63, Tryz.ntmps63
    go_wp2
    go_ret
    exact ⟨by rw [HV.out]; try rfl, rfl⟩

end Rg
end Go.Proofs.YtaeljmiklalpnaaGreatDoor
