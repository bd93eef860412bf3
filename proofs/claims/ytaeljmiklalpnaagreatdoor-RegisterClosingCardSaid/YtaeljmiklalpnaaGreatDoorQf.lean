/-
  Names and clashes: fold, names, isCalled, clashes.
-/
import Derived.Test.YtaeljmiklalpnaaGreatDoorLe
import Derived.WalkLawsBesides
namespace Go.Proofs.YtaeljmiklalpnaaGreatDoor
open Go.RowKit Go.ChangeMaps Gn
namespace Rg

set_option maxRecDepth 100000 in
theorem pfoldc_any (x : Int) (w : World) (h0 : 0 ≤ x) (h1 : x ≤ 1114111) : Calls Tryz.prog 60 #[.int .i32 x] w fun e w' => e = .returned (.int .i32 (foldC x)) ∧ w = w' := by
  by_cases h65 : 65 ≤ x
  · have d1 : decide ((65 : Int) ≤ x) = true := decide_eq_true h65
    by_cases h90 : x ≤ 90
    · have d2 : decide (x ≤ 90) = true := decide_eq_true h90
      have e : foldC x = x + 32 := by unfold foldC; rw [if_pos ⟨h65, h90⟩]
      have e2 : x - 65 + 97 = x + 32 := by omega
      rw [e]
      have k1 : IntKind.i32.wrap (x - 65) = x - 65 := IntWalk.i32_in _ (by omega)
      have k2 : IntKind.i32.wrap (x - 65 + 97) = x - 65 + 97 := IntWalk.i32_in _ (by omega)
      clear h65 e h0 h1
      have HE := hid e2
      clear e2
      go_enter Tryz.func60, Tryz.ntmps60
      go_wp2
      go_ret
      exact ⟨by rw [← HE.out]; try rfl, rfl⟩
    · have d2 : decide (x ≤ 90) = false := decide_eq_false h90
      have e : foldC x = x := by unfold foldC; rw [if_neg (by omega)]
      rw [e]
      clear h65 e h0 h1
      go_enter Tryz.func60, Tryz.ntmps60
      go_wp2
      go_ret
      exact ⟨rfl, rfl⟩
  · have d1 : decide ((65 : Int) ≤ x) = false := decide_eq_false h65
    have e : foldC x = x := by unfold foldC; rw [if_neg (by omega)]
    rw [e]
    clear h65 e h0 h1
    go_enter Tryz.func60, Tryz.ntmps60
    go_wp2
    go_ret
    exact ⟨rfl, rfl⟩
theorem foldC_le (x : Nat) (h : x ≤ 1114111) : 0 ≤ foldC x ∧ foldC x ≤ 2147483647 := by unfold foldC; split <;> omega
theorem fold_lib (x : W) (w : World) (hx : x.length ≤ 100000) (ht : Tb w) :
    Calls Tryz.prog 59 #[.func (.func 60) #[] #[], .string (sB x)] w fun e w' => e = .returned (.string (sB (fldW x))) ∧ Below w.heap.size w w' :=
  Tryz.strings_Map_runes 60 #[] (fun _ _ => by kernel_rfl) foldC (sB x) w (by rw [sB_size]; omega)
    (fun W y hy _ => (pfoldc_any (y : Int) W (by omega) (by omega)).mono fun _ _ ⟨he, hw⟩ => ⟨he, 0, hw ▸ rfl⟩) foldC_le ht.utf
theorem pfold_any (x : W) (w : World) (hx : x.length ≤ 100000) (ht : Tb w) :
    Calls Tryz.prog 43 #[.string (sB x)] w fun e w' => e = .returned (.string (sB (fldW x))) ∧ Below w.heap.size w w' := by
  have C := hid (fold_lib x w hx ht)
  obtain ⟨s, hs⟩ : ∃ s, s = sB x := ⟨_, rfl⟩
  rw [← hs] at C ⊢
  obtain ⟨t, htt⟩ : ∃ t, t = sB (fldW x) := ⟨_, rfl⟩
  rw [← htt] at C ⊢
  clear hs hx ht htt
  go_enter Tryz.func43, Tryz.ntmps43
  go_wp2_with fail
  refine (C.out).mono ?_
  rintro e w1 ⟨rfl, hb⟩
  go_wp2
  go_ret
  exact ⟨rfl, hb⟩

/-! slices.Index, slices.Contains at texts. -/
set_option maxRecDepth 100000 in
set_option maxHeartbeats 1000000 in
theorem lindex_any (v : Value) (ws : List W) (x : W) (w : World) (hv : IsW w v ws) (hn : ws.length ≤ 100000) :
    Calls Tryz.prog 58 #[v, .string (sB x)] w fun e w' => (∃ i : Int, e = .returned (.int .i64 i) ∧ (ws.any (fun y => decide (y = x))) = decide (0 ≤ i)) ∧ w = w' := by
  obtain ⟨A, cap, rfl, hR⟩ := hv
  obtain ⟨s, hs⟩ : ∃ s, s = sB x := ⟨_, rfl⟩
  rw [← hs]
  have HS := hid hs
  have HR := hid hR
  clear hs hR
  obtain ⟨m, hm⟩ : ∃ m, m = ws.length := ⟨_, rfl⟩
  rw [← hm] at hn ⊢
  have HM := hid hm
  clear hm
  go_enter Tryz.func58, Tryz.ntmps58
  go_wp2
  go_loop [4, 5, 8] (fun _ _ i => ∃ k : Nat, k ≤ m ∧ i = .int .i64 k ∧ Hid (∀ y ∈ ws.take k, y ≠ x)) (fun _ _ i => m - (intOf i).toNat)
  case atStart => exact ⟨0, Nat.zero_le _, rfl, by intro y hy; simp at hy⟩
  case round =>
    obtain ⟨k, hk, rfl, hN⟩ := hrel
    by_cases hlt : k < m
    · obtain ⟨y, hy⟩ : ∃ y, ws[k]? = some y := ⟨_, List.getElem?_eq_getElem (by have := HM.out; omega)⟩
      obtain ⟨g, o, rfl, hg, hc⟩ := (HR.out).at (k := k) (u := sV y) (by rw [List.getElem?_map, hy]; rfl)
      unfold sV at hc
      have hk0 : 0 ≤ (k : Int) := by omega
      have hk1 : (k : Int) < (m : Int) := by omega
      by_cases he : y = x
      · have q : (s.toList == (sB y).toList) = true := by rw [HS.out, sB_beq, he]; simp
        have q2 : s.toList = (sB y).toList := by rw [HS.out, he]
        have HY := hid hy
        have HE := hid he
        obtain ⟨t, ht⟩ : ∃ t, t = sB y := ⟨_, rfl⟩
        rw [← ht] at hc q q2
        clear hy he ht
        go_wp2
        go_ret
        exact ⟨⟨k, rfl, by
          rw [decide_eq_true (by omega), List.any_eq_true]; exact ⟨y, List.mem_of_getElem? HY.out, by rw [HE.out]; simp⟩⟩, rfl⟩
      · have q : (s.toList == (sB y).toList) = false := by rw [HS.out, sB_beq]; simp; exact fun h => he h.symm
        have q2 : ¬ s.toList = (sB y).toList := by rw [HS.out]; exact fun h => he (sB_eq.1 h).symm
        have HN2 : Hid (∀ y ∈ ws.take (k + 1), y ≠ x) := fun z hz => by
          rw [List.take_add_one, hy] at hz
          rcases List.mem_append.1 hz with h | h
          · exact hN.out z h
          · simp at h; rw [h]; exact he
        obtain ⟨t, ht⟩ : ∃ t, t = sB y := ⟨_, rfl⟩
        rw [← ht] at hc q q2
        clear hy he ht
        go_wp2
        go_round
        case rel => exact ⟨k + 1, by omega, by go_num, HN2⟩
        case measure => simp [intOf]; omega
    · go_wp2
      go_ret
      exact ⟨⟨-1, rfl, by
        rw [decide_eq_false (by omega), List.any_eq_false]
        intro y hy
        have := hN.out y (by rw [List.take_of_length_le (by have := HM.out; omega)]; exact hy)
        simpa using this⟩, rfl⟩
set_option maxRecDepth 100000 in
theorem pcontains_any (v : Value) (ws : List W) (x : W) (w : World) (hv : IsW w v ws) (hn : ws.length ≤ 100000) :
    Calls Tryz.prog 41 #[v, .string (sB x)] w fun e w' => e = .returned (.bool (ws.any (fun y => decide (y = x)))) ∧ w = w' := by
  have C := hid (lindex_any v ws x w hv hn)
  obtain ⟨r, hr⟩ : ∃ r, r = ws.any (fun y => decide (y = x)) := ⟨_, rfl⟩
  rw [← hr] at C ⊢
  obtain ⟨s, hs⟩ : ∃ s, s = sB x := ⟨_, rfl⟩
  rw [← hs] at C ⊢
  clear hr hs hv hn
  go_enter Tryz.func41, Tryz.ntmps41
  go_wp2_with fail
  refine (C.out).mono ?_
  rintro e w1 ⟨⟨i, rfl, hi⟩, rfl⟩
  have HI := hid hi
  clear hi
  go_wp2
  go_ret
  exact ⟨by rw [HI.out]; try rfl, rfl⟩

end Rg
end Go.Proofs.YtaeljmiklalpnaaGreatDoor

namespace Go.Proofs.YtaeljmiklalpnaaGreatDoor
open Go.RowKit Go.ChangeMaps Gn
namespace Rg

/-! slices.ContainsFunc at texts and a function value. -/
def PredF (g : Nat) (caps : Array Value) (p : W → Bool) (ws : List W) (w : World) : Prop :=
  ∀ (y : W) (u : World), y ∈ ws → Below w.heap.size w u → Calls Tryz.prog g (#[.string (sB y)] ++ caps) u fun e w' => e = .returned (.bool (p y)) ∧ Below u.heap.size u w'
set_option maxRecDepth 100000 in
set_option maxHeartbeats 1000000 in
theorem lindexf_any (v : Value) (ws : List W) (g : Nat) (caps : Array Value) (p : W → Bool) (heg : ∀ args w, (callFunc g args).run Tryz.prog w = .ok (.enter g args) w) (w : World) (hv : IsW w v ws) (hn : ws.length ≤ 100000) (hp : PredF g caps p ws w) :
    Calls Tryz.prog 68 #[v, .func (.func g) #[] caps] w fun e w' => (∃ i : Int, e = .returned (.int .i64 i) ∧ ws.any p = decide (0 ≤ i)) ∧ Below w.heap.size w w' := by
  obtain ⟨A, cap, rfl, hR⟩ := hv
  have HR := hid hR
  have HP := hid hp
  clear hR hp
  obtain ⟨m, hm⟩ : ∃ m, m = ws.length := ⟨_, rfl⟩
  rw [← hm] at hn ⊢
  have HM := hid hm
  clear hm
  go_enter Tryz.func68, Tryz.ntmps68
  go_wp2
  go_loopw [4, 5, 8] (fun _ _ i wr => ∃ k : Nat, k ≤ m ∧ i = .int .i64 k ∧ Hid (∀ y ∈ ws.take k, p y = false) ∧ Hid (Below w.heap.size w wr)) (fun _ _ i _ => m - (intOf i).toNat)
  case atStart => exact ⟨0, Nat.zero_le _, rfl, by intro y hy; simp at hy, Below.refl _ _⟩
  case round =>
    obtain ⟨k, hk, rfl, hN, hB⟩ := hrel
    by_cases hlt : k < m
    · obtain ⟨y, hy⟩ : ∃ y, ws[k]? = some y := ⟨_, List.getElem?_eq_getElem (by have := HM.out; omega)⟩
      obtain ⟨ag, ao, rfl, hg, hc⟩ := (SlR.on HR.out hB.out).at (k := k) (u := sV y) (by rw [List.getElem?_map, hy]; rfl)
      unfold sV at hc
      have hk0 : 0 ≤ (k : Int) := by omega
      have hk1 : (k : Int) < (m : Int) := by omega
      have C := hid (HP.out y wr (List.mem_of_getElem? hy) hB.out)
      have HY := hid hy
      obtain ⟨t, ht⟩ : ∃ t, t = sB y := ⟨_, rfl⟩
      rw [← ht] at hc C
      obtain ⟨b, hb⟩ : ∃ b, b = p y := ⟨_, rfl⟩
      rw [← hb] at C
      have HPB := hid hb
      clear hy ht hb
      cases b
      · have HN2 : Hid (∀ y ∈ ws.take (k + 1), p y = false) := fun z hz => by
          rw [List.take_add_one, HY.out] at hz
          rcases List.mem_append.1 hz with h | h
          · exact hN.out z h
          · simp at h; rw [h]; exact HPB.out.symm
        go_wp2_with fail
        refine C.out.mono ?_
        rintro e w3 ⟨rfl, hb3⟩
        have HB3 := hid (bt hB.out hb3)
        clear hb3 hc
        go_wp2
        go_roundw
        case rel => exact ⟨k + 1, by omega, by go_num, HN2, HB3⟩
        case measure => simp [intOf]; omega
      · go_wp2_with fail
        refine C.out.mono ?_
        rintro e w3 ⟨rfl, hb3⟩
        have HB3 := hid (bt hB.out hb3)
        clear hb3 hc
        go_wp2
        go_ret
        exact ⟨⟨k, rfl, by
          rw [decide_eq_true (by omega), List.any_eq_true]; exact ⟨y, List.mem_of_getElem? HY.out, HPB.out.symm⟩⟩, HB3.out⟩
    · go_wp2
      go_ret
      exact ⟨⟨-1, rfl, by
        rw [decide_eq_false (by omega), List.any_eq_false]
        intro y hy
        have := hN.out y (by rw [List.take_of_length_le (by have := HM.out; omega)]; exact hy)
        simpa using this⟩, hB.out⟩
set_option maxRecDepth 100000 in
theorem pcontainsf_any (v : Value) (ws : List W) (g : Nat) (caps : Array Value) (p : W → Bool) (heg : ∀ args w, (callFunc g args).run Tryz.prog w = .ok (.enter g args) w) (w : World) (hv : IsW w v ws) (hn : ws.length ≤ 100000) (hp : PredF g caps p ws w) :
    Calls Tryz.prog 57 #[v, .func (.func g) #[] caps] w fun e w' => e = .returned (.bool (ws.any p)) ∧ Below w.heap.size w w' := by
  have C := hid (lindexf_any v ws g caps p heg w hv hn hp)
  obtain ⟨r, hr⟩ : ∃ r, r = ws.any p := ⟨_, rfl⟩
  rw [← hr] at C ⊢
  clear hr hv hn hp
  go_enter Tryz.func57, Tryz.ntmps57
  go_wp2_with fail
  refine (C.out).mono ?_
  rintro e w1 ⟨⟨i, rfl, hi⟩, hb⟩
  have HI := hid hi
  have HB := hid hb
  clear hi hb
  go_wp2
  go_ret
  exact ⟨by rw [HI.out]; try rfl, HB.out⟩

end Rg
end Go.Proofs.YtaeljmiklalpnaaGreatDoor

namespace Go.Proofs.YtaeljmiklalpnaaGreatDoor
open Go.RowKit Go.ChangeMaps Gn
namespace Rg


/-! names, isCalled. -/
theorem own_one (w : World) (B : Nat) (u : Value) (e : TypeId) (hB : B ≤ w.heap.size) : (w.alloc (.cells #[u] e)).ownsRow B e 1 (.slice (some ⟨w.heap.size, 0, none⟩) 1 1) 1 [u] :=
  ⟨rfl, .inr ⟨_, 1, #[u], rfl, hB, heap_new _ _, Nat.le_refl _, by unfold maxLen; omega, rfl, rfl⟩⟩
theorem infoStr : (Tryz.prog.info? 9).map (fun i => (i.zero, i.size, i.bytes)) = some (some (.string ⟨#[]⟩), 1, 16) := by kernel_rfl
def ShW (l : List W) : Prop := ∀ y ∈ l, y.length ≤ 1000
theorem SmS.names {s : St} (h : SmS s) : ShW (namesS s) := fun y hy => by
  rcases List.mem_cons.1 hy with rfl | hy
  · exact h.name
  · exact h.al y hy
set_option maxRecDepth 100000 in
set_option maxHeartbeats 2000000 in
theorem pnames_any (s : St) (al : Value) (w : World) (hal : IsW w al s.al) (hs : SmS s) (ht : Tb w) :
    Calls Tryz.prog 42 #[stA s al] w fun e w' => ∃ v, e = .returned v ∧ IsW w' v ((namesS s).map fldW) ∧ Below w.heap.size w w' := by
  obtain ⟨aA, ac, rfl, hR⟩ := hal
  obtain ⟨i0, hi0, hz0, hz1, hz2⟩ := info_parts infoStr
  obtain ⟨w1, hw1⟩ : ∃ w1, w1 = w.alloc (.cells #[.string (sB s.code), .string (sB s.town), .string (sB s.name), .slice aA s.al.length ac, .int .i64 s.low, .int .i64 s.high, .int .i64 s.shift, .bool s.isOpen] 44) := ⟨_, rfl⟩
  have hb1 : Below w.heap.size w w1 := by rw [hw1]; exact b0 _ _
  have HROW : Hid (w1.heap[w.heap.size]? = some (.cells #[.string (sB s.code), .string (sB s.town), .string (sB s.name), .slice aA s.al.length ac, .int .i64 s.low, .int .i64 s.high, .int .i64 s.shift, .bool s.isOpen] 44 (0, 0))) := by show _ = _; rw [hw1]; exact heap_new _ _
  have HC : Hid (∀ u, Below w1.heap.size w1 u → u.cell? ⟨w.heap.size, 2, none⟩ = some (.string (sB s.name)) ∧ u.cell? ⟨w.heap.size, 3, none⟩ = some (.slice aA s.al.length ac)) := fun u hu => by
    have h := (hu.block _ (heap_lt HROW.out)).trans HROW.out
    exact ⟨by rw [cell_at h]; rfl, by rw [cell_at h]; rfl⟩
  have HRD := hid (SlR.on hR hb1)
  have HB1 := hid hb1
  have HAL := hid hs.al
  have HT := hid ht
  have hfew := hs.few
  have CF := hid (fun (y : W) (hy : y.length ≤ 1000) u (hu : Below w.heap.size w u) => pfold_any y u (by omega) (HT.out.on hu))
  have CN := hid (CF.out s.name hs.name w1 hb1)
  obtain ⟨c2, c3⟩ := HC.out _ (Below.refl _ _)
  obtain ⟨m, hm⟩ : ∃ m, m = s.al.length := ⟨_, rfl⟩
  rw [← hm] at hfew c3 HRD
  have HM := hid hm
  obtain ⟨f0, hf0⟩ : ∃ f, f = sB (fldW s.name) := ⟨_, rfl⟩
  rw [← hf0] at CN
  have HF0 := hid hf0
  clear hb1 hR hs ht hf0
  unfold stA
  rw [← hm] at hw1 HC ⊢
  clear hm
  go_enter Tryz.func42, Tryz.ntmps42
  go_wp2_with fail
  rw [← hw1]
  clear hw1
  refine (CN.out).mono ?_
  rintro e w2 ⟨rfl, hb2⟩
  have HB2 := hid hb2
  clear hb2 c2 c3
  obtain ⟨c2, c3⟩ := HC.out _ HB2.out
  have hown0 : Hid ((w2.alloc (.cells #[.string f0] 9)).ownsRow w1.heap.size 9 1 (.slice (some ⟨w2.heap.size, 0, none⟩) 1 1) 1 [.string f0]) :=
    own_one w2 _ _ _ HB2.out.size
  obtain ⟨d2, d3⟩ := HC.out (w2.alloc (.cells #[.string f0] 9)) (HB2.out.alloc HB2.out.size _)
  go_wp2
  clear d2 d3
  go_loopw [3, 5, 13] (fun v _ i wr => ∃ k : Nat, k ≤ m ∧ i = .int .i64 k ∧ Hid (wr.ownsRow w1.heap.size 9 1 v (k + 1) (((s.name :: s.al.take k).map fldW).map sV)) ∧ Hid (Below w1.heap.size w1 wr)) (fun _ _ i _ => m - (intOf i).toNat)
  case atStart => exact ⟨0, Nat.zero_le _, rfl, by
    show World.ownsRow _ _ _ _ _ _ _
    have e : ((s.name :: s.al.take 0).map fldW).map sV = [Value.string f0] := by rw [HF0.out]; simp [sV]
    rw [e]; exact hown0.out, (HB2.out.alloc HB2.out.size _)⟩
  case round =>
    obtain ⟨k, hk, rfl, hO, hB⟩ := hrel
    clear c2 c3
    obtain ⟨c2, c3⟩ := HC.out _ hB.out
    by_cases hlt : k < m
    · obtain ⟨y, hy⟩ : ∃ y, s.al[k]? = some y := ⟨_, List.getElem?_eq_getElem (by have := HM.out; omega)⟩
      obtain ⟨ag, ao, rfl, hag, ca⟩ := (SlR.on HRD.out hB.out).at (k := k) (u := sV y) (by rw [List.getElem?_map, hy]; rfl)
      unfold sV at ca
      have hk0 : 0 ≤ (k : Int) := by omega
      have hk1 : (k : Int) < (m : Int) := by omega
      have CY := hid (CF.out y (HAL.out y (List.mem_of_getElem? hy)) wr (bt HB1.out hB.out))
      have HY := hid hy
      obtain ⟨ys, hys⟩ : ∃ t, t = sB y := ⟨_, rfl⟩
      rw [← hys] at ca CY
      obtain ⟨fy, hfy⟩ : ∃ t, t = sB (fldW y) := ⟨_, rfl⟩
      rw [← hfy] at CY
      have HFY := hid hfy
      clear hy hys hfy
      go_wp2_with fail
      refine CY.out.mono ?_
      rintro e w3 ⟨rfl, hb3⟩
      have HB3 := hid (bt hB.out hb3)
      have hO3 := own_below hO.out hb3
      have HO3 := hid hO3
      have hsz3 : w1.heap.size ≤ w3.heap.size := HB3.out.size
      have cnew := cell_new w3 (.string fy) 9
      clear hb3 ca c2 c3
      go_wp2_with (at_builtin; refine wpList_append_own _ rfl _ _ 42 rfl w1.heap.size 9 i0 (.string ⟨#[]⟩) 1 16 Tryz.underlying42 hi0 hz0 hz1 hz2 rfl (by decide) _ _ _ rfl (hO3.alloc _) ⟨w3.heap.size, 0, none⟩ 1 1 [.string fy] rfl rfl cnew (by intro u hu; simp at hu; rw [hu]; rfl) (by unfold maxLen; omega) (by omega) (by simp; omega) ?_; intro v' w4 hown4 hgrow _)
      have HO4 : Hid (w4.ownsRow w1.heap.size 9 1 v' (k + 1 + 1) (((s.name :: s.al.take (k + 1)).map fldW).map sV)) := by
        show World.ownsRow _ _ _ _ _ _ _
        have e : ((s.name :: s.al.take (k + 1)).map fldW).map sV = ((s.name :: s.al.take k).map fldW).map sV ++ [Value.string fy] := by
          rw [List.take_add_one, HY.out, HFY.out]; simp [sV]
        rw [e]; exact hown4
      have HB4 : Hid (Below w1.heap.size w1 w4) := grow_below HB3.out (Nat.le_refl _) hsz3 HO3.out hgrow
      clear hown4 hgrow hO3 cnew
      go_wp2
      go_roundw
      case rel => exact ⟨k + 1, by omega, by go_num, HO4, HB4⟩
      case measure => simp [intOf]; omega
    · have HI : Hid (∃ v, IsW wr u3 ((namesS s).map fldW) ∧ v = u3) := by
        have h := hO.out
        rw [List.take_of_length_le (by have := HM.out; omega)] at h
        refine ⟨u3, ?_, rfl⟩
        have e : ((namesS s).map fldW).length = k + 1 := by unfold namesS; rw [List.length_map, List.length_cons]; have := HM.out; omega
        exact IsW.of_own (B := w1.heap.size) (e := 9) (by rw [e]; exact h)
      go_wp2
      go_ret
      exact ⟨u3, rfl, by obtain ⟨_, h, _⟩ := HI.out; exact h, bt HB1.out hB.out⟩

/-- The program's question whether a text is a name of a street. -/
def calledB (s : St) (z : W) : Bool := ((namesS s).map fldW).any fun y => decide (y = fldW z)
theorem called_named {s : St} {z : W} (h : ∀ y ∈ namesS s, AscW y) : calledB s z = named s z := by
  unfold calledB named
  rw [List.any_map, Bool.eq_iff_iff, List.any_eq_true, List.any_eq_true]
  constructor
  · rintro ⟨y, hy, he⟩
    exact ⟨y, hy, (eqW_iff _ _).2 ((fld_eq (h y hy)).1 (by simpa using he))⟩
  · rintro ⟨y, hy, he⟩
    exact ⟨y, hy, by simpa using (fld_eq (h y hy)).2 ((eqW_iff _ _).1 he)⟩
set_option maxRecDepth 100000 in
set_option maxHeartbeats 1000000 in
theorem pcalled_any (s : St) (al : Value) (z : W) (w : World) (hal : IsW w al s.al) (hs : SmS s) (hz : z.length ≤ 100000) (ht : Tb w) :
    Calls Tryz.prog 28 #[stA s al, .string (sB z)] w fun e w' => e = .returned (.bool (calledB s z)) ∧ Below w.heap.size w w' := by
  obtain ⟨r, hr⟩ : ∃ r, r = calledB s z := ⟨_, rfl⟩
  rw [← hr]
  have HR := hid hr
  obtain ⟨w1, hw1⟩ : ∃ w1, w1 = w.alloc (.cells #[.string (sB s.code), .string (sB s.town), .string (sB s.name), al, .int .i64 s.low, .int .i64 s.high, .int .i64 s.shift, .bool s.isOpen] 44) := ⟨_, rfl⟩
  have hb1 : Below w.heap.size w w1 := by rw [hw1]; exact b0 _ _
  have hrow : w1.heap[w.heap.size]? = some (.cells #[.string (sB s.code), .string (sB s.town), .string (sB s.name), al, .int .i64 s.low, .int .i64 s.high, .int .i64 s.shift, .bool s.isOpen] 44 (0, 0)) := by rw [hw1]; exact heap_new _ _
  have q0 : w1.cell? ⟨w.heap.size, 0, none⟩ = some (.string (sB s.code)) := by rw [cell_at hrow]; rfl
  have q1 : w1.cell? ⟨w.heap.size, 1, none⟩ = some (.string (sB s.town)) := by rw [cell_at hrow]; rfl
  have q2 : w1.cell? ⟨w.heap.size, 2, none⟩ = some (.string (sB s.name)) := by rw [cell_at hrow]; rfl
  have q3 : w1.cell? ⟨w.heap.size, 3, none⟩ = some al := by rw [cell_at hrow]; rfl
  have q4 : w1.cell? ⟨w.heap.size, 4, none⟩ = some (.int .i64 s.low) := by rw [cell_at hrow]; rfl
  have q5 : w1.cell? ⟨w.heap.size, 5, none⟩ = some (.int .i64 s.high) := by rw [cell_at hrow]; rfl
  have q6 : w1.cell? ⟨w.heap.size, 6, none⟩ = some (.int .i64 s.shift) := by rw [cell_at hrow]; rfl
  have q7 : w1.cell? ⟨w.heap.size, 7, none⟩ = some (.bool s.isOpen) := by rw [cell_at hrow]; rfl
  have HB1 := hid hb1
  have HT := hid ht
  have CN := hid (pnames_any s al w1 (hal.on hb1) hs (ht.on hb1))
  have CF := hid (fun u (hu : Below w.heap.size w u) => pfold_any z u hz (HT.out.on hu))
  have hfew := hs.few
  have CC : Hid (∀ v u, IsW u v ((namesS s).map fldW) → Calls Tryz.prog 41 #[v, .string (sB (fldW z))] u fun e w' => e = .returned (.bool r) ∧ u = w') := fun v u hu => by
    rw [hr]; exact pcontains_any v _ (fldW z) u hu (by unfold namesS; rw [List.length_map, List.length_cons]; omega)
  obtain ⟨zs, hzs⟩ : ∃ t, t = sB z := ⟨_, rfl⟩
  rw [← hzs] at CF ⊢
  obtain ⟨fz, hfz⟩ : ∃ t, t = sB (fldW z) := ⟨_, rfl⟩
  rw [← hfz] at CF CC
  unfold stA at CN ⊢
  clear hr hb1 hal hs hz ht hzs hfz hrow hfew
  go_enter Tryz.func28, Tryz.ntmps28
  go_wp2_with fail
  rw [← hw1]
  clear hw1
  refine (CN.out).mono ?_
  rintro e w2 ⟨v, rfl, hv, hb2⟩
  have HV := hid hv
  have HB2 := hid (bt HB1.out hb2)
  clear hv hb2 q0 q1 q2 q3 q4 q5 q6 q7
  go_wp2_with fail
  refine (CF.out _ HB2.out).mono ?_
  rintro e w3 ⟨rfl, hb3⟩
  have HV3 := hid (HV.out.on hb3)
  have HB3 := hid (bt HB2.out hb3)
  clear hb3
  go_wp2_with fail
  refine (CC.out _ _ HV3.out).mono ?_
  rintro e w4 ⟨rfl, rfl⟩
  go_wp2
  go_ret
  exact ⟨rfl, HB3.out⟩

end Rg
end Go.Proofs.YtaeljmiklalpnaaGreatDoor

namespace Go.Proofs.YtaeljmiklalpnaaGreatDoor
open Go.RowKit Go.ChangeMaps Gn
namespace Rg

set_option maxRecDepth 100000 in
theorem pown_any (b : Nat) (v : Value) (ws : List W) (y : W) (w : World) (hc : w.cell? ⟨b, 0, none⟩ = some v) (hv : IsW w v ws) (hn : ws.length ≤ 100000) :
    Calls Tryz.prog 56 #[.string (sB y), .pointer (some ⟨b, 0, none⟩)] w fun e w' => e = .returned (.bool (ws.any fun x => decide (x = y))) ∧ Below w.heap.size w w' := by
  obtain ⟨r, hr⟩ : ∃ r, r = ws.any fun x => decide (x = y) := ⟨_, rfl⟩
  have C := hid (pcontains_any v ws y w hv hn)
  rw [← hr] at C ⊢
  obtain ⟨s, hs⟩ : ∃ s, s = sB y := ⟨_, rfl⟩
  rw [← hs] at C ⊢
  clear hr hs hv hn
  go_enter Tryz.func56, Tryz.ntmps56
  go_wp2_with fail
  refine C.out.mono ?_
  rintro e w1 ⟨rfl, rfl⟩
  go_wp2
  go_ret
  exact ⟨rfl, Below.refl _ _⟩

theorem common_fld {a b : St} (ha : ∀ y ∈ namesS a, AscW y) : (((namesS a).map fldW).any fun y => ((namesS b).map fldW).any fun x => decide (x = y)) = common a b := by
  rw [Bool.eq_iff_iff, common_iff, List.any_map, List.any_eq_true]
  constructor
  · rintro ⟨y, hy, h⟩
    obtain ⟨x, hx, he⟩ := List.any_eq_true.1 h
    obtain ⟨z, hz, rfl⟩ := List.mem_map.1 hx
    have he : fldW z = fldW y := by simpa using he
    exact ⟨y, hy, z, hz, (eqW_iff _ _).2 (((fld_eq (ha y hy)).1 he.symm).symm)⟩
  · rintro ⟨y, hy, z, hz, he⟩
    exact ⟨y, hy, List.any_eq_true.2 ⟨fldW z, List.mem_map_of_mem hz, by
      have := (fld_eq (z := z) (ha y hy)).2 ((eqW_iff _ _).1 he).symm
      simpa using this.symm⟩⟩
/-- No clash up to k. -/
def NoC (l : List St) (n k : Nat) : Prop := ∀ i s t, i < k → i ≠ n → l[i]? = some s → l[n]? = some t → clash2 s t = false
theorem NoC.next {l : List St} {n k : Nat} {s t : St} (h : NoC l n k) (hs : l[k]? = some s) (ht : l[n]? = some t) (hc : k ≠ n → clash2 s t = false) : NoC l n (k + 1) := fun i a b hi hin ha hb => by
  by_cases e : i = k
  · subst e; rw [hs] at ha; rw [ht] at hb; cases ha; cases hb; exact hc hin
  · exact h i a b (by omega) hin ha hb
theorem NoC.all {l : List St} {n : Nat} (h : NoC l n l.length) : clashAt l n = false := clashAt_no.2 fun i s t hi hs ht => h i s t (List.getElem?_eq_some_iff.1 hs).1 hi hs ht
theorem clash_at {l : List St} {n k : Nat} {s t : St} (hs : l[k]? = some s) (ht : l[n]? = some t) (hkn : k ≠ n) (hc : clash2 s t = true) : clashAt l n = true := by
  cases h : clashAt l n
  · rw [clashAt_no.1 h k s t hkn hs ht] at hc; cases hc
  · rfl
theorem no_of {s t : St} (h : ¬ (s.isOpen = true ∧ t.isOpen = true ∧ s.code = t.code ∧ s.low ≤ t.high ∧ t.low ≤ s.high ∧ common s t = true)) : clash2 s t = false := by
  rw [Bool.eq_false_iff]; exact fun q => h ((clash2_iff _ _).1 q)
/-- Streets whose names are plain and of moderate size. -/
structure OkS (l : List St) : Prop where
  sm : ∀ s ∈ l, SmS s
  asc : ∀ s ∈ l, ∀ y ∈ namesS s, AscW y
theorem IsSts.parts {w : World} {v : Value} {l : List St} {vs : List Value} (h : IsSts w v l vs) : ∃ A cap, v = .slice A l.length cap ∧ IsSts w (.slice A l.length cap) l vs := by
  obtain ⟨A, cap, e, h⟩ := h
  exact ⟨A, cap, e, ⟨A, cap, rfl, h⟩⟩
theorem blk_cells {u : World} {g : Nat} {c0 c1 c2 c3 c4 c5 c6 c7 : Value} {T : TypeId} (h : u.heap[g]? = some (.cells #[c0, c1, c2, c3, c4, c5, c6, c7] T (0, 0))) :
    u.cell? ⟨g, 0, none⟩ = some c0 ∧ u.cell? ⟨g, 1, none⟩ = some c1 ∧ u.cell? ⟨g, 2, none⟩ = some c2 ∧ u.cell? ⟨g, 3, none⟩ = some c3 ∧ u.cell? ⟨g, 4, none⟩ = some c4 ∧ u.cell? ⟨g, 5, none⟩ = some c5 ∧ u.cell? ⟨g, 6, none⟩ = some c6 ∧ u.cell? ⟨g, 7, none⟩ = some c7 := by
  refine ⟨?_, ?_, ?_, ?_, ?_, ?_, ?_, ?_⟩ <;> (rw [cell_at h]; rfl)

set_option maxRecDepth 100000 in
set_option maxHeartbeats 8000000 in
theorem pclashes_any (l : List St) (vs : List Value) (v : Value) (n : Nat) (w : World) (hl : IsSts w v l vs) (h5 : l.length ≤ 1000) (hn : n < l.length) (hok : OkS l) (ht : Tb w) :
    Calls Tryz.prog 37 #[v, .int .i64 (n : Int)] w fun e w' => e = .returned (.bool (clashAt l n)) ∧ Below w.heap.size w w' := by
  obtain ⟨r, hr⟩ : ∃ r, r = clashAt l n := ⟨_, rfl⟩
  rw [← hr]
  have HR := hid hr
  clear hr
  obtain ⟨A, cap, rfl, hL⟩ := hl.parts
  obtain ⟨t, htn⟩ : ∃ t, l[n]? = some t := ⟨_, List.getElem?_eq_getElem hn⟩
  obtain ⟨g, o, tu, rfl, hg, hu, hst, htl⟩ := hL.at htn
  obtain ⟨tA, tc, rfl, htR⟩ := htl
  have htl : IsW w (.slice tA t.al.length tc) t.al := ⟨tA, tc, rfl, htR⟩
  have HL := hid hL
  have HT := hid ht
  have HTN := hid htn
  have HOK := hid hok
  have htm := List.mem_of_getElem? htn
  have hts := hok.sm t htm
  have hnl : n < l.length := hn
  have hn0 : 0 ≤ (n : Int) := by omega
  have hn1 : (n : Int) < (l.length : Int) := by omega
  obtain ⟨w1, hw1⟩ : ∃ w1, w1 = w.alloc (.cells #[.string (sB t.code), .string (sB t.town), .string (sB t.name), .slice tA t.al.length tc, .int .i64 t.low, .int .i64 t.high, .int .i64 t.shift, .bool t.isOpen] 44) := ⟨_, rfl⟩
  have hb1 : Below w.heap.size w w1 := by rw [hw1]; exact b0 _ _
  have HROW : Hid (w1.heap[w.heap.size]? = some (.cells #[.string (sB t.code), .string (sB t.town), .string (sB t.name), .slice tA t.al.length tc, .int .i64 t.low, .int .i64 t.high, .int .i64 t.shift, .bool t.isOpen] 44 (0, 0))) := by show _ = _; rw [hw1]; exact heap_new _ _
  have HB1 := hid hb1
  have HZ1 : Hid (w1.heap.size = w.heap.size + 1) := by show _ = _; rw [hw1]; simp
  have CN := hid (pnames_any t _ w1 (htl.on hb1) hts (ht.on hb1))
  obtain ⟨q0, q1, q2, q3, q4, q5, q6, q7⟩ := blk_cells HROW.out
  obtain ⟨x0, x1, x2, x3, x4, x5, x6, x7⟩ := hst
  have hnn : ((namesS t).map fldW).length ≤ 100000 := by unfold namesS; rw [List.length_map, List.length_cons]; have := hts.few; omega
  obtain ⟨m, hm⟩ : ∃ m, m = l.length := ⟨_, rfl⟩
  rw [← hm] at hn1 h5 hnl HL ⊢
  have HM := hid hm
  have HNN := hid hnn
  unfold stA at CN
  clear hl hL hn htn hu htl htR htm hts hok ht hb1 hm hnn
  go_enter Tryz.func37, Tryz.ntmps37
  go_wp2_with fail
  rw [← hw1]
  clear hw1
  refine (CN.out).mono ?_
  rintro e w2 ⟨ov, rfl, hov, hb2⟩
  obtain ⟨oA, oL, oc, hoe⟩ : ∃ A L c, ov = .slice A L c := by obtain ⟨A, c, e, _⟩ := hov; exact ⟨_, _, _, e⟩
  subst hoe
  obtain ⟨w3, hw3⟩ : ∃ w3, w3 = w2.alloc (.cells #[.slice oA oL oc] 42) := ⟨_, rfl⟩
  have HB3 : Hid (Below w1.heap.size w1 w3) := by show Below _ _ _; rw [hw3]; exact hb2.alloc hb2.size _
  have hc3 : w3.heap[w2.heap.size]? = some (.cells #[.slice oA oL oc] 42 (0, 0)) := by rw [hw3]; exact heap_new _ _
  have HCL : Hid (∀ u, Below w3.heap.size w3 u → ∀ y u', Below u.heap.size u u' → Calls Tryz.prog 56 #[.string (sB y), .pointer (some ⟨w2.heap.size, 0, none⟩)] u' fun e w' => e = .returned (.bool (((namesS t).map fldW).any fun x => decide (x = y))) ∧ Below u'.heap.size u' w') := fun u hu y u' hu' => by
    have hb : Below w3.heap.size w3 u' := bt hu hu'
    refine pown_any w2.heap.size (.slice oA oL oc) _ y u' ?_ ?_ HNN.out
    · rw [hb.cell (p := (⟨w2.heap.size, 0, none⟩ : Addr)) (heap_lt hc3), cell_at hc3]; rfl
    · have : Below w2.heap.size w2 w3 := by rw [hw3]; exact b0 _ _
      exact hov.on (bt this hb)
  have hmf : ∀ (fn : Fn) (first cap : Array Value) (w : World), (Instr.makeFunc fn first cap).run Tryz.prog w = .ok (.func fn first cap) w := fun _ _ _ _ => rfl
  clear hov hb2 q0 q1 q2 q3 q4 q5 q6 q7 x0 x1 x2 x3 x4 x5 x6 x7 hc3
  go_wp2_with fail
  rw [← hw3]
  have HW3 := hid hw3
  clear hw3
  go_loopw [8, 9, 19] (fun _ _ i wr => ∃ k : Nat, k ≤ m ∧ i = .int .i64 k ∧ Hid (NoC l n k) ∧ Hid (Below w3.heap.size w3 wr)) (fun _ _ i _ => m - (intOf i).toNat)
  case atStart => exact ⟨0, Nat.zero_le _, rfl, (by intro i s t hi; omega), Below.refl _ _⟩
  case round =>
    obtain ⟨k, hk, rfl, hN, hB⟩ := hrel
    by_cases hlt : k < m
    · obtain ⟨s, hs⟩ : ∃ s, l[k]? = some s := ⟨_, List.getElem?_eq_getElem (by have := HM.out; omega)⟩
      have HBW := hid (bt HB1.out (bt HB3.out hB.out))
      have hLr := HL.out.on HBW.out
      rw [HM.out] at hLr
      obtain ⟨g', o', su, hgo, hg', hsu, hsc, hsl⟩ := hLr.at hs
      cases hgo
      obtain ⟨sA, sc, rfl, hsR⟩ := hsl
      have hsl : IsW wr (.slice sA s.al.length sc) s.al := ⟨sA, sc, rfl, hsR⟩
      obtain ⟨x0, x1, x2, x3, x4, x5, x6, x7⟩ := hsc
      have hk0 : 0 ≤ (k : Int) := by omega
      have hk1 : (k : Int) < (m : Int) := by omega
      have HS := hid hs
      obtain ⟨wa, hwa⟩ : ∃ wa, wa = wr.alloc (.cells #[.string (sB s.code), .string (sB s.town), .string (sB s.name), .slice sA s.al.length sc, .int .i64 s.low, .int .i64 s.high, .int .i64 s.shift, .bool s.isOpen] 44) := ⟨_, rfl⟩
      have hba : Below wr.heap.size wr wa := by rw [hwa]; exact b0 _ _
      have hra : wa.heap[wr.heap.size]? = some (.cells #[.string (sB s.code), .string (sB s.town), .string (sB s.name), .slice sA s.al.length sc, .int .i64 s.low, .int .i64 s.high, .int .i64 s.shift, .bool s.isOpen] 44 (0, 0)) := by rw [hwa]; exact heap_new _ _
      have hro : wa.heap[w.heap.size]? = some (.cells #[.string (sB t.code), .string (sB t.town), .string (sB t.name), .slice tA t.al.length tc, .int .i64 t.low, .int .i64 t.high, .int .i64 t.shift, .bool t.isOpen] 44 (0, 0)) := by
        rw [(bt hB.out hba).block _ (by have := HB3.out.size; have := HZ1.out; omega), HB3.out.block _ (heap_lt HROW.out)]; exact HROW.out
      have HBA := hid (bt hB.out hba)
      have HSL := hid (hsl.on hba)
      obtain ⟨p0, p1, p2, p3, p4, p5, p6, p7⟩ := blk_cells hra
      obtain ⟨q0, q1, q2, q3, q4, q5, q6, q7⟩ := blk_cells hro
      clear hs hLr hsu hsl hsR hba hra hro q1 q2 q3 q6
      rw [hwa] at q0 q4 q5 q7 p0 p1 p2 p3 p4 p5 p6 p7
      by_cases hkn : k = n
      · have e1 : ((k : Int) == (n : Int)) = true := by rw [hkn]; simp
        have e2 : (k == n) = true := by rw [hkn]; simp
        have HN2 := hid (hN.out.next HS.out HTN.out (fun q => absurd hkn q))
        clear hkn
        go_wp2_with fail
        try rw [← hwa]
        clear hwa
        go_roundw
        case rel => exact ⟨k + 1, by omega, by go_num, HN2, HBA⟩
        case measure => simp [intOf]; omega
      have e1 : ((k : Int) == (n : Int)) = false := by simp; omega
      have e2 : (k == n) = false := by simp; omega
      have HKN := hid hkn
      clear hkn
      obtain ⟨so, hso⟩ : ∃ b, b = s.isOpen := ⟨_, rfl⟩
      rw [← hso] at x7 p0 p1 p2 p3 p4 p5 p6 p7 q0 q4 q5 q7 hwa
      have HSO := hid hso
      clear hso
      cases so
      · have HN2 := hid (hN.out.next HS.out HTN.out (fun _ => no_of fun q => by rw [← HSO.out] at q; exact absurd q.1 (by simp)))
        go_wp2_with fail
        try rw [← hwa]
        clear hwa
        go_roundw
        case rel => exact ⟨k + 1, by omega, by go_num, HN2, HBA⟩
        case measure => simp [intOf]; omega
      obtain ⟨tp, hto⟩ : ∃ b, b = t.isOpen := ⟨_, rfl⟩
      rw [← hto] at q7
      have HTO := hid hto
      clear hto
      cases tp
      · have HN2 := hid (hN.out.next HS.out HTN.out (fun _ => no_of fun q => by rw [← HTO.out] at q; exact absurd q.2.1 (by simp)))
        go_wp2_with fail
        try rw [← hwa]
        clear hwa
        go_roundw
        case rel => exact ⟨k + 1, by omega, by go_num, HN2, HBA⟩
        case measure => simp [intOf]; omega
      rcases (Decidable.em (s.code = t.code)).symm with hcd | hcd
      · have d1 : ¬ (sB s.code).toList = (sB t.code).toList := fun q => hcd (sB_eq.1 q)
        have d1b : ((sB s.code).toList == (sB t.code).toList) = false := by rw [sB_beq]; simpa using hcd
        have HN2 := hid (hN.out.next HS.out HTN.out (fun _ => no_of fun q => hcd q.2.2.1))
        go_wp2_with fail
        try rw [← hwa]
        clear hwa
        go_roundw
        case rel => exact ⟨k + 1, by omega, by go_num, HN2, HBA⟩
        case measure => simp [intOf]; omega
      have d1 : (sB s.code).toList = (sB t.code).toList := by rw [hcd]
      have d1b : ((sB s.code).toList == (sB t.code).toList) = true := by rw [hcd]; simp
      have HCD := hid hcd
      clear hcd
      rcases (Decidable.em (s.low ≤ t.high)).symm with hlo | hlo
      · have d2 : decide (t.high < s.low) = true := decide_eq_true (by omega)
        have HN2 := hid (hN.out.next HS.out HTN.out (fun _ => no_of fun q => hlo q.2.2.2.1))
        go_wp2_with fail
        try rw [← hwa]
        clear hwa
        go_roundw
        case rel => exact ⟨k + 1, by omega, by go_num, HN2, HBA⟩
        case measure => simp [intOf]; omega
      have d2 : decide (t.high < s.low) = false := decide_eq_false (by omega)
      rcases (Decidable.em (t.low ≤ s.high)).symm with hhi | hhi
      · have d3 : decide (s.high < t.low) = true := decide_eq_true (by omega)
        have HN2 := hid (hN.out.next HS.out HTN.out (fun _ => no_of fun q => hhi q.2.2.2.2.1))
        go_wp2_with fail
        try rw [← hwa]
        clear hwa
        go_roundw
        case rel => exact ⟨k + 1, by omega, by go_num, HN2, HBA⟩
        case measure => simp [intOf]; omega
      have d3 : decide (s.high < t.low) = false := decide_eq_false (by omega)
      have hsm := List.mem_of_getElem? HS.out
      have CNS := hid (pnames_any s _ wa HSL.out (HOK.out.sm s hsm) (HT.out.on (bt HB1.out (bt HB3.out HBA.out))))
      have hlen : ((namesS s).map fldW).length ≤ 100000 := by unfold namesS; rw [List.length_map, List.length_cons]; have := (HOK.out.sm s hsm).few; omega
      have HCF : Hid (∀ av u, Below wa.heap.size wa u → IsW u av ((namesS s).map fldW) → Calls Tryz.prog 57 #[av, .func (.func 56) #[] #[.pointer (some ⟨w2.heap.size, 0, none⟩)]] u fun e w' => e = .returned (.bool (common s t)) ∧ Below u.heap.size u w') := fun av u hu hav => by
        rw [← common_fld (HOK.out.asc s hsm)]
        exact pcontainsf_any av _ _ _ _ (fun _ _ => by kernel_rfl) u hav hlen (fun y u' _ hu' => HCL.out u (bt HBA.out hu) y u' hu')
      have HCC : Hid (clash2 s t = common s t) := by
        show _ = _
        rw [Bool.eq_iff_iff, clash2_iff]
        exact ⟨fun q => q.2.2.2.2.2, fun q => ⟨HSO.out.symm, HTO.out.symm, HCD.out, hlo, hhi, q⟩⟩
      obtain ⟨c, hc⟩ : ∃ c, c = common s t := ⟨_, rfl⟩
      rw [← hc] at HCF HCC
      unfold stA at CNS
      rw [← HSO.out] at CNS
      clear hc hlo hhi hsm hlen
      go_wp2_with fail
      rw [← hwa]
      clear hwa
      refine (CNS.out).mono ?_
      rintro e w5 ⟨av, rfl, hav, hb5⟩
      have HAV := hid hav
      have HB5 := hid hb5
      clear hav hb5 p0 p1 p2 p3 p4 p5 p6 p7 q0 q4 q5 q7 x0 x1 x2 x3 x4 x5 x6 x7
      go_wp2_with fail
      refine (HCF.out av w5 HB5.out HAV.out).mono ?_
      rintro e w6 ⟨rfl, hb6⟩
      have HB6 := hid (bt HBA.out (bt HB5.out hb6))
      clear hb6
      cases c
      · have HN2 := hid (hN.out.next HS.out HTN.out fun _ => HCC.out)
        go_wp2
        go_roundw
        case rel => exact ⟨k + 1, by omega, by go_num, HN2, HB6⟩
        case measure => simp [intOf]; omega
      · have HV : Hid (r = true) := HR.out.trans (clash_at HS.out HTN.out HKN.out HCC.out)
        go_wp2
        go_ret
        exact ⟨by rw [HV.out]; try rfl, bt HB1.out (bt HB3.out HB6.out)⟩
    · have HV : Hid (r = false) := by
        show _ = _
        rw [HR.out]
        exact NoC.all (by have := hN.out; rwa [show k = l.length by have := HM.out; omega] at this)
      go_wp2
      go_ret
      exact ⟨by rw [HV.out]; try rfl, bt HB1.out (bt HB3.out hB.out)⟩

end Rg
end Go.Proofs.YtaeljmiklalpnaaGreatDoor
