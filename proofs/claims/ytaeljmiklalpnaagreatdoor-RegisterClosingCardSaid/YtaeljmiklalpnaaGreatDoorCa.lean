/-
  Contract of the program's addAlias.
-/
import Derived.Test.YtaeljmiklalpnaaGreatDoorCg
import Derived.StillTailTactics
import Derived.Deep.AppendLies
import Derived.Deep.RegionHeld3
namespace Go.Proofs.YtaeljmiklalpnaaGreatDoor
open Go.RowKit Go.ChangeMaps Gn
namespace Rg

set_option maxRecDepth 100000 in
set_option maxHeartbeats 2000000 in
theorem palias_any (base : Nat) (l : List St) (vs : List Value) (g cap n : Nat) (s : St) (c : Ch) (w : World) (h : Strs base w (.slice (some ⟨g, 0, none⟩) l.length cap) l vs) (hs : l[n]? = some s) (hsm : SmS s) (hcn : c.name.length ≤ 1000) (hno : calledB s c.name = false) (ht : Tb w) (hbase : base ≤ w.heap.size) :
    Calls Tryz.prog 50 #[.pointer (some ⟨g, n * 8, none⟩), chA c] w (ChgPost base w (.slice (some ⟨g, 0, none⟩) l.length cap) l n { s with al := s.al ++ [c.name] }) := by
  obtain ⟨u, hu⟩ := h.val hs
  obtain ⟨hgl, hc, hz⟩ := h.cell hs hu
  obtain ⟨i0, hi0, hz0, hz1, hz2⟩ := info_parts infoStr
  obtain ⟨w1, hw1⟩ : ∃ w1, w1 = w.alloc (.cells #[.int .i64 c.day, .int .i64 c.kind, .int .i64 c.street, .string (sB c.code), .string (sB c.town), .string (sB c.name), .int .i64 c.low, .int .i64 c.high, .int .i64 c.shift] 29) := ⟨_, rfl⟩
  have hb1 : Below w.heap.size w w1 := by rw [hw1]; exact b0 _ _
  have HB1 := hid hb1
  have HST := hid h
  have HS := hid hs
  have HU := hid hu
  have hbx : w1.heap[w.heap.size]? = some (.cells #[.int .i64 c.day, .int .i64 c.kind, .int .i64 c.street, .string (sB c.code), .string (sB c.town), .string (sB c.name), .int .i64 c.low, .int .i64 c.high, .int .i64 c.shift] 29 (0, 0)) := by rw [hw1]; exact heap_new _ _
  have HBX := hid hbx
  have b5 : w1.cell? ⟨w.heap.size, 5, none⟩ = some (.string (sB c.name)) := by rw [cell_at hbx]; rfl
  have hgz : w.heap.size < w1.heap.size := heap_lt hbx
  have hgw : g < w1.heap.size := by omega
  have hgl1 : l.length = l.length := rfl
  have e := fun j (x : Value) (hx : (stV s u)[j]? = some x) => (hb1.cell (p := (⟨g, n * 8 + j, none⟩ : Addr)) hgl).trans (hc j x hx)
  have e0 : w1.cell? ⟨g, n * 8, none⟩ = some (.string (sB s.code)) := e 0 _ rfl
  have e1 : w1.cell? ⟨g, n * 8 + 1, none⟩ = some (.string (sB s.town)) := e 1 _ rfl
  have e2 : w1.cell? ⟨g, n * 8 + 2, none⟩ = some (.string (sB s.name)) := e 2 _ rfl
  have e3 : w1.cell? ⟨g, n * 8 + 3, none⟩ = some u := e 3 _ rfl
  have e4 : w1.cell? ⟨g, n * 8 + 4, none⟩ = some (.int .i64 s.low) := e 4 _ rfl
  have e5 : w1.cell? ⟨g, n * 8 + 5, none⟩ = some (.int .i64 s.high) := e 5 _ rfl
  have e6 : w1.cell? ⟨g, n * 8 + 6, none⟩ = some (.int .i64 s.shift) := e 6 _ rfl
  have e7 : w1.cell? ⟨g, n * 8 + 7, none⟩ = some (.bool s.isOpen) := e 7 _ rfl
  have hal := IsW.of_own (h.als n s u hs hu)
  have hd1 : Below w1.heap.size w1 w1.drew := (Below.refl _ _).drew
  have CC := hid (pcalled_any s u c.name w1.drew (hal.on (bt hb1 hd1)) hsm (by omega) (ht.on (bt hb1 hd1)))
  rw [hno] at CC
  have CR := hid (fun u => preq_yes 4 u)
  have hfew := hsm.few
  have HD1 := hid hd1
  unfold stA at CC
  obtain ⟨cn, hcn2⟩ : ∃ t, t = sB c.name := ⟨_, rfl⟩
  have HCN := hid hcn2
  rw [← hcn2] at CC b5
  clear h hs hu hc hz hb1 hbx hal hd1 e hsm hno ht hgl1 hcn2
  unfold chA
  go_enter Tryz.func50, Tryz.ntmps50
  go_wp2_with fail
  rw [← hw1]
  clear hw1
  go_still_tail 5, (by kernel_rfl)
  change wpList _ _ _ _ _ w1.drew
  go_wp2_with fail
  refine (CC.out).mono ?_
  rintro e w2 ⟨rfl, hb2⟩
  have HB2 := hid (bt HD1.out hb2)
  clear hb2 e0 e1 e2 e4 e5 e6 e7
  go_wp2_with fail
  refine (CR.out _).mono ?_
  rintro e y1 ⟨rfl, rfl⟩
  have hS2 := HST.out.on (bt HB1.out HB2.out)
  have HS2 := hid hS2
  have k3 : w2.cell? ⟨g, n * 8 + 3, none⟩ = some u := (HB2.out.cell (p := (⟨g, n * 8 + 3, none⟩ : Addr)) hgw).trans e3
  have k5 : w2.cell? ⟨w.heap.size, 5, none⟩ = some (.string cn) := (HB2.out.cell (p := (⟨w.heap.size, 5, none⟩ : Addr)) hgz).trans b5
  have hd2 : Below w2.heap.size w2 w2.drew := (Below.refl _ _).drew
  have hS3 := HS2.out.on hd2
  have HS3 := hid hS3
  have ha3 := hS3.als n s u HS.out HU.out
  have hz3 : base ≤ w2.drew.heap.size := by have := HB1.out.size; have := HB2.out.size; have := hd2.size; omega
  have cnew := cell_new w2.drew (.string cn) 9
  have hgw2 : g < w2.heap.size := by have := HB2.out.size; omega
  obtain ⟨zg1, zg2⟩ : g < w2.drew.heap.size ∧ base ≤ w2.drew.heap.size := ⟨by have := hd2.size; omega, hz3⟩
  have HD2 := hid hd2
  clear hS2 hS3 e3 b5 hd2 hz3
  go_wp2_with fail
  obtain ⟨w3, hw3⟩ : ∃ x, x = w2.drew := ⟨_, rfl⟩
  refine wp_region_held_drew (S := fun w' => w'.cell? ⟨w.heap.size, 5, none⟩ = some (.string cn)) (by kernel_rfl) (by simpa using k5) (fun hHeld => ?_)
  have k3' : w3.cell? ⟨g, n * 8 + 3, none⟩ = some u := by rw [hw3]; simpa using k3
  rw [← hw3] at ha3 cnew zg1 zg2 HS3 HD2 hHeld ⊢
  clear hw3 k3 k5
  refine wpAnyH_take (i := 0) (oi := ⟨some 12, _, _, _, _, _⟩) (v := .pointer (some ⟨g, n * 8, none⟩)) rfl (by kernel_rfl) (by kernel_rfl) (by kernel_rfl) (fun _ _ _ h => h) (Or.inl ⟨by rfl, ?_⟩) hHeld ?_
  · intro u hu
    go_simp
  try simp only [Act.put, List.setIfInBounds_toArray, List.set_cons_zero, List.set_cons_succ]
  refine wpAnyH_take (i := 1) (oi := ⟨some 13, _, _, _, _, _⟩) (v := .pointer (some ⟨g, n * 8, none⟩)) rfl (by kernel_rfl) (by kernel_rfl) (by kernel_rfl) (fun _ _ _ h => h) (Or.inl ⟨by rfl, ?_⟩) hHeld ?_
  · intro u hu
    go_simp
  try simp only [Act.put, List.setIfInBounds_toArray, List.set_cons_zero, List.set_cons_succ]
  refine wpAnyH_take (i := 2) (oi := ⟨some 14, _, _, _, _, _⟩) (v := .pointer (some ⟨g, n * 8, none⟩)) rfl (by kernel_rfl) (by kernel_rfl) (by kernel_rfl) (fun _ _ _ h => h) (Or.inl ⟨by rfl, ?_⟩) hHeld ?_
  · intro u hu
    go_simp
  try simp only [Act.put, List.setIfInBounds_toArray, List.set_cons_zero, List.set_cons_succ]
  refine wpAnyH_take (i := 3) (oi := ⟨some 15, _, _, _, _, _⟩) (v := .pointer (some ⟨g, n * 8 + 3, none⟩)) rfl (by kernel_rfl) (by kernel_rfl) (by kernel_rfl) (fun _ _ _ h => h) (Or.inl ⟨by rfl, ?_⟩) hHeld ?_
  · intro u hu
    go_simp
  try simp only [Act.put, List.setIfInBounds_toArray, List.set_cons_zero, List.set_cons_succ]
  refine wpAnyH_take (i := 5) (oi := ⟨some 17, _, _, _, _, _⟩) (v := .pointer (some ⟨w.heap.size, 5, none⟩)) rfl (by kernel_rfl) (by kernel_rfl) (by kernel_rfl) (fun _ _ _ h => h) (Or.inl ⟨by rfl, ?_⟩) hHeld ?_
  · intro u hu
    go_simp
  try simp only [Act.put, List.setIfInBounds_toArray, List.set_cons_zero, List.set_cons_succ]
  refine wpAnyH_take (i := 6) (oi := ⟨some 18, _, _, _, _, _⟩) (v := .string cn) rfl (by kernel_rfl) (by kernel_rfl) (by kernel_rfl) (fun _ _ _ h => h) (Or.inl ⟨by rfl, ?_⟩) hHeld ?_
  · intro u hu
    go_simp
  try simp only [Act.put, List.setIfInBounds_toArray, List.set_cons_zero, List.set_cons_succ]
  have HAL : Hid ((w3.alloc (.cells #[.string cn] 9)).cell? ⟨w.heap.size, 5, none⟩ = some (.string cn)) := by
    show _ = _
    rw [World.cell?_alloc_some _ _ _ (by rw [hHeld]; rfl)]; exact hHeld
  have HAE : Hid ((w3.alloc (.cells #[.string cn] 9)).cell? ⟨g, n * 8 + 3, none⟩ = some u) := by
    show _ = _
    rw [World.cell?_alloc_some _ _ _ (by rw [k3']; rfl)]; exact k3'
  have HQ : Hid (∀ gg gc w4, w4.ownsRow base 9 1 (.slice (some ⟨gg, 0, none⟩) (s.al.length + 1) gc) (s.al.length + 1) (s.al.map sV ++ [.string cn]) → (w3.alloc (.cells #[.string cn] 9)).grownBy w4 u.ownBlock → (u.ownBlock = some gg ∨ gg = w3.heap.size + 1) →
      w4.cell? ⟨w.heap.size, 5, none⟩ = some (.string cn) ∧ w4.cell? ⟨g, n * 8 + 3, none⟩ = some u ∧ w4.frozen? ⟨g, n * 8 + 3, none⟩ = false ∧
      (w4.setCell ⟨g, n * 8 + 3, none⟩ (.slice (some ⟨gg, 0, none⟩) (s.al.length + 1) gc)).cell? ⟨w.heap.size, 5, none⟩ = some (.string cn) ∧ ChgPost base w (.slice (some ⟨g, 0, none⟩) l.length cap) l n { s with al := s.al ++ [c.name] } (.returned (.tuple #[])) (w4.setCell ⟨g, n * 8 + 3, none⟩ (.slice (some ⟨gg, 0, none⟩) (s.al.length + 1) gc))) := fun gg gc w4 hown4 hgrow hat => by
    have hown5 : w4.ownsRow base 9 1 (.slice (some ⟨gg, 0, none⟩) (s.al.length + 1) gc) (s.al.length + 1) (s.al.map sV ++ [sV c.name]) := by unfold sV; rw [← HCN.out]; exact hown4
    obtain ⟨p1, p2⟩ := HS3.out.alias HS.out HU.out hown5 hgrow hat
    have hr4 := ((HS3.out.row.alloc (.cells #[.string cn] 9)).kept hgrow (own_apart (HS3.out.row.alloc (.cells #[.string cn] 9)) (ha3.alloc (.cells #[.string cn] 9)) (by decide)))
    have hB3 := bt HB1.out (bt HB2.out HD2.out)
    have hx3 : w3.heap[w.heap.size]? = _ := ((bt HB2.out HD2.out).block _ (heap_lt HBX.out)).trans HBX.out
    have hx4 : w4.heap[w.heap.size]? = _ := ((Frm.of (base := base) (b0 w3 (.cells #[.string cn] 9))).trans (Frm.grown (ha3.alloc (.cells #[.string cn] 9)) (.inr rfl) hgrow)).keep hx3 (by decide)
    have hx5 : w4.cell? ⟨w.heap.size, 5, none⟩ = some (.string cn) := by rw [cell_at hx4, HCN.out]; rfl
    refine ⟨hx5, ?_, hr4.frozenAt _, ?_, ⟨_, rfl, p1, (Frm.of hB3).trans p2⟩⟩
    · have q := hr4.cells (g := g) rfl (n * 8 + 3) u ((cellsS_at HS.out HU.out 3 (by omega)).trans rfl)
      rw [addr_add, Nat.zero_add] at q; exact q
    · rw [World.cell?_setCell_far _ _ _ _ (by show g ≠ w.heap.size; omega)]; exact hx5
  refine wpAnyH_ready (rs := [4, 7]) (by kernel_rfl) (by simp) ?_
  refine AllReadyH.cons (o := ⟨some 16, _, _, _, _, _⟩) rfl (fun K hK => ?_) ?_
  · go_simp
    refine hK.out _ _ hHeld (fun hHeld => ?_)
    clear hK K
    try simp only [Act.put, List.setIfInBounds_toArray, List.set_cons_zero, List.set_cons_succ]
    refine wpAnyH_ready (rs := [7]) (by kernel_rfl) (by simp) ?_
    refine AllReadyH.cons (o := ⟨some 19, _, _, _, _, _⟩) rfl (fun K hK => ?_) AllReadyH.nil
    go_simp
    refine hK.out _ _ (HAL.out) (fun hHeld => ?_)
    clear hK K
    try simp only [Act.put, List.setIfInBounds_toArray, List.set_cons_zero, List.set_cons_succ]
    refine wpAnyH_ready (rs := [8]) (by kernel_rfl) (by simp) ?_
    refine AllReadyH.cons (o := ⟨some 20, _, _, _, _, _⟩) rfl (fun K hK => ?_) AllReadyH.nil
    refine step_append_lies _ rfl (.tmp 16) (.tmp 19) 42 rfl base 9 i0 (.string ⟨#[]⟩) 1 16 Tryz.underlying42 hi0 hz0 hz1 hz2 rfl (by decide) u s.al.length (s.al.map sV) rfl (ha3.alloc _) ⟨w3.heap.size, 0, none⟩ 1 1 [.string cn] rfl rfl cnew (by intro x hx; simp at hx; rw [hx]; rfl) (by omega) (by unfold maxLen; omega) (by omega) (by simp; omega) (w3.heap.size + 1) (by simp) ?_
    intro gg gc w4 hown4 hgrow hat hlt4
    obtain ⟨q1, q2, q3, q4⟩ := HQ.out gg gc w4 hown4 hgrow hat
    refine hK.out _ _ q1 (fun hHeld => ?_)
    clear hK K
    try simp only [Act.put, List.setIfInBounds_toArray, List.set_cons_zero, List.set_cons_succ]
    refine wpAnyH_take (i := 9) (oi := ⟨some 21, _, _, _, _, _⟩) (v := .pointer (some ⟨g, n * 8, none⟩)) rfl (by kernel_rfl) (by kernel_rfl) (by kernel_rfl) (fun _ _ _ h => h) (Or.inl ⟨by rfl, ?_⟩) hHeld ?_
    · intro u hu
      go_simp
    try simp only [Act.put, List.setIfInBounds_toArray, List.set_cons_zero, List.set_cons_succ]
    refine wpAnyH_take (i := 10) (oi := ⟨some 22, _, _, _, _, _⟩) (v := .pointer (some ⟨g, n * 8 + 3, none⟩)) rfl (by kernel_rfl) (by kernel_rfl) (by kernel_rfl) (fun _ _ _ h => h) (Or.inl ⟨by rfl, ?_⟩) hHeld ?_
    · intro u hu
      go_simp
    try simp only [Act.put, List.setIfInBounds_toArray, List.set_cons_zero, List.set_cons_succ]
    refine wpAnyH_ready (rs := [11]) (by kernel_rfl) (by simp) ?_
    refine AllReadyH.cons (o := ⟨none, _, _, _, _, _⟩) rfl (fun K hK => ?_) AllReadyH.nil
    go_simp
    refine hK.out _ _ q4.1 (fun hHeld => ?_)
    clear hK K
    try simp only [Act.put, List.setIfInBounds_toArray, List.set_cons_zero, List.set_cons_succ]
    refine wpAnyH_done (by kernel_rfl) ?_ _
    clear hHeld
    go_wp2
    go_end0
    exact q4.2
  · refine AllReadyH.cons (o := ⟨some 19, _, _, _, _, _⟩) rfl (fun K hK => ?_) AllReadyH.nil
    go_simp
    refine hK.out _ _ (HAL.out) (fun hHeld => ?_)
    clear hK K
    try simp only [Act.put, List.setIfInBounds_toArray, List.set_cons_zero, List.set_cons_succ]
    refine wpAnyH_ready (rs := [4]) (by kernel_rfl) (by simp) ?_
    refine AllReadyH.cons (o := ⟨some 16, _, _, _, _, _⟩) rfl (fun K hK => ?_) AllReadyH.nil
    have hae := HAE.out
    go_simp
    refine hK.out _ _ HAL.out (fun hHeld => ?_)
    clear hK K
    try simp only [Act.put, List.setIfInBounds_toArray, List.set_cons_zero, List.set_cons_succ]
    clear hae
    refine wpAnyH_ready (rs := [8]) (by kernel_rfl) (by simp) ?_
    refine AllReadyH.cons (o := ⟨some 20, _, _, _, _, _⟩) rfl (fun K hK => ?_) AllReadyH.nil
    refine step_append_lies _ rfl (.tmp 16) (.tmp 19) 42 rfl base 9 i0 (.string ⟨#[]⟩) 1 16 Tryz.underlying42 hi0 hz0 hz1 hz2 rfl (by decide) u s.al.length (s.al.map sV) rfl (ha3.alloc _) ⟨w3.heap.size, 0, none⟩ 1 1 [.string cn] rfl rfl cnew (by intro x hx; simp at hx; rw [hx]; rfl) (by omega) (by unfold maxLen; omega) (by omega) (by simp; omega) (w3.heap.size + 1) (by simp) ?_
    intro gg gc w4 hown4 hgrow hat hlt4
    obtain ⟨q1, q2, q3, q4⟩ := HQ.out gg gc w4 hown4 hgrow hat
    refine hK.out _ _ q1 (fun hHeld => ?_)
    clear hK K
    try simp only [Act.put, List.setIfInBounds_toArray, List.set_cons_zero, List.set_cons_succ]
    refine wpAnyH_take (i := 9) (oi := ⟨some 21, _, _, _, _, _⟩) (v := .pointer (some ⟨g, n * 8, none⟩)) rfl (by kernel_rfl) (by kernel_rfl) (by kernel_rfl) (fun _ _ _ h => h) (Or.inl ⟨by rfl, ?_⟩) hHeld ?_
    · intro u hu
      go_simp
    try simp only [Act.put, List.setIfInBounds_toArray, List.set_cons_zero, List.set_cons_succ]
    refine wpAnyH_take (i := 10) (oi := ⟨some 22, _, _, _, _, _⟩) (v := .pointer (some ⟨g, n * 8 + 3, none⟩)) rfl (by kernel_rfl) (by kernel_rfl) (by kernel_rfl) (fun _ _ _ h => h) (Or.inl ⟨by rfl, ?_⟩) hHeld ?_
    · intro u hu
      go_simp
    try simp only [Act.put, List.setIfInBounds_toArray, List.set_cons_zero, List.set_cons_succ]
    refine wpAnyH_ready (rs := [11]) (by kernel_rfl) (by simp) ?_
    refine AllReadyH.cons (o := ⟨none, _, _, _, _, _⟩) rfl (fun K hK => ?_) AllReadyH.nil
    go_simp
    refine hK.out _ _ q4.1 (fun hHeld => ?_)
    clear hK K
    try simp only [Act.put, List.setIfInBounds_toArray, List.set_cons_zero, List.set_cons_succ]
    refine wpAnyH_done (by kernel_rfl) ?_ _
    clear hHeld
    go_wp2
    go_end0
    exact q4.2

end Rg
end Go.Proofs.YtaeljmiklalpnaaGreatDoor
