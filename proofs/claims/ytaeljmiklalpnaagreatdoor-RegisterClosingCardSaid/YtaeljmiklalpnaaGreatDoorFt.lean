/-
  Contract of the program's fits, at a change that is formed.
-/
import Derived.Test.YtaeljmiklalpnaaGreatDoorNm
import Derived.Test.YtaeljmiklalpnaaGreatDoorKd
import Derived.Test.YtaeljmiklalpnaaGreatDoorCg
import Derived.Deep.RegionHeld3
namespace Go.Proofs.YtaeljmiklalpnaaGreatDoor
open Go.RowKit Go.ChangeMaps Gn
namespace Rg

/-- What the program asks of a field: whether it is used, zero, good. -/
def AndLaw (u f a : Int) : Prop := bits BinOp.and IntKind.i64 u f = a
def FieldOk (u f : Int) (z g : Bool) : Prop := ∃ a, AndLaw u f a ∧ ((a = 0 ∧ z = true) ∨ ((a != 0) = true ∧ ¬ a = 0 ∧ g = true))
def EmptyLaw (t : ByteArray) (z : Bool) : Prop := t.toList.isEmpty = z
set_option maxRecDepth 100000 in
set_option maxHeartbeats 16000000 in
theorem pfits_open (u : Int) (c : Ch) (z0 z1 z2 z3 z5 g1 g2 g3 : Bool) (w : World) (ht : Tb w) (h1 : 1 ≤ c.low) (h2 : c.low ≤ c.high) (h3 : c.high ≤ 9999)
    (hc : c.code.length ≤ 1000) (htw : c.town.length ≤ 1000) (hnm : c.name.length ≤ 1000)
    (e0 : (c.street == 0) = z0) (e5 : (c.shift == 0) = z5) (l1 : EmptyLaw (sB c.code) z1) (l2 : EmptyLaw (sB c.town) z2) (l3 : EmptyLaw (sB c.name) z3)
    (q1 : goodW 8 codeBs c.code = g1) (q2 : pnameB c.town = g2) (q3 : pnameB c.name = g3)
    (o0 : FieldOk u 1 z0 true) (o1 : FieldOk u 2 z1 g1) (o2 : FieldOk u 4 z2 g2) (o3 : FieldOk u 8 z3 g3) (o4 : FieldOk u 16 false true) (o5 : FieldOk u 32 z5 true) :
    Calls Tryz.prog 35 #[.int .i64 u, chA c] w fun e w' => e = .returned (.bool true) ∧ Below w.heap.size w w' := by
  obtain ⟨w1, hw1⟩ : ∃ w1, w1 = w.alloc (.cells #[.int .i64 c.day, .int .i64 c.kind, .int .i64 c.street, .string (sB c.code), .string (sB c.town), .string (sB c.name), .int .i64 c.low, .int .i64 c.high, .int .i64 c.shift] 29) := ⟨_, rfl⟩
  have hb1 : Below w.heap.size w w1 := by rw [hw1]; exact b0 _ _
  have hbx : w1.heap[w.heap.size]? = some (.cells #[.int .i64 c.day, .int .i64 c.kind, .int .i64 c.street, .string (sB c.code), .string (sB c.town), .string (sB c.name), .int .i64 c.low, .int .i64 c.high, .int .i64 c.shift] 29 (0, 0)) := by rw [hw1]; exact heap_new _ _
  have HT := hid (ht.on hb1)
  have C1 := hid (fun x => piscode_any c.code x (by omega))
  have C2 := hid (fun x (hx : Below w1.heap.size w1 x) => pisname_any c.town x (by omega) (HT.out.on hx))
  have C3 := hid (fun x (hx : Below w1.heap.size w1 x) => pisname_any c.name x (by omega) (HT.out.on hx))
  have C4 := hid (fun x => phouse_any c.low x)
  have C5 := hid (fun x => phouse_any c.high x)
  rw [q1] at C1
  rw [q2] at C2
  rw [q3] at C3
  rw [(houseB_iff _).2 (by omega)] at C4
  rw [(houseB_iff _).2 (by omega)] at C5
  have lz : (c.low == 0) = false := by simp; omega
  have lz2 : ¬ c.low = 0 := by omega
  have ll : decide (c.low ≤ c.high) = true := decide_eq_true h2
  obtain ⟨tc, htc⟩ : ∃ x, x = sB c.code := ⟨_, rfl⟩
  obtain ⟨tt, htt⟩ : ∃ x, x = sB c.town := ⟨_, rfl⟩
  obtain ⟨tn, htn⟩ : ∃ x, x = sB c.name := ⟨_, rfl⟩
  unfold chA
  rw [← htc] at l1 C1 hw1 hbx ⊢
  rw [← htt] at l2 C2 hw1 hbx ⊢
  rw [← htn] at l3 C3 hw1 hbx ⊢
  have SK : Hid (∀ x, Below w1.heap.size w1 x → x.cell? ⟨w.heap.size, 2, none⟩ = some (.int .i64 c.street) ∧ x.cell? ⟨w.heap.size, 3, none⟩ = some (.string tc) ∧ x.cell? ⟨w.heap.size, 4, none⟩ = some (.string tt) ∧ x.cell? ⟨w.heap.size, 5, none⟩ = some (.string tn) ∧ x.cell? ⟨w.heap.size, 6, none⟩ = some (.int .i64 c.low) ∧ x.cell? ⟨w.heap.size, 7, none⟩ = some (.int .i64 c.high) ∧ x.cell? ⟨w.heap.size, 8, none⟩ = some (.int .i64 c.shift)) := fun x hx => by
    have h := (hx.block _ (heap_lt hbx)).trans hbx
    refine ⟨?_, ?_, ?_, ?_, ?_, ?_, ?_⟩ <;> (rw [cell_at h]; rfl)
  have HB1 := hid hb1
  have HOK : Hid (∀ (N : Nat) (y : World), y.heap[N]? = some (.cells #[.int .i64 1, .bool z0, .bool true, .int .i64 2, .bool z1, .bool g1, .int .i64 4, .bool z2, .bool g2, .int .i64 8, .bool z3, .bool g3, .int .i64 16, .bool false, .bool true, .int .i64 32, .bool z5, .bool true] 86 (0, 0)) → ∀ k, k < 6 → ∃ f z g a, y.cell? ⟨N, k * 3, none⟩ = some (.int .i64 f) ∧ y.cell? ⟨N, k * 3 + 1, none⟩ = some (.bool z) ∧ y.cell? ⟨N, k * 3 + 2, none⟩ = some (.bool g) ∧ AndLaw u f a ∧ ((a = 0 ∧ z = true) ∨ ((a != 0) = true ∧ ¬ a = 0 ∧ g = true))) := fun N y hy k hk => by
    match k, hk with
    | 0, _ => obtain ⟨a, p, q⟩ := o0; exact ⟨_, _, _, a, (by rw [cell_at hy]; rfl), (by rw [cell_at hy]; rfl), (by rw [cell_at hy]; rfl), p, q⟩
    | 1, _ => obtain ⟨a, p, q⟩ := o1; exact ⟨_, _, _, a, (by rw [cell_at hy]; rfl), (by rw [cell_at hy]; rfl), (by rw [cell_at hy]; rfl), p, q⟩
    | 2, _ => obtain ⟨a, p, q⟩ := o2; exact ⟨_, _, _, a, (by rw [cell_at hy]; rfl), (by rw [cell_at hy]; rfl), (by rw [cell_at hy]; rfl), p, q⟩
    | 3, _ => obtain ⟨a, p, q⟩ := o3; exact ⟨_, _, _, a, (by rw [cell_at hy]; rfl), (by rw [cell_at hy]; rfl), (by rw [cell_at hy]; rfl), p, q⟩
    | 4, _ => obtain ⟨a, p, q⟩ := o4; exact ⟨_, _, _, a, (by rw [cell_at hy]; rfl), (by rw [cell_at hy]; rfl), (by rw [cell_at hy]; rfl), p, q⟩
    | 5, _ => obtain ⟨a, p, q⟩ := o5; exact ⟨_, _, _, a, (by rw [cell_at hy]; rfl), (by rw [cell_at hy]; rfl), (by rw [cell_at hy]; rfl), p, q⟩
  have L1 := hid l1
  have L2 := hid l2
  have L3 := hid l3
  clear hb1 hbx ht hc htw hnm l1 l2 l3 q1 q2 q3 o0 o1 o2 o3 o4 o5 htc htt htn h1 h3
  go_enter Tryz.func35, Tryz.ntmps35
  go_wp2_with fail
  rw [← hw1]
  clear hw1
  refine wp_region_held_drew (S := fun w' => w'.cell? ⟨w.heap.size, 2, none⟩ = some (.int .i64 c.street) ∧ w'.cell? ⟨w.heap.size, 3, none⟩ = some (.string tc) ∧ w'.cell? ⟨w.heap.size, 4, none⟩ = some (.string tt) ∧ w'.cell? ⟨w.heap.size, 5, none⟩ = some (.string tn) ∧ w'.cell? ⟨w.heap.size, 6, none⟩ = some (.int .i64 c.low) ∧ w'.cell? ⟨w.heap.size, 7, none⟩ = some (.int .i64 c.high) ∧ w'.cell? ⟨w.heap.size, 8, none⟩ = some (.int .i64 c.shift)) (by kernel_rfl) (SK.out _ (Below.refl _ _).drew) (fun hHeld => ?_)
  obtain ⟨wd, hwd⟩ : ∃ u, u = w1.drew := ⟨_, rfl⟩
  have bd : Below w1.heap.size w1 wd := by rw [hwd]; exact (Below.refl _ _).drew
  rw [← hwd] at hHeld ⊢
  clear hwd
  refine wpAnyH_take (i := 0) (oi := ⟨some 8, _, _, _, _, _⟩) (v := .pointer (some ⟨w.heap.size, 2, none⟩)) rfl (by kernel_rfl) (by kernel_rfl) (by kernel_rfl) (fun _ _ _ h => h) (Or.inl ⟨by rfl, ?_⟩) hHeld ?_
  · intro u hu
    go_simp
  try simp only [Act.put, List.setIfInBounds_toArray, List.set_cons_zero, List.set_cons_succ]
  refine wpAnyH_take (i := 1) (oi := ⟨some 9, _, _, _, _, _⟩) (v := .int .i64 c.street) rfl (by kernel_rfl) (by kernel_rfl) (by kernel_rfl) (fun _ _ _ h => h) (Or.inl ⟨by rfl, ?_⟩) hHeld ?_
  · intro u hu
    go_simp
  try simp only [Act.put, List.setIfInBounds_toArray, List.set_cons_zero, List.set_cons_succ]
  refine wpAnyH_take (i := 2) (oi := ⟨some 10, _, _, _, _, _⟩) (v := .bool z0) rfl (by kernel_rfl) (by kernel_rfl) (by kernel_rfl) (fun _ _ _ h => h) (Or.inl ⟨by rfl, ?_⟩) hHeld ?_
  · intro u hu
    go_simp
  try simp only [Act.put, List.setIfInBounds_toArray, List.set_cons_zero, List.set_cons_succ]
  refine wpAnyH_take (i := 3) (oi := ⟨some 11, _, _, _, _, _⟩) (v := .agg #[.int .i64 1, .bool z0, .bool true]) rfl (by kernel_rfl) (by kernel_rfl) (by kernel_rfl) (fun _ _ _ h => h) (Or.inl ⟨by rfl, ?_⟩) hHeld ?_
  · intro u hu
    go_simp
  try simp only [Act.put, List.setIfInBounds_toArray, List.set_cons_zero, List.set_cons_succ]
  refine wpAnyH_take (i := 4) (oi := ⟨some 12, _, _, _, _, _⟩) (v := .pointer (some ⟨w.heap.size, 3, none⟩)) rfl (by kernel_rfl) (by kernel_rfl) (by kernel_rfl) (fun _ _ _ h => h) (Or.inl ⟨by rfl, ?_⟩) hHeld ?_
  · intro u hu
    go_simp
  try simp only [Act.put, List.setIfInBounds_toArray, List.set_cons_zero, List.set_cons_succ]
  refine wpAnyH_take (i := 5) (oi := ⟨some 13, _, _, _, _, _⟩) (v := .string tc) rfl (by kernel_rfl) (by kernel_rfl) (by kernel_rfl) (fun _ _ _ h => h) (Or.inl ⟨by rfl, ?_⟩) hHeld ?_
  · intro u hu
    go_simp
  try simp only [Act.put, List.setIfInBounds_toArray, List.set_cons_zero, List.set_cons_succ]
  have lw := L1.out
  unfold EmptyLaw at lw
  refine wpAnyH_take (i := 6) (oi := ⟨some 14, _, _, _, _, _⟩) (v := .bool z1) rfl (by kernel_rfl) (by kernel_rfl) (by kernel_rfl) (fun _ _ _ h => h) (Or.inl ⟨by rfl, ?_⟩) hHeld ?_
  · intro u hu
    go_simp
  try simp only [Act.put, List.setIfInBounds_toArray, List.set_cons_zero, List.set_cons_succ]
  clear lw
  refine wpAnyH_take (i := 7) (oi := ⟨some 15, _, _, _, _, _⟩) (v := .pointer (some ⟨w.heap.size, 3, none⟩)) rfl (by kernel_rfl) (by kernel_rfl) (by kernel_rfl) (fun _ _ _ h => h) (Or.inl ⟨by rfl, ?_⟩) hHeld ?_
  · intro u hu
    go_simp
  try simp only [Act.put, List.setIfInBounds_toArray, List.set_cons_zero, List.set_cons_succ]
  refine wpAnyH_take (i := 8) (oi := ⟨some 16, _, _, _, _, _⟩) (v := .string tc) rfl (by kernel_rfl) (by kernel_rfl) (by kernel_rfl) (fun _ _ _ h => h) (Or.inl ⟨by rfl, ?_⟩) hHeld ?_
  · intro u hu
    go_simp
  try simp only [Act.put, List.setIfInBounds_toArray, List.set_cons_zero, List.set_cons_succ]
  refine wpAnyH_take (i := 11) (oi := ⟨some 19, _, _, _, _, _⟩) (v := .pointer (some ⟨w.heap.size, 4, none⟩)) rfl (by kernel_rfl) (by kernel_rfl) (by kernel_rfl) (fun _ _ _ h => h) (Or.inl ⟨by rfl, ?_⟩) hHeld ?_
  · intro u hu
    go_simp
  try simp only [Act.put, List.setIfInBounds_toArray, List.set_cons_zero, List.set_cons_succ]
  refine wpAnyH_take (i := 12) (oi := ⟨some 20, _, _, _, _, _⟩) (v := .string tt) rfl (by kernel_rfl) (by kernel_rfl) (by kernel_rfl) (fun _ _ _ h => h) (Or.inl ⟨by rfl, ?_⟩) hHeld ?_
  · intro u hu
    go_simp
  try simp only [Act.put, List.setIfInBounds_toArray, List.set_cons_zero, List.set_cons_succ]
  have lw := L2.out
  unfold EmptyLaw at lw
  refine wpAnyH_take (i := 13) (oi := ⟨some 21, _, _, _, _, _⟩) (v := .bool z2) rfl (by kernel_rfl) (by kernel_rfl) (by kernel_rfl) (fun _ _ _ h => h) (Or.inl ⟨by rfl, ?_⟩) hHeld ?_
  · intro u hu
    go_simp
  try simp only [Act.put, List.setIfInBounds_toArray, List.set_cons_zero, List.set_cons_succ]
  clear lw
  refine wpAnyH_take (i := 14) (oi := ⟨some 22, _, _, _, _, _⟩) (v := .pointer (some ⟨w.heap.size, 4, none⟩)) rfl (by kernel_rfl) (by kernel_rfl) (by kernel_rfl) (fun _ _ _ h => h) (Or.inl ⟨by rfl, ?_⟩) hHeld ?_
  · intro u hu
    go_simp
  try simp only [Act.put, List.setIfInBounds_toArray, List.set_cons_zero, List.set_cons_succ]
  refine wpAnyH_take (i := 15) (oi := ⟨some 23, _, _, _, _, _⟩) (v := .string tt) rfl (by kernel_rfl) (by kernel_rfl) (by kernel_rfl) (fun _ _ _ h => h) (Or.inl ⟨by rfl, ?_⟩) hHeld ?_
  · intro u hu
    go_simp
  try simp only [Act.put, List.setIfInBounds_toArray, List.set_cons_zero, List.set_cons_succ]
  refine wpAnyH_take (i := 18) (oi := ⟨some 26, _, _, _, _, _⟩) (v := .pointer (some ⟨w.heap.size, 5, none⟩)) rfl (by kernel_rfl) (by kernel_rfl) (by kernel_rfl) (fun _ _ _ h => h) (Or.inl ⟨by rfl, ?_⟩) hHeld ?_
  · intro u hu
    go_simp
  try simp only [Act.put, List.setIfInBounds_toArray, List.set_cons_zero, List.set_cons_succ]
  refine wpAnyH_take (i := 19) (oi := ⟨some 27, _, _, _, _, _⟩) (v := .string tn) rfl (by kernel_rfl) (by kernel_rfl) (by kernel_rfl) (fun _ _ _ h => h) (Or.inl ⟨by rfl, ?_⟩) hHeld ?_
  · intro u hu
    go_simp
  try simp only [Act.put, List.setIfInBounds_toArray, List.set_cons_zero, List.set_cons_succ]
  have lw := L3.out
  unfold EmptyLaw at lw
  refine wpAnyH_take (i := 20) (oi := ⟨some 28, _, _, _, _, _⟩) (v := .bool z3) rfl (by kernel_rfl) (by kernel_rfl) (by kernel_rfl) (fun _ _ _ h => h) (Or.inl ⟨by rfl, ?_⟩) hHeld ?_
  · intro u hu
    go_simp
  try simp only [Act.put, List.setIfInBounds_toArray, List.set_cons_zero, List.set_cons_succ]
  clear lw
  refine wpAnyH_take (i := 21) (oi := ⟨some 29, _, _, _, _, _⟩) (v := .pointer (some ⟨w.heap.size, 5, none⟩)) rfl (by kernel_rfl) (by kernel_rfl) (by kernel_rfl) (fun _ _ _ h => h) (Or.inl ⟨by rfl, ?_⟩) hHeld ?_
  · intro u hu
    go_simp
  try simp only [Act.put, List.setIfInBounds_toArray, List.set_cons_zero, List.set_cons_succ]
  refine wpAnyH_take (i := 22) (oi := ⟨some 30, _, _, _, _, _⟩) (v := .string tn) rfl (by kernel_rfl) (by kernel_rfl) (by kernel_rfl) (fun _ _ _ h => h) (Or.inl ⟨by rfl, ?_⟩) hHeld ?_
  · intro u hu
    go_simp
  try simp only [Act.put, List.setIfInBounds_toArray, List.set_cons_zero, List.set_cons_succ]
  refine wpAnyH_take (i := 25) (oi := ⟨some 33, _, _, _, _, _⟩) (v := .pointer (some ⟨w.heap.size, 6, none⟩)) rfl (by kernel_rfl) (by kernel_rfl) (by kernel_rfl) (fun _ _ _ h => h) (Or.inl ⟨by rfl, ?_⟩) hHeld ?_
  · intro u hu
    go_simp
  try simp only [Act.put, List.setIfInBounds_toArray, List.set_cons_zero, List.set_cons_succ]
  refine wpAnyH_take (i := 26) (oi := ⟨some 34, _, _, _, _, _⟩) (v := .int .i64 c.low) rfl (by kernel_rfl) (by kernel_rfl) (by kernel_rfl) (fun _ _ _ h => h) (Or.inl ⟨by rfl, ?_⟩) hHeld ?_
  · intro u hu
    go_simp
  try simp only [Act.put, List.setIfInBounds_toArray, List.set_cons_zero, List.set_cons_succ]
  refine wpAnyH_take (i := 27) (oi := ⟨some 35, _, _, _, _, _⟩) (v := .bool false) rfl (by kernel_rfl) (by kernel_rfl) (by kernel_rfl) (fun _ _ _ h => h) (Or.inl ⟨by rfl, ?_⟩) hHeld ?_
  · intro u hu
    go_simp
  try simp only [Act.put, List.setIfInBounds_toArray, List.set_cons_zero, List.set_cons_succ]
  refine wpAnyH_take (i := 55) (oi := ⟨some 63, _, _, _, _, _⟩) (v := .int .i64 0) rfl (by kernel_rfl) (by kernel_rfl) (by kernel_rfl) (fun _ _ _ h => h) (Or.inl ⟨by rfl, ?_⟩) hHeld ?_
  · intro u hu
    go_simp
  try simp only [Act.put, List.setIfInBounds_toArray, List.set_cons_zero, List.set_cons_succ]
  refine wpAnyH_take (i := 33) (oi := ⟨some 41, _, _, _, _, _⟩) (v := .pointer (some ⟨w.heap.size, 6, none⟩)) rfl (by kernel_rfl) (by kernel_rfl) (by kernel_rfl) (fun _ _ _ h => h) (Or.inl ⟨by rfl, ?_⟩) hHeld ?_
  · intro u hu
    go_simp
  try simp only [Act.put, List.setIfInBounds_toArray, List.set_cons_zero, List.set_cons_succ]
  refine wpAnyH_take (i := 34) (oi := ⟨some 42, _, _, _, _, _⟩) (v := .int .i64 c.low) rfl (by kernel_rfl) (by kernel_rfl) (by kernel_rfl) (fun _ _ _ h => h) (Or.inl ⟨by rfl, ?_⟩) hHeld ?_
  · intro u hu
    go_simp
  try simp only [Act.put, List.setIfInBounds_toArray, List.set_cons_zero, List.set_cons_succ]
  refine wpAnyH_take (i := 49) (oi := ⟨some 57, _, _, _, _, _⟩) (v := .pointer (some ⟨w.heap.size, 8, none⟩)) rfl (by kernel_rfl) (by kernel_rfl) (by kernel_rfl) (fun _ _ _ h => h) (Or.inl ⟨by rfl, ?_⟩) hHeld ?_
  · intro u hu
    go_simp
  try simp only [Act.put, List.setIfInBounds_toArray, List.set_cons_zero, List.set_cons_succ]
  refine wpAnyH_take (i := 50) (oi := ⟨some 58, _, _, _, _, _⟩) (v := .int .i64 c.shift) rfl (by kernel_rfl) (by kernel_rfl) (by kernel_rfl) (fun _ _ _ h => h) (Or.inl ⟨by rfl, ?_⟩) hHeld ?_
  · intro u hu
    go_simp
  try simp only [Act.put, List.setIfInBounds_toArray, List.set_cons_zero, List.set_cons_succ]
  refine wpAnyH_take (i := 51) (oi := ⟨some 59, _, _, _, _, _⟩) (v := .bool z5) rfl (by kernel_rfl) (by kernel_rfl) (by kernel_rfl) (fun _ _ _ h => h) (Or.inl ⟨by rfl, ?_⟩) hHeld ?_
  · intro u hu
    go_simp
  try simp only [Act.put, List.setIfInBounds_toArray, List.set_cons_zero, List.set_cons_succ]
  refine wpAnyH_take (i := 52) (oi := ⟨some 60, _, _, _, _, _⟩) (v := .agg #[.int .i64 32, .bool z5, .bool true]) rfl (by kernel_rfl) (by kernel_rfl) (by kernel_rfl) (fun _ _ _ h => h) (Or.inl ⟨by rfl, ?_⟩) hHeld ?_
  · intro u hu
    go_simp
  try simp only [Act.put, List.setIfInBounds_toArray, List.set_cons_zero, List.set_cons_succ]
  refine wpAnyH_ready (rs := [9]) (by kernel_rfl) (by simp) ?_
  refine AllReadyH.cons (o := ⟨some 17, _, _, _, _, _⟩) rfl (fun K hK => ?_) AllReadyH.nil
  go_simp
  go_at_call 52
  refine (C1.out _).mono ?_
  rintro e wa ⟨rfl, hbq⟩
  have bwa : Below w1.heap.size w1 wa := bt bd hbq
  clear hbq
  refine hK.out _ _ (SK.out _ bwa) (fun hHeld => ?_)
  clear hK K
  try simp only [Act.put, List.setIfInBounds_toArray, List.set_cons_zero, List.set_cons_succ]
  refine wpAnyH_take (i := 10) (oi := ⟨some 18, _, _, _, _, _⟩) (v := .agg #[.int .i64 2, .bool z1, .bool g1]) rfl (by kernel_rfl) (by kernel_rfl) (by kernel_rfl) (fun _ _ _ h => h) (Or.inl ⟨by rfl, ?_⟩) hHeld ?_
  · intro u hu
    go_simp
  try simp only [Act.put, List.setIfInBounds_toArray, List.set_cons_zero, List.set_cons_succ]
  refine wpAnyH_ready (rs := [16]) (by kernel_rfl) (by simp) ?_
  refine AllReadyH.cons (o := ⟨some 24, _, _, _, _, _⟩) rfl (fun K hK => ?_) AllReadyH.nil
  go_simp
  go_at_call 53
  refine (C2.out _ bwa).mono ?_
  rintro e wb ⟨rfl, hbq⟩
  have bwb : Below w1.heap.size w1 wb := bt bwa hbq
  clear hbq
  refine hK.out _ _ (SK.out _ bwb) (fun hHeld => ?_)
  clear hK K
  try simp only [Act.put, List.setIfInBounds_toArray, List.set_cons_zero, List.set_cons_succ]
  refine wpAnyH_take (i := 17) (oi := ⟨some 25, _, _, _, _, _⟩) (v := .agg #[.int .i64 4, .bool z2, .bool g2]) rfl (by kernel_rfl) (by kernel_rfl) (by kernel_rfl) (fun _ _ _ h => h) (Or.inl ⟨by rfl, ?_⟩) hHeld ?_
  · intro u hu
    go_simp
  try simp only [Act.put, List.setIfInBounds_toArray, List.set_cons_zero, List.set_cons_succ]
  refine wpAnyH_ready (rs := [23]) (by kernel_rfl) (by simp) ?_
  refine AllReadyH.cons (o := ⟨some 31, _, _, _, _, _⟩) rfl (fun K hK => ?_) AllReadyH.nil
  go_simp
  go_at_call 53
  refine (C3.out _ bwb).mono ?_
  rintro e wc2 ⟨rfl, hbq⟩
  have bwc2 : Below w1.heap.size w1 wc2 := bt bwb hbq
  clear hbq
  refine hK.out _ _ (SK.out _ bwc2) (fun hHeld => ?_)
  clear hK K
  try simp only [Act.put, List.setIfInBounds_toArray, List.set_cons_zero, List.set_cons_succ]
  refine wpAnyH_take (i := 24) (oi := ⟨some 32, _, _, _, _, _⟩) (v := .agg #[.int .i64 8, .bool z3, .bool g3]) rfl (by kernel_rfl) (by kernel_rfl) (by kernel_rfl) (fun _ _ _ h => h) (Or.inl ⟨by rfl, ?_⟩) hHeld ?_
  · intro u hu
    go_simp
  try simp only [Act.put, List.setIfInBounds_toArray, List.set_cons_zero, List.set_cons_succ]
  refine wpAnyH_take (i := 28) (oi := ⟨some 36, _, _, _, _, _⟩) (v := .bool false) rfl (by kernel_rfl) (by kernel_rfl) (by kernel_rfl) (fun _ _ _ h => h) (Or.inl ⟨by rfl, ?_⟩) hHeld ?_
  · intro u hu
    go_simp
  try simp only [Act.put, List.setIfInBounds_toArray, List.set_cons_zero, List.set_cons_succ]
  refine wpAnyH_take (i := 29) (oi := ⟨some 37, _, _, _, _, _⟩) (v := undef) rfl (by kernel_rfl) (by kernel_rfl) (by kernel_rfl) (fun _ _ _ h => h) (Or.inr ⟨by rfl, rfl⟩) hHeld ?_
  try simp only [Act.put, List.setIfInBounds_toArray, List.set_cons_zero, List.set_cons_succ]
  refine wpAnyH_take (i := 30) (oi := ⟨some 38, _, _, _, _, _⟩) (v := undef) rfl (by kernel_rfl) (by kernel_rfl) (by kernel_rfl) (fun _ _ _ h => h) (Or.inr ⟨by rfl, rfl⟩) hHeld ?_
  try simp only [Act.put, List.setIfInBounds_toArray, List.set_cons_zero, List.set_cons_succ]
  refine wpAnyH_take (i := 31) (oi := ⟨some 39, _, _, _, _, _⟩) (v := undef) rfl (by kernel_rfl) (by kernel_rfl) (by kernel_rfl) (fun _ _ _ h => h) (Or.inr ⟨by rfl, rfl⟩) hHeld ?_
  try simp only [Act.put, List.setIfInBounds_toArray, List.set_cons_zero, List.set_cons_succ]
  refine wpAnyH_take (i := 32) (oi := ⟨some 40, _, _, _, _, _⟩) (v := .bool false) rfl (by kernel_rfl) (by kernel_rfl) (by kernel_rfl) (fun _ _ _ h => h) (Or.inl ⟨by rfl, ?_⟩) hHeld ?_
  · intro u hu
    go_simp
  try simp only [Act.put, List.setIfInBounds_toArray, List.set_cons_zero, List.set_cons_succ]
  refine wpAnyH_ready (rs := [35]) (by kernel_rfl) (by simp) ?_
  refine AllReadyH.cons (o := ⟨some 43, _, _, _, _, _⟩) rfl (fun K hK => ?_) AllReadyH.nil
  go_simp
  go_at_call 54
  refine (C4.out _).mono ?_
  rintro e y1 ⟨rfl, rfl⟩
  refine hK.out _ _ hHeld (fun hHeld => ?_)
  clear hK K
  try simp only [Act.put, List.setIfInBounds_toArray, List.set_cons_zero, List.set_cons_succ]
  refine wpAnyH_take (i := 36) (oi := ⟨some 44, _, _, _, _, _⟩) (v := .bool true) rfl (by kernel_rfl) (by kernel_rfl) (by kernel_rfl) (fun _ _ _ h => h) (Or.inl ⟨by rfl, ?_⟩) hHeld ?_
  · intro u hu
    go_simp
  try simp only [Act.put, List.setIfInBounds_toArray, List.set_cons_zero, List.set_cons_succ]
  refine wpAnyH_take (i := 37) (oi := ⟨some 45, _, _, _, _, _⟩) (v := .pointer (some ⟨w.heap.size, 7, none⟩)) rfl (by kernel_rfl) (by kernel_rfl) (by kernel_rfl) (fun _ _ _ h => h) (Or.inl ⟨by rfl, ?_⟩) hHeld ?_
  · intro u hu
    go_simp
  try simp only [Act.put, List.setIfInBounds_toArray, List.set_cons_zero, List.set_cons_succ]
  refine wpAnyH_take (i := 38) (oi := ⟨some 46, _, _, _, _, _⟩) (v := .int .i64 c.high) rfl (by kernel_rfl) (by kernel_rfl) (by kernel_rfl) (fun _ _ _ h => h) (Or.inl ⟨by rfl, ?_⟩) hHeld ?_
  · intro u hu
    go_simp
  try simp only [Act.put, List.setIfInBounds_toArray, List.set_cons_zero, List.set_cons_succ]
  refine wpAnyH_ready (rs := [39]) (by kernel_rfl) (by simp) ?_
  refine AllReadyH.cons (o := ⟨some 47, _, _, _, _, _⟩) rfl (fun K hK => ?_) AllReadyH.nil
  go_simp
  go_at_call 54
  refine (C5.out _).mono ?_
  rintro e y1 ⟨rfl, rfl⟩
  refine hK.out _ _ hHeld (fun hHeld => ?_)
  clear hK K
  try simp only [Act.put, List.setIfInBounds_toArray, List.set_cons_zero, List.set_cons_succ]
  refine wpAnyH_take (i := 40) (oi := ⟨some 48, _, _, _, _, _⟩) (v := .bool true) rfl (by kernel_rfl) (by kernel_rfl) (by kernel_rfl) (fun _ _ _ h => h) (Or.inl ⟨by rfl, ?_⟩) hHeld ?_
  · intro u hu
    go_simp
  try simp only [Act.put, List.setIfInBounds_toArray, List.set_cons_zero, List.set_cons_succ]
  refine wpAnyH_take (i := 41) (oi := ⟨some 49, _, _, _, _, _⟩) (v := .bool true) rfl (by kernel_rfl) (by kernel_rfl) (by kernel_rfl) (fun _ _ _ h => h) (Or.inl ⟨by rfl, ?_⟩) hHeld ?_
  · intro u hu
    go_simp
  try simp only [Act.put, List.setIfInBounds_toArray, List.set_cons_zero, List.set_cons_succ]
  refine wpAnyH_take (i := 42) (oi := ⟨some 50, _, _, _, _, _⟩) (v := .pointer (some ⟨w.heap.size, 6, none⟩)) rfl (by kernel_rfl) (by kernel_rfl) (by kernel_rfl) (fun _ _ _ h => h) (Or.inl ⟨by rfl, ?_⟩) hHeld ?_
  · intro u hu
    go_simp
  try simp only [Act.put, List.setIfInBounds_toArray, List.set_cons_zero, List.set_cons_succ]
  refine wpAnyH_take (i := 43) (oi := ⟨some 51, _, _, _, _, _⟩) (v := .int .i64 c.low) rfl (by kernel_rfl) (by kernel_rfl) (by kernel_rfl) (fun _ _ _ h => h) (Or.inl ⟨by rfl, ?_⟩) hHeld ?_
  · intro u hu
    go_simp
  try simp only [Act.put, List.setIfInBounds_toArray, List.set_cons_zero, List.set_cons_succ]
  refine wpAnyH_take (i := 44) (oi := ⟨some 52, _, _, _, _, _⟩) (v := .pointer (some ⟨w.heap.size, 7, none⟩)) rfl (by kernel_rfl) (by kernel_rfl) (by kernel_rfl) (fun _ _ _ h => h) (Or.inl ⟨by rfl, ?_⟩) hHeld ?_
  · intro u hu
    go_simp
  try simp only [Act.put, List.setIfInBounds_toArray, List.set_cons_zero, List.set_cons_succ]
  refine wpAnyH_take (i := 45) (oi := ⟨some 53, _, _, _, _, _⟩) (v := .int .i64 c.high) rfl (by kernel_rfl) (by kernel_rfl) (by kernel_rfl) (fun _ _ _ h => h) (Or.inl ⟨by rfl, ?_⟩) hHeld ?_
  · intro u hu
    go_simp
  try simp only [Act.put, List.setIfInBounds_toArray, List.set_cons_zero, List.set_cons_succ]
  refine wpAnyH_take (i := 46) (oi := ⟨some 54, _, _, _, _, _⟩) (v := .bool true) rfl (by kernel_rfl) (by kernel_rfl) (by kernel_rfl) (fun _ _ _ h => h) (Or.inl ⟨by rfl, ?_⟩) hHeld ?_
  · intro u hu
    go_simp
  try simp only [Act.put, List.setIfInBounds_toArray, List.set_cons_zero, List.set_cons_succ]
  refine wpAnyH_take (i := 47) (oi := ⟨some 55, _, _, _, _, _⟩) (v := .bool true) rfl (by kernel_rfl) (by kernel_rfl) (by kernel_rfl) (fun _ _ _ h => h) (Or.inl ⟨by rfl, ?_⟩) hHeld ?_
  · intro u hu
    go_simp
  try simp only [Act.put, List.setIfInBounds_toArray, List.set_cons_zero, List.set_cons_succ]
  refine wpAnyH_take (i := 48) (oi := ⟨some 56, _, _, _, _, _⟩) (v := .agg #[.int .i64 16, .bool false, .bool true]) rfl (by kernel_rfl) (by kernel_rfl) (by kernel_rfl) (fun _ _ _ h => h) (Or.inl ⟨by rfl, ?_⟩) hHeld ?_
  · intro u hu
    go_simp
  try simp only [Act.put, List.setIfInBounds_toArray, List.set_cons_zero, List.set_cons_succ]
  obtain ⟨wn, hwn⟩ : ∃ u, u = wc2.alloc (.cells #[.int .i64 1, .bool z0, .bool true, .int .i64 2, .bool z1, .bool g1, .int .i64 4, .bool z2, .bool g2, .int .i64 8, .bool z3, .bool g3, .int .i64 16, .bool false, .bool true, .int .i64 32, .bool z5, .bool true] 86) := ⟨_, rfl⟩
  obtain ⟨N, hN⟩ : ∃ N, N = wc2.heap.size := ⟨_, rfl⟩
  have HN : Hid (wn.heap[N]? = some (.cells #[.int .i64 1, .bool z0, .bool true, .int .i64 2, .bool z1, .bool g1, .int .i64 4, .bool z2, .bool g2, .int .i64 8, .bool z3, .bool g3, .int .i64 16, .bool false, .bool true, .int .i64 32, .bool z5, .bool true] 86 (0, 0))) := by show _ = _; rw [hwn, hN]; exact heap_new _ _
  have BN : Hid (Below w1.heap.size w1 wn) := by show Below _ _ _; rw [hwn]; exact bwc2.alloc bwc2.size _
  refine wpAnyH_ready (rs := [53]) (by kernel_rfl) (by simp) ?_
  refine AllReadyH.cons (o := ⟨some 61, _, _, _, _, _⟩) rfl (fun K hK => ?_) AllReadyH.nil
  go_simp
  rw [← hwn, ← hN]
  refine hK.out _ _ (SK.out _ BN.out) (fun hHeld => ?_)
  clear hK K
  try simp only [Act.put, List.setIfInBounds_toArray, List.set_cons_zero, List.set_cons_succ]
  clear hwn hN
  refine wpAnyH_take (i := 54) (oi := ⟨some 62, _, _, _, _, _⟩) (v := .int .i64 6) rfl (by kernel_rfl) (by kernel_rfl) (by kernel_rfl) (fun _ _ _ h => h) (Or.inl ⟨by rfl, ?_⟩) hHeld ?_
  · intro u hu
    go_simp
  try simp only [Act.put, List.setIfInBounds_toArray, List.set_cons_zero, List.set_cons_succ]
  refine wpAnyH_done (by kernel_rfl) ?_ _
  clear hHeld
  go_wp2_with fail
  go_loopw [6, 7, 63] (fun _ _ i wr => ∃ k : Nat, k ≤ 6 ∧ i = .int .i64 k ∧ Hid (Below wn.heap.size wn wr)) (fun _ _ i _ => 6 - (intOf i).toNat)
  case atStart => exact ⟨0, by omega, rfl, Below.refl _ _⟩
  case round =>
    obtain ⟨k, hk, rfl, hB⟩ := hrel
    by_cases hlt : k < 6
    · have hNr : wr.heap[N]? = _ := (hB.out.block _ (heap_lt HN.out)).trans HN.out
      obtain ⟨f, z, g, a, y0, y1, y2, hand, hcase⟩ := HOK.out N wr hNr k hlt
      have hk0 : 0 ≤ (k : Int) := by omega
      have hk1 : (k : Int) < 6 := by omega
      have HB2 : Hid (Below wn.heap.size wn (wr.alloc (.cells #[.int .i64 f, .bool z, .bool g] 86))) := hB.out.alloc hB.out.size _
      unfold AndLaw at hand
      clear hNr
      rcases hcase with ⟨rfl, rfl⟩ | ⟨ha1, ha2, rfl⟩
      all_goals
        go_wp2
        go_roundw
        case rel => exact ⟨k + 1, by omega, by go_num, HB2⟩
        case measure => simp [intOf]; omega
    · go_wp2
      go_ret
      exact ⟨rfl, bt HB1.out (bt BN.out hB.out)⟩

end Rg
end Go.Proofs.YtaeljmiklalpnaaGreatDoor
