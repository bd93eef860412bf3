/-
  The laws' head: the first half.
-/
import Derived.Test.YtaeljmiklalpnaaGreatDoorQl
import Derived.Test.YtaeljmiklalpnaaGreatDoorM7
namespace Go.Proofs.YtaeljmiklalpnaaGreatDoor
open Go.RowKit Go.ChangeMaps Gn
namespace Rg

theorem one_chs (r : List Ch) : ∀ u ∈ cellsC r, u.oneCell' = true := fun u hu => by
  obtain ⟨c, _, h⟩ := List.mem_flatMap.1 hu
  simp only [chV, List.mem_cons, List.not_mem_nil, or_false] at h
  rcases h with rfl | rfl | rfl | rfl | rfl | rfl | rfl | rfl | rfl <;> rfl
def folB (r : List Ch) (st : Nat) : Bool := (List.range (st + 1)).all fun i => (match r[i]?, r[i + 1]? with | some c, some d => decide (i + 1 ≤ st → c.day ≤ d.day) | _, _ => true) && (match r[i]? with | some c => formedB c && decide (i < st → errR (runL (r.take i)) c = 0) | none => true)
theorem fol_of {r : List Ch} {st : Nat} {E at' : Int} (h : folB r st = true) (hle : st ≤ r.length) (hfew : st ≤ 60)
    (hout : (st = r.length ∧ E = 0 ∧ at' = -1) ∨ (st < r.length ∧ st < 60 ∧ at' = st ∧ ∃ c, r[st]? = some c ∧ ((E = 3 ∧ c.kind ≠ 1 ∧ hasB (runL (r.take st)) c.street = false) ∨ (E = 51 ∧ c.kind = 1 ∧ clashAt (stp (runL (r.take st)) c) (trg (runL (r.take st)) c) = true)))) : Fol r st E at' := by
  unfold folB at h
  rw [List.all_eq_true] at h
  refine ⟨hle, hfew, fun i c d hi hc hd => ?_, fun i c hi hc => ?_, fun i c hi hc => ?_, hout⟩
  · have q := h i (List.mem_range.2 (by omega))
    rw [hc, hd, Bool.and_eq_true] at q
    exact of_decide_eq_true q.1 hi
  · have q := h i (List.mem_range.2 (by omega))
    rw [hc, Bool.and_eq_true, Bool.and_eq_true] at q
    exact (formed_iff c).1 q.2.1
  · have q := h i (List.mem_range.2 (by omega))
    rw [hc, Bool.and_eq_true, Bool.and_eq_true] at q
    exact (ok_iff _ _).1 (of_decide_eq_true q.2.2 hi)
theorem fol_clash : Fol (exC 120) 4 51 4 := fol_of (by decide +kernel) (by decide) (by decide) (Or.inr ⟨by decide, by decide, rfl, _, rfl, Or.inr ⟨rfl, rfl, by decide +kernel⟩⟩)
theorem fol_e : Fol exE 0 3 0 := fol_of (by decide +kernel) (by decide) (by decide) (Or.inr ⟨by decide, by decide, rfl, _, rfl, Or.inl ⟨rfl, by decide, by decide +kernel⟩⟩)
theorem infoCh : (Tryz.prog.info? 29).map (fun i => (i.zero, i.size, i.bytes)) = some (some (.agg #[.int .i64 0, .int .i64 0, .int .i64 0, .string ⟨#[]⟩, .string ⟨#[]⟩, .string ⟨#[]⟩, .int .i64 0, .int .i64 0, .int .i64 0]), 9, 96) := by kernel_rfl
theorem chs_of {w : World} {g : Nat} {r : List Ch} {cap : Nat} (h : w.heap[g]? = some (.cells (cellsC r).toArray 29 (0, 0))) (hc : r.length ≤ cap) : IsChs w (.slice (some ⟨g, 0, none⟩) r.length cap) r := by
  refine ⟨_, cap, rfl, cellsC_len r, hc, fun _ => ⟨g, 0, rfl, heap_lt h, fun j u hu => ?_⟩⟩
  rw [cell_at h, Nat.zero_add, List.getElem?_toArray]
  exact hu

theorem head_call1 (g : Nat) (w : World) (hr : IsChs w (.slice (some ⟨g, 0, none⟩) 5 5) exR) (ht : Tb w) :
    Calls Tryz.prog 16 #[.slice (some ⟨g, 0, none⟩) 5 5, .int .i64 0, .agg #[(.string ⟨#[]⟩), (.string ⟨#[109, 97, 105, 110, 32, 115, 116, 114, 101, 101, 116]⟩), (.int .i64 7), (.string ⟨#[49, 48, 48, 48]⟩), (.string ⟨#[]⟩)]] w fun e w' => e = .returned (.tuple #[.agg #[(.int .i64 0), (.int .i64 7)], .int .i64 0]) ∧ Below w.heap.size w w' := by
  have h := pfind_any exR 0 7 [] eSmall e1000 [] (.slice (some ⟨g, 0, none⟩) 5 5) w hr ex_sound ht (by decide)
  rw [ex_find1] at h
  exact h

theorem head_call2 (g : Nat) (w : World) (hr : IsChs w (.slice (some ⟨g, 0, none⟩) 5 5) exR) (ht : Tb w) :
    Calls Tryz.prog 16 #[.slice (some ⟨g, 0, none⟩) 5 5, .int .i64 5, .agg #[(.string ⟨#[]⟩), (.string ⟨#[77, 97, 105, 110, 32, 83, 116, 114, 101, 101, 116]⟩), (.int .i64 107), (.string ⟨#[49, 48, 48, 48]⟩), (.string ⟨#[]⟩)]] w fun e w' => e = .returned (.tuple #[.agg #[(.int .i64 0), (.int .i64 7)], .int .i64 0]) ∧ Below w.heap.size w w' := by
  have h := pfind_any exR 5 107 [] eMain e1000 [] (.slice (some ⟨g, 0, none⟩) 5 5) w hr ex_sound ht (by decide)
  rw [ex_find2] at h
  exact h

theorem head_call3 (g : Nat) (w : World) (hr : IsChs w (.slice (some ⟨g, 0, none⟩) 5 5) exR) (ht : Tb w) :
    Calls Tryz.prog 16 #[.slice (some ⟨g, 0, none⟩) 5 5, .int .i64 5, .agg #[(.string ⟨#[]⟩), (.string ⟨#[77, 97, 105, 110, 32, 83, 116, 114, 101, 101, 116]⟩), (.int .i64 7), (.string ⟨#[49, 48, 48, 48]⟩), (.string ⟨#[]⟩)]] w fun e w' => e = .returned (.tuple #[.agg #[(.int .i64 0), (.int .i64 0)], .int .i64 3]) ∧ Below w.heap.size w w' := by
  have h := pfind_any exR 5 7 [] eMain e1000 [] (.slice (some ⟨g, 0, none⟩) 5 5) w hr ex_sound ht (by decide)
  rw [ex_find3] at h
  exact h

theorem head_call4 (g : Nat) (w : World) (hr : IsChs w (.slice (some ⟨g, 0, none⟩) 5 5) exR) (ht : Tb w) :
    Calls Tryz.prog 15 #[.slice (some ⟨g, 0, none⟩) 5 5, .int .i64 9, .agg #[.int .i64 0, .int .i64 7]] w fun e w' => e = .returned (.tuple #[.agg #[(.string ⟨#[]⟩), (.string ⟨#[66, 114, 111, 97, 100, 32, 87, 97, 121]⟩), (.int .i64 107), (.string ⟨#[49, 48, 48, 48]⟩), (.string ⟨#[84, 111, 119, 110]⟩)], .int .i64 0]) ∧ Below w.heap.size w w' := by
  have h := pname_any exR 9 0 7 (.slice (some ⟨g, 0, none⟩) 5 5) w hr ex_sound ht (by decide) (by decide)
  rw [ex_name1] at h
  exact h

theorem head_call5 (g : Nat) (w : World) (hr : IsChs w (.slice (some ⟨g, 0, none⟩) 5 5) exR) (ht : Tb w) :
    Calls Tryz.prog 16 #[.slice (some ⟨g, 0, none⟩) 5 5, .int .i64 9, .agg #[(.string ⟨#[]⟩), (.string ⟨#[72, 73, 71, 72, 32, 83, 84]⟩), (.int .i64 107), (.string ⟨#[49, 48, 48, 48]⟩), (.string ⟨#[]⟩)]] w fun e w' => e = .returned (.tuple #[.agg #[(.int .i64 0), (.int .i64 7)], .int .i64 0]) ∧ Below w.heap.size w w' := by
  have h := pfind_any exR 9 107 [] eCap e1000 [] (.slice (some ⟨g, 0, none⟩) 5 5) w hr ex_sound ht (by decide)
  rw [ex_find4] at h
  exact h

theorem head_call6 (g : Nat) (w : World) (hr : IsChs w (.slice (some ⟨g, 0, none⟩) 5 5) exR) (ht : Tb w) :
    Calls Tryz.prog 15 #[.slice (some ⟨g, 0, none⟩) 5 5, .int .i64 30, .agg #[.int .i64 0, .int .i64 7]] w fun e w' => e = .returned (.tuple #[.agg #[(.string ⟨#[]⟩), (.string ⟨#[]⟩), (.int .i64 0), (.string ⟨#[]⟩), (.string ⟨#[]⟩)], .int .i64 3]) ∧ Below w.heap.size w w' := by
  have h := pname_any exR 30 0 7 (.slice (some ⟨g, 0, none⟩) 5 5) w hr ex_sound ht (by decide) (by decide)
  rw [ex_name2] at h
  exact h

set_option maxRecDepth 100000 in
set_option maxHeartbeats 16000000 in
theorem head_any : HeadOk := by
  intro w ht
  have HT := hid ht
  clear ht
  go_enter Tryz.func10, Tryz.ntmps10
  go_wp2_with fail
  refine (example_any w).mono ?_
  rintro e v0 ⟨g, rfl, hx, hb0⟩
  have HB0 := hid hb0
  have HX := hid hx
  have HR : Hid (∀ u, Below v0.heap.size v0 u → IsChs u (.slice (some ⟨g, 0, none⟩) 5 5) exR) := fun u hu => chs_of (r := exR) (cap := 5) ((hu.block _ (heap_lt HX.out)).trans HX.out) (Nat.le_refl _)
  have HTT : Hid (∀ u, Below v0.heap.size v0 u → Tb u) := fun u hu => HT.out.on (bt HB0.out hu)
  have HV0 : Hid (Below v0.heap.size v0 v0) := Below.refl _ _
  clear hb0 hx
  go_wp2_with fail
  refine (head_call1 g v0 (HR.out _ HV0.out) (HTT.out _ HV0.out)).mono ?_
  rintro e u1 ⟨rfl, hb1⟩
  obtain ⟨v1, hv1⟩ : ∃ v, v = u1.alloc (.cells #[(.int .i64 0), (.int .i64 7)] 35) := ⟨_, rfl⟩
  have HV1 : Hid (Below v0.heap.size v0 v1) := by
    show Below _ _ _
    rw [hv1]
    exact (bt HV0.out hb1).alloc (bt HV0.out hb1).size _
  have HY1 : Hid (v1.heap[u1.heap.size]? = some (.cells #[(.int .i64 0), (.int .i64 7)] 35 (0, 0))) := by show _ = _; rw [hv1]; exact heap_new _ _
  clear hb1
  go_wp2_with fail
  rw [← hv1]
  clear hv1
  refine (head_call2 g v1 (HR.out _ HV1.out) (HTT.out _ HV1.out)).mono ?_
  rintro e u2 ⟨rfl, hb2⟩
  obtain ⟨v2, hv2⟩ : ∃ v, v = u2.alloc (.cells #[(.int .i64 0), (.int .i64 7)] 35) := ⟨_, rfl⟩
  have HV2 : Hid (Below v0.heap.size v0 v2) := by
    show Below _ _ _
    rw [hv2]
    exact (bt HV1.out hb2).alloc (bt HV1.out hb2).size _
  have HY2 : Hid (v2.heap[u2.heap.size]? = some (.cells #[(.int .i64 0), (.int .i64 7)] 35 (0, 0))) := by show _ = _; rw [hv2]; exact heap_new _ _
  have HY1 := hid (by have h := (hb2.block _ (heap_lt HY1.out)).trans HY1.out; rw [hv2, hpk, if_neg (by have := heap_lt h; omega)]; exact h : v2.heap[u1.heap.size]? = some (.cells #[(.int .i64 0), (.int .i64 7)] 35 (0, 0)))
  clear hb2
  go_wp2_with fail
  rw [← hv2]
  clear hv2
  refine (head_call3 g v2 (HR.out _ HV2.out) (HTT.out _ HV2.out)).mono ?_
  rintro e u3 ⟨rfl, hb3⟩
  obtain ⟨v3, hv3⟩ : ∃ v, v = u3.alloc (.cells #[(.int .i64 0), (.int .i64 0)] 35) := ⟨_, rfl⟩
  have HV3 : Hid (Below v0.heap.size v0 v3) := by
    show Below _ _ _
    rw [hv3]
    exact (bt HV2.out hb3).alloc (bt HV2.out hb3).size _
  have HY3 : Hid (v3.heap[u3.heap.size]? = some (.cells #[(.int .i64 0), (.int .i64 0)] 35 (0, 0))) := by show _ = _; rw [hv3]; exact heap_new _ _
  have HY1 := hid (by have h := (hb3.block _ (heap_lt HY1.out)).trans HY1.out; rw [hv3, hpk, if_neg (by have := heap_lt h; omega)]; exact h : v3.heap[u1.heap.size]? = some (.cells #[(.int .i64 0), (.int .i64 7)] 35 (0, 0)))
  have HY2 := hid (by have h := (hb3.block _ (heap_lt HY2.out)).trans HY2.out; rw [hv3, hpk, if_neg (by have := heap_lt h; omega)]; exact h : v3.heap[u2.heap.size]? = some (.cells #[(.int .i64 0), (.int .i64 7)] 35 (0, 0)))
  clear hb3
  go_wp2_with fail
  rw [← hv3]
  clear hv3
  refine (head_call4 g v3 (HR.out _ HV3.out) (HTT.out _ HV3.out)).mono ?_
  rintro e u4 ⟨rfl, hb4⟩
  obtain ⟨v4, hv4⟩ : ∃ v, v = u4.alloc (.cells #[(.string ⟨#[]⟩), (.string ⟨#[66, 114, 111, 97, 100, 32, 87, 97, 121]⟩), (.int .i64 107), (.string ⟨#[49, 48, 48, 48]⟩), (.string ⟨#[84, 111, 119, 110]⟩)] 37) := ⟨_, rfl⟩
  have HV4 : Hid (Below v0.heap.size v0 v4) := by
    show Below _ _ _
    rw [hv4]
    exact (bt HV3.out hb4).alloc (bt HV3.out hb4).size _
  have HY4 : Hid (v4.heap[u4.heap.size]? = some (.cells #[(.string ⟨#[]⟩), (.string ⟨#[66, 114, 111, 97, 100, 32, 87, 97, 121]⟩), (.int .i64 107), (.string ⟨#[49, 48, 48, 48]⟩), (.string ⟨#[84, 111, 119, 110]⟩)] 37 (0, 0))) := by show _ = _; rw [hv4]; exact heap_new _ _
  have HY1 := hid (by have h := (hb4.block _ (heap_lt HY1.out)).trans HY1.out; rw [hv4, hpk, if_neg (by have := heap_lt h; omega)]; exact h : v4.heap[u1.heap.size]? = some (.cells #[(.int .i64 0), (.int .i64 7)] 35 (0, 0)))
  have HY2 := hid (by have h := (hb4.block _ (heap_lt HY2.out)).trans HY2.out; rw [hv4, hpk, if_neg (by have := heap_lt h; omega)]; exact h : v4.heap[u2.heap.size]? = some (.cells #[(.int .i64 0), (.int .i64 7)] 35 (0, 0)))
  have HY3 := hid (by have h := (hb4.block _ (heap_lt HY3.out)).trans HY3.out; rw [hv4, hpk, if_neg (by have := heap_lt h; omega)]; exact h : v4.heap[u3.heap.size]? = some (.cells #[(.int .i64 0), (.int .i64 0)] 35 (0, 0)))
  clear hb4
  go_wp2_with fail
  rw [← hv4]
  clear hv4
  refine (head_call5 g v4 (HR.out _ HV4.out) (HTT.out _ HV4.out)).mono ?_
  rintro e u5 ⟨rfl, hb5⟩
  obtain ⟨v5, hv5⟩ : ∃ v, v = u5.alloc (.cells #[(.int .i64 0), (.int .i64 7)] 35) := ⟨_, rfl⟩
  have HV5 : Hid (Below v0.heap.size v0 v5) := by
    show Below _ _ _
    rw [hv5]
    exact (bt HV4.out hb5).alloc (bt HV4.out hb5).size _
  have HY5 : Hid (v5.heap[u5.heap.size]? = some (.cells #[(.int .i64 0), (.int .i64 7)] 35 (0, 0))) := by show _ = _; rw [hv5]; exact heap_new _ _
  have HY1 := hid (by have h := (hb5.block _ (heap_lt HY1.out)).trans HY1.out; rw [hv5, hpk, if_neg (by have := heap_lt h; omega)]; exact h : v5.heap[u1.heap.size]? = some (.cells #[(.int .i64 0), (.int .i64 7)] 35 (0, 0)))
  have HY2 := hid (by have h := (hb5.block _ (heap_lt HY2.out)).trans HY2.out; rw [hv5, hpk, if_neg (by have := heap_lt h; omega)]; exact h : v5.heap[u2.heap.size]? = some (.cells #[(.int .i64 0), (.int .i64 7)] 35 (0, 0)))
  have HY3 := hid (by have h := (hb5.block _ (heap_lt HY3.out)).trans HY3.out; rw [hv5, hpk, if_neg (by have := heap_lt h; omega)]; exact h : v5.heap[u3.heap.size]? = some (.cells #[(.int .i64 0), (.int .i64 0)] 35 (0, 0)))
  have HY4 := hid (by have h := (hb5.block _ (heap_lt HY4.out)).trans HY4.out; rw [hv5, hpk, if_neg (by have := heap_lt h; omega)]; exact h : v5.heap[u4.heap.size]? = some (.cells #[(.string ⟨#[]⟩), (.string ⟨#[66, 114, 111, 97, 100, 32, 87, 97, 121]⟩), (.int .i64 107), (.string ⟨#[49, 48, 48, 48]⟩), (.string ⟨#[84, 111, 119, 110]⟩)] 37 (0, 0)))
  clear hb5
  go_wp2_with fail
  rw [← hv5]
  clear hv5
  refine (head_call6 g v5 (HR.out _ HV5.out) (HTT.out _ HV5.out)).mono ?_
  rintro e u6 ⟨rfl, hb6⟩
  obtain ⟨v6, hv6⟩ : ∃ v, v = u6.alloc (.cells #[(.string ⟨#[]⟩), (.string ⟨#[]⟩), (.int .i64 0), (.string ⟨#[]⟩), (.string ⟨#[]⟩)] 37) := ⟨_, rfl⟩
  have HV6 : Hid (Below v0.heap.size v0 v6) := by
    show Below _ _ _
    rw [hv6]
    exact (bt HV5.out hb6).alloc (bt HV5.out hb6).size _
  have HY6 : Hid (v6.heap[u6.heap.size]? = some (.cells #[(.string ⟨#[]⟩), (.string ⟨#[]⟩), (.int .i64 0), (.string ⟨#[]⟩), (.string ⟨#[]⟩)] 37 (0, 0))) := by show _ = _; rw [hv6]; exact heap_new _ _
  have HY1 := hid (by have h := (hb6.block _ (heap_lt HY1.out)).trans HY1.out; rw [hv6, hpk, if_neg (by have := heap_lt h; omega)]; exact h : v6.heap[u1.heap.size]? = some (.cells #[(.int .i64 0), (.int .i64 7)] 35 (0, 0)))
  have HY2 := hid (by have h := (hb6.block _ (heap_lt HY2.out)).trans HY2.out; rw [hv6, hpk, if_neg (by have := heap_lt h; omega)]; exact h : v6.heap[u2.heap.size]? = some (.cells #[(.int .i64 0), (.int .i64 7)] 35 (0, 0)))
  have HY3 := hid (by have h := (hb6.block _ (heap_lt HY3.out)).trans HY3.out; rw [hv6, hpk, if_neg (by have := heap_lt h; omega)]; exact h : v6.heap[u3.heap.size]? = some (.cells #[(.int .i64 0), (.int .i64 0)] 35 (0, 0)))
  have HY4 := hid (by have h := (hb6.block _ (heap_lt HY4.out)).trans HY4.out; rw [hv6, hpk, if_neg (by have := heap_lt h; omega)]; exact h : v6.heap[u4.heap.size]? = some (.cells #[(.string ⟨#[]⟩), (.string ⟨#[66, 114, 111, 97, 100, 32, 87, 97, 121]⟩), (.int .i64 107), (.string ⟨#[49, 48, 48, 48]⟩), (.string ⟨#[84, 111, 119, 110]⟩)] 37 (0, 0)))
  have HY5 := hid (by have h := (hb6.block _ (heap_lt HY5.out)).trans HY5.out; rw [hv6, hpk, if_neg (by have := heap_lt h; omega)]; exact h : v6.heap[u5.heap.size]? = some (.cells #[(.int .i64 0), (.int .i64 7)] 35 (0, 0)))
  clear hb6
  obtain ⟨v7, hv7⟩ : ∃ v, v = v6.alloc (.cells #[(.int .i64 0), (.int .i64 7)] 35) := ⟨_, rfl⟩
  have HV7 : Hid (Below v0.heap.size v0 v7) := by
    show Below _ _ _
    rw [hv7]
    exact HV6.out.alloc HV6.out.size _
  have y1 : v7.heap[u1.heap.size]? = some (.cells #[(.int .i64 0), (.int .i64 7)] 35 (0, 0)) := by rw [hv7, hpk, if_neg (by have := heap_lt HY1.out; omega)]; exact HY1.out
  have y1_0 : v7.cell? ⟨u1.heap.size, 0, none⟩ = some (.int .i64 0) := by rw [cell_at y1]; rfl
  have y1_1 : v7.cell? ⟨u1.heap.size, 1, none⟩ = some (.int .i64 7) := by rw [cell_at y1]; rfl
  have y2 : v7.heap[u2.heap.size]? = some (.cells #[(.int .i64 0), (.int .i64 7)] 35 (0, 0)) := by rw [hv7, hpk, if_neg (by have := heap_lt HY2.out; omega)]; exact HY2.out
  have y2_0 : v7.cell? ⟨u2.heap.size, 0, none⟩ = some (.int .i64 0) := by rw [cell_at y2]; rfl
  have y2_1 : v7.cell? ⟨u2.heap.size, 1, none⟩ = some (.int .i64 7) := by rw [cell_at y2]; rfl
  have y4 : v7.heap[u4.heap.size]? = some (.cells #[(.string ⟨#[]⟩), (.string ⟨#[66, 114, 111, 97, 100, 32, 87, 97, 121]⟩), (.int .i64 107), (.string ⟨#[49, 48, 48, 48]⟩), (.string ⟨#[84, 111, 119, 110]⟩)] 37 (0, 0)) := by rw [hv7, hpk, if_neg (by have := heap_lt HY4.out; omega)]; exact HY4.out
  have y4_0 : v7.cell? ⟨u4.heap.size, 0, none⟩ = some (.string ⟨#[]⟩) := by rw [cell_at y4]; rfl
  have y4_1 : v7.cell? ⟨u4.heap.size, 1, none⟩ = some (.string ⟨#[66, 114, 111, 97, 100, 32, 87, 97, 121]⟩) := by rw [cell_at y4]; rfl
  have y4_2 : v7.cell? ⟨u4.heap.size, 2, none⟩ = some (.int .i64 107) := by rw [cell_at y4]; rfl
  have y4_3 : v7.cell? ⟨u4.heap.size, 3, none⟩ = some (.string ⟨#[49, 48, 48, 48]⟩) := by rw [cell_at y4]; rfl
  have y4_4 : v7.cell? ⟨u4.heap.size, 4, none⟩ = some (.string ⟨#[84, 111, 119, 110]⟩) := by rw [cell_at y4]; rfl
  have y5 : v7.heap[u5.heap.size]? = some (.cells #[(.int .i64 0), (.int .i64 7)] 35 (0, 0)) := by rw [hv7, hpk, if_neg (by have := heap_lt HY5.out; omega)]; exact HY5.out
  have y5_0 : v7.cell? ⟨u5.heap.size, 0, none⟩ = some (.int .i64 0) := by rw [cell_at y5]; rfl
  have y5_1 : v7.cell? ⟨u5.heap.size, 1, none⟩ = some (.int .i64 7) := by rw [cell_at y5]; rfl
  clear y1 y2 y4 y5
  rw [hv7, hv6] at y1_0 y1_1 y2_0 y2_1 y4_0 y4_1 y4_2 y4_3 y4_4 y5_0 y5_1
  obtain ⟨i0, hi0, hz0, hz1, hz2⟩ := info_parts infoCh
  have hsl := fun u => run_upto (P := Tryz.prog) 22 Tryz.underlying22 9 size9 (some ⟨g, 0, none⟩) 5 5 4 (by omega) u
  have hone := one_chs ex4
  have hS8 : SlR (v7.alloc (.cells #[] 29)) (some ⟨g, 0, none⟩) 4 5 9 (cellsC ex4) := by
    obtain ⟨A0, c0, e0, h⟩ := HR.out v7 HV7.out
    cases e0
    have h2 := SlR.take h (m := 4) (by decide)
    rw [cellsC_take] at h2
    exact h2.on (b0 v7 _)
  have hz7 : v7.heap.size = u6.heap.size + 1 + 1 := by rw [hv7, sz1, hv6, sz1]
  have hown8 := own_empty2 v7 (u6.heap.size + 1 + 1) (u6.heap.size + 1 + 1) 9 (Nat.le_refl _) hz7.symm 29
  have hsz8 : u6.heap.size + 1 + 1 ≤ (v7.alloc (.cells #[] 29)).heap.size := by rw [sz1, hz7]; omega
  have HEX : Hid (∀ u, (v7.alloc (.cells #[] 29)).grownBy u (Value.slice (some ⟨u6.heap.size + 1 + 1, 0, none⟩) 0 0).ownBlock → Below v0.heap.size v0 u ∧ u6.heap.size + 1 + 1 ≤ u.heap.size) := fun u hg => by
    refine ⟨Below.grown (HV7.out.alloc HV7.out.size _) hg (HV7.out.alloc HV7.out.size _).size (fun j e => ?_), Nat.le_trans hsz8 hg.size⟩
    have e2 := Option.some.inj e
    have := HV7.out.size
    rw [hz7] at this
    show _ ≤ j
    rw [← e2]
    exact this
  rw [hv7, hv6] at hS8 hown8 hsz8 HEX
  go_wp2_with (at_builtin; first | (refine list_app_gen rfl (.tmp 104) (.tmp 106) 22 rfl 29 i0 _ 9 96 Tryz.underlying22 hi0 hz0 hz1 hz2 rfl (by decide) (u6.heap.size + 1 + 1) 0 _ [] (by rfl) hown8 hsz8 (some ⟨g, 0, none⟩) 4 5 (cellsC ex4) (by rfl) hS8 hone (by omega) (by omega) ?_; intro v9 w9 hown9 hgrow9; rw [Nat.zero_add, List.nil_append] at hown9; obtain ⟨A9, c9, rfl⟩ := own_shape hown9; have HW9 := hid (HEX.out w9 hgrow9); have HOWN9 := hid hown9; clear hown9 hgrow9) | (refine list_app_gen rfl (.tmp 107) (.tmp 109) 22 rfl 29 i0 _ 9 96 Tryz.underlying22 hi0 hz0 hz1 hz2 rfl (by decide) (u6.heap.size + 1 + 1) 4 _ (cellsC ex4) (by rfl) (HOWN9.out.alloc _) (by have := HW9.out.2; rw [sz1]; omega) (some ⟨w9.heap.size, 0, none⟩) 1 1 [.int .i64 10, .int .i64 1, .int .i64 0, (.string ⟨#[49, 48, 48, 48]⟩), (.string ⟨#[84, 111, 119, 110]⟩), (.string ⟨#[104, 105, 103, 104, 32, 115, 116]⟩), .int .i64 120, .int .i64 130, .int .i64 0] rfl (SlR.new w9 #[.int .i64 10, .int .i64 1, .int .i64 0, (.string ⟨#[49, 48, 48, 48]⟩), (.string ⟨#[84, 111, 119, 110]⟩), (.string ⟨#[104, 105, 103, 104, 32, 115, 116]⟩), .int .i64 120, .int .i64 130, .int .i64 0] _ 9 rfl) (by simp [Value.oneCell']) (by omega) (by omega) ?_; intro v10 w10 hown10 hgrow10; obtain ⟨g1, c1, rfl, hgB, hgl, hgc, hgz⟩ := own_cut hown10 (by omega); have HW10 : Hid (Below v0.heap.size v0 w10) := grow_below HW9.out.1 (by have := HV7.out.size; omega) HW9.out.1.size HOWN9.out hgrow10; have HOWN10 := hid hown10; clear hown10 hgrow10))
  have q1 : w10.ownsRow (u6.heap.size + 1 + 1) 29 9 (.slice (some ⟨g1, 0, none⟩) 5 c1) 5 (cellsC (exC 120)) := HOWN10.out
  have hr1 : IsChs w10 (.slice (some ⟨g1, 0, none⟩) 5 c1) (exC 120) := by
    obtain ⟨A0, c0, e0, h⟩ := SlR.of_own q1
    cases e0
    exact ⟨_, _, rfl, h⟩
  refine (pcheck_any (exC 120) 4 51 4 _ w10 hr1 fol_clash (HTT.out _ HW10.out)).mono ?_
  rintro e w11 ⟨rfl, hb11⟩
  have q2 : w11.ownsRow (u6.heap.size + 1 + 1) 29 9 (.slice (some ⟨g1, 0, none⟩) 5 c1) 5 (cellsC (exC 120)) := own_same q1 fun k hk => hb11.block _ ((q1.lt k hk).2)
  have HW11 : Hid (Below v0.heap.size v0 w11) := bt HW10.out hb11
  have s42 : w11.cell? ⟨g1, 42, none⟩ = some (.int .i64 120) := (hb11.cell (p := (⟨g1, 42, none⟩ : Addr)) hgl).trans (hgc 42 _ rfl)
  have z42 : w11.frozen? ⟨g1, 42, none⟩ = false := (hb11.frozen (p := (⟨g1, 42, none⟩ : Addr)) hgl).trans (hgz 42)
  obtain ⟨q3, -⟩ := q2.stored 42 (.int .i64 121)
  have HQ3 := hid q3
  have HG1 : Hid (v0.heap.size ≤ g1) := by
    have := HV7.out.size
    rw [hz7] at this
    exact Nat.le_trans this hgB
  clear q1 q2 q3 hr1 hb11 hgc hgz hgB
  go_wp2_with fail
  obtain ⟨w12, hw12⟩ : ∃ u, u = w11.setCell ⟨g1, 42, none⟩ (.int .i64 121) := ⟨_, rfl⟩
  rw [← hw12]
  have q4 := HQ3.out
  rw [← hw12] at q4
  have hr2 : IsChs w12 (.slice (some ⟨g1, 0, none⟩) 5 c1) (exC 121) := by
    obtain ⟨A0, c0, e0, h⟩ := SlR.of_own q4
    cases e0
    exact ⟨_, _, rfl, h⟩
  have HW12 : Hid (Below v0.heap.size v0 w12) := by
    show Below _ _ _
    rw [hw12]
    exact HW11.out.setCell HG1.out _
  clear hw12 s42 z42 q4
  refine (pcheck_any (exC 121) 5 0 (-1) _ w12 hr2 ex_sound2.fol (HTT.out _ HW12.out)).mono ?_
  rintro e w13 ⟨rfl, hb13⟩
  have HW13 : Hid (Below v0.heap.size v0 w13) := bt HW12.out hb13
  clear hb13 hr2
  go_wp2_with fail
  obtain ⟨w14, hw14⟩ : ∃ u, u = w13.alloc (.cells #[.int .i64 0, .int .i64 6, .int .i64 0, .string ⟨#[]⟩, .string ⟨#[]⟩, .string ⟨#[]⟩, .int .i64 0, .int .i64 0, .int .i64 0] 29) := ⟨_, rfl⟩
  have hr3 : IsChs w14 (.slice (some ⟨w13.heap.size, 0, none⟩) 1 1) exE := ⟨_, _, rfl, by rw [hw14]; exact SlR.new w13 #[.int .i64 0, .int .i64 6, .int .i64 0, .string ⟨#[]⟩, .string ⟨#[]⟩, .string ⟨#[]⟩, .int .i64 0, .int .i64 0, .int .i64 0] _ 9 rfl⟩
  have HW14 : Hid (Below v0.heap.size v0 w14) := by
    show Below _ _ _
    rw [hw14]
    exact HW13.out.alloc HW13.out.size _
  rw [← hw14]
  clear hw14
  refine (pcheck_any exE 0 3 0 _ w14 hr3 fol_e (HTT.out _ HW14.out)).mono ?_
  rintro e w15 ⟨rfl, hb15⟩
  have HW15 : Hid (Below v0.heap.size v0 w15) := bt HW14.out hb15
  clear hb15 hr3
  go_wp2_with fail
  refine (pat_any exR 8 _ w15 (HR.out _ HW15.out) ex_sound (HTT.out _ HW15.out)).mono ?_
  rintro e w16 ⟨v, vs, rfl, hst, hb16⟩
  have HW16 : Hid (Below w.heap.size w w16) := bt HB0.out (bt HW15.out hb16)
  rw [ex_at] at hst
  obtain ⟨A2, c2, rfl, hL⟩ := hst.parts
  obtain ⟨g2, o2, u2, rfl, hg2, hu2, hcc, hal⟩ := hL.at (i := 0) rfl
  obtain ⟨n0, n1, n2, n3, n4, n5, n6, n7⟩ := hcc
  obtain ⟨A3, c3, rfl, -⟩ := hal
  clear hst hL hu2 hb16
  rw [Nat.zero_mul, Nat.add_zero] at n0 n1 n2 n3 n4 n5 n6 n7
  go_wp2
  go_ret
  exact ⟨rfl, HW16.out⟩

end Rg
end Go.Proofs.YtaeljmiklalpnaaGreatDoor
