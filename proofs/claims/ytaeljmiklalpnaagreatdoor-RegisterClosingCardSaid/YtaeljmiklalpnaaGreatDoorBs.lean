/-
  Words for memory of layer 5: streets and changes; contracts of the document's Named and common.
-/
import Derived.Test.YtaeljmiklalpnaaGreatDoorR2
namespace Go.Proofs.YtaeljmiklalpnaaGreatDoor
open Go.RowKit Go.ChangeMaps Gn
namespace Rg

/-- A street as cells; al: its aliases' value. -/
def stV (s : St) (al : Value) : List Value := [.string (sB s.code), .string (sB s.town), .string (sB s.name), al, .int .i64 s.low, .int .i64 s.high, .int .i64 s.shift, .bool s.isOpen]
abbrev stA (s : St) (al : Value) : Value := .agg #[.string (sB s.code), .string (sB s.town), .string (sB s.name), al, .int .i64 s.low, .int .i64 s.high, .int .i64 s.shift, .bool s.isOpen]
def cellsS (l : List St) (vs : List Value) : List Value := (List.zipWith stV l vs).flatten
/-- A value is a slice of streets. -/
def IsSts (w : World) (v : Value) (l : List St) (vs : List Value) : Prop :=
  ∃ A cap, v = .slice A l.length cap ∧ vs.length = l.length ∧ SlR w A l.length cap 8 (cellsS l vs) ∧ ∀ (i : Nat) (s : St) (u : Value), l[i]? = some s → vs[i]? = some u → IsW w u s.al
theorem IsSts.on {w w' : World} {v : Value} {l : List St} {vs : List Value} (h : IsSts w v l vs) (hb : Below w.heap.size w w') : IsSts w' v l vs := by
  obtain ⟨A, cap, e, hl, hS, hA⟩ := h
  exact ⟨A, cap, e, hl, hS.on hb, fun i s u hs hu => (hA i s u hs hu).on hb⟩
theorem cellsS_nil (vs : List Value) : cellsS [] vs = [] := by simp [cellsS]
theorem cellsS_cons (s : St) (l : List St) (u : Value) (vs : List Value) : cellsS (s :: l) (u :: vs) = stV s u ++ cellsS l vs := by simp [cellsS]
theorem cellsS_at {l : List St} {vs : List Value} {i : Nat} {s : St} {u : Value} (hs : l[i]? = some s) (hu : vs[i]? = some u) (j : Nat) (hj : j < 8) : (cellsS l vs)[i * 8 + j]? = (stV s u)[j]? := by
  induction l generalizing vs i with
  | nil => simp at hs
  | cons a l ih =>
    match vs, hu with
    | b :: vs, hu =>
      rw [cellsS_cons]
      match i with
      | 0 =>
        simp only [List.getElem?_cons_zero, Option.some.injEq] at hs hu
        subst hs hu
        rw [Nat.zero_mul, Nat.zero_add, List.getElem?_append_left (by simp [stV]; omega)]
      | i + 1 =>
        rw [List.getElem?_cons_succ] at hs hu
        rw [List.getElem?_append_right (by simp [stV]; omega)]
        have e : (i + 1) * 8 + j - (stV a b).length = i * 8 + j := by simp [stV]; omega
        rw [e]; exact ih hs hu
/-- The cells of a street of a slice. -/
structure StAt (w : World) (g o : Nat) (s : St) (u : Value) : Prop where
  c0 : w.cell? ⟨g, o, none⟩ = some (.string (sB s.code))
  c1 : w.cell? ⟨g, o + 1, none⟩ = some (.string (sB s.town))
  c2 : w.cell? ⟨g, o + 2, none⟩ = some (.string (sB s.name))
  c3 : w.cell? ⟨g, o + 3, none⟩ = some u
  c4 : w.cell? ⟨g, o + 4, none⟩ = some (.int .i64 s.low)
  c5 : w.cell? ⟨g, o + 5, none⟩ = some (.int .i64 s.high)
  c6 : w.cell? ⟨g, o + 6, none⟩ = some (.int .i64 s.shift)
  c7 : w.cell? ⟨g, o + 7, none⟩ = some (.bool s.isOpen)
theorem StAt.on {w w' : World} {g o : Nat} {s : St} {u : Value} (h : StAt w g o s u) (hb : Below w.heap.size w w') (hg : g < w.heap.size) : StAt w' g o s u :=
  ⟨(hb.cell (p := ⟨g, _, none⟩) hg).trans h.c0, (hb.cell (p := ⟨g, _, none⟩) hg).trans h.c1, (hb.cell (p := ⟨g, _, none⟩) hg).trans h.c2, (hb.cell (p := ⟨g, _, none⟩) hg).trans h.c3,
   (hb.cell (p := ⟨g, _, none⟩) hg).trans h.c4, (hb.cell (p := ⟨g, _, none⟩) hg).trans h.c5, (hb.cell (p := ⟨g, _, none⟩) hg).trans h.c6, (hb.cell (p := ⟨g, _, none⟩) hg).trans h.c7⟩
theorem IsSts.at {w : World} {A : Option Addr} {cap : Nat} {l : List St} {vs : List Value} (h : IsSts w (.slice A l.length cap) l vs) {i : Nat} {s : St} (hs : l[i]? = some s) :
    ∃ g o u, A = some ⟨g, o, none⟩ ∧ g < w.heap.size ∧ vs[i]? = some u ∧ StAt w g (o + i * 8) s u ∧ IsW w u s.al := by
  obtain ⟨A1, cap1, e, hl, hS, hA⟩ := h
  cases e
  have hil := (List.getElem?_eq_some_iff.1 hs).1
  obtain ⟨g, o, rfl, hg, hc⟩ := hS.2.2 (by omega)
  have hu : vs[i]? = some vs[i] := List.getElem?_eq_getElem (by omega)
  have q := fun j (hj : j < 8) (z : Value) (hz : (stV s vs[i])[j]? = some z) => hc (i * 8 + j) z ((cellsS_at hs hu j hj).trans hz)
  refine ⟨g, o, vs[i], rfl, hg, hu, ?_, hA i s _ hs hu⟩
  have r := fun j (hj : j < 8) (z : Value) (hz : (stV s vs[i])[j]? = some z) => (by rw [Nat.add_assoc]; exact q j hj z hz : w.cell? ⟨g, o + i * 8 + j, none⟩ = some z)
  exact ⟨by simpa using r 0 (by omega) _ rfl, r 1 (by omega) _ rfl, r 2 (by omega) _ rfl, r 3 (by omega) _ rfl, r 4 (by omega) _ rfl, r 5 (by omega) _ rfl, r 6 (by omega) _ rfl, r 7 (by omega) _ rfl⟩
/-- Texts of moderate size. -/
structure SmS (s : St) : Prop where
  code : s.code.length ≤ 1000
  town : s.town.length ≤ 1000
  name : s.name.length ≤ 1000
  al : ∀ y ∈ s.al, y.length ≤ 1000
  few : s.al.length ≤ 1000

set_option maxRecDepth 100000 in
set_option maxHeartbeats 4000000 in
theorem rnamed_any (s : St) (al : Value) (z : W) (w : World) (hal : IsW w al s.al) (hs : SmS s) (hz : z.length ≤ 1000) :
    Calls Tryz.prog 17 #[stA s al, .string (sB z)] w fun e w' => e = .returned (.bool (named s z)) ∧ Below w.heap.size w w' := by
  obtain ⟨aA, ac, rfl, hR⟩ := hal
  obtain ⟨r, hr⟩ : ∃ r, r = named s z := ⟨_, rfl⟩
  rw [← hr]
  have HR := hid hr
  obtain ⟨w1, hw1⟩ : ∃ w1, w1 = w.alloc (.cells #[.string (sB s.code), .string (sB s.town), .string (sB s.name), .slice aA s.al.length ac, .int .i64 s.low, .int .i64 s.high, .int .i64 s.shift, .bool s.isOpen] 44) := ⟨_, rfl⟩
  have hb1 : Below w.heap.size w w1 := by rw [hw1]; exact b0 _ _
  have HROW : Hid (w1.heap[w.heap.size]? = some (.cells #[.string (sB s.code), .string (sB s.town), .string (sB s.name), .slice aA s.al.length ac, .int .i64 s.low, .int .i64 s.high, .int .i64 s.shift, .bool s.isOpen] 44 (0, 0))) := by show _ = _; rw [hw1]; exact heap_new _ _
  have HC : Hid (∀ u, Below w1.heap.size w1 u → u.cell? ⟨w.heap.size, 2, none⟩ = some (.string (sB s.name)) ∧ u.cell? ⟨w.heap.size, 3, none⟩ = some (.slice aA s.al.length ac)) := fun u hu => by
    have h := (hu.block _ (heap_lt HROW.out)).trans HROW.out
    exact ⟨by rw [cell_at h]; rfl, by rw [cell_at h]; rfl⟩
  have HRD := hid (SlR.on hR hb1)
  have HB1 := hid hb1
  have HAL := hid hs.al
  have hfew := hs.few
  have CE := hid (fun (y : W) (hy : y.length ≤ 1000) u => requal_any y z u (by omega) (by omega))
  have CN := hid (CE.out s.name hs.name)
  obtain ⟨c2, c3⟩ := HC.out _ (Below.refl _ _)
  obtain ⟨qn, hqn⟩ : ∃ q, q = eqW s.name z := ⟨_, rfl⟩
  rw [← hqn] at CN
  have HQN := hid hqn
  clear hr hb1 hR hs hz hqn
  go_enter Tryz.func17, Tryz.ntmps17
  go_wp2_with fail
  rw [← hw1]
  clear hw1
  refine (CN.out _).mono ?_
  rintro e w2 ⟨rfl, hb2⟩
  cases qn
  · have HB2 := hid hb2
    clear hb2 c2 c3
    obtain ⟨c2, c3⟩ := HC.out _ HB2.out
    go_wp2
    go_loopw [5] (fun i wr => ∃ k : Nat, k ≤ s.al.length ∧ i = .int .i64 k ∧ Hid (∀ y ∈ s.al.take k, eqW y z = false) ∧ Hid (Below w1.heap.size w1 wr)) (fun i _ => s.al.length - (intOf i).toNat)
    case atStart => exact ⟨0, Nat.zero_le _, rfl, by intro y hy; simp at hy, HB2⟩
    case round =>
      obtain ⟨k, hk, rfl, hN, hB⟩ := hrel
      clear c2 c3
      obtain ⟨c2, c3⟩ := HC.out _ hB.out
      by_cases hlt : k < s.al.length
      · obtain ⟨y, hy⟩ : ∃ y, s.al[k]? = some y := ⟨_, List.getElem?_eq_getElem hlt⟩
        obtain ⟨ag, ao, rfl, hag, ca⟩ := (SlR.on HRD.out hB.out).at (k := k) (u := sV y) (by rw [List.getElem?_map, hy]; rfl)
        unfold sV at ca
        have CY := hid (CE.out y (HAL.out y (List.mem_of_getElem? hy)))
        have hk0 : 0 ≤ (k : Int) := by omega
        have hk1 : (k : Int) < (s.al.length : Int) := by omega
        have HY := hid hy
        obtain ⟨ys, hys⟩ : ∃ t, t = sB y := ⟨_, rfl⟩
        rw [← hys] at ca CY
        clear hy hys
        cases hq : eqW y z
        · rw [hq] at CY
          have HN2 : Hid (∀ y ∈ s.al.take (k + 1), eqW y z = false) := fun v hv => by
            rw [List.take_add_one, HY.out] at hv
            rcases List.mem_append.1 hv with h | h
            · exact hN.out v h
            · simp at h; rw [h]; exact hq
          clear hq
          go_wp2_with fail
          refine (CY.out _).mono ?_
          rintro e w3 ⟨rfl, hb3⟩
          have HB3 := hid (bt hB.out hb3)
          clear hb3
          go_wp2
          go_roundw
          case rel => exact ⟨k + 1, by omega, by go_num, HN2, HB3⟩
          case measure => simp [intOf]; omega
        · rw [hq] at CY
          have HV : Hid (r = true) := HR.out.trans ((named_iff _ _).2 ⟨y, List.mem_cons_of_mem _ (List.mem_of_getElem? HY.out), hq⟩)
          clear hq
          go_wp2_with fail
          refine (CY.out _).mono ?_
          rintro e w3 ⟨rfl, hb3⟩
          have HB3 := hid (bt hB.out hb3)
          clear hb3
          go_wp2
          go_ret
          exact ⟨by rw [HV.out]; try rfl, bt HB1.out HB3.out⟩
      · have HV : Hid (r = false) := by
          show _ = _
          rw [HR.out, Bool.eq_false_iff]
          intro h
          obtain ⟨y, hy, he⟩ := (named_iff _ _).1 h
          rcases List.mem_cons.1 hy with rfl | hy
          · rw [← HQN.out] at he; cases he
          · have := hN.out y (by rw [List.take_of_length_le (by omega)]; exact hy)
            rw [this] at he; cases he
        go_wp2
        go_ret
        exact ⟨by rw [HV.out]; try rfl, bt HB1.out hB.out⟩
  · have HV : Hid (r = true) := HR.out.trans ((named_iff _ _).2 ⟨s.name, List.mem_cons_self .., HQN.out.symm⟩)
    have HB2 := hid hb2
    clear hb2
    go_wp2
    go_ret
    exact ⟨by rw [HV.out]; try rfl, bt HB1.out HB2.out⟩

end Rg
end Go.Proofs.YtaeljmiklalpnaaGreatDoor
