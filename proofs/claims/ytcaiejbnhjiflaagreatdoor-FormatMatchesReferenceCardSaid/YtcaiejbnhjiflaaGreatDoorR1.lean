/-
  Contracts of the document's Strings and Same.
-/
import Derived.Test.YtcaiejbnhjiflaaGreatDoorP3
namespace Go.Proofs.YtcaiejbnhjiflaaGreatDoor
open Go.RowKit Go.ChangeMaps
namespace Fm

theorem take_snoc {α : Type} {us vs : List α} {k : Nat} (ha : k < us.length) (hb : k < vs.length) (h : us.take k = vs.take k) (e : us[k] = vs[k]) : us.take (k + 1) = vs.take (k + 1) := by
  rw [List.take_succ_eq_append_getElem ha, List.take_succ_eq_append_getElem hb, h, e]
theorem ad_at {w : World} {A : Option Addr} {rs : List Ad} {cap : Nat} (h : SlR w A rs.length cap 5 (encAs rs)) {k : Nat} {x : Ad} (hk : rs[k]? = some x) :
    ∃ g o, A = some ⟨g, o, none⟩ ∧ g < w.heap.size ∧ w.cell? ⟨g, o + k * 5, none⟩ = some (.string (sB x.person)) ∧ w.cell? ⟨g, o + k * 5 + 1, none⟩ = some (.string (sB x.street)) ∧ w.cell? ⟨g, o + k * 5 + 2, none⟩ = some (.int .i64 x.number) ∧ w.cell? ⟨g, o + k * 5 + 3, none⟩ = some (.string (sB x.code)) ∧ w.cell? ⟨g, o + k * 5 + 4, none⟩ = some (.string (sB x.town)) := by
  have hl := (List.getElem?_eq_some_iff.1 hk).1
  obtain ⟨g, o, e, hg, hc⟩ := h.2.2 (by omega)
  have H : ∀ (rs : List Ad) (k : Nat), rs[k]? = some x → ∀ j, j < 5 → (encAs rs)[k * 5 + j]? = (encA x)[j]? := by
    intro rs
    induction rs with
    | nil => intro k h; simp at h
    | cons a rs ih =>
      intro k h j hj
      have e0 : encAs (a :: rs) = encA a ++ encAs rs := rfl
      have el : (encA a).length = 5 := rfl
      cases k with
      | zero =>
        simp at h; subst h
        rw [e0, List.getElem?_append_left (by omega)]; simp
      | succ k =>
        rw [e0, List.getElem?_append_right (by omega), show (k + 1) * 5 + j - (encA a).length = k * 5 + j by omega]
        exact ih k (by simpa using h) j hj
  refine ⟨g, o, e, hg, ?_, ?_, ?_, ?_, ?_⟩
  · exact hc (k * 5) _ (H rs k hk 0 (by omega))
  · rw [Nat.add_assoc]; exact hc _ _ (H rs k hk 1 (by omega))
  · rw [Nat.add_assoc]; exact hc _ _ (H rs k hk 2 (by omega))
  · rw [Nat.add_assoc]; exact hc _ _ (H rs k hk 3 (by omega))
  · rw [Nat.add_assoc]; exact hc _ _ (H rs k hk 4 (by omega))

set_option maxRecDepth 100000 in
set_option maxHeartbeats 4000000 in
theorem rstrings_any (va vb : Value) (us vs : List W) (w : World) (ha : IsW w va us) (hb : IsW w vb vs) (hla : us.length ≤ 100000) (hlb : vs.length ≤ 100000) :
    Calls Tryz.prog 16 #[va, vb] w fun e w' => e = .returned (.bool (decide (us = vs))) ∧ Below w.heap.size w w' := by
  obtain ⟨pa, ca, rfl, hA⟩ := ha
  obtain ⟨pb, cb, rfl, hB⟩ := hb
  by_cases hll : us.length = vs.length
  · have HL := hid hll
    have HA := hid hA
    have HB := hid hB
    have hne : (((us.length : Nat) : Int) != ((vs.length : Nat) : Int)) = false := by rw [hll]; simp
    have hl1 : us.length ≤ vs.length := by omega
    clear hll hA hB
    go_enter Tryz.func16, Tryz.ntmps16
    go_wp2
    clear hne
    go_loopw [5] (fun i wr => ∃ k : Nat, k ≤ us.length ∧ i = .int .i64 k ∧ Hid (us.take k = vs.take k) ∧ Below w.heap.size w wr) (fun i _ => us.length - (intOf i).toNat)
    case atStart => exact ⟨0, by omega, rfl, rfl, Below.refl _ _⟩
    case round =>
      obtain ⟨k, hk, rfl, heq, hbr⟩ := hrel
      by_cases hlt : k < us.length
      · have hkb : k < vs.length := by omega
        obtain ⟨ga, oa, rfl, hga, ca1⟩ := (HA.out.on hbr).at (k := k) (u := sV us[k]) (by rw [List.getElem?_map, List.getElem?_eq_getElem hlt]; rfl)
        obtain ⟨gb, ob, rfl, hgb, cb1⟩ := (HB.out.on hbr).at (k := k) (u := sV vs[k]) (by rw [List.getElem?_map, List.getElem?_eq_getElem hkb]; rfl)
        obtain ⟨xa, hxa⟩ : ∃ x : ByteArray, x = sB us[k] := ⟨_, rfl⟩
        obtain ⟨xb, hxb⟩ : ∃ x : ByteArray, x = sB vs[k] := ⟨_, rfl⟩
        unfold sV at ca1 cb1
        rw [← hxa] at ca1
        rw [← hxb] at cb1
        have hal : xa.data.toList = us[k] := by rw [hxa]; rfl
        have hbl : xb.data.toList = vs[k] := by rw [hxb]; rfl
        have hi0 : 0 ≤ (k : Int) := by omega
        have hi1 : (k : Int) < (us.length : Int) := by omega
        have hi2 : (k : Int) < (vs.length : Int) := by omega
        by_cases he : us[k] = vs[k]
        · have ht : xa.toList = xb.toList := by rw [Lib.toList_data, Lib.toList_data, hal, hbl, he]
          have hnext : Hid (us.take (k + 1) = vs.take (k + 1)) := take_snoc hlt hkb heq.out he
          clear he hal hbl hxa hxb
          go_wp2
          go_quiet (fail)
          go_wp2
          go_roundw
          case rel => exact ⟨k + 1, by omega, by go_num, hnext, below_drewN hbr _⟩
          case measure => simp [intOf]; omega
        · have ht : ¬ xa.toList = xb.toList := by rw [Lib.toList_data, Lib.toList_data, hal, hbl]; exact he
          have ht2 : (xa.toList == xb.toList) = false := by simpa using ht
          have hval : Hid (decide (us = vs) = false) := by
            show _ = _
            rw [decide_eq_false_iff_not]
            intro e
            subst e
            exact he rfl
          clear he hal hbl hxa hxb
          go_wp2
          go_quiet (fail)
          go_wp2
          go_ret
          exact ⟨by rw [hval.out]; rfl, below_drewN hbr _⟩
      · have hkn : k = us.length := by omega
        have hval : Hid (decide (us = vs) = true) := by
          show _ = _
          have := heq.out
          rw [List.take_of_length_le (by omega), List.take_of_length_le (by have := HL.out; omega)] at this
          rw [this]; simp
        clear hkn
        go_wp2
        go_ret
        exact ⟨by rw [hval.out]; rfl, hbr⟩
  · have hval : decide (us = vs) = false := by rw [decide_eq_false_iff_not]; intro e; exact hll (by rw [e])
    rw [hval]
    have hne : (((us.length : Nat) : Int) != ((vs.length : Nat) : Int)) = true := by simp; omega
    clear hval hll hA hB
    go_enter Tryz.func16, Tryz.ntmps16
    go_wp2
    go_ret
    exact ⟨rfl, Below.refl _ _⟩

set_option maxRecDepth 100000 in
set_option maxHeartbeats 8000000 in
theorem rsame_any (va vb : Value) (us vs : List Ad) (w : World) (ha : IsA w va us) (hb : IsA w vb vs) (hla : us.length ≤ 100000) (hlb : vs.length ≤ 100000) :
    Calls Tryz.prog 19 #[va, vb] w fun e w' => e = .returned (.bool (decide (us = vs))) ∧ Below w.heap.size w w' := by
  obtain ⟨pa, ca, rfl, hA⟩ := ha
  obtain ⟨pb, cb, rfl, hB⟩ := hb
  by_cases hll : us.length = vs.length
  · have HL := hid hll
    have HA := hid hA
    have HB := hid hB
    have hne : (((us.length : Nat) : Int) != ((vs.length : Nat) : Int)) = false := by rw [hll]; simp
    have hl1 : us.length ≤ vs.length := by omega
    clear hll hA hB
    go_enter Tryz.func19, Tryz.ntmps19
    go_wp2
    clear hne
    go_loopw [5] (fun i wr => ∃ k : Nat, k ≤ us.length ∧ i = .int .i64 k ∧ Hid (us.take k = vs.take k) ∧ Below w.heap.size w wr) (fun i _ => us.length - (intOf i).toNat)
    case atStart => exact ⟨0, by omega, rfl, rfl, Below.refl _ _⟩
    case round =>
      obtain ⟨k, hk, rfl, heq, hbr⟩ := hrel
      by_cases hlt : k < us.length
      · have hkb : k < vs.length := by omega
        obtain ⟨x, hx⟩ : ∃ x, x = us[k] := ⟨_, rfl⟩
        obtain ⟨y, hy⟩ : ∃ y, y = vs[k] := ⟨_, rfl⟩
        obtain ⟨ga, oa, rfl, hga, a0, a1, a2, a3, a4⟩ := ad_at (HA.out.on hbr) (k := k) (x := x) (by rw [hx]; exact List.getElem?_eq_getElem hlt)
        obtain ⟨gb, ob, rfl, hgb, b0, b1, b2, b3, b4⟩ := ad_at (HB.out.on hbr) (k := k) (x := y) (by rw [hy]; exact List.getElem?_eq_getElem hkb)
        have hi0 : 0 ≤ (k : Int) := by omega
        have hi1 : (k : Int) < (us.length : Int) := by omega
        have hi2 : (k : Int) < (vs.length : Int) := by omega
        have hne := neq_run x y
        by_cases he : x = y
        · have hnext : Hid (us.take (k + 1) = vs.take (k + 1)) := take_snoc hlt hkb heq.out (by rw [← hx, ← hy]; exact he)
          rw [decide_eq_true he] at hne
          clear he hx hy
          go_wp2
          go_quiet (fail)
          go_wp2
          go_roundw
          case rel => exact ⟨k + 1, by omega, by go_num, hnext, below_drewN hbr _⟩
          case measure => simp [intOf]; omega
        · have hval : Hid (decide (us = vs) = false) := by
            show _ = _
            rw [decide_eq_false_iff_not]
            intro e
            subst e
            exact he (hx.trans hy.symm)
          rw [decide_eq_false he] at hne
          clear he hx hy
          go_wp2
          go_quiet (fail)
          go_wp2
          go_ret
          exact ⟨by rw [hval.out]; rfl, below_drewN hbr _⟩
      · have hkn : k = us.length := by omega
        have hval : Hid (decide (us = vs) = true) := by
          show _ = _
          have := heq.out
          rw [List.take_of_length_le (by omega), List.take_of_length_le (by have := HL.out; omega)] at this
          rw [this]; simp
        clear hkn
        go_wp2
        go_ret
        exact ⟨by rw [hval.out]; rfl, hbr⟩
  · have hval : decide (us = vs) = false := by rw [decide_eq_false_iff_not]; intro e; exact hll (by rw [e])
    rw [hval]
    have hne : (((us.length : Nat) : Int) != ((vs.length : Nat) : Int)) = true := by simp; omega
    clear hval hll hA hB
    go_enter Tryz.func19, Tryz.ntmps19
    go_wp2
    go_ret
    exact ⟨rfl, Below.refl _ _⟩

end Fm
end Go.Proofs.YtcaiejbnhjiflaaGreatDoor
