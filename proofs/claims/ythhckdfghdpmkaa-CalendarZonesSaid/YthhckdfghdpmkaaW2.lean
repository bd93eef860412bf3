/-
  Contracts of Valid (the code's and the document's).
-/
import Derived.Test.YthhckdfghdpmkaaW1
namespace Go.Proofs.Ythhckdfghdpmkaa
open Go.RowKit
namespace Cl

set_option maxRecDepth 100000 in
set_option maxHeartbeats 1000000 in
theorem valid_any (z : Int) (aw ah : Option Addr) (cw ch : Nat) (wk : List Bool) (hs : List Int) (w : World) (hC : Cal w.heap.size w aw ah wk hs) :
    Calls Try.prog 20 #[calV z aw wk.length cw ah hs.length ch] w fun e w' => e = .returned (.bool (validB z wk hs)) ∧ Below w.heap.size w w' := by
  have h1 := hC.wl
  have h2 := hC.hl
  unfold maxLen at h1 h2
  have HC := hid hC
  clear hC
  obtain ⟨r, hr⟩ : ∃ r, r = validB z wk hs := ⟨_, rfl⟩
  rw [← hr]
  have HR := hid hr
  clear hr
  obtain ⟨m, hm⟩ : ∃ m, m = wk.length := ⟨_, rfl⟩
  obtain ⟨n, hn⟩ : ∃ n, n = hs.length := ⟨_, rfl⟩
  rw [← hm] at h1 ⊢
  rw [← hn] at h2 ⊢
  have HM := hid hm
  have HN := hid hn
  clear hm hn
  by_cases hz : -720 ≤ z
  · by_cases hy : z ≤ 840
    · by_cases h7 : m = 7
      · by_cases h40 : n ≤ 40
        · have t1 : ((m : Int) != 7) = false := by simp; omega
          have t2 : decide (40 < (n : Int)) = false := by simp; omega
          have t3 : decide (40 < n) = false := by simp; omega
          have HI : Hid (r = incTo hs n) := by
            show _ = _
            rw [HR.out, valid_mk hz hy (HM.out.symm.trans h7) (by rw [← HN.out]; exact h40), HN.out]; rfl
          clear h7 HR
          go_enter Try.func20, Try.ntmps20
          go_wp2
          clear t1 t2 t3
          go_loopw [3] (fun i wr => ∃ j : Nat, (j + 1 ≤ n ∨ j = 0) ∧ i = .int .i64 ((j : Int) + 1) ∧ wr.cell? ⟨w.heap.size, 2, none⟩ = some (.slice ah n ch) ∧ Hid (Below w.heap.size w wr) ∧ Hid (incTo hs (j + 1) = true))
            (fun i _ => n + 1 - (intOf i).toNat)
          case atStart => exact ⟨0, .inr rfl, rfl, by go_simp, (Below.refl _ _).alloc (Nat.le_refl _) _, incTo_one hs⟩
          case round =>
            obtain ⟨j, hj, rfl, hbox, hB, hinc⟩ := hrel
            by_cases hlt : j + 1 < n
            · obtain ⟨b, o, rfl, hb, hc⟩ := (HC.out.below hB.out).days (by rw [← HN.out]; omega)
              have c0 := hc j (by rw [← HN.out]; omega)
              have c1 := hc (j + 1) (by rw [← HN.out]; omega)
              clear hc hj
              have hnx : Hid (incTo hs (j + 2) = decide (hs.getD j 0 < hs.getD (j + 1) 0)) := by
                show _ = _
                rw [incTo_succ, hinc.out]; simp
              have hfl : Hid (¬ hs.getD j 0 < hs.getD (j + 1) 0 → r = false) := by
                intro hno
                rw [HI.out, HN.out]
                exact inc_false (by rw [← HN.out]; omega) hno
              obtain ⟨x, hx⟩ : ∃ x, x = hs.getD (j + 1) 0 := ⟨_, rfl⟩
              obtain ⟨y, hy'⟩ : ∃ y, y = hs.getD j 0 := ⟨_, rfl⟩
              rw [← hx] at c1 hnx hfl
              rw [← hy'] at c0 hnx hfl
              clear hx hy'
              have l1 : (j : Int) + 1 < (n : Int) := by omega
              have l0 : (j : Int) < (n : Int) := by omega
              by_cases hxy : y < x
              · have HX : Hid (incTo hs (j + 2) = true) := hnx.out.trans (decide_eq_true hxy)
                clear hnx hfl hinc HI
                have hxd : decide (x ≤ y) = false := by simp; omega
                go_wp2
                go_quiet (fail)
                go_wp2
                go_roundw
                case rel => exact ⟨j + 1, .inl (by omega), by go_num, by go_simp, below_drewN hB.out _, HX⟩
                case measure => simp [intOf]; omega
              · have HX : Hid (r = false) := hfl.out hxy
                clear hnx hfl hinc HI
                have hxd : decide (x ≤ y) = true := by simp; omega
                go_wp2
                go_quiet (fail)
                go_wp2
                go_ret
                exact ⟨retB HX.out, below_drewN hB.out _⟩
            · have HX : Hid (r = true) := by
                show _ = _
                rw [HI.out]
                rcases hj with h | h
                · rw [show n = j + 1 by omega]; exact hinc.out
                · subst h
                  rcases Nat.eq_zero_or_pos n with h0 | h0
                  · rw [h0]; rfl
                  · rw [show n = 0 + 1 by omega]; exact hinc.out
              clear hinc HI
              have l1 : (n : Int) ≤ (j : Int) + 1 := by omega
              clear hj
              go_wp2
              go_ret
              exact ⟨retB HX.out, hB.out⟩
        · have HI : Hid (r = false) := by
            show _ = _
            rw [HR.out]; unfold validB
            rw [decide_eq_false (show ¬ hs.length ≤ 40 by rw [← HN.out]; exact h40)]; simp
          have t1 : ((m : Int) != 7) = false := by simp; omega
          have t2 : decide (40 < (n : Int)) = true := by simp; omega
          have t3 : decide (40 < n) = true := by simp; omega
          clear h7 HR
          go_enter Try.func20, Try.ntmps20
          go_wp2
          go_ret
          exact ⟨retB HI.out, (Below.refl _ _).alloc (Nat.le_refl _) _⟩
      · have HI : Hid (r = false) := by
          show _ = _
          rw [HR.out]; unfold validB
          rw [decide_eq_false (show ¬ wk.length = 7 by rw [← HM.out]; exact h7)]; simp
        have t1 : ((m : Int) != 7) = true := by simp; omega
        clear h7 HR
        go_enter Try.func20, Try.ntmps20
        go_wp2
        go_ret
        exact ⟨retB HI.out, (Below.refl _ _).alloc (Nat.le_refl _) _⟩
    · have HI : Hid (r = false) := by
        show _ = _
        rw [HR.out]; unfold validB
        rw [decide_eq_false hy]; simp
      clear HR
      go_enter Try.func20, Try.ntmps20
      go_wp2
      go_ret
      exact ⟨retB HI.out, (Below.refl _ _).alloc (Nat.le_refl _) _⟩
  · have HI : Hid (r = false) := by
      show _ = _
      rw [HR.out]; unfold validB
      rw [decide_eq_false hz]; simp
    clear HR
    go_enter Try.func20, Try.ntmps20
    go_wp2
    go_ret
    exact ⟨retB HI.out, (Below.refl _ _).alloc (Nat.le_refl _) _⟩

set_option maxRecDepth 100000 in
set_option maxHeartbeats 1000000 in
theorem rvalid_any (z : Int) (aw ah : Option Addr) (cw ch : Nat) (wk : List Bool) (hs : List Int) (w : World) (hC : Cal w.heap.size w aw ah wk hs) :
    Calls Try.prog 22 #[calV z aw wk.length cw ah hs.length ch] w fun e w' => e = .returned (.bool (validB z wk hs)) ∧ Below w.heap.size w w' := by
  have h1 := hC.wl
  have h2 := hC.hl
  unfold maxLen at h1 h2
  have HC := hid hC
  clear hC
  obtain ⟨r, hr⟩ : ∃ r, r = validB z wk hs := ⟨_, rfl⟩
  rw [← hr]
  have HR := hid hr
  clear hr
  obtain ⟨m, hm⟩ : ∃ m, m = wk.length := ⟨_, rfl⟩
  obtain ⟨n, hn⟩ : ∃ n, n = hs.length := ⟨_, rfl⟩
  rw [← hm] at h1 ⊢
  rw [← hn] at h2 ⊢
  have HM := hid hm
  have HN := hid hn
  clear hm hn
  by_cases hz : -720 ≤ z
  · by_cases hy : z ≤ 840
    · by_cases h7 : m = 7
      · by_cases h40 : n ≤ 40
        · have t1 : ((m : Int) != 7) = false := by simp; omega
          have t2 : decide (40 < (n : Int)) = false := by simp; omega
          have t3 : decide (40 < n) = false := by simp; omega
          have HI : Hid (r = incTo hs n) := by
            show _ = _
            rw [HR.out, valid_mk hz hy (HM.out.symm.trans h7) (by rw [← HN.out]; exact h40), HN.out]; rfl
          clear h7 HR
          go_enter Try.func22, Try.ntmps22
          go_wp2
          clear t1 t2 t3
          go_loopw [3] (fun i wr => ∃ j : Nat, (j + 1 ≤ n ∨ j = 0) ∧ i = .int .i64 ((j : Int) + 1) ∧ wr.cell? ⟨w.heap.size, 2, none⟩ = some (.slice ah n ch) ∧ Hid (Below w.heap.size w wr) ∧ Hid (incTo hs (j + 1) = true))
            (fun i _ => n + 1 - (intOf i).toNat)
          case atStart => exact ⟨0, .inr rfl, rfl, by go_simp, (Below.refl _ _).alloc (Nat.le_refl _) _, incTo_one hs⟩
          case round =>
            obtain ⟨j, hj, rfl, hbox, hB, hinc⟩ := hrel
            by_cases hlt : j + 1 < n
            · obtain ⟨b, o, rfl, hb, hc⟩ := (HC.out.below hB.out).days (by rw [← HN.out]; omega)
              have c0 := hc j (by rw [← HN.out]; omega)
              have c1 := hc (j + 1) (by rw [← HN.out]; omega)
              clear hc hj
              have hnx : Hid (incTo hs (j + 2) = decide (hs.getD j 0 < hs.getD (j + 1) 0)) := by
                show _ = _
                rw [incTo_succ, hinc.out]; simp
              have hfl : Hid (¬ hs.getD j 0 < hs.getD (j + 1) 0 → r = false) := by
                intro hno
                rw [HI.out, HN.out]
                exact inc_false (by rw [← HN.out]; omega) hno
              obtain ⟨x, hx⟩ : ∃ x, x = hs.getD (j + 1) 0 := ⟨_, rfl⟩
              obtain ⟨y, hy'⟩ : ∃ y, y = hs.getD j 0 := ⟨_, rfl⟩
              rw [← hx] at c1 hnx hfl
              rw [← hy'] at c0 hnx hfl
              clear hx hy'
              have l1 : (j : Int) + 1 < (n : Int) := by omega
              have l0 : (j : Int) < (n : Int) := by omega
              by_cases hxy : y < x
              · have HX : Hid (incTo hs (j + 2) = true) := hnx.out.trans (decide_eq_true hxy)
                clear hnx hfl hinc HI
                have hxd : decide (x ≤ y) = false := by simp; omega
                go_wp2
                go_quiet (fail)
                go_wp2
                go_roundw
                case rel => exact ⟨j + 1, .inl (by omega), by go_num, by go_simp, below_drewN hB.out _, HX⟩
                case measure => simp [intOf]; omega
              · have HX : Hid (r = false) := hfl.out hxy
                clear hnx hfl hinc HI
                have hxd : decide (x ≤ y) = true := by simp; omega
                go_wp2
                go_quiet (fail)
                go_wp2
                go_ret
                exact ⟨retB HX.out, below_drewN hB.out _⟩
            · have HX : Hid (r = true) := by
                show _ = _
                rw [HI.out]
                rcases hj with h | h
                · rw [show n = j + 1 by omega]; exact hinc.out
                · subst h
                  rcases Nat.eq_zero_or_pos n with h0 | h0
                  · rw [h0]; rfl
                  · rw [show n = 0 + 1 by omega]; exact hinc.out
              clear hinc HI
              have l1 : (n : Int) ≤ (j : Int) + 1 := by omega
              clear hj
              go_wp2
              go_ret
              exact ⟨retB HX.out, hB.out⟩
        · have HI : Hid (r = false) := by
            show _ = _
            rw [HR.out]; unfold validB
            rw [decide_eq_false (show ¬ hs.length ≤ 40 by rw [← HN.out]; exact h40)]; simp
          have t1 : ((m : Int) != 7) = false := by simp; omega
          have t2 : decide (40 < (n : Int)) = true := by simp; omega
          have t3 : decide (40 < n) = true := by simp; omega
          clear h7 HR
          go_enter Try.func22, Try.ntmps22
          go_wp2
          go_ret
          exact ⟨retB HI.out, (Below.refl _ _).alloc (Nat.le_refl _) _⟩
      · have HI : Hid (r = false) := by
          show _ = _
          rw [HR.out]; unfold validB
          rw [decide_eq_false (show ¬ wk.length = 7 by rw [← HM.out]; exact h7)]; simp
        have t1 : ((m : Int) != 7) = true := by simp; omega
        clear h7 HR
        go_enter Try.func22, Try.ntmps22
        go_wp2
        go_ret
        exact ⟨retB HI.out, (Below.refl _ _).alloc (Nat.le_refl _) _⟩
    · have HI : Hid (r = false) := by
        show _ = _
        rw [HR.out]; unfold validB
        rw [decide_eq_false hy]; simp
      clear HR
      go_enter Try.func22, Try.ntmps22
      go_wp2
      go_ret
      exact ⟨retB HI.out, (Below.refl _ _).alloc (Nat.le_refl _) _⟩
  · have HI : Hid (r = false) := by
      show _ = _
      rw [HR.out]; unfold validB
      rw [decide_eq_false hz]; simp
    clear HR
    go_enter Try.func22, Try.ntmps22
    go_wp2
    go_ret
    exact ⟨retB HI.out, (Below.refl _ _).alloc (Nat.le_refl _) _⟩

end Cl
end Go.Proofs.Ythhckdfghdpmkaa
