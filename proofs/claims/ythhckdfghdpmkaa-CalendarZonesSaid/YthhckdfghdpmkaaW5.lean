/-
  Contracts of holiday and work.
-/
import Derived.Test.YthhckdfghdpmkaaW4
namespace Go.Proofs.Ythhckdfghdpmkaa
open Go.RowKit
namespace Cl

theorem getD_at {hs : List Int} {t : Nat} (h : t < hs.length) : hs.getD t 0 = hs[t] := by simp [List.getD, h]
theorem hol_found {hs : List Int} {d : Int} {k : Nat} (hinc : incB hs = true) (h1 : ∀ t, t < k → hs.getD t 0 < d) (h2 : ∀ t, k ≤ t → t < hs.length → d ≤ hs.getD t 0) :
    holB hs d = (decide (k < hs.length) && decide (hs.getD k 0 = d)) := by
  unfold holB
  rw [Bool.eq_iff_iff, List.contains_iff_mem, Bool.and_eq_true, decide_eq_true_eq, decide_eq_true_eq]
  constructor
  · intro h
    obtain ⟨t, ht, e⟩ := List.mem_iff_getElem.1 h
    have e' : hs.getD t 0 = d := by rw [getD_at ht]; exact e
    have hk : k ≤ t := by
      rcases Nat.lt_or_ge t k with h3 | h3
      · have := h1 t h3; omega
      · exact h3
    refine ⟨by omega, ?_⟩
    have := h2 k (Nat.le_refl _) (by omega)
    rcases Nat.lt_or_eq_of_le hk with h3 | h3
    · have := inc_lt hinc k t h3 ht
      omega
    · rw [h3]; exact e'
  · rintro ⟨h3, h4⟩
    rw [getD_at h3] at h4
    exact List.mem_iff_getElem.2 ⟨k, h3, h4⟩

set_option maxRecDepth 100000 in
set_option maxHeartbeats 2000000 in
theorem holiday_any (x0 x1 x2 x3 x4 x5 x6 : Bool) (ch : Nat) (ah : Option Addr) (hs : List Int) (d : Int) (w : World) (hH : Hols w.heap.size w ah hs) :
    Calls Try.prog 29 #[rulV x0 x1 x2 x3 x4 x5 x6 ah hs.length ch, .int .i64 d] w fun e w' => e = .returned (.bool (holB hs d)) ∧ Below w.heap.size w w' := by
  obtain ⟨W1, hW1⟩ : ∃ W1, (w.alloc (.cells #[.bool x0, .bool x1, .bool x2, .bool x3, .bool x4, .bool x5, .bool x6, .slice ah hs.length ch] 47)).alloc (.cells #[.int .i64 d] 3) = W1 := ⟨_, rfl⟩
  have hB : Below w.heap.size w W1 := by rw [← hW1]; exact ((Below.refl _ w).alloc (Nat.le_refl _) _).alloc (by simp) _
  have hr : W1.cell? ⟨w.heap.size, 7, none⟩ = some (.slice ah hs.length ch) := by subst hW1; go_simp
  have hd : W1.cell? ⟨w.heap.size + 1, 0, none⟩ = some (.int .i64 d) := by subst hW1; go_simp
  have CS := hid (search_any ch w.heap.size (w.heap.size + 1) ah hs d W1 (hH.to hB) hr hd)
  have HH := hid (hH.to hB)
  have HB := hid hB
  have hl := hH.len
  clear hH hB
  obtain ⟨r, hr0⟩ : ∃ r, r = holB hs d := ⟨_, rfl⟩
  rw [← hr0]
  have HR := hid hr0
  clear hr0
  obtain ⟨n, hn⟩ : ∃ n, n = hs.length := ⟨_, rfl⟩
  rw [← hn] at hl hr CS hW1 ⊢
  have HN := hid hn
  clear hn
  go_enter Try.func29, Try.ntmps29
  go_wp2_with fail
  try rw [hW1]
  clear hW1
  refine (CS.out).mono ?_
  rintro e w' ⟨k, q, hk, rfl, I, rfl⟩
  have HF : Hid (r = (decide (k < hs.length) && decide (hs.getD k 0 = d))) := by show _ = _; rw [HR.out]; exact hol_found HH.out.inc I.out.1 I.out.2
  rw [← HN.out] at HF hk
  by_cases hlt : k < n
  · obtain ⟨b, o, rfl, hb, hc⟩ := HH.out.days (by rw [← HN.out]; omega)
    have hck := hc k (by rw [← HN.out]; exact hlt)
    obtain ⟨x, hx⟩ : ∃ x, x = hs.getD k 0 := ⟨_, rfl⟩
    rw [← hx] at hck HF
    clear hc hx I hb CS
    have l1 : decide ((k : Int) < (n : Int)) = true := by simp; omega
    have l2 : (k : Int) < (n : Int) := by omega
    by_cases hxd : x = d
    · subst hxd
      have HX : Hid (r = true) := by show _ = _; rw [HF.out, decide_eq_true hlt]; simp
      clear HF
      go_wp2
      go_quiet (fail)
      go_wp2
      go_ret
      exact ⟨retB HX.out, below_drewN (below_drewN HB.out _) _⟩
    · have HX : Hid (r = false) := by show _ = _; rw [HF.out, decide_eq_false hxd]; simp
      have l3 : (x == d) = false := by simpa using hxd
      clear HF hxd
      go_wp2
      go_quiet (fail)
      go_wp2
      go_ret
      exact ⟨retB HX.out, below_drewN (below_drewN HB.out _) _⟩
  · have HX : Hid (r = false) := by show _ = _; rw [HF.out, decide_eq_false hlt]; simp
    have l1 : decide ((k : Int) < (n : Int)) = false := by simp; omega
    clear HF I CS
    go_wp2
    go_quiet (fail)
    go_wp2
    go_ret
    exact ⟨retB HX.out, below_drewN (below_drewN HB.out _) _⟩

set_option maxRecDepth 100000 in
set_option maxHeartbeats 2000000 in
theorem work_any (x0 x1 x2 x3 x4 x5 x6 : Bool) (ch : Nat) (ah : Option Addr) (hs : List Int) (d : Int) (w : World) (hH : Hols w.heap.size w ah hs) (h0 : -3000000 ≤ d) (h1 : d ≤ 3000000) :
    Calls Try.prog 27 #[rulV x0 x1 x2 x3 x4 x5 x6 ah hs.length ch, .int .i64 d] w fun e w' => e = .returned (.bool (onB [x0, x1, x2, x3, x4, x5, x6] hs d)) ∧ Below w.heap.size w w' := by
  have HH := hid (hH.to (b0 w (.cells #[.bool x0, .bool x1, .bool x2, .bool x3, .bool x4, .bool x5, .bool x6, .slice ah hs.length ch] 47)))
  have CD := hid (divide_any d 7 (w.alloc (.cells #[.bool x0, .bool x1, .bool x2, .bool x3, .bool x4, .bool x5, .bool x6, .slice ah hs.length ch] 47)) (.inl rfl) (by omega) (by omega))
  clear hH
  obtain ⟨r, hr⟩ : ∃ r : Nat, (r : Int) = d % 7 := ⟨(d % 7).toNat, by omega⟩
  have hr7 : r < 7 := by omega
  obtain ⟨res, hres⟩ : ∃ res, res = onB [x0, x1, x2, x3, x4, x5, x6] hs d := ⟨_, rfl⟩
  have HR : Hid (res = ([x0, x1, x2, x3, x4, x5, x6].getD r false && !holB hs d)) := by show _ = _; rw [hres]; unfold onB; rw [← hr, Int.toNat_natCast]
  rw [← hres]
  rw [← hr] at CD
  clear hres hr
  go_enter Try.func27, Try.ntmps27
  go_wp2_with fail
  refine (CD.out).mono ?_
  rintro e w1 ⟨rfl, hb1⟩
  obtain ⟨c0, c1, c2, c3, c4, c5, c6, c7⟩ := box8 hb1
  obtain ⟨x, hx⟩ : ∃ x, x = [x0, x1, x2, x3, x4, x5, x6].getD r false := ⟨_, rfl⟩
  have cr : w1.cell? ⟨w.heap.size, r, none⟩ = some (.bool x) := by
    rw [hx]
    rcases r with _ | _ | _ | _ | _ | _ | _ | r
    all_goals first | assumption | omega
  rw [← hx] at HR
  have HX := hid hx
  have CH := hid (fun w => holiday_any x0 x1 x2 x3 x4 x5 x6 ch ah hs d w)
  have HB1 := hid hb1
  have HH1 := hid (HH.out.to hb1)
  have l1 : (r : Int) < 7 := by omega
  clear hx hb1
  cases x with
  | true =>
    go_wp2_with fail
    refine (CH.out _ HH1.out).mono ?_
    rintro e w2 ⟨rfl, hb2⟩
    go_wp2
    go_ret
    exact ⟨retB (by rw [HR.out, Bool.true_and]), bt (b0 w _) (bt HB1.out hb2)⟩
  | false =>
    go_wp2
    go_ret
    exact ⟨retB (by rw [HR.out]; rfl), bt (b0 w _) HB1.out⟩

end Cl
end Go.Proofs.Ythhckdfghdpmkaa
