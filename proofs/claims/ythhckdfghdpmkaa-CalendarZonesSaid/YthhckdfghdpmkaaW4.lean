/-
  Contracts of the closure of holiday, sort.Search at it, holiday, work.
-/
import Derived.Test.YthhckdfghdpmkaaW3
import Derived.Deep.LoopGhost
namespace Go.Proofs.Ythhckdfghdpmkaa
open Go.RowKit
namespace Cl

/-- The holidays, read below block B. -/
structure Hols (B : Nat) (w : World) (ah : Option Addr) (hs : List Int) : Prop where
  days : 0 < hs.length → ∃ b o, ah = some ⟨b, o, none⟩ ∧ b < B ∧ ∀ k, k < hs.length → w.cell? ⟨b, o + k, none⟩ = some (.int .i64 (hs.getD k 0))
  len : hs.length ≤ 40
  inc : incB hs = true
section
variable {B B' : Nat} {w w' : World} {ah : Option Addr} {hs : List Int}
theorem Hols.kept (h : Hols B w ah hs) (hb : ∀ k, k < B → w'.heap[k]? = w.heap[k]?) : Hols B w' ah hs :=
  ⟨fun h0 => by
    obtain ⟨b, o, e, hB, hc⟩ := h.days h0
    exact ⟨b, o, e, hB, fun k hk => (World.cell?_of_block (w := w) (hb b hB)).trans (hc k hk)⟩, h.len, h.inc⟩
theorem Hols.below (h : Hols B w ah hs) (hb : Below B w w') : Hols B w' ah hs := h.kept hb.block
theorem Hols.more (h : Hols B w ah hs) (hb : B ≤ B') : Hols B' w ah hs :=
  ⟨fun h0 => by
    obtain ⟨b, o, e, hB, hc⟩ := h.days h0
    exact ⟨b, o, e, by omega, hc⟩, h.len, h.inc⟩
theorem Hols.to (h : Hols w.heap.size w ah hs) (hb : Below w.heap.size w w') : Hols w'.heap.size w' ah hs := (h.below hb).more hb.size
end
theorem Cal.hols {B : Nat} {w : World} {aw ah : Option Addr} {z : Int} {wk : List Bool} {hs : List Int} (h : Cal B w aw ah wk hs) (hv : validB z wk hs = true) : Hols B w ah hs := by
  obtain ⟨_, _, _, h4, h5⟩ := valid_parts hv
  exact ⟨h.days, h4, h5⟩

theorem box8 {w w1 : World} {v0 v1 v2 v3 v4 v5 v6 v7 : Value} {t : TypeId} (hb : Below (w.alloc (.cells #[v0, v1, v2, v3, v4, v5, v6, v7] t)).heap.size (w.alloc (.cells #[v0, v1, v2, v3, v4, v5, v6, v7] t)) w1) :
    w1.cell? ⟨w.heap.size, 0, none⟩ = some v0 ∧ w1.cell? ⟨w.heap.size, 1, none⟩ = some v1 ∧ w1.cell? ⟨w.heap.size, 2, none⟩ = some v2 ∧ w1.cell? ⟨w.heap.size, 3, none⟩ = some v3 ∧ w1.cell? ⟨w.heap.size, 4, none⟩ = some v4 ∧ w1.cell? ⟨w.heap.size, 5, none⟩ = some v5 ∧ w1.cell? ⟨w.heap.size, 6, none⟩ = some v6 ∧ w1.cell? ⟨w.heap.size, 7, none⟩ = some v7 := by
  have h : w1.heap[w.heap.size]? = some (.cells #[v0, v1, v2, v3, v4, v5, v6, v7] t (0, 0)) := (hb.block _ (by simp)).trans (heap_new w _)
  simp [World.cell?, h]

set_option maxHeartbeats 400000 in
theorem holc_any (i n ch Br Bd : Nat) (b o : Nat) (x d : Int) (W : World) (hi : i < n) (_ : n ≤ 40) (hr : W.cell? ⟨Br, 7, none⟩ = some (.slice (some ⟨b, o, none⟩) n ch)) (hd : W.cell? ⟨Bd, 0, none⟩ = some (.int .i64 d))
    (hx : W.cell? ⟨b, o + i, none⟩ = some (.int .i64 x)) :
    Calls Try.prog 32 #[.int .i64 i, .pointer (some ⟨Br, 0, none⟩), .pointer (some ⟨Bd, 0, none⟩)] W fun e w' => e = .returned (.bool (decide (d ≤ x))) ∧ ∃ q, w' = W.drewN q := by
  have hiz : (i : Int) < (n : Int) := by omega
  go_enter Try.func32, Try.ntmps32
  go_wp2
  go_quiet (fail)
  go_wp2
  go_ret
  exact ⟨rfl, _, rfl⟩

/-- Where the search ends. -/
def Sought (hs : List Int) (d : Int) (w : World) (e : Ending) (w' : World) : Prop :=
  ∃ k q : Nat, k ≤ hs.length ∧ e = .returned (.int .i64 k) ∧ Hid ((∀ t, t < k → hs.getD t 0 < d) ∧ (∀ t, k ≤ t → t < hs.length → d ≤ hs.getD t 0)) ∧ w' = w.drewN q

set_option maxRecDepth 100000 in
set_option maxHeartbeats 2000000 in
theorem search_any (ch Br Bd : Nat) (ah : Option Addr) (hs : List Int) (d : Int) (w : World) (hH : Hols w.heap.size w ah hs) (hr : w.cell? ⟨Br, 7, none⟩ = some (.slice ah hs.length ch)) (hd : w.cell? ⟨Bd, 0, none⟩ = some (.int .i64 d)) :
    Calls Try.prog 31 #[.int .i64 (hs.length : Nat), .func (.func 32) #[] #[.pointer (some ⟨Br, 0, none⟩), .pointer (some ⟨Bd, 0, none⟩)]] w (Sought hs d w) := by
  have hl := hH.len
  have HH := hid hH
  have HR := hid hr
  have HD := hid hd
  clear hH hr hd
  obtain ⟨n, hn⟩ : ∃ n, n = hs.length := ⟨_, rfl⟩
  rw [← hn] at hl ⊢
  have HN := hid hn
  clear hn
  go_enter Try.func31, Try.ntmps31
  go_wp2
  go_loopw [5, 6] (fun s5 s6 wr => ∃ lo hi q : Nat, s5 = .int .i64 lo ∧ s6 = .int .i64 hi ∧ lo ≤ hi ∧ hi ≤ n ∧ wr = w.drewN q ∧ Hid ((∀ t, t < lo → hs.getD t 0 < d) ∧ (∀ t, hi ≤ t → t < n → d ≤ hs.getD t 0)))
    (fun s5 s6 _ => (intOf s6 - intOf s5).toNat)
  case atStart => exact ⟨0, n, 0, rfl, rfl, Nat.zero_le _, Nat.le_refl _, rfl, ⟨fun t ht => absurd ht (Nat.not_lt_zero _), fun t h1 h2 => by omega⟩⟩
  case round =>
    obtain ⟨lo, hi, q, rfl, rfl, hlh, hin, rfl, I⟩ := hrel
    by_cases hlt : lo < hi
    · obtain ⟨b, o, rfl, hb, hc⟩ := HH.out.days (by rw [← HN.out]; omega)
      have hcm := hc ((lo + hi) / 2) (by rw [← HN.out]; omega)
      have HC := hid (holc_any ((lo + hi) / 2) n ch Br Bd b o (hs.getD ((lo + hi) / 2) 0) d (w.drewN q) (by omega) hl (by rw [HN.out]; exact HR.out) HD.out hcm)
      rw [show (((lo + hi) / 2 : Nat) : Int) = ((lo : Int) + (hi : Int)) / 2 by omega] at HC
      clear hc hcm
      by_cases hx : d ≤ hs.getD ((lo + hi) / 2) 0
      · rw [decide_eq_true hx] at HC
        have I2 : Hid ((∀ t, t < lo → hs.getD t 0 < d) ∧ (∀ t, (lo + hi) / 2 ≤ t → t < n → d ≤ hs.getD t 0)) := ⟨I.out.1, fun t h1 h2 => by
          rcases Nat.lt_or_eq_of_le h1 with h3 | h3
          · have := inc_lt HH.out.inc ((lo + hi) / 2) t h3 (by rw [← HN.out]; exact h2)
            omega
          · rw [← h3]; exact hx⟩
        clear hx I
        go_wp2_with fail
        refine (HC.out).mono ?_
        rintro e w' ⟨rfl, q2, rfl⟩
        go_wp2
        go_roundw
        case rel => exact ⟨lo, (lo + hi) / 2, q + q2, rfl, by go_num, by omega, by omega, rfl, I2⟩
        case measure => simp [intOf]; omega
      · rw [decide_eq_false hx] at HC
        have I2 : Hid ((∀ t, t < (lo + hi) / 2 + 1 → hs.getD t 0 < d) ∧ (∀ t, hi ≤ t → t < n → d ≤ hs.getD t 0)) := ⟨fun t h1 => by
          rcases Nat.lt_or_eq_of_le (Nat.le_of_lt_succ h1) with h3 | h3
          · have := inc_lt HH.out.inc t ((lo + hi) / 2) h3 (by rw [← HN.out]; omega)
            omega
          · rw [h3]; omega, I.out.2⟩
        clear hx I
        go_wp2_with fail
        refine (HC.out).mono ?_
        rintro e w' ⟨rfl, q2, rfl⟩
        go_wp2
        go_roundw
        case rel => exact ⟨(lo + hi) / 2 + 1, hi, q + q2, by go_num, rfl, by omega, by omega, rfl, I2⟩
        case measure => simp [intOf]; omega
    · obtain rfl : hi = lo := by omega
      have I2 : Hid ((∀ t, t < hi → hs.getD t 0 < d) ∧ (∀ t, hi ≤ t → t < hs.length → d ≤ hs.getD t 0)) := ⟨I.out.1, fun t h1 h2 => I.out.2 t h1 (by rw [HN.out]; exact h2)⟩
      have hin2 : Hid (hi ≤ hs.length) := by show _; rw [← HN.out]; exact hin
      clear I
      go_wp2
      go_ret
      exact ⟨hi, q, hin2.out, rfl, I2, rfl⟩

end Cl
end Go.Proofs.Ythhckdfghdpmkaa
