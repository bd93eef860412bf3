/-
  What a calendar in memory reads as; contracts of divide, dayInRange and Small.
-/
import Derived.Test.YthhckdfghdpmkaaCal
import Derived.Test.YthhckdfghdpmkaaRows
import Derived.WalkKit
import Derived.WalkSpells
import Derived.WalkLawsBesides
import Derived.Handy
import Derived.IntWalk
import Derived.Deep.QuietTactic
import Derived.BigQuiet
import Derived.Deep.Draws
import Derived.Lib.SmallJoins
namespace Go.Proofs.Ythhckdfghdpmkaa
open Go.RowKit
namespace Cl

theorem hid {p : Prop} (h : p) : Hid p := h

/-- A calendar's two lists, read below block B. -/
structure Cal (B : Nat) (w : World) (aw ah : Option Addr) (wk : List Bool) (hs : List Int) : Prop where
  week : 0 < wk.length → ∃ b o, aw = some ⟨b, o, none⟩ ∧ b < B ∧ ∀ k, k < wk.length → w.cell? ⟨b, o + k, none⟩ = some (.bool (wk.getD k false))
  days : 0 < hs.length → ∃ b o, ah = some ⟨b, o, none⟩ ∧ b < B ∧ ∀ k, k < hs.length → w.cell? ⟨b, o + k, none⟩ = some (.int .i64 (hs.getD k 0))
  wl : wk.length ≤ maxLen
  hl : hs.length ≤ maxLen
section
variable {B B' : Nat} {w w' : World} {aw ah : Option Addr} {wk : List Bool} {hs : List Int}
theorem Cal.below (h : Cal B w aw ah wk hs) (hb : Below B w w') : Cal B w' aw ah wk hs :=
  ⟨fun h0 => by
    obtain ⟨b, o, e, hB, hc⟩ := h.week h0
    exact ⟨b, o, e, hB, fun k hk => (hb.cell (p := ⟨b, o + k, none⟩) hB).trans (hc k hk)⟩,
   fun h0 => by
    obtain ⟨b, o, e, hB, hc⟩ := h.days h0
    exact ⟨b, o, e, hB, fun k hk => (hb.cell (p := ⟨b, o + k, none⟩) hB).trans (hc k hk)⟩, h.wl, h.hl⟩
theorem Cal.more (h : Cal B w aw ah wk hs) (hb : B ≤ B') : Cal B' w aw ah wk hs :=
  ⟨fun h0 => by
    obtain ⟨b, o, e, hB, hc⟩ := h.week h0
    exact ⟨b, o, e, by omega, hc⟩,
   fun h0 => by
    obtain ⟨b, o, e, hB, hc⟩ := h.days h0
    exact ⟨b, o, e, by omega, hc⟩, h.wl, h.hl⟩
theorem Cal.to (h : Cal w.heap.size w aw ah wk hs) (hb : Below w.heap.size w w') : Cal w'.heap.size w' aw ah wk hs := (h.below hb).more hb.size
end

/-- A calendar by value. -/
abbrev calV (z : Int) (aw : Option Addr) (n cw : Nat) (ah : Option Addr) (m ch : Nat) : Value := .agg #[.int .i64 z, .slice aw n cw, .slice ah m ch]

theorem tdm (n y : Int) (hn : n < 0) (_ : 0 < y) : n.tdiv y = -((-n) / y) ∧ n.tmod y = -((-n) % y) := by
  obtain ⟨m, rfl⟩ : ∃ m, n = -m := ⟨-n, by omega⟩
  rw [Int.neg_tdiv, Int.neg_tmod, Int.tdiv_eq_ediv_of_nonneg (by omega), Int.tmod_eq_emod_of_nonneg (by omega), Int.neg_neg]
  exact ⟨rfl, rfl⟩

theorem retB {r b : Bool} (h : r = b) : Ending.returned (.bool b) = .returned (.bool r) := by rw [h]
theorem retI {a b : Int} {k : IntKind} (h : a = b) : Ending.returned (.int k a) = .returned (.int k b) := by rw [h]
theorem ret2 {a b c d : Int} {k : IntKind} (h1 : a = c) (h2 : b = d) : Ending.returned (.tuple #[.int k a, .int k b]) = .returned (.tuple #[.int k c, .int k d]) := by rw [h1, h2]

set_option maxHeartbeats 400000 in
theorem divide_any (n y : Int) (w : World) (hy : y = 7 ∨ y = 1440) (h0 : -3000000000 ≤ n) (h1 : n ≤ 3000000000) :
    Calls Try.prog 23 #[.int .i64 n, .int .i64 y] w fun e w' => e = .returned (.tuple #[.int .i64 (n / y), .int .i64 (n % y)]) ∧ Below w.heap.size w w' := by
  by_cases hn : 0 ≤ n
  · rcases hy with rfl | rfl
    all_goals
      go_enter Try.func23, Try.ntmps23
      go_wp2
      go_quiet (fail)
      go_wp2
      go_ret2
      exact ⟨rfl, below_drewN (Below.refl _ _) _⟩
  · rcases hy with rfl | rfl
    · obtain ⟨e1, e2⟩ := tdm n 7 (by omega) (by omega)
      go_enter Try.func23, Try.ntmps23
      go_wp2
      go_quiet (fail)
      go_wp2
      all_goals
        go_ret2
        exact ⟨ret2 (by omega) (by omega), below_drewN (Below.refl _ _) _⟩
    · obtain ⟨e1, e2⟩ := tdm n 1440 (by omega) (by omega)
      go_enter Try.func23, Try.ntmps23
      go_wp2
      go_quiet (fail)
      go_wp2
      all_goals
        go_ret2
        exact ⟨ret2 (by omega) (by omega), below_drewN (Below.refl _ _) _⟩

theorem range_any (d : Int) (w : World) : Calls Try.prog 24 #[.int .i64 d] w fun e w' => e = .returned (.bool (inR d)) ∧ w = w' := by
  by_cases h1 : -1000000 ≤ d
  · by_cases h2 : d ≤ 1000000
    · rw [inR_iff.2 ⟨h1, h2⟩]
      go_enter Try.func24, Try.ntmps24
      go_wp2
      go_ret
      exact ⟨rfl, rfl⟩
    · rw [inR_no.2 (.inr (by omega))]
      go_enter Try.func24, Try.ntmps24
      go_wp2
      go_ret
      exact ⟨rfl, rfl⟩
  · rw [inR_no.2 (.inl (by omega))]
    go_enter Try.func24, Try.ntmps24
    go_wp2
    go_ret
    exact ⟨rfl, rfl⟩

set_option maxHeartbeats 400000 in
theorem small_any (z : Int) (aw ah : Option Addr) (cw ch : Nat) (wk : List Bool) (hs : List Int) (w : World) (hC : Cal w.heap.size w aw ah wk hs) :
    Calls Try.prog 21 #[calV z aw wk.length cw ah hs.length ch] w fun e w' => e = .returned (.bool (smallB wk hs)) ∧ Below w.heap.size w w' := by
  have h1 := hC.wl
  have h2 := hC.hl
  unfold maxLen at h1 h2
  unfold smallB
  clear hC
  obtain ⟨m, hm⟩ : ∃ m, m = wk.length := ⟨_, rfl⟩
  obtain ⟨n, hn⟩ : ∃ n, n = hs.length := ⟨_, rfl⟩
  rw [← hm] at h1 ⊢
  rw [← hn] at h2 ⊢
  clear hm hn
  by_cases h3 : m ≤ 20
  · by_cases h4 : n ≤ 60
    · rw [decide_eq_true h3, decide_eq_true h4]
      have t1 : decide ((m : Int) ≤ 20) = true := by simp; omega
      have t2 : decide ((n : Int) ≤ 60) = true := by simp; omega
      go_enter Try.func21, Try.ntmps21
      go_wp2
      go_ret
      exact ⟨rfl, (Below.refl _ _).alloc (Nat.le_refl _) _⟩
    · rw [decide_eq_true h3, decide_eq_false h4]
      have t1 : decide ((m : Int) ≤ 20) = true := by simp; omega
      have t2 : decide ((n : Int) ≤ 60) = false := by simp; omega
      go_enter Try.func21, Try.ntmps21
      go_wp2
      go_ret
      exact ⟨rfl, (Below.refl _ _).alloc (Nat.le_refl _) _⟩
  · rw [decide_eq_false h3, Bool.false_and]
    have t1 : decide ((m : Int) ≤ 20) = false := by simp; omega
    go_enter Try.func21, Try.ntmps21
    go_wp2
    go_ret
    exact ⟨rfl, (Below.refl _ _).alloc (Nat.le_refl _) _⟩

end Cl
end Go.Proofs.Ythhckdfghdpmkaa
