/-
  Contracts of the program's require, isHouse, isDay, isOpen, hasHouse, and of strings.Clone; the tables that the library reads.
-/
import Derived.Test.YtaeljmiklalpnaaGreatDoorBs
import Derived.Test.YtaeljmiklalpnaaGreatDoorQa
import Derived.Test.YtaeljmiklalpnaaGreatDoorShelf
import Derived.WalkLawsBesides
namespace Go.Proofs.YtaeljmiklalpnaaGreatDoor
open Go.RowKit Go.ChangeMaps Gn
namespace Rg

/-- The library's tables, and the variable that its search reads. -/
structure Tb (w : World) : Prop where
  utf : Lib.Utf8Tabs 0 1 w
  mx : ∃ m, w.cell? ⟨2, 0, none⟩ = some (.int .i64 m)
theorem cell_lt {w : World} {b o : Nat} {v : Value} (h : w.cell? ⟨b, o, none⟩ = some v) : b < w.heap.size := by
  rcases Nat.lt_or_ge b w.heap.size with h1 | h1
  · exact h1
  · have : w.heap[b]? = none := Array.getElem?_eq_none h1
    simp [World.cell?, this] at h
theorem Tb.on {w w' : World} (h : Tb w) (hb : Below w.heap.size w w') : Tb w' := by
  refine ⟨Utf8Tabs_below h.utf hb, ?_⟩
  obtain ⟨m, hm⟩ := h.mx
  exact ⟨m, (hb.cell (p := (⟨2, 0, none⟩ : Addr)) (cell_lt hm)).trans hm⟩

theorem pclone_any (x : W) (w : World) (hx : x.length ≤ 100000) : Calls Tryz.prog 36 #[.string (sB x)] w fun e w' => e = .returned (.string (sB x)) ∧ Below w.heap.size w w' := by
  have C := hid (fun u => Tryz.stringslite_Clone (sB x) u (by rw [sB_size]; omega))
  obtain ⟨s, hs⟩ : ∃ s, s = sB x := ⟨_, rfl⟩
  rw [← hs] at C ⊢
  clear hs hx
  go_enter Tryz.func36, Tryz.ntmps36
  go_wp2_with fail
  refine (C.out _).mono ?_
  rintro e w1 ⟨rfl, hb⟩
  go_wp2
  go_ret
  exact ⟨rfl, hb⟩

theorem preq_yes (k : Int) (w : World) : Calls Tryz.prog 33 #[.bool true, .int .i64 k] w fun e w' => e = .returned (.tuple #[]) ∧ w = w' := by
  go_enter Tryz.func33, Tryz.ntmps33
  go_wp2
  go_end0
  exact ⟨rfl, rfl⟩
theorem preq_no (k : Int) (w : World) : Calls Tryz.prog 33 #[.bool false, .int .i64 k] w fun e w' => e = .panicked [{ v := .iface 25 (.int .i64 k), recovered := false }] ∧ w = w' := by
  go_enter Tryz.func33, Tryz.ntmps33
  go_wp2
  exact ⟨rfl, rfl, rfl⟩

set_option maxRecDepth 100000 in
theorem phouse_any (n : Int) (w : World) : Calls Tryz.prog 54 #[.int .i64 n] w fun e w' => e = .returned (.bool (houseB n)) ∧ w = w' := by
  obtain ⟨r, hr⟩ : ∃ r, r = houseB n := ⟨_, rfl⟩
  rw [← hr]
  have HR := hid hr
  clear hr
  by_cases h1 : 1 ≤ n
  · have d1 : decide ((1 : Int) ≤ n) = true := decide_eq_true h1
    have HV : Hid (r = decide (n ≤ 9999)) := by show _ = _; rw [HR.out]; unfold houseB; rw [d1]; rfl
    clear h1
    go_enter Tryz.func54, Tryz.ntmps54
    go_wp2
    go_ret
    exact ⟨by rw [HV.out]; try rfl, rfl⟩
  · have d1 : decide ((1 : Int) ≤ n) = false := decide_eq_false h1
    have HV : Hid (r = false) := by show _ = _; rw [HR.out]; unfold houseB; rw [d1]; rfl
    clear h1
    go_enter Tryz.func54, Tryz.ntmps54
    go_wp2
    go_ret
    exact ⟨by rw [HV.out]; try rfl, rfl⟩
set_option maxRecDepth 100000 in
theorem pday_yes (n : Int) (w : World) (h1 : -1000000 ≤ n) (h2 : n ≤ 1000000) : Calls Tryz.prog 34 #[.int .i64 n] w fun e w' => e = .returned (.bool true) ∧ w = w' := by
  have d1 : decide (-1000000 ≤ n) = true := decide_eq_true h1
  have d2 : decide (n ≤ 1000000) = true := decide_eq_true h2
  clear h1 h2
  go_enter Tryz.func34, Tryz.ntmps34
  go_wp2
  go_ret
  exact ⟨by first | rfl | rw [d2], rfl⟩

theorem hasB_no {l : List St} {n : Int} (h : n < 0 ∨ (l.length : Int) ≤ n) : hasB l n = false := by
  rw [Bool.eq_false_iff]
  intro q
  obtain ⟨h0, s, hs, _⟩ := (hasB_iff _ _).1 q
  have := (List.getElem?_eq_some_iff.1 hs).1
  omega
theorem hasB_at {l : List St} {n : Int} {s : St} (h : 0 ≤ n) (hs : l[n.toNat]? = some s) : hasB l n = s.isOpen := by
  unfold hasB; rw [hs, decide_eq_true h]; rfl
set_option maxRecDepth 100000 in
theorem popen_any (l : List St) (vs : List Value) (v : Value) (n : Int) (w : World) (hl : IsSts w v l vs) (_h5 : l.length ≤ 1000) :
    Calls Tryz.prog 26 #[v, .int .i64 n] w fun e w' => e = .returned (.bool (hasB l n)) ∧ w = w' := by
  obtain ⟨A, cap, rfl, hl'⟩ : ∃ A cap, v = .slice A l.length cap ∧ IsSts w v l vs := by
    obtain ⟨A, cap, e, h⟩ := hl
    exact ⟨A, cap, e, ⟨A, cap, e, h⟩⟩
  by_cases h0 : 0 ≤ n
  · have d0 : decide (0 ≤ n) = true := decide_eq_true h0
    by_cases h1 : n < (l.length : Int)
    · have d1 : decide (n < (l.length : Int)) = true := decide_eq_true h1
      obtain ⟨k, rfl⟩ : ∃ k : Nat, n = k := ⟨n.toNat, by omega⟩
      obtain ⟨s, hs⟩ : ∃ s, l[k]? = some s := ⟨_, List.getElem?_eq_getElem (by omega)⟩
      obtain ⟨g, o, u, rfl, hg, hu, hst, _⟩ := hl'.at hs
      have c7 := hst.c7
      have e : hasB l (k : Int) = s.isOpen := hasB_at (by omega) (by simpa using hs)
      rw [e]
      have d2 : decide (k < l.length) = true := decide_eq_true (by omega)
      obtain ⟨m, hm⟩ : ∃ m, m = l.length := ⟨_, rfl⟩
      rw [← hm] at h1 d1 d2 ⊢
      clear hl' hs hst e hl hm
      go_enter Tryz.func26, Tryz.ntmps26
      go_wp2
      go_ret
      exact ⟨rfl, rfl⟩
    · have d1 : decide (n < (l.length : Int)) = false := decide_eq_false h1
      rw [hasB_no (.inr (by omega))]
      obtain ⟨m, hm⟩ : ∃ m, m = l.length := ⟨_, rfl⟩
      rw [← hm] at h1 d1 ⊢
      clear hl' hl hm
      go_enter Tryz.func26, Tryz.ntmps26
      go_wp2
      go_ret
      exact ⟨rfl, rfl⟩
  · have d0 : decide (0 ≤ n) = false := decide_eq_false h0
    rw [hasB_no (.inl (by omega))]
    clear hl' hl h0
    go_enter Tryz.func26, Tryz.ntmps26
    go_wp2
    go_ret
    exact ⟨rfl, rfl⟩
def inB (s : St) (n : Int) : Bool := decide (s.low ≤ n) && decide (n ≤ s.high)
set_option maxRecDepth 100000 in
theorem phas_any (s : St) (al : Value) (n : Int) (w : World) :
    Calls Tryz.prog 27 #[stA s al, .int .i64 n] w fun e w' => e = .returned (.bool (inB s n)) ∧ Below w.heap.size w w' := by
  obtain ⟨r, hr⟩ : ∃ r, r = inB s n := ⟨_, rfl⟩
  rw [← hr]
  have HR := hid hr
  clear hr
  unfold stA
  by_cases h1 : s.low ≤ n
  · have d1 : decide (s.low ≤ n) = true := decide_eq_true h1
    have HV : Hid (r = decide (n ≤ s.high)) := by show _ = _; rw [HR.out]; unfold inB; rw [d1]; rfl
    clear h1
    go_enter Tryz.func27, Tryz.ntmps27
    go_wp2
    go_ret
    exact ⟨by rw [HV.out]; try rfl, b0 _ _⟩
  · have d1 : decide (s.low ≤ n) = false := decide_eq_false h1
    have HV : Hid (r = false) := by show _ = _; rw [HR.out]; unfold inB; rw [d1]; rfl
    clear h1
    go_enter Tryz.func27, Tryz.ntmps27
    go_wp2
    go_ret
    exact ⟨by rw [HV.out]; try rfl, b0 _ _⟩

end Rg
end Go.Proofs.YtaeljmiklalpnaaGreatDoor
