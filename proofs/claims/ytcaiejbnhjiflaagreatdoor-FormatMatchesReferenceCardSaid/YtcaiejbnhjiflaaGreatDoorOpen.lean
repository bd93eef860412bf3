/-
  Arguments opened: texts that came in.
-/
import Derived.Test.YtcaiejbnhjiflaaGreatDoorFrame
import Derived.SliceStrings
namespace Go.Proofs.YtcaiejbnhjiflaaGreatDoor
open Go.ChangeShapes Go.WideShapes Go.ChangeAt Go.RowKit
namespace Fm

theorem cellsStr : Tryz.prog.cellsOf 9 = 1 := by kernel_rfl
theorem plain_at {w : World} {a : Addr} {v : Value} (h : w.cell? a = some v) : a = ⟨a.block, a.off, none⟩ := by
  obtain ⟨b, o, e⟩ := a
  cases e with
  | none => rfl
  | some x => simp [World.cell?] at h; split at h <;> cases h
/-- A slice of cells that are there reads as a list. -/
theorem slR_of {w : World} {a : Addr} {n cap size : Nat} {xs : List Value} (hl : xs.length = n * size) (hc : n ≤ cap) (h : ∀ (j : Nat) u, xs[j]? = some u → w.cell? (a.add j) = some u) (hs : 0 < size) : SlR w (some a) n cap size xs := by
  refine ⟨hl, hc, fun h0 => ?_⟩
  have hpos : 0 < xs.length := by rw [hl]; exact Nat.mul_pos h0 hs
  have hx0 : xs[0]? = some xs[0] := List.getElem?_eq_getElem hpos
  have h1 := h 0 _ hx0
  have e0 : a.add 0 = a := by simp [Addr.add]
  rw [e0] at h1
  refine ⟨a.block, a.off, congrArg some (plain_at h1), block_lt_of_cell h1, fun j u hj => ?_⟩
  have h2 := h j u hj
  rw [plain_at h1, add_plain] at h2
  exact h2
set_option maxRecDepth 100000 in
/-- TEXTS THAT CAME IN. -/
theorem texts_of {H : Type} {enc : TypeId × Value → H} {Wd : World} {base : Nat} {v : Value} {d : DataW H} {ps : List MemPlace} (hv : Value.okWide Tryz.prog Wd .any base 25 v)
    (h : DataW.Trod enc Tryz.prog Wd 0 (fun _ => true) true 25 v d ps) : ∃ (A : Option Addr) (cap : Nat) (ws : List W), v = .slice A ws.length cap ∧ RdW Wd A ws cap ∧ ws.length ≤ maxLen ∧ ∀ x ∈ ws, x.length ≤ maxLen := by
  obtain ⟨a0, len, cap, rfl⟩ := Go.WideShapes.okWide_slice Tryz.underlying25 hv
  obtain ⟨fuel, hf⟩ := h
  rcases open_strings Tryz.underlying25 Tryz.underlying9 cellsStr hf with ⟨hcs, -⟩ | ⟨a, len', cap', ss, hcs, -, hl, hm, hz, -, hc, hw⟩
  · simp [Value.cells] at hcs
    obtain ⟨rfl, rfl, rfl⟩ := hcs
    exact ⟨none, 0, [], rfl, SlR.nil _ _, Nat.zero_le _, fun x hx => by cases hx⟩
  · simp [Value.cells] at hcs
    obtain ⟨rfl, rfl, rfl⟩ := hcs
    simp at hz
    have hlen : ((ss.take len).map fun s => s.data.toList).length = len := by rw [List.length_map, List.length_take]; omega
    refine ⟨some a, cap, (ss.take len).map fun s => s.data.toList, by rw [hlen], ?_, by rw [hlen]; omega, fun x hx => ?_⟩
    · unfold RdW
      rw [hlen]
      refine slR_of (by rw [List.length_map, hlen, Nat.mul_one]) hl (fun j u hu => ?_) (by decide)
      rw [List.map_map, List.getElem?_map] at hu
      obtain ⟨s, hs, rfl⟩ := Option.map_eq_some_iff.1 hu
      have hj : j < ss.length := by have := (List.getElem?_eq_some_iff.1 hs).1; rw [List.length_take] at this; omega
      have hss : ss[j]? = some s := by rw [List.getElem?_take] at hs; split at hs; exact hs; cases hs
      have := hc j hj
      rw [List.getD, hss] at this
      show _ = some (sV s.data.toList)
      rw [← sV_of]; exact this
    · obtain ⟨s, hs, rfl⟩ := List.mem_map.1 hx
      rw [size_len]; exact hw s (List.mem_of_mem_take hs)

end Fm
end Go.Proofs.YtcaiejbnhjiflaaGreatDoor
