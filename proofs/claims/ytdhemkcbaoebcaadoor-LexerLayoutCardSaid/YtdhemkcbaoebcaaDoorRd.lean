/-
  Tokens that can be read; the contract of Lex in these words.
-/
import Derived.Test.YtdhemkcbaoebcaaDoorLex
namespace Go.Proofs.YtdhemkcbaoebcaaDoor
open Go.RowKit
namespace Lx

/-- A slice that reads as a list of tokens. -/
def Reads (w : World) (v : Value) (ts : List Tk) : Prop :=
  ∃ p cap, v = .slice p ts.length cap ∧ (0 < ts.length → ∃ g, p = some ⟨g, 0, none⟩ ∧ g < w.heap.size ∧ ts.length ≤ cap ∧ ∀ i (h : i < ts.length),
    w.cell? ⟨g, i * 3, none⟩ = some (.int .i64 (ts[i].k : Int)) ∧ w.cell? ⟨g, i * 3 + 1, none⟩ = some (.string ⟨ts[i].t.toArray⟩) ∧ w.cell? ⟨g, i * 3 + 2, none⟩ = some (.int .i64 (ts[i].p : Int)))
theorem reads_of_own {w : World} {B : Nat} {v : Value} {ts : List Tk} (h : w.ownsRow B 31 3 v ts.length (encTs ts)) : Reads w v ts := by
  rcases h.2 with ⟨rfl, h0⟩ | ⟨g, cap, cur, rfl, hb, hg, hnc, -⟩
  · have h0 : ts.length = 0 := by have := encTs_len ts; rw [h0] at this; simp at this; omega
    exact ⟨none, 0, by rw [h0], fun h => by omega⟩
  · refine ⟨_, cap, rfl, fun _ => ⟨g, rfl, (Array.getElem?_eq_some_iff.1 hg).1, hnc, fun i hi => ?_⟩⟩
    obtain ⟨h1, h2, h3⟩ := encTs_at ts i hi
    exact ⟨by rw [h.cellAt _ (by omega)]; exact h1, by rw [h.cellAt _ (by omega)]; exact h2, by rw [h.cellAt _ (by omega)]; exact h3⟩
theorem Reads.on {w w' : World} {v : Value} {ts : List Tk} (h : Reads w v ts) (hb : Below w.heap.size w w') : Reads w' v ts := by
  obtain ⟨p, cap, hv, hc⟩ := h
  refine ⟨p, cap, hv, fun h0 => ?_⟩
  obtain ⟨g, hp, hg, hl, hc⟩ := hc h0
  have he : ∀ o, w'.cell? ⟨g, o, none⟩ = w.cell? ⟨g, o, none⟩ := fun o => hb.cell (p := (⟨g, o, none⟩ : Addr)) hg
  exact ⟨g, hp, Nat.lt_of_lt_of_le hg hb.size, hl, fun i hi => by rw [he, he, he]; exact hc i hi⟩
theorem Reads.at {w : World} {p : Option Addr} {n cap : Nat} {ts : List Tk} (h : Reads w (.slice p n cap) ts) {i : Nat} (hi : i < ts.length) :
    ∃ g, p = some ⟨g, 0, none⟩ ∧ g < w.heap.size ∧ w.cell? ⟨g, i * 3, none⟩ = some (.int .i64 (ts[i].k : Int)) ∧ w.cell? ⟨g, i * 3 + 1, none⟩ = some (.string ⟨ts[i].t.toArray⟩) ∧ w.cell? ⟨g, i * 3 + 2, none⟩ = some (.int .i64 (ts[i].p : Int)) := by
  obtain ⟨p', cap', hv, hc⟩ := h
  cases hv
  obtain ⟨g, hp, hg, -, hc⟩ := hc (by omega)
  exact ⟨g, hp, hg, hc i hi⟩
theorem Reads.take {w : World} {p : Option Addr} {n cap m : Nat} {ts : List Tk} (h : Reads w (.slice p n cap) ts) (hm : m ≤ ts.length) : Reads w (.slice p m cap) (ts.take m) := by
  obtain ⟨p', cap', hv, hc⟩ := h
  cases hv
  have hl : (ts.take m).length = m := by rw [List.length_take]; omega
  refine ⟨p, cap, by rw [hl], fun h0 => ?_⟩
  rw [hl] at h0
  obtain ⟨g, hp, hg, hlc, hc⟩ := hc (by omega)
  refine ⟨g, hp, hg, by omega, fun i hi => ?_⟩
  rw [hl] at hi
  rw [List.getElem_take]
  exact hc i (by omega)

/-- What Lex hands back. -/
def LexC (ts : List Tk) (x y : Int) (w : World) (e : Ending) (w' : World) : Prop :=
  ∃ p cap, e = .returned (.tuple #[.slice p ts.length cap, .int .i64 x, .int .i64 y]) ∧ Hid (Reads w' (.slice p ts.length cap) ts) ∧ Below w.heap.size w w'
theorem lex_c (s : ByteArray) (w : World) (hs : s.size ≤ maxLen) (hT : Syms w) {ts : List Tk} {x y : Int} (h : lexR s.data.toList = (ts, x, y)) : Calls Tryd.prog 12 #[.string s] w (LexC ts x y w) := by
  refine (lex_any s w hs hT).mono ?_
  rintro e w' ⟨v, he, hr, hb⟩
  rw [h] at he hr
  have hrd := reads_of_own hr
  obtain ⟨p, cap, hv, -⟩ := id hrd
  simp only at hv he
  subst hv
  exact ⟨p, cap, he, hrd, hb⟩

end Lx
end Go.Proofs.YtdhemkcbaoebcaaDoor
