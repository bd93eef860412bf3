/-
  What a law's walk carries: the box of its calendar.
-/
import Derived.Test.YthhckdfghdpmkaaHead
namespace Go.Proofs.Ythhckdfghdpmkaa
open Go.RowKit
namespace Cl

/-- The box of the calendar, in a world behind w0. -/
structure Lw (w0 : World) (B : Nat) (z : Int) (aw ah : Option Addr) (cw ch : Nat) (wk : List Bool) (hs : List Int) (W : World) : Prop where
  row : W.heap[B]? = some (.cells #[.int .i64 z, .slice aw wk.length cw, .slice ah hs.length ch] 25 (0, 0))
  cal : Cal W.heap.size W aw ah wk hs
  bel : Below w0.heap.size w0 W
section
variable {w0 W W' : World} {B : Nat} {z : Int} {aw ah : Option Addr} {cw ch : Nat} {wk : List Bool} {hs : List Int}
theorem Lw.lt (h : Lw w0 B z aw ah cw ch wk hs W) : B < W.heap.size := (Array.getElem?_eq_some_iff.1 h.row).1
theorem Lw.to (h : Lw w0 B z aw ah cw ch wk hs W) (hb : Below W.heap.size W W') : Lw w0 B z aw ah cw ch wk hs W' := ⟨(hb.block B h.lt).trans h.row, h.cal.to hb, bt h.bel hb⟩
theorem Lw.c3 (h : Lw w0 B z aw ah cw ch wk hs W) : W.cell? ⟨B, 0, none⟩ = some (.int .i64 z) ∧ W.cell? ⟨B, 1, none⟩ = some (.slice aw wk.length cw) ∧ W.cell? ⟨B, 2, none⟩ = some (.slice ah hs.length ch) := by
  simp [World.cell?, h.row]
theorem Lw.new {w : World} (hC : Cal w.heap.size w aw ah wk hs) : Lw w w.heap.size z aw ah cw ch wk hs (w.alloc (.cells #[.int .i64 z, .slice aw wk.length cw, .slice ah hs.length ch] 25)) :=
  ⟨heap_new _ _, hC.to (b0 _ _), b0 _ _⟩
end

theorem tm_bd (a : Int) (h0 : -2147483648 ≤ a) (h1 : a ≤ 2147483647) : (-1000000000 ≤ a.tmod 1000000001 ∧ a.tmod 1000000001 ≤ 1000000000) ∧ (-900000 ≤ a.tmod 900001 ∧ a.tmod 900001 ≤ 900000) := by
  by_cases h : 0 ≤ a
  · rw [Int.tmod_eq_emod_of_nonneg h, Int.tmod_eq_emod_of_nonneg h]; omega
  · rw [(tdm a 1000000001 (by omega) (by omega)).2, (tdm a 900001 (by omega) (by omega)).2]; omega

end Cl
end Go.Proofs.Ythhckdfghdpmkaa
