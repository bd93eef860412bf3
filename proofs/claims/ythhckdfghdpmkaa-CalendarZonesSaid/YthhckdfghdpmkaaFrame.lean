/-
  How a calendar that came in reads.
-/
import Derived.Test.YthhckdfghdpmkaaHead
import Derived.ProofKit
import Derived.OpenShut
import Derived.Carry
import Derived.Lib.SmallJoins
import Derived.Deep.Grids
import Derived.Laws.Rows
namespace Go.Proofs.Ythhckdfghdpmkaa
open Go.ChangeShapes Go.WideShapes Go.ChangeAt Go.RowKit Go.Joins
namespace Cl

theorem own : ownKnob Try.prog.godebug = none := by kernel_rfl
theorem laidOut : laidOutB Try.prog = true := by kernel_rfl
theorem cellsCal : Try.prog.cellsOf 25 = 3 := by kernel_rfl
theorem cellsInt : Try.prog.cellsOf 3 = 1 := by kernel_rfl
theorem bytesInt : Try.prog.bytesOf 3 = 8 := by kernel_rfl
theorem cellsBool : Try.prog.cellsOf 4 = 1 := by kernel_rfl

theorem plain_at {w : World} {a : Addr} {v : Value} (h : w.cell? a = some v) : a = ⟨a.block, a.off, none⟩ := by
  obtain ⟨b, o, e⟩ := a
  cases e with
  | none => rfl
  | some x => simp [World.cell?] at h; split at h <;> cases h

/-- A CALENDAR, OPENED; how great its list of holidays can be. -/
theorem cal_sized {H : Type} {enc : TypeId × Value → H} {W : World} {base : Nat} {v : Value} {d : DataW H} {ps : List MemPlace} (hv : Value.okWide Try.prog W .any base 25 v)
    (h : DataW.Trod enc Try.prog W 0 (fun _ => true) true 25 v d ps) :
    ∃ (z : Int) (aw ah : Option Addr) (cw ch : Nat) (wk : List Bool) (hs : List Int), v = calV z aw wk.length cw ah hs.length ch ∧ Cal W.heap.size W aw ah wk hs ∧ ∀ R, (∀ n ∈ d.weights Try.prog 25, n ≤ R) → hs.length * 8 ≤ R := by
  obtain ⟨v0, v1, v2, y0, y1, y2, n, rfl, rfl, -, h0, h1, h2⟩ := open_agg3 Try.underlying25 (by kernel_rfl) cellsCal hv h
  obtain ⟨z, e0, -, -⟩ := DataW.trod_int Try.underlying3 h0
  simp at e0
  subst e0
  have hw : ∃ (aw : Option Addr) (cw : Nat) (wk : List Bool), v1 = .slice aw wk.length cw ∧ wk.length ≤ maxLen ∧ (0 < wk.length → ∃ b o, aw = some ⟨b, o, none⟩ ∧ b < W.heap.size ∧ ∀ k, k < wk.length → W.cell? ⟨b, o + k, none⟩ = some (.bool (wk.getD k false))) := by
    rcases Go.Deep.open_bools Try.underlying22 Try.underlying4 cellsBool h1 with ⟨e, -⟩ | ⟨a, len, cap, B, e, -, hlc, hm, -, hc⟩
    · exact ⟨none, 0, [], by simpa using e, by unfold maxLen; simp, fun h => absurd h (by simp)⟩
    · refine ⟨some a, cap, (List.range len).map B, by simpa using e, by simp; omega, fun h0 => ?_⟩
      simp at h0
      have hc0 := hc 0 (by omega)
      have e0 : a.add 0 = a := by simp [Addr.add]
      rw [e0] at hc0
      refine ⟨a.block, a.off, congrArg some (plain_at hc0), block_lt_of_cell hc0, fun k hk => ?_⟩
      simp at hk
      have hck := hc k (by omega)
      rw [plain_at hc0, add_plain] at hck
      rw [hck]
      simp [List.getD, hk]
  have hwt : ∀ e s, y2.1 = .slice e s → (e.length + s.length) * 8 ∈ (DataW.agg [y0.1, y1.1, y2.1]).weights Try.prog 25 := by
    intro e s he
    rw [he]
    simp [DataW.weights, DataW.weightsEach, Try.underlying25, Try.underlying23, bytesInt]
  have hh : ∃ (ah : Option Addr) (ch : Nat) (hs : List Int), v2 = .slice ah hs.length ch ∧ hs.length ≤ maxLen ∧ (∀ R, (∀ n ∈ (DataW.agg [y0.1, y1.1, y2.1]).weights Try.prog 25, n ≤ R) → hs.length * 8 ≤ R) ∧ (0 < hs.length → ∃ b o, ah = some ⟨b, o, none⟩ ∧ b < W.heap.size ∧ ∀ k, k < hs.length → W.cell? ⟨b, o + k, none⟩ = some (.int .i64 (hs.getD k 0))) := by
    rcases open_ints Try.underlying23 Try.underlying3 cellsInt h2 with ⟨e, -⟩ | ⟨a, len, cap, zs, e, -, hlc, hm, hzs, hy2, hc, -⟩
    · exact ⟨none, 0, [], by simpa using e, by unfold maxLen; simp, fun R _ => by simp, fun h => absurd h (by simp)⟩
    · simp at hzs
      have hl : (zs.take len).length = len := by rw [List.length_take]; omega
      refine ⟨some a, cap, zs.take len, by rw [hl]; simpa using e, by rw [hl]; omega, fun R hR => ?_, fun h0 => ?_⟩
      · have h1 := hR _ (hwt _ _ (by rw [hy2]))
        have e1 : (lits .i64 (zs.take len) : List (DataW H)).length = len := by unfold lits; rw [List.length_map, hl]
        rw [e1] at h1
        rw [hl]
        exact Nat.le_trans (Nat.mul_le_mul (Nat.le_add_right _ _) (Nat.le_refl 8)) h1
      rw [hl] at h0
      have hc0 := hc 0 (by omega)
      have e0 : a.add 0 = a := by simp [Addr.add]
      rw [e0] at hc0
      refine ⟨a.block, a.off, congrArg some (plain_at hc0), block_lt_of_cell hc0, fun k hk => ?_⟩
      rw [hl] at hk
      have hck := hc k (by omega)
      rw [plain_at hc0, add_plain] at hck
      rw [hck]
      simp [List.getD, hk]
  obtain ⟨aw, cw, wk, rfl, hwl, hwk⟩ := hw
  obtain ⟨ah, ch, hs, rfl, hhl, hR, hhs⟩ := hh
  exact ⟨z, aw, ah, cw, ch, wk, hs, rfl, ⟨hwk, hhs, hwl, hhl⟩, hR⟩
theorem cal_of {H : Type} {enc : TypeId × Value → H} {W : World} {base : Nat} {v : Value} {d : DataW H} {ps : List MemPlace} (hv : Value.okWide Try.prog W .any base 25 v)
    (h : DataW.Trod enc Try.prog W 0 (fun _ => true) true 25 v d ps) :
    ∃ (z : Int) (aw ah : Option Addr) (cw ch : Nat) (wk : List Bool) (hs : List Int), v = calV z aw wk.length cw ah hs.length ch ∧ Cal W.heap.size W aw ah wk hs := by
  obtain ⟨z, aw, ah, cw, ch, wk, hs, e, hC, -⟩ := cal_sized hv h
  exact ⟨z, aw, ah, cw, ch, wk, hs, e, hC⟩

end Cl
end Go.Proofs.Ythhckdfghdpmkaa
