/-
  The contract of Add.
-/
import Derived.Test.YthhckdfghdpmkaaW8
namespace Go.Proofs.Ythhckdfghdpmkaa
open Go.RowKit
namespace Cl

theorem addO_none {wk : List Bool} {hs : List Int} {d : Int} {k n : Nat} (h : addO wk hs d k = none) (hn : k ≤ n) : addO wk hs d n = none := by
  obtain ⟨m, rfl⟩ : ∃ m, n = k + m := ⟨n - k, by omega⟩
  rw [addO_add, h]; rfl
theorem row_cells {W : World} {B : Nat} {v0 v1 v2 v3 v4 v5 v6 v7 : Value} {t : TypeId} (h : W.heap[B]? = some (.cells #[v0, v1, v2, v3, v4, v5, v6, v7] t (0, 0))) :
    W.cell? ⟨B, 0, none⟩ = some v0 ∧ W.cell? ⟨B, 1, none⟩ = some v1 ∧ W.cell? ⟨B, 2, none⟩ = some v2 ∧ W.cell? ⟨B, 3, none⟩ = some v3 ∧ W.cell? ⟨B, 4, none⟩ = some v4 ∧ W.cell? ⟨B, 5, none⟩ = some v5 ∧ W.cell? ⟨B, 6, none⟩ = some v6 ∧ W.cell? ⟨B, 7, none⟩ = some v7 := by
  simp [World.cell?, h]

set_option maxRecDepth 100000 in
set_option maxHeartbeats 2000000 in
theorem add_any (z : Int) (aw ah : Option Addr) (cw ch : Nat) (wk : List Bool) (hs : List Int) (d : Int) (n : Nat) (w : World) (hC : Cal w.heap.size w aw ah wk hs) (hv : validB z wk hs = true) (hd : inR d = true) (hn : n ≤ 200) :
    Calls Try.prog 16 #[calV z aw wk.length cw ah hs.length ch, .int .i64 d, .int .i64 (n : Nat)] w fun e w' => e = .returned (.tuple #[.int .i64 (oV (addO wk hs d n)), .int .i64 (oE (addO wk hs d n))]) ∧ Below w.heap.size w w' := by
  obtain ⟨hz0, hz1, h7, h40, -⟩ := valid_parts hv
  obtain ⟨x0, x1, x2, x3, x4, x5, x6, rfl⟩ := seven h7
  rw [show [x0, x1, x2, x3, x4, x5, x6].length = 7 from rfl]
  have CV := hid (valid_any z aw ah cw ch _ hs _ (hC.to (b0 w (.cells #[.int .i64 z, .slice aw 7 cw, .slice ah hs.length ch] 25))))
  rw [hv, show [x0, x1, x2, x3, x4, x5, x6].length = 7 from rfl] at CV
  have HC := hid (hC.to (b0 w (.cells #[.int .i64 z, .slice aw 7 cw, .slice ah hs.length ch] 25)))
  have HV := hid hv
  clear h7 hC hv
  have CR := hid (fun w => range_any d w)
  rw [hd] at CR
  obtain ⟨hd0, hd1⟩ := inR_iff.1 hd
  clear hd
  obtain ⟨o, ho⟩ : ∃ o, o = addO [x0, x1, x2, x3, x4, x5, x6] hs d n := ⟨_, rfl⟩
  rw [← ho]
  have HO := hid ho
  clear ho
  go_enter Try.func16, Try.ntmps16
  go_wp2_with fail
  refine (CV.out).mono ?_
  rintro e w1 ⟨rfl, hb1⟩
  obtain ⟨hc0, hc1, hc2⟩ := box3 hb1
  have HC1 := hid (HC.out.to hb1)
  have HB1 := hid (bt (b0 w _) hb1)
  go_wp2_with fail
  refine (CR.out _).mono ?_
  rintro e w' ⟨rfl, rfl⟩
  go_wp2_with fail
  refine (rulesOf_any z aw ah cw ch x0 x1 x2 x3 x4 x5 x6 hs _ HC1.out).mono ?_
  rintro e w2 ⟨rfl, hb2⟩
  have HH2 := hid ((HC1.out.to hb2).hols HV.out)
  have HB2 := hid (bt HB1.out hb2)
  clear hb2 hc0 hc1 hc2 hb1
  go_wp2
  have h0 := heap_new w2 (.cells #[.bool x0, .bool x1, .bool x2, .bool x3, .bool x4, .bool x5, .bool x6, .slice ah hs.length ch] 47)
  have H0 := hid h0
  clear h0
  go_loopw [1, 30] (fun s1 s30 wr => ∃ (k : Nat) (x : Int), k ≤ n ∧ s30 = .int .i64 k ∧ s1 = .int .i64 x ∧ -1000000 ≤ x ∧ x ≤ 1000000 + 60 * k ∧ Hid (addO [x0, x1, x2, x3, x4, x5, x6] hs d k = some x) ∧ Hid (Below w2.heap.size w2 wr) ∧
      Hid (wr.heap[w2.heap.size]? = some (.cells #[.bool x0, .bool x1, .bool x2, .bool x3, .bool x4, .bool x5, .bool x6, .slice ah hs.length ch] 47 (0, 0))))
    (fun _ s30 _ => n - (intOf s30).toNat)
  case atStart => exact ⟨0, d, Nat.zero_le _, rfl, rfl, by omega, by omega, rfl, b0 _ _, H0.out⟩
  case round =>
    obtain ⟨k, x, hk, rfl, rfl, hx0, hx1, hx, hB, hrow⟩ := hrel
    by_cases hlt : k < n
    · obtain ⟨c0, c1, c2, c3, c4, c5, c6, c7⟩ := row_cells hrow.out
      have CF := hid (first_any x0 x1 x2 x3 x4 x5 x6 ch ah hs (x + 1) wr ((HH2.out.below hB.out).more hB.out.size) (by omega) (by omega))
      have hst : Hid (addO [x0, x1, x2, x3, x4, x5, x6] hs d (k + 1) = nextO [x0, x1, x2, x3, x4, x5, x6] hs (x + 1)) := by
        show (addO _ _ d k).bind _ = _
        rw [hx.out]; rfl
      have hltI : decide ((k : Int) < (n : Int)) = true := by simp; omega
      cases hno : nextO [x0, x1, x2, x3, x4, x5, x6] hs (x + 1) with
      | none =>
        rw [hno, oV_none, oE_none] at CF
        rw [hno] at hst
        have HX : Hid (o = none) := by show _ = _; rw [HO.out]; exact addO_none hst.out (by omega)
        clear hno hst
        go_wp2_with fail
        refine (CF.out).mono ?_
        rintro e w3 ⟨rfl, hb3⟩
        go_wp2
        go_ret2
        exact ⟨ret_pair (by rw [HX.out]; rfl) (by rw [HX.out]; rfl), bt HB2.out (hB.out.trans (hb3.mono hB.out.size))⟩
      | some y =>
        rw [hno, oV_some, oE_some] at CF
        rw [hno] at hst
        obtain ⟨hy0, hy1, -, -⟩ := next_some hno
        clear hno
        go_wp2_with fail
        refine (CF.out).mono ?_
        rintro e w3 ⟨rfl, hb3⟩
        have hlt3 := (Array.getElem?_eq_some_iff.1 hrow.out).1
        have hrow3 := hid ((hb3.block _ hlt3).trans hrow.out)
        have HB3 := hid (hb3.mono hB.out.size)
        clear hb3
        go_wp2
        go_roundw
        case rel => exact ⟨k + 1, y, by omega, by go_num, rfl, by omega, by omega, hst, hB.out.trans HB3.out, hrow3⟩
        case measure => simp [intOf]; omega
    · have hkn : k = n := by omega
      have hltI : decide ((k : Int) < (n : Int)) = false := by simp; omega
      have HX : Hid (o = some x) := by show _ = _; rw [HO.out, ← hkn]; exact hx.out
      clear hkn
      go_wp2
      go_ret2
      exact ⟨ret_pair (by rw [HX.out]; rfl) (by rw [HX.out]; rfl), bt HB2.out hB.out⟩

end Cl
end Go.Proofs.Ythhckdfghdpmkaa
