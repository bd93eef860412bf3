/-
  Contracts of Local, Time, Work, Next.
-/
import Derived.Test.YthhckdfghdpmkaaW7
namespace Go.Proofs.Ythhckdfghdpmkaa
open Go.RowKit
namespace Cl

theorem seven {l : List Bool} (h : l.length = 7) : ∃ x0 x1 x2 x3 x4 x5 x6, l = [x0, x1, x2, x3, x4, x5, x6] := by
  rcases l with _ | ⟨x0, _ | ⟨x1, _ | ⟨x2, _ | ⟨x3, _ | ⟨x4, _ | ⟨x5, _ | ⟨x6, _ | ⟨x7, l⟩⟩⟩⟩⟩⟩⟩⟩ <;> simp at h
  exact ⟨x0, x1, x2, x3, x4, x5, x6, rfl⟩
theorem ret_pair {a b c d : Int} {k : IntKind} (h1 : a = c) (h2 : b = d) : Ending.returned (.tuple #[.int k a, .int k b]) = .returned (.tuple #[.int k c, .int k d]) := by rw [h1, h2]

set_option maxRecDepth 100000 in
set_option maxHeartbeats 2000000 in
theorem local_any (z : Int) (aw ah : Option Addr) (cw ch : Nat) (wk : List Bool) (hs : List Int) (t : Int) (w : World) (hC : Cal w.heap.size w aw ah wk hs) (hv : validB z wk hs = true) (ht0 : -2000000000 ≤ t) (ht1 : t ≤ 2000000000) :
    Calls Try.prog 12 #[calV z aw wk.length cw ah hs.length ch, .int .i64 t] w fun e w' => e = .returned (.tuple #[.int .i64 ((t + z) / 1440), .int .i64 ((t + z) % 1440)]) ∧ Below w.heap.size w w' := by
  obtain ⟨hz0, hz1, h7, h40, -⟩ := valid_parts hv
  obtain ⟨x0, x1, x2, x3, x4, x5, x6, rfl⟩ := seven h7
  rw [show [x0, x1, x2, x3, x4, x5, x6].length = 7 from rfl]
  have CV := hid (valid_any z aw ah cw ch _ hs _ (hC.to (b0 w (.cells #[.int .i64 z, .slice aw 7 cw, .slice ah hs.length ch] 25))))
  rw [hv, show [x0, x1, x2, x3, x4, x5, x6].length = 7 from rfl] at CV
  have HC := hid (hC.to (b0 w (.cells #[.int .i64 z, .slice aw 7 cw, .slice ah hs.length ch] 25)))
  have HV := hid hv
  clear h7 hC hv
  go_enter Try.func12, Try.ntmps12
  go_wp2_with fail
  refine (CV.out).mono ?_
  rintro e w1 ⟨rfl, hb1⟩
  obtain ⟨hc0, hc1, hc2⟩ := box3 hb1
  have HC1 := hid (HC.out.to hb1)
  have HB1 := hid (bt (b0 w _) hb1)
  go_wp2_with fail
  refine (divide_any (t + z) 1440 _ (.inr rfl) (by omega) (by omega)).mono ?_
  rintro e w2 ⟨rfl, hb2⟩
  go_wp2
  go_ret2
  exact ⟨rfl, bt HB1.out hb2⟩

set_option maxRecDepth 100000 in
set_option maxHeartbeats 2000000 in
theorem time_any (z : Int) (aw ah : Option Addr) (cw ch : Nat) (wk : List Bool) (hs : List Int) (d i : Int) (w : World) (hC : Cal w.heap.size w aw ah wk hs) (hv : validB z wk hs = true) (hd : inR d = true) (hi0 : 0 ≤ i) (hi1 : i ≤ 1439) :
    Calls Try.prog 13 #[calV z aw wk.length cw ah hs.length ch, .int .i64 d, .int .i64 i] w fun e w' => e = .returned (.int .i64 (d * 1440 + i - z)) ∧ Below w.heap.size w w' := by
  obtain ⟨hz0, hz1, h7, h40, -⟩ := valid_parts hv
  obtain ⟨x0, x1, x2, x3, x4, x5, x6, rfl⟩ := seven h7
  rw [show [x0, x1, x2, x3, x4, x5, x6].length = 7 from rfl]
  have CV := hid (valid_any z aw ah cw ch _ hs _ (hC.to (b0 w (.cells #[.int .i64 z, .slice aw 7 cw, .slice ah hs.length ch] 25))))
  rw [hv, show [x0, x1, x2, x3, x4, x5, x6].length = 7 from rfl] at CV
  have HC := hid (hC.to (b0 w (.cells #[.int .i64 z, .slice aw 7 cw, .slice ah hs.length ch] 25)))
  have HV := hid hv
  clear h7 hC hv
  have CR := hid (fun w => range_any d w)
  rw [hd] at CR
  obtain ⟨hd0, hd1⟩ := inR_iff.1 hd
  clear hd
  go_enter Try.func13, Try.ntmps13
  go_wp2_with fail
  refine (CV.out).mono ?_
  rintro e w1 ⟨rfl, hb1⟩
  obtain ⟨hc0, hc1, hc2⟩ := box3 hb1
  have HC1 := hid (HC.out.to hb1)
  have HB1 := hid (bt (b0 w _) hb1)
  go_wp2_with fail
  refine (CR.out _).mono ?_
  rintro e w' ⟨rfl, rfl⟩
  go_wp2
  go_ret
  exact ⟨rfl, HB1.out⟩

set_option maxRecDepth 100000 in
set_option maxHeartbeats 2000000 in
theorem workc_any (z : Int) (aw ah : Option Addr) (cw ch : Nat) (wk : List Bool) (hs : List Int) (d : Int) (w : World) (hC : Cal w.heap.size w aw ah wk hs) (hv : validB z wk hs = true) (hd : inR d = true) :
    Calls Try.prog 15 #[calV z aw wk.length cw ah hs.length ch, .int .i64 d] w fun e w' => e = .returned (.bool (onB wk hs d)) ∧ Below w.heap.size w w' := by
  obtain ⟨hz0, hz1, h7, h40, -⟩ := valid_parts hv
  obtain ⟨x0, x1, x2, x3, x4, x5, x6, rfl⟩ := seven h7
  rw [show [x0, x1, x2, x3, x4, x5, x6].length = 7 from rfl]
  have CV := hid (valid_any z aw ah cw ch _ hs _ (hC.to (b0 w (.cells #[.int .i64 z, .slice aw 7 cw, .slice ah hs.length ch] 25))))
  rw [hv, show [x0, x1, x2, x3, x4, x5, x6].length = 7 from rfl] at CV
  have HC := hid (hC.to (b0 w (.cells #[.int .i64 z, .slice aw 7 cw, .slice ah hs.length ch] 25)))
  have HV := hid hv
  clear h7 hC hv
  have CR := hid (fun w => range_any d w)
  rw [hd] at CR
  obtain ⟨hd0, hd1⟩ := inR_iff.1 hd
  clear hd
  go_enter Try.func15, Try.ntmps15
  go_wp2_with fail
  refine (CV.out).mono ?_
  rintro e w1 ⟨rfl, hb1⟩
  obtain ⟨hc0, hc1, hc2⟩ := box3 hb1
  have HC1 := hid (HC.out.to hb1)
  have HB1 := hid (bt (b0 w _) hb1)
  go_wp2_with fail
  refine (CR.out _).mono ?_
  rintro e w' ⟨rfl, rfl⟩
  go_wp2_with fail
  refine (rulesOf_any z aw ah cw ch x0 x1 x2 x3 x4 x5 x6 hs _ HC1.out).mono ?_
  rintro e w2 ⟨rfl, hb2⟩
  have HH2 := hid ((HC1.out.to hb2).hols HV.out)
  have HB2 := hid (bt HB1.out hb2)
  go_wp2_with fail
  refine (work_any x0 x1 x2 x3 x4 x5 x6 ch ah hs d _ HH2.out (by omega) (by omega)).mono ?_
  rintro e w3 ⟨rfl, hb3⟩
  go_wp2
  go_ret
  exact ⟨rfl, bt HB2.out hb3⟩

set_option maxRecDepth 100000 in
set_option maxHeartbeats 2000000 in
theorem next_any (z : Int) (aw ah : Option Addr) (cw ch : Nat) (wk : List Bool) (hs : List Int) (d : Int) (w : World) (hC : Cal w.heap.size w aw ah wk hs) (hv : validB z wk hs = true) (hd : inR d = true) :
    Calls Try.prog 14 #[calV z aw wk.length cw ah hs.length ch, .int .i64 d] w fun e w' => e = .returned (.tuple #[.int .i64 (oV (nextO wk hs d)), .int .i64 (oE (nextO wk hs d))]) ∧ Below w.heap.size w w' := by
  obtain ⟨hz0, hz1, h7, h40, -⟩ := valid_parts hv
  obtain ⟨x0, x1, x2, x3, x4, x5, x6, rfl⟩ := seven h7
  rw [show [x0, x1, x2, x3, x4, x5, x6].length = 7 from rfl]
  have CV := hid (valid_any z aw ah cw ch _ hs _ (hC.to (b0 w (.cells #[.int .i64 z, .slice aw 7 cw, .slice ah hs.length ch] 25))))
  rw [hv, show [x0, x1, x2, x3, x4, x5, x6].length = 7 from rfl] at CV
  have HC := hid (hC.to (b0 w (.cells #[.int .i64 z, .slice aw 7 cw, .slice ah hs.length ch] 25)))
  have HV := hid hv
  clear h7 hC hv
  have CR := hid (fun w => range_any d w)
  rw [hd] at CR
  obtain ⟨hd0, hd1⟩ := inR_iff.1 hd
  clear hd
  go_enter Try.func14, Try.ntmps14
  go_wp2_with fail
  refine (CV.out).mono ?_
  rintro e w1 ⟨rfl, hb1⟩
  obtain ⟨hc0, hc1, hc2⟩ := box3 hb1
  have HC1 := hid (HC.out.to hb1)
  have HB1 := hid (bt (b0 w _) hb1)
  go_wp2_with fail
  refine (CR.out _).mono ?_
  rintro e w' ⟨rfl, rfl⟩
  go_wp2_with fail
  refine (rulesOf_any z aw ah cw ch x0 x1 x2 x3 x4 x5 x6 hs _ HC1.out).mono ?_
  rintro e w2 ⟨rfl, hb2⟩
  have HH2 := hid ((HC1.out.to hb2).hols HV.out)
  have HB2 := hid (bt HB1.out hb2)
  go_wp2_with fail
  refine (first_any x0 x1 x2 x3 x4 x5 x6 ch ah hs d _ HH2.out (by omega) (by omega)).mono ?_
  rintro e w3 ⟨rfl, hb3⟩
  go_wp2
  go_ret2
  exact ⟨rfl, bt HB2.out hb3⟩

end Cl
end Go.Proofs.Ythhckdfghdpmkaa
