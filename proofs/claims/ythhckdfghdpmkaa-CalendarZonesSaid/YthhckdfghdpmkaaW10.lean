/-
  The contract of Count.
-/
import Derived.Test.YthhckdfghdpmkaaW9
namespace Go.Proofs.Ythhckdfghdpmkaa
open Go.RowKit Go.Shelf
namespace Cl

attribute [local go_sem] Oper.semAt_some

set_option maxRecDepth 100000 in
set_option maxHeartbeats 4000000 in
theorem count_any (z : Int) (aw ah : Option Addr) (cw ch : Nat) (wk : List Bool) (hs : List Int) (a b : Int) (w : World) (hC : Cal w.heap.size w aw ah wk hs) (hv : validB z wk hs = true) (ha : inR a = true) (hb : inR b = true) (hab : b ≤ a + 2000) :
    Calls Try.prog 17 #[calV z aw wk.length cw ah hs.length ch, .int .i64 a, .int .i64 b] w fun e w' => e = .returned (.int .i64 (cntI wk hs a b)) ∧ Below w.heap.size w w' := by
  obtain ⟨hz0, hz1, h7, h40, -⟩ := valid_parts hv
  obtain ⟨x0, x1, x2, x3, x4, x5, x6, rfl⟩ := seven h7
  rw [show [x0, x1, x2, x3, x4, x5, x6].length = 7 from rfl]
  have CV := hid (valid_any z aw ah cw ch _ hs _ (hC.to (b0 w (.cells #[.int .i64 z, .slice aw 7 cw, .slice ah hs.length ch] 25))))
  rw [hv, show [x0, x1, x2, x3, x4, x5, x6].length = 7 from rfl] at CV
  have HC := hid (hC.to (b0 w (.cells #[.int .i64 z, .slice aw 7 cw, .slice ah hs.length ch] 25)))
  have HV := hid hv
  have HC0 := hid hC
  clear h7 hC hv
  have CA := hid (fun w => range_any a w)
  rw [ha] at CA
  have CB := hid (fun w => range_any b w)
  rw [hb] at CB
  obtain ⟨ha0, ha1⟩ := inR_iff.1 ha
  obtain ⟨hb0, hb1⟩ := inR_iff.1 hb
  clear ha hb
  have hgt : decide (a + 2000 < b) = false := by simp; omega
  obtain ⟨res, hres⟩ : ∃ res, res = cntI [x0, x1, x2, x3, x4, x5, x6] hs a b := ⟨_, rfl⟩
  rw [← hres]
  have HRES := hid hres
  clear hres
  obtain ⟨n, hn⟩ : ∃ n, n = hs.length := ⟨_, rfl⟩
  rw [← hn] at h40 CV HC ⊢
  have HN := hid hn
  clear hn
  refine (callsIn_wide (n := 9)).1 ?_
  refine callsIn_of_wp_marks Try.func17 rfl trivial ?_ rfl
  simp only [Try.ntmps17, List.size_toArray, List.length_cons, List.length_nil, Nat.reduceAdd, Nat.reduceSub, Array.replicate_succ, Array.replicate_zero, List.push_toArray, List.append_toArray, List.nil_append, List.cons_append]
  gi_wp2_with fail
  refine ⟨trivial, ?_⟩
  refine (callsIn_wide.2 CV.out).mono ?_
  rintro e w1 ⟨rfl, hb1'⟩
  obtain ⟨hc0, hc1, hc2⟩ := box3 hb1'
  have HC1 := hid (HC.out.to hb1')
  have HB1 := hid (bt (b0 w _) hb1')
  have hsz1 : w.heap.size < w1.heap.size := by have := hb1'.size; simp at this; omega
  clear hb1' HC
  gi_wp2_with fail
  refine ⟨trivial, ?_⟩
  refine (callsIn_wide.2 (CA.out _)).mono ?_
  rintro e w' ⟨rfl, rfl⟩
  gi_wp2_with fail
  refine ⟨trivial, ?_⟩
  refine (callsIn_wide.2 (CB.out _)).mono ?_
  rintro e w' ⟨rfl, rfl⟩
  have CRU := hid (fun W h => rulesOf_any z aw ah cw ch x0 x1 x2 x3 x4 x5 x6 hs W h)
  rw [← HN.out] at CRU
  have bN := hid (Boxed.new w1 3 (.int .i64 0))
  have HBN := hid (b0 w1 (.cells #[.int .i64 0] 3))
  gi_wp2_with fail
  refine ⟨trivial, ?_⟩
  refine (callsIn_wide.2 (CRU.out _ (HC1.out.to HBN.out))).mono ?_
  rintro e w2 ⟨rfl, hb2⟩
  have HB2 := hid (bt (bt HB1.out HBN.out) hb2)
  have HH2 := hid ((HC0.out.below HB2.out).hols HV.out)
  have hsz2 : w1.heap.size < w2.heap.size := by have := hb2.size; simp at this; omega
  have bN2 := hid (bN.out.kept (grownBy_of_below hb2) (by simp))
  clear hb2 bN HBN hc0 hc1 hc2 CV CA CB CRU
  gi_wp2_with (refine ⟨trivial, ?_⟩; gi_at_call 28; refine (wdays_in _ x0 x1 x2 x3 x4 x5 x6 ah _ ch _ _ _).mono ?_; rintro e w' ⟨rfl, rfl⟩)
  obtain ⟨W0, hW0⟩ : ∃ W0, (((w2.alloc (.cells #[.bool x0, .bool x1, .bool x2, .bool x3, .bool x4, .bool x5, .bool x6, .slice ah n ch] 47)).alloc (.cells #[.int .i64 (a + 1)] 3)).alloc (.cells #[.int .i64 b] 3)) = W0 := ⟨_, rfl⟩
  have hsz : W0.heap.size = w2.heap.size + 3 := by rw [← hW0]; simp
  have hB0 : Below w2.heap.size w2 W0 := by rw [← hW0]; exact (((Below.refl _ w2).alloc (Nat.le_refl _) _).alloc (by simp) _).alloc (by simp; omega) _
  have bN0 : Boxed W0 w1.heap.size 3 (.int .i64 0) := by
    rw [← hW0]
    exact ((bN2.out.alloc _).alloc _).alloc _
  have X : Bxs W0 w2.heap.size x0 x1 x2 x3 x4 x5 x6 ah hs.length ch (a + 1) b := by
    rw [← HN.out, ← hW0]
    refine ⟨?_, ?_, ?_⟩
    · exact (Below.heap_alloc _ _ _ (by simp; omega)).trans ((Below.heap_alloc _ _ _ (by simp)).trans (heap_new w2 _))
    · have h := heap_new (w2.alloc (.cells #[.bool x0, .bool x1, .bool x2, .bool x3, .bool x4, .bool x5, .bool x6, .slice ah n ch] 47)) (.cells #[.int .i64 (a + 1)] 3)
      simp only [World.size_alloc] at h
      exact (Below.heap_alloc _ _ _ (by simp)).trans h
    · have h := heap_new ((w2.alloc (.cells #[.bool x0, .bool x1, .bool x2, .bool x3, .bool x4, .bool x5, .bool x6, .slice ah n ch] 47)).alloc (.cells #[.int .i64 (a + 1)] 3)) (.cells #[.int .i64 b] 3)
      simp only [World.size_alloc] at h
      exact h
  try rw [hW0]
  clear hW0
  have hB1 : Below w.heap.size w W0 := bt HB2.out hB0
  have HT := hid (wd_stops 8 (by omega) w.heap.size w2.heap.size (by omega) x0 x1 x2 x3 x4 x5 x6 ah ch hs (a + 1) b (by omega) (by omega) 2000 (by omega) W0 X (HH2.out.below (hB0.mono (by omega))))
  rw [show (b - (a + 1) + 1).toNat = (b - a).toNat by omega] at HT
  clear X HH2 HB2 bN2 hB0
  refine wpIn_rangeFunc_ownG rfl (by omega) (gf := 30) (lb := #[.pointer (some ⟨w2.heap.size + 1, 0, none⟩), .pointer (some ⟨w2.heap.size + 2, 0, none⟩), .pointer (some ⟨w2.heap.size, 0, none⟩)]) rfl trivial (enters_of Try.func30 (by kernel_rfl) rfl)
    HT.out (fun {A B C} (h : KpS _ _ A B) (k : KpS _ _ B C) => h.trans k) (kpS_put _ _ (by omega) (by omega)) (Below.refl _ _) (fun _ => rfl)
    (fun pre W => Boxed W w1.heap.size 3 (.int .i64 (pre.length : Nat)) ∧ Below w.heap.size w W)
    (fun _ _ _ => False)
    (OwnFrom.and (Own.from (boxed_own w1.heap.size 3 (fun pre : List Int => .int .i64 (pre.length : Nat))) _) (ownFrom_below (Nat.le_refl _) (by omega)))
    (fun _ _ _ _ _ hs _ _ => hs)
    ⟨bN0, hB1⟩
    (fun x => { tmps := #[calV z aw 7 cw ah n ch, .int .i64 a, .int .i64 b, .pointer (some ⟨w.heap.size, 0, none⟩), undef, undef, .int .i64 0, .pointer (some ⟨w1.heap.size, 0, none⟩), calV z aw 7 cw ah n ch, .bool true,
      .bool false, .bool false, .int .i64 a, .bool true, .bool false, .bool false, .bool false, .int .i64 b, .bool true, .bool false, .bool false, .bool false, .int .i64 b, .int .i64 a, .int .i64 (a + 2000), .bool false, .bool false,
      calV z aw 7 cw ah n ch, rulV x0 x1 x2 x3 x4 x5 x6 ah n ch, .int .i64 a, .int .i64 (a + 1), .int .i64 b,
      .func (.func 30) #[] #[.pointer (some ⟨w2.heap.size + 1, 0, none⟩), .pointer (some ⟨w2.heap.size + 2, 0, none⟩), .pointer (some ⟨w2.heap.size, 0, none⟩)], .int .i64 x, undef, undef, undef], defers := [] }) ?assign ?body ?done ?stop
  case assign =>
    intro l x W K hK
    gi_wp2
    exact hK
  case body =>
    rintro l pre x W ⟨bN1, hBW⟩ hlt
    have cN := bN1.cell
    have fN := bN1.frozen
    clear bN0 hB1
    gi_wp2
    have b2 := bN1.set (.int .i64 ((pre.length : Int) + 1))
    refine ⟨(KeepsOthers.setCell _ _ _).from _, fun k hk => Below.heap_setCell _ _ _ _ (by simp; omega), ?_, hBW.setCell (p := ⟨w1.heap.size, 0, none⟩) (by simp; omega) _⟩
    rw [List.length_append]
    exact b2
  case done =>
    rintro D ys W hD rfl ⟨bN1, hBW⟩ hK
    have cN := bN1.cell
    gi_wp2
    refine ⟨by simp, .inl ⟨_, _, rfl, run_takeDeferred hK, ?_⟩⟩
    refine ⟨_, results_tmp rfl _ _ _, ?_, hBW.trans (belowK_b (w := w) (Nat.le_refl _) _ D _ _ (by omega) hK rfl rfl)⟩
    rw [HRES.out]; rfl
  case stop =>
    rintro D c pre W _ _ h _
    exact h.elim

set_option maxRecDepth 100000 in
set_option maxHeartbeats 2000000 in
theorem count_far (z : Int) (aw ah : Option Addr) (cw ch : Nat) (wk : List Bool) (hs : List Int) (a b : Int) (w : World) (hC : Cal w.heap.size w aw ah wk hs) (hv : validB z wk hs = true) (ha : inR a = true) (hb : inR b = true) (hab : a + 2000 < b) :
    Calls Try.prog 17 #[calV z aw wk.length cw ah hs.length ch, .int .i64 a, .int .i64 b] w fun e w' => e = .returned (.int .i64 (-1)) ∧ Below w.heap.size w w' := by
  have CV := hid (valid_any z aw ah cw ch _ hs _ (hC.to (b0 w (.cells #[.int .i64 z, .slice aw wk.length cw, .slice ah hs.length ch] 25))))
  rw [hv] at CV
  clear hC hv
  have CA := hid (fun w => range_any a w)
  rw [ha] at CA
  have CB := hid (fun w => range_any b w)
  rw [hb] at CB
  obtain ⟨ha0, ha1⟩ := inR_iff.1 ha
  obtain ⟨hb0, hb1⟩ := inR_iff.1 hb
  clear ha hb
  have hgt : decide (a + 2000 < b) = true := by simp; omega
  go_enter Try.func17, Try.ntmps17
  go_wp2_with fail
  refine (CV.out).mono ?_
  rintro e w1 ⟨rfl, hb1'⟩
  go_wp2_with fail
  refine (CA.out _).mono ?_
  rintro e w' ⟨rfl, rfl⟩
  go_wp2_with fail
  refine (CB.out _).mono ?_
  rintro e w' ⟨rfl, rfl⟩
  go_wp2
  go_ret
  exact ⟨rfl, bt (b0 w _) hb1'⟩

end Cl
end Go.Proofs.Ythhckdfghdpmkaa
