/-
  The contract of first.
-/
import Derived.Test.YthhckdfghdpmkaaW6
namespace Go.Proofs.Ythhckdfghdpmkaa
open Go.RowKit Go.Shelf
namespace Cl

attribute [local go_sem] Oper.semAt_some

set_option maxRecDepth 100000 in
set_option maxHeartbeats 4000000 in
theorem first_any (x0 x1 x2 x3 x4 x5 x6 : Bool) (ch : Nat) (ah : Option Addr) (hs : List Int) (d : Int) (w : World) (hH : Hols w.heap.size w ah hs) (h0 : -1500000 ≤ d) (h1 : d ≤ 1500000) :
    Calls Try.prog 26 #[rulV x0 x1 x2 x3 x4 x5 x6 ah hs.length ch, .int .i64 d] w fun e w' =>
      e = .returned (.tuple #[.int .i64 (oV (nextO [x0, x1, x2, x3, x4, x5, x6] hs d)), .int .i64 (oE (nextO [x0, x1, x2, x3, x4, x5, x6] hs d))]) ∧ Below w.heap.size w w' := by
  have HH := hid hH
  clear hH
  obtain ⟨n, hn⟩ : ∃ n, n = hs.length := ⟨_, rfl⟩
  rw [← hn]
  have HN := hid hn
  clear hn
  refine (callsIn_wide (n := 9)).1 ?_
  refine callsIn_of_wp_marks Try.func26 rfl trivial ?_ rfl
  simp only [Try.ntmps26, List.size_toArray, List.length_cons, List.length_nil, Nat.reduceAdd, Nat.reduceSub, Array.replicate_succ, Array.replicate_zero, List.push_toArray, List.append_toArray, List.nil_append, List.cons_append]
  gi_wp2_with (refine ⟨trivial, ?_⟩; gi_at_call 28; refine (wdays_in _ x0 x1 x2 x3 x4 x5 x6 ah _ ch _ _ _).mono ?_; rintro e w' ⟨rfl, rfl⟩)
  obtain ⟨W0, hW0⟩ : ∃ W0, ((((((w.alloc (.cells #[.bool x0, .bool x1, .bool x2, .bool x3, .bool x4, .bool x5, .bool x6, .slice ah n ch] 47)).alloc (.cells #[.int .i64 0] 3)).alloc (.cells #[.int .i64 0] 32)).alloc (.cells #[.bool x0, .bool x1, .bool x2, .bool x3, .bool x4, .bool x5, .bool x6, .slice ah n ch] 47)).alloc (.cells #[.int .i64 d] 3)).alloc (.cells #[.int .i64 (d + 60 - 1)] 3)) = W0 := ⟨_, rfl⟩
  have hsz : W0.heap.size = w.heap.size + 6 := by rw [← hW0]; simp
  have hB0 : Below w.heap.size w W0 := by rw [← hW0]; exact ((((((Below.refl _ w).alloc (Nat.le_refl _) _).alloc (by simp) _).alloc (by simp; omega) _).alloc (by simp; omega) _).alloc (by simp; omega) _).alloc (by simp; omega) _
  have bV : Boxed W0 (w.heap.size + 1) 3 (.int .i64 0) := by
    rw [← hW0]
    have h := Boxed.new (w.alloc (.cells #[.bool x0, .bool x1, .bool x2, .bool x3, .bool x4, .bool x5, .bool x6, .slice ah n ch] 47)) 3 (.int .i64 0)
    rw [World.size_alloc] at h
    exact (((h.alloc _).alloc _).alloc _).alloc _
  have bE : Boxed W0 (w.heap.size + 1 + 1) 32 (.int .i64 0) := by
    rw [← hW0]
    have h := Boxed.new ((w.alloc (.cells #[.bool x0, .bool x1, .bool x2, .bool x3, .bool x4, .bool x5, .bool x6, .slice ah n ch] 47)).alloc (.cells #[.int .i64 0] 3)) 32 (.int .i64 0)
    rw [World.size_alloc, World.size_alloc] at h
    exact ((h.alloc _).alloc _).alloc _
  have X : Bxs W0 (w.heap.size + 1 + 1 + 1) x0 x1 x2 x3 x4 x5 x6 ah hs.length ch d (d + 60 - 1) := by
    rw [← HN.out, ← hW0]
    refine ⟨?_, ?_, ?_⟩
    · have h := heap_new (((w.alloc (.cells #[.bool x0, .bool x1, .bool x2, .bool x3, .bool x4, .bool x5, .bool x6, .slice ah n ch] 47)).alloc (.cells #[.int .i64 0] 3)).alloc (.cells #[.int .i64 0] 32)) (.cells #[.bool x0, .bool x1, .bool x2, .bool x3, .bool x4, .bool x5, .bool x6, .slice ah n ch] 47)
      simp only [World.size_alloc] at h
      exact (Below.heap_alloc _ _ _ (by simp)).trans ((Below.heap_alloc _ _ _ (by simp)).trans h)
    · have h := heap_new ((((w.alloc (.cells #[.bool x0, .bool x1, .bool x2, .bool x3, .bool x4, .bool x5, .bool x6, .slice ah n ch] 47)).alloc (.cells #[.int .i64 0] 3)).alloc (.cells #[.int .i64 0] 32)).alloc (.cells #[.bool x0, .bool x1, .bool x2, .bool x3, .bool x4, .bool x5, .bool x6, .slice ah n ch] 47)) (.cells #[.int .i64 d] 3)
      simp only [World.size_alloc] at h
      exact (Below.heap_alloc _ _ _ (by simp)).trans h
    · have h := heap_new (((((w.alloc (.cells #[.bool x0, .bool x1, .bool x2, .bool x3, .bool x4, .bool x5, .bool x6, .slice ah n ch] 47)).alloc (.cells #[.int .i64 0] 3)).alloc (.cells #[.int .i64 0] 32)).alloc (.cells #[.bool x0, .bool x1, .bool x2, .bool x3, .bool x4, .bool x5, .bool x6, .slice ah n ch] 47)).alloc (.cells #[.int .i64 d] 3)) (.cells #[.int .i64 (d + 60 - 1)] 3)
      simp only [World.size_alloc] at h
      exact h
  try rw [hW0]
  clear hW0
  have HT := hid (wd_stops 8 (by omega) w.heap.size (w.heap.size + 1 + 1 + 1) (by omega) x0 x1 x2 x3 x4 x5 x6 ah ch hs d (d + 60 - 1) (by omega) (by omega) 60 (by omega) W0 X (HH.out.below hB0))
  have e60 : (d + 60 - 1 - d + 1).toNat = 60 := by omega
  rw [e60] at HT
  clear X HH e60
  refine wpIn_rangeFunc_ownG rfl (by omega) (gf := 30) (lb := #[.pointer (some ⟨w.heap.size + 1 + 1 + 1 + 1, 0, none⟩), .pointer (some ⟨w.heap.size + 1 + 1 + 1 + 2, 0, none⟩), .pointer (some ⟨w.heap.size + 1 + 1 + 1, 0, none⟩)]) rfl trivial (enters_of Try.func30 (by kernel_rfl) rfl)
    HT.out (fun {A B C} (h : KpS _ _ A B) (k : KpS _ _ B C) => h.trans k) (kpS_put _ _ (by omega) (by omega)) (Below.refl _ _) (fun _ => rfl)
    (fun pre W => ((pre = [] ∧ Boxed W (w.heap.size + 1) 3 (.int .i64 0)) ∧ Boxed W (w.heap.size + 1 + 1) 32 (.int .i64 0)) ∧ Below w.heap.size w W)
    (fun c pre W => (((c = .ret ∧ pre = [pre.headD 0]) ∧ Boxed W (w.heap.size + 1) 3 (.int .i64 (pre.headD 0))) ∧ Boxed W (w.heap.size + 1 + 1) 32 (.int .i64 0)) ∧ Below w.heap.size w W)
    (OwnFrom.and (OwnFrom.and (OwnFrom.and (ownFrom_pure _ _) (Own.from (boxed_own _ _ _) _)) (Own.from (boxed_own _ _ _) _)) (ownFrom_below (Nat.le_refl _) (by omega)))
    (fun c => OwnFrom.and (OwnFrom.and (OwnFrom.and (ownFrom_pure _ _) (Own.from (boxed_own _ _ _) _)) (Own.from (boxed_own _ _ _) _)) (ownFrom_below (Nat.le_refl _) (by omega)))
    ⟨⟨⟨rfl, bV⟩, bE⟩, hB0⟩
    (fun x => { tmps := #[rulV x0 x1 x2 x3 x4 x5 x6 ah n ch, .int .i64 d, .pointer (some ⟨w.heap.size, 0, none⟩), undef, .pointer (some ⟨w.heap.size + 1, 0, none⟩), .pointer (some ⟨w.heap.size + 1 + 1, 0, none⟩), .int .i64 x,
      rulV x0 x1 x2 x3 x4 x5 x6 ah n ch, .int .i64 d, .int .i64 d, .int .i64 (d + 60), .int .i64 (d + 60 - 1),
      .func (.func 30) #[] #[.pointer (some ⟨w.heap.size + 1 + 1 + 1 + 1, 0, none⟩), .pointer (some ⟨w.heap.size + 1 + 1 + 1 + 2, 0, none⟩), .pointer (some ⟨w.heap.size + 1 + 1 + 1, 0, none⟩)], .int .i64 x, undef], defers := [] }) ?assign ?body ?done ?stop
  case assign =>
    intro l x W K hK
    gi_wp2
    exact hK
  case body =>
    rintro l pre x W ⟨⟨⟨rfl, bV1⟩, bE1⟩, hB1⟩ _
    have cV := bV1.cell
    have cE := bE1.cell
    have fV := bV1.frozen
    have fE := bE1.frozen
    gi_wp2
    have bV2 := (bV1.set (.int .i64 x)).other (B' := w.heap.size + 1 + 1) (by omega) (.int .i64 0)
    have bE2 := (bE1.other (B' := w.heap.size + 1) (by omega) (.int .i64 x)).set (.int .i64 0)
    exact ⟨((KeepsOthers.setCell _ _ _).trans (KeepsOthers.setCell _ _ _)).from _, ⟨⟨⟨rfl, rfl⟩, bV2⟩, bE2⟩, (hB1.setCell (p := ⟨w.heap.size + 1, 0, none⟩) (by simp) _).setCell (p := ⟨w.heap.size + 1 + 1, 0, none⟩) (by simp; omega) _⟩
  case done =>
    rintro D ys W hD rfl ⟨⟨⟨hnil, bV1⟩, bE1⟩, hB1⟩ hK
    have cV := bV1.cell
    have cE := bE1.cell
    have fV := bV1.frozen
    have fE := bE1.frozen
    have HNX : Hid (nextO [x0, x1, x2, x3, x4, x5, x6] hs d = none) := by show _ = _; unfold nextO; rw [hnil]; rfl
    clear hnil
    gi_wp2
    have bV2 := (bV1.set (.int .i64 0)).other (B' := w.heap.size + 1 + 1) (by omega) (.int .i64 20)
    have bE2 := (bE1.other (B' := w.heap.size + 1) (by omega) (.int .i64 0)).set (.int .i64 20)
    have hB2 := (hB1.setCell (p := ⟨w.heap.size + 1, 0, none⟩) (by simp) (.int .i64 0)).setCell (p := ⟨w.heap.size + 1 + 1, 0, none⟩) (by simp; omega) (.int .i64 20)
    have hK' := ((KeepsOthers.setCell W ⟨w.heap.size + 1, 0, none⟩ (.int .i64 0)).trans (KeepsOthers.setCell _ ⟨w.heap.size + 1 + 1, 0, none⟩ (.int .i64 20))).same D _ hK rfl
    refine ⟨by simp, .inl ⟨_, _, rfl, run_takeDeferred hK', ?_⟩⟩
    have hc4 := cell_kept bV2.cell (grownBy_putObj' _ D (.deferred none)) (fun r e => by cases e; exact ⟨_, hK', rfl⟩)
    have hc5 := cell_kept bE2.cell (grownBy_putObj' _ D (.deferred none)) (fun r e => by cases e; exact ⟨_, hK', rfl⟩)
    refine ⟨.tuple #[.int .i64 0, .int .i64 20], ?_, by rw [HNX.out]; rfl, hB2.trans (belowK_b (w := w) (Nat.le_refl _) _ D _ _ (by omega) hK' rfl rfl)⟩
    simp [results, Try.f26, go_sem, hc4, hc5]
  case stop =>
    rintro D c pre W hD hpre ⟨⟨⟨⟨rfl, hone⟩, bV1⟩, bE1⟩, hB1⟩ hK
    obtain ⟨x, hx⟩ : ∃ x, x = pre.headD 0 := ⟨_, rfl⟩
    rw [← hx] at hone bV1
    have HNX : Hid (nextO [x0, x1, x2, x3, x4, x5, x6] hs d = some x) := by
      show _ = _
      unfold nextO
      obtain ⟨r, hr⟩ := hpre
      rw [← hr, hone]; rfl
    clear hx hone hpre
    gi_wp2
    refine ⟨by simp, .inl ⟨_, _, rfl, run_takeDeferred hK, ?_⟩⟩
    have hc4 := cell_kept bV1.cell (grownBy_putObj' _ D (.deferred none)) (fun r e => by cases e; exact ⟨_, hK, rfl⟩)
    have hc5 := cell_kept bE1.cell (grownBy_putObj' _ D (.deferred none)) (fun r e => by cases e; exact ⟨_, hK, rfl⟩)
    refine ⟨.tuple #[.int .i64 x, .int .i64 0], ?_, by rw [HNX.out]; rfl, hB1.trans (belowK_b (w := w) (Nat.le_refl _) _ D _ _ (by omega) hK rfl rfl)⟩
    simp [results, Try.f26, go_sem, hc4, hc5]

end Cl
end Go.Proofs.Ythhckdfghdpmkaa
