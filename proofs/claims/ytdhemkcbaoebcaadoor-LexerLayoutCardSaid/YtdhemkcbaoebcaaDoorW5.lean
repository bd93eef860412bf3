/-
  Contracts of kinds, of strings.Clone and of token.
-/
import Derived.Test.YtdhemkcbaoebcaaDoorW4
import Derived.Deep.RegionHeld3
import Derived.StillTactics
import Derived.Laws.EntriesVeiled
namespace Go.Proofs.YtdhemkcbaoebcaaDoor
open Go.RowKit
namespace Lx

theorem heap_new (w : World) (o : Obj) : (w.alloc o).heap[w.heap.size]? = some o := by simp [World.alloc, -World.alloc_eq]
theorem b0 (w : World) (o : Obj) : Below w.heap.size w (w.alloc o) := (Below.refl _ _).alloc (Nat.le_refl _) o
theorem bt {w0 w1 w2 : World} (h : Below w0.heap.size w0 w1) (h2 : Below w1.heap.size w1 w2) : Below w0.heap.size w0 w2 := h.trans (h2.mono h.size)

set_option maxHeartbeats 1000000 in
theorem clone_any (s : ByteArray) (w : World) (hs : s.size ≤ 8000) :
    Calls Tryd.prog 37 #[.string s] w fun e w' => e = .returned (.string s) ∧ Below w.heap.size w w' := by
  have C := hid (Tryd.stringslite_Clone s w (by omega))
  go_enter Tryd.func37, Tryd.ntmps37
  go_wp2_with fail
  refine C.out.mono ?_
  rintro e w' ⟨rfl, hb⟩
  go_wp2
  go_ret
  exact ⟨rfl, hb⟩

theorem bcell {W w1 : World} (hb : Below W.heap.size W w1) : (∀ b o, b < W.heap.size → w1.cell? ⟨b, o, none⟩ = W.cell? ⟨b, o, none⟩) ∧ (∀ b o, b < W.heap.size → w1.frozen? ⟨b, o, none⟩ = W.frozen? ⟨b, o, none⟩) :=
  ⟨fun b o h => hb.cell (p := ⟨b, o, none⟩) h, fun b o h => hb.frozen (p := ⟨b, o, none⟩) h⟩

def kindsBlk : Obj := .cells #[.int .i64 1, .func (.func 30) #[] #[], .int .i64 0, .int .i64 2, .func (.func 31) #[] #[], .int .i64 0,
  .int .i64 3, .func (.func 32) #[] #[], .int .i64 0, .int .i64 4, .func (.func 33) #[] #[], .int .i64 1] 48

set_option maxHeartbeats 1000000 in
theorem kinds_any (w : World) :
    Calls Tryd.prog 22 #[] w fun e w' => e = .returned (.slice (some ⟨w.heap.size, 0, none⟩) 4 4) ∧ w' = w.alloc kindsBlk := by
  go_enter Tryd.func22, Tryd.ntmps22
  go_wp2
  go_ret
  exact ⟨rfl, rfl⟩

theorem row3 (W : World) (g : Nat) (t : TypeId) (a0 a1 a2 b0 b1 b2 : Value) (h : W.heap[g]? = some (.cells #[a0, a1, a2] t (0, 0))) :
    (((W.setCell ⟨g, 0, none⟩ b0).setCell ⟨g, 1, none⟩ b1).setCell ⟨g, 2, none⟩ b2).heap[g]? = some (.cells #[b0, b1, b2] t (0, 0)) := by
  have r0 := heap_setCell_same _ g 0 _ t b0 h
  have r1 := heap_setCell_same _ g 1 _ t b1 r0
  have r2 := heap_setCell_same _ g 2 _ t b2 r1
  simpa using r2
theorem infoTok : (Tryd.prog.info? 31).map (·.size) = some 3 := by kernel_rfl
theorem heap_two (w : World) (o1 o2 : Obj) : ((w.alloc o1).alloc o2).drew.heap[w.heap.size + 1]? = some o2 := by
  have : ((w.alloc o1).alloc o2).heap[w.heap.size + 1]? = some o2 := by simpa using heap_new (w.alloc o1) o2
  exact this
/-- A token by value. -/
abbrev tokV (k : Nat) (t : ByteArray) (a : Nat) : Value := .agg #[.int .i64 k, .string t, .int .i64 a]
theorem set3 {w0 w : World} {B : Nat} (h : Below w0.heap.size w0 w) (hB : w0.heap.size ≤ B) (x y z : Value) : Below w0.heap.size w0 (((w.setCell ⟨B, 0, none⟩ x).setCell ⟨B, 1, none⟩ y).setCell ⟨B, 2, none⟩ z) :=
  ((h.setCell (p := ⟨B, 0, none⟩) hB x).setCell (p := ⟨B, 1, none⟩) hB y).setCell (p := ⟨B, 2, none⟩) hB z

set_option maxRecDepth 100000 in
set_option maxHeartbeats 4000000 in
theorem token_any (s : ByteArray) (fv : Value) (c m a n : Nat) (w : World) (hs : s.size ≤ 8000) (hm : m ≤ 1) (hn : 2 * m ≤ n) (ha : a + n ≤ s.size) :
    Calls Tryd.prog 24 #[.agg #[.int .i64 c, fv, .int .i64 m], .string s, .int .i64 a, .int .i64 n] w fun e w' =>
      e = .returned (.agg #[.int .i64 c, .string (s.extract (a + m) (a + n - m)), .int .i64 a]) ∧ Below w.heap.size w w' := by
  obtain ⟨p, hp⟩ : ∃ p, p = a + m := ⟨_, rfl⟩
  obtain ⟨r, hr⟩ : ∃ r, r = a + n := ⟨_, rfl⟩
  obtain ⟨q, hq⟩ : ∃ q, q = r - m := ⟨_, rfl⟩
  rw [← hr, ← hp, ← hq]
  have C := hid (fun w => clone_any (s.extract p q) w (Nat.le_trans (ex_size _ _ _) hs))
  have j1 : IntKind.i64.wrap ((a : Int) + (m : Int)) = (p : Int) := by rw [IntWalk.i64_in _ (by omega)]; omega
  have j2 : IntKind.i64.wrap ((a : Int) + (n : Int)) = (r : Int) := by rw [IntWalk.i64_in _ (by omega)]; omega
  have j3 : IntKind.i64.wrap ((r : Int) - (m : Int)) = (q : Int) := by rw [IntWalk.i64_in _ (by omega)]; omega
  have j4 : p ≤ q := by omega
  have j5 : q ≤ s.size := by omega
  have j6 : 0 ≤ (p : Int) := by omega
  have j7 : (p : Int) ≤ (q : Int) := by omega
  have j8 : (q : Int) ≤ (s.size : Int) := by omega
  clear hp hr hq hn ha hs hm
  go_enter Tryd.func24, Tryd.ntmps24
  go_wp2
  have hz : w.heap.size + 1 < ((w.alloc (.cells #[.int .i64 c, fv, .int .i64 m] 48)).alloc (.cells #[.int .i64 0, .string ⟨#[]⟩, .int .i64 0] 31)).heap.size := by simp
  have hle : w.heap.size ≤ w.heap.size + 1 := by omega
  go_region_with (go_at_call 37; refine (C.out _).mono ?_; rintro e w' ⟨rfl, hb⟩; obtain ⟨hc, hf⟩ := bcell hb; have hr := hid ((hb.block (w.heap.size + 1) (by simp)).trans (heap_two w _ _)); have HB := hid (bt ((b0 w (.cells #[.int .i64 c, fv, .int .i64 m] 48)).alloc (by simp) (.cells #[.int .i64 0, .string ⟨#[]⟩, .int .i64 0] 31)).drew hb); clear hb)
  all_goals
    clear hc hf
    go_wp2
    have hrow := row3 w' (w.heap.size + 1) 31 _ _ _ (.int .i64 c) (.string (s.extract p q)) (.int .i64 a) hr.out
    exact bodyPost_ret (v := tokV c (s.extract p q) a) (results_cell_row (fn := Tryd.f24) (p := 8) (ty := 31) rfl _ _ (w.heap.size + 1) 31 _ (0, 0) _ rfl hrow Tryd.underlying31 rfl infoTok) rfl ⟨rfl, set3 HB.out hle _ _ _⟩

end Lx
end Go.Proofs.YtdhemkcbaoebcaaDoor
