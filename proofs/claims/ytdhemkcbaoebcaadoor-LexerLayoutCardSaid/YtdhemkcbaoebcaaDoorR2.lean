/-
  Contracts of Source, small, gap, Gaps, Same and Alike.
-/
import Derived.Test.YtdhemkcbaoebcaaDoorRd
namespace Go.Proofs.YtdhemkcbaoebcaaDoor
open Go.RowKit
namespace Lx

/-- The piece of a token, as a text. -/
def srcS (k : Nat) (x : ByteArray) : ByteArray := if k = 4 then (⟨#[34]⟩ : ByteArray) ++ x ++ (⟨#[34]⟩ : ByteArray) else x
theorem srcS_list (t : Tk) : (srcS t.k ⟨t.t.toArray⟩).data.toList = src t := by
  unfold srcS src
  split <;> simp
theorem srcS_size (k : Nat) (x : ByteArray) : (srcS k x).size ≤ x.size + 2 := by
  unfold srcS
  split
  · rw [ByteArray.size_append, ByteArray.size_append]
    have : (⟨#[34]⟩ : ByteArray).size = 1 := rfl
    omega
  · omega

set_option maxRecDepth 100000 in
set_option maxHeartbeats 1000000 in
theorem source_any (k p : Nat) (x : ByteArray) (w : World) (hx : x.size ≤ 100000) :
    Calls Tryd.prog 15 #[.agg #[.int .i64 k, .string x, .int .i64 p]] w fun e w' => e = .returned (.string (srcS k x)) ∧ Below w.heap.size w w' := by
  by_cases h4 : k = 4
  · have hs : srcS k x = (⟨#[34]⟩ : ByteArray) ++ x ++ (⟨#[34]⟩ : ByteArray) := by unfold srcS; rw [if_pos h4]
    rw [hs]
    have e4 : ((k : Int) == 4) = true := by simp; omega
    clear h4 hs
    have h1 : ¬ 9223372036854775807 < 1 + x.size := by omega
    have h2 : ¬ 9223372036854775807 < 1 + x.size + 1 := by omega
    go_enter Tryd.func15, Tryd.ntmps15
    go_wp2
    go_ret
    exact ⟨rfl, b0 _ _⟩
  · have hs : srcS k x = x := by unfold srcS; rw [if_neg h4]
    rw [hs]
    have e4 : ((k : Int) == 4) = false := by simp; omega
    clear h4 hs
    go_enter Tryd.func15, Tryd.ntmps15
    go_wp2
    go_ret
    exact ⟨rfl, b0 _ _⟩

set_option maxHeartbeats 400000 in
theorem small_any (s : ByteArray) (w : World) :
    Calls Tryd.prog 11 #[.string s] w fun e w' => e = .returned (.bool (decide (s.size ≤ 8100))) ∧ w = w' := by
  by_cases h : s.size ≤ 8100
  · rw [decide_eq_true h]
    go_enter Tryd.func11, Tryd.ntmps11
    go_wp2
    go_ret
    exact ⟨by simp; omega, rfl⟩
  · rw [decide_eq_false h]
    go_enter Tryd.func11, Tryd.ntmps11
    go_wp2
    go_ret
    exact ⟨by simp; omega, rfl⟩

theorem gap_step {l : List UInt8} {k : Nat} {c d : Bool} (hk : k < l.length) (h : gapS false l = k + gapS c (l.drop k)) (hs : ∀ y, gapS c (l.getD k 0 :: y) = gapS d y + 1) : gapS false l = k + 1 + gapS d (l.drop (k + 1)) := by
  rw [drop_cons hk, hs] at h
  omega
theorem gap_bad {l : List UInt8} {k : Nat} (hk : k < l.length) (h : gapS false l = k + gapS false (l.drop k)) (hs : ∀ y, gapS false (l.getD k 0 :: y) = 0) : gapB l = false := by
  rw [drop_cons hk, hs] at h
  unfold gapB
  rw [decide_eq_false_iff_not]; omega
theorem gap_good {l : List UInt8} {k : Nat} {c : Bool} (hk : l.length = k) (h : gapS false l = k + gapS c (l.drop k)) : gapB l = true := by
  rw [List.drop_of_length_le (by omega), gapS_nil] at h
  unfold gapB
  rw [decide_eq_true_eq]; omega
theorem st_t {b : UInt8} (h : b.toNat ≠ 10) (y : List UInt8) : gapS true (b :: y) = gapS true y + 1 := by rw [gapS_t, if_neg h]
theorem st_l {b : UInt8} (h : b.toNat = 10) (c : Bool) (y : List UInt8) : gapS c (b :: y) = gapS false y + 1 := by
  cases c
  · rw [gapS_f, if_pos (by rw [blkB_iff]; omega)]
  · rw [gapS_t, if_pos h]
theorem st_b {b : UInt8} (h : b.toNat = 32 ∨ b.toNat = 9 ∨ b.toNat = 13) (y : List UInt8) : gapS false (b :: y) = gapS false y + 1 := by rw [gapS_f, if_pos (by rw [blkB_iff]; omega)]
theorem st_p {b : UInt8} (h : b.toNat = 37) (y : List UInt8) : gapS false (b :: y) = gapS true y + 1 := by
  rw [gapS_f, if_neg (by rw [blkB_iff]; omega), if_pos h]
theorem st_o {b : UInt8} (h : b.toNat ≠ 32 ∧ b.toNat ≠ 9 ∧ b.toNat ≠ 13 ∧ b.toNat ≠ 10 ∧ b.toNat ≠ 37) (y : List UInt8) : gapS false (b :: y) = 0 := by
  rw [gapS_f, if_neg (by rw [blkB_iff]; omega), if_neg (by omega)]

set_option maxRecDepth 100000 in
set_option maxHeartbeats 8000000 in
theorem gap_any (s : ByteArray) (w : World) (hs : s.size ≤ maxLen) :
    Calls Tryd.prog 16 #[.string s] w fun e w' => e = .returned (.bool (gapB s.data.toList)) ∧ w = w' := by
  unfold maxLen at hs
  obtain ⟨r, hr⟩ : ∃ r, r = gapB s.data.toList := ⟨_, rfl⟩
  rw [← hr]
  have HR := hid hr
  clear hr
  go_enter Tryd.func16, Tryd.ntmps16
  go_wp2
  go_loop [3, 4] (fun d i => ∃ (k : Nat) (c : Bool), k ≤ s.size ∧ i = .int .i64 k ∧ d = .bool c ∧ Hid (gapS false s.data.toList = k + gapS c (s.data.toList.drop k))) (fun _ i => s.size - (intOf i).toNat)
  case atStart => exact ⟨0, false, by omega, rfl, rfl, by show _ = _; rw [List.drop_zero]; omega⟩
  case round =>
    obtain ⟨k, c, hk, rfl, rfl, hg⟩ := hrel
    by_cases hlt : k < s.size
    · have hx := s_at s k hlt
      have hll : k < s.data.toList.length := by rw [s_len]; exact hlt
      rcases (show s[k].toNat = 10 ∨ s[k].toNat = 37 ∨ s[k].toNat = 32 ∨ s[k].toNat = 9 ∨ s[k].toNat = 13 ∨ (s[k].toNat ≠ 32 ∧ s[k].toNat ≠ 9 ∧ s[k].toNat ≠ 13 ∧ s[k].toNat ≠ 10 ∧ s[k].toNat ≠ 37) by omega) with h | h | h | h | h | h
      · have e10 : (((s[k].toNat : Nat) : Int) == 10) = true := by simp; omega
        have e37 : (((s[k].toNat : Nat) : Int) == 37) = false := by simp; omega
        have n32 : (((s[k].toNat : Nat) : Int) != 32) = true := by simp; omega
        have n9 : (((s[k].toNat : Nat) : Int) != 9) = true := by simp; omega
        have n13 : (((s[k].toNat : Nat) : Int) != 13) = true := by simp; omega
        have n10 : (((s[k].toNat : Nat) : Int) != 10) = false := by simp; omega
        rw [hx] at h
        cases c
        · have HN : Hid (gapS false s.data.toList = k + 1 + gapS false (s.data.toList.drop (k + 1))) := gap_step hll hg.out (st_l h _)
          clear hg h hx
          go_wp2
          go_round
          case rel => exact ⟨k + 1, false, by omega, by go_num, rfl, HN⟩
          case measure => simp [intOf]; omega
        · have HN : Hid (gapS false s.data.toList = k + 1 + gapS false (s.data.toList.drop (k + 1))) := gap_step hll hg.out (st_l h _)
          clear hg h hx
          go_wp2
          go_round
          case rel => exact ⟨k + 1, false, by omega, by go_num, rfl, HN⟩
          case measure => simp [intOf]; omega
      · have e10 : (((s[k].toNat : Nat) : Int) == 10) = false := by simp; omega
        have e37 : (((s[k].toNat : Nat) : Int) == 37) = true := by simp; omega
        have n32 : (((s[k].toNat : Nat) : Int) != 32) = true := by simp; omega
        have n9 : (((s[k].toNat : Nat) : Int) != 9) = true := by simp; omega
        have n13 : (((s[k].toNat : Nat) : Int) != 13) = true := by simp; omega
        have n10 : (((s[k].toNat : Nat) : Int) != 10) = true := by simp; omega
        rw [hx] at h
        cases c
        · have HN : Hid (gapS false s.data.toList = k + 1 + gapS true (s.data.toList.drop (k + 1))) := gap_step hll hg.out (st_p h)
          clear hg h hx
          go_wp2
          go_round
          case rel => exact ⟨k + 1, true, by omega, by go_num, rfl, HN⟩
          case measure => simp [intOf]; omega
        · have HN : Hid (gapS false s.data.toList = k + 1 + gapS true (s.data.toList.drop (k + 1))) := gap_step hll hg.out (st_t (by omega))
          clear hg h hx
          go_wp2
          go_round
          case rel => exact ⟨k + 1, true, by omega, by go_num, rfl, HN⟩
          case measure => simp [intOf]; omega
      · have e10 : (((s[k].toNat : Nat) : Int) == 10) = false := by simp; omega
        have e37 : (((s[k].toNat : Nat) : Int) == 37) = false := by simp; omega
        have n32 : (((s[k].toNat : Nat) : Int) != 32) = false := by simp; omega
        have n9 : (((s[k].toNat : Nat) : Int) != 9) = true := by simp; omega
        have n13 : (((s[k].toNat : Nat) : Int) != 13) = true := by simp; omega
        have n10 : (((s[k].toNat : Nat) : Int) != 10) = true := by simp; omega
        rw [hx] at h
        cases c
        · have HN : Hid (gapS false s.data.toList = k + 1 + gapS false (s.data.toList.drop (k + 1))) := gap_step hll hg.out (st_b (by omega))
          clear hg h hx
          go_wp2
          go_round
          case rel => exact ⟨k + 1, false, by omega, by go_num, rfl, HN⟩
          case measure => simp [intOf]; omega
        · have HN : Hid (gapS false s.data.toList = k + 1 + gapS true (s.data.toList.drop (k + 1))) := gap_step hll hg.out (st_t (by omega))
          clear hg h hx
          go_wp2
          go_round
          case rel => exact ⟨k + 1, true, by omega, by go_num, rfl, HN⟩
          case measure => simp [intOf]; omega
      · have e10 : (((s[k].toNat : Nat) : Int) == 10) = false := by simp; omega
        have e37 : (((s[k].toNat : Nat) : Int) == 37) = false := by simp; omega
        have n32 : (((s[k].toNat : Nat) : Int) != 32) = true := by simp; omega
        have n9 : (((s[k].toNat : Nat) : Int) != 9) = false := by simp; omega
        have n13 : (((s[k].toNat : Nat) : Int) != 13) = true := by simp; omega
        have n10 : (((s[k].toNat : Nat) : Int) != 10) = true := by simp; omega
        rw [hx] at h
        cases c
        · have HN : Hid (gapS false s.data.toList = k + 1 + gapS false (s.data.toList.drop (k + 1))) := gap_step hll hg.out (st_b (by omega))
          clear hg h hx
          go_wp2
          go_round
          case rel => exact ⟨k + 1, false, by omega, by go_num, rfl, HN⟩
          case measure => simp [intOf]; omega
        · have HN : Hid (gapS false s.data.toList = k + 1 + gapS true (s.data.toList.drop (k + 1))) := gap_step hll hg.out (st_t (by omega))
          clear hg h hx
          go_wp2
          go_round
          case rel => exact ⟨k + 1, true, by omega, by go_num, rfl, HN⟩
          case measure => simp [intOf]; omega
      · have e10 : (((s[k].toNat : Nat) : Int) == 10) = false := by simp; omega
        have e37 : (((s[k].toNat : Nat) : Int) == 37) = false := by simp; omega
        have n32 : (((s[k].toNat : Nat) : Int) != 32) = true := by simp; omega
        have n9 : (((s[k].toNat : Nat) : Int) != 9) = true := by simp; omega
        have n13 : (((s[k].toNat : Nat) : Int) != 13) = false := by simp; omega
        have n10 : (((s[k].toNat : Nat) : Int) != 10) = true := by simp; omega
        rw [hx] at h
        cases c
        · have HN : Hid (gapS false s.data.toList = k + 1 + gapS false (s.data.toList.drop (k + 1))) := gap_step hll hg.out (st_b (by omega))
          clear hg h hx
          go_wp2
          go_round
          case rel => exact ⟨k + 1, false, by omega, by go_num, rfl, HN⟩
          case measure => simp [intOf]; omega
        · have HN : Hid (gapS false s.data.toList = k + 1 + gapS true (s.data.toList.drop (k + 1))) := gap_step hll hg.out (st_t (by omega))
          clear hg h hx
          go_wp2
          go_round
          case rel => exact ⟨k + 1, true, by omega, by go_num, rfl, HN⟩
          case measure => simp [intOf]; omega
      · have e10 : (((s[k].toNat : Nat) : Int) == 10) = false := by simp; omega
        have e37 : (((s[k].toNat : Nat) : Int) == 37) = false := by simp; omega
        have n32 : (((s[k].toNat : Nat) : Int) != 32) = true := by simp; omega
        have n9 : (((s[k].toNat : Nat) : Int) != 9) = true := by simp; omega
        have n13 : (((s[k].toNat : Nat) : Int) != 13) = true := by simp; omega
        have n10 : (((s[k].toNat : Nat) : Int) != 10) = true := by simp; omega
        rw [hx] at h
        cases c
        · have HN : Hid (r = false) := HR.out.trans (gap_bad hll hg.out (st_o h))
          clear hg h hx
          go_wp2
          go_ret
          exact ⟨by rw [HN.out]; rfl, rfl⟩
        · have HN : Hid (gapS false s.data.toList = k + 1 + gapS true (s.data.toList.drop (k + 1))) := gap_step hll hg.out (st_t (by omega))
          clear hg h hx
          go_wp2
          go_round
          case rel => exact ⟨k + 1, true, by omega, by go_num, rfl, HN⟩
          case measure => simp [intOf]; omega
    · have HN : Hid (r = true) := HR.out.trans (gap_good (k := k) (by rw [s_len]; omega) hg.out)
      go_wp2
      go_ret
      exact ⟨by rw [HN.out]; rfl, rfl⟩

def rgaps : List (List UInt8) := [[32], [10], [9, 13], [37, 10], [32, 37, 32, 108, 105, 110, 101, 32, 34, 120, 34, 32, 36, 10], [37, 37, 13, 10, 32, 32]]
def gapsBlk : Obj := .cells #[.string ⟨#[32]⟩, .string ⟨#[10]⟩, .string ⟨#[9, 13]⟩, .string ⟨#[37, 10]⟩, .string ⟨#[32, 37, 32, 108, 105, 110, 101, 32, 34, 120, 34, 32, 36, 10]⟩, .string ⟨#[37, 37, 13, 10, 32, 32]⟩] 9
theorem gaps_cell {w : World} {K : Nat} (h : w.heap[K]? = some gapsBlk) (i : Nat) (hi : i < 6) : w.cell? ⟨K, i, none⟩ = some (.string ⟨(rgaps.getD i []).toArray⟩) := by
  unfold gapsBlk at h
  rcases (show i = 0 ∨ i = 1 ∨ i = 2 ∨ i = 3 ∨ i = 4 ∨ i = 5 by omega) with rfl | rfl | rfl | rfl | rfl | rfl <;> simp [World.cell?, h, rgaps]
set_option maxHeartbeats 1000000 in
theorem gaps_any (w : World) :
    Calls Tryd.prog 18 #[] w fun e w' => e = .returned (.slice (some ⟨w.heap.size, 0, none⟩) 6 6) ∧ w' = w.alloc gapsBlk := by
  go_enter Tryd.func18, Tryd.ntmps18
  go_wp2
  go_ret
  exact ⟨rfl, rfl⟩
theorem rgaps_good (i : Nat) (hi : i < 6) : GoodGap (rgaps.getD i []) := by
  rcases (show i = 0 ∨ i = 1 ∨ i = 2 ∨ i = 3 ∨ i = 4 ∨ i = 5 by omega) with rfl | rfl | rfl | rfl | rfl | rfl
  all_goals
    refine ⟨by decide, fun y => ?_, fun k p => ⟨fun _ b hb => ?_, fun _ => by decide⟩⟩
    · simp [rgaps, gapS_f, gapS_t, blkB]
      try omega
    · simp [rgaps] at hb
      subst hb
      decide
theorem rgaps_len (i : Nat) : (rgaps.getD i []).length ≤ 14 := by
  rcases Nat.lt_or_ge i 6 with h | h
  · rcases (show i = 0 ∨ i = 1 ∨ i = 2 ∨ i = 3 ∨ i = 4 ∨ i = 5 by omega) with rfl | rfl | rfl | rfl | rfl | rfl <;> decide
  · rw [List.getD_eq_getElem?_getD, List.getElem?_eq_none (by exact h)]; simp


set_option maxRecDepth 100000 in
set_option maxHeartbeats 4000000 in
theorem same_any (va vb : Value) (ts : List Tk) (w : World) (ha : Reads w va ts) (hb : Reads w vb ts) (hl : ts.length ≤ 3000) :
    Calls Tryd.prog 14 #[va, vb] w fun e w' => e = .returned (.bool true) ∧ Below w.heap.size w w' := by
  obtain ⟨pa, ca, rfl, hca⟩ := ha
  obtain ⟨pb, cb, rfl, hcb⟩ := hb
  by_cases h0 : ts.length = 0
  · rw [h0]
    clear hca hcb h0 hl
    go_enter Tryd.func14, Tryd.ntmps14
    go_wp2
    go_rounds 2
    go_ret
    exact ⟨rfl, Below.refl _ _⟩
  · obtain ⟨ga, rfl, hga, -, hca⟩ := hca (by omega)
    obtain ⟨gb, rfl, hgb, -, hcb⟩ := hcb (by omega)
    have HA := hid hca
    have HB := hid hcb
    clear hca hcb
    go_enter Tryd.func14, Tryd.ntmps14
    go_wp2
    go_loopw [5] (fun i wr => ∃ k : Nat, k ≤ ts.length ∧ i = .int .i64 k ∧ Below w.heap.size w wr) (fun i _ => ts.length - (intOf i).toNat)
    case atStart => exact ⟨0, by omega, rfl, Below.refl _ _⟩
    case round =>
      obtain ⟨k, hk, rfl, hbr⟩ := hrel
      by_cases hlt : k < ts.length
      · have ea : ∀ o, wr.cell? ⟨ga, o, none⟩ = w.cell? ⟨ga, o, none⟩ := fun o => hbr.cell (p := (⟨ga, o, none⟩ : Addr)) hga
        have eb : ∀ o, wr.cell? ⟨gb, o, none⟩ = w.cell? ⟨gb, o, none⟩ := fun o => hbr.cell (p := (⟨gb, o, none⟩ : Addr)) hgb
        obtain ⟨a0, a1, a2⟩ := HA.out k hlt
        obtain ⟨b0, b1, b2⟩ := HB.out k hlt
        rw [← ea] at a0 a1 a2
        rw [← eb] at b0 b1 b2
        clear ea eb
        obtain ⟨x, hx⟩ : ∃ x : ByteArray, x = ⟨(ts[k].t).toArray⟩ := ⟨_, rfl⟩
        rw [← hx] at a1 b1
        clear hx
        obtain ⟨y, hy⟩ : ∃ y : Int, y = (ts[k].k : Int) := ⟨_, rfl⟩
        rw [← hy] at a0 b0
        clear hy
        obtain ⟨z, hz⟩ : ∃ z : Int, z = (ts[k].p : Int) := ⟨_, rfl⟩
        rw [← hz] at a2 b2
        clear hz
        have hi0 : 0 ≤ (k : Int) := by omega
        have hi1 : (k : Int) < (ts.length : Int) := by omega
        go_wp2
        go_quiet (fail)
        go_wp2
        go_roundw
        case rel => exact ⟨k + 1, by omega, by go_num, below_drewN hbr _⟩
        case measure => simp [intOf]; omega
      · go_wp2
        go_ret
        exact ⟨rfl, hbr⟩

set_option maxRecDepth 100000 in
set_option maxHeartbeats 4000000 in
theorem alike_any (va vb : Value) (ts us : List Tk) (w : World) (ha : Reads w va ts) (hb : Reads w vb us) (hal : us.length = ts.length ∧ ∀ i (h : i < ts.length) (h' : i < us.length), us[i].k = ts[i].k ∧ us[i].t = ts[i].t) (hl : ts.length ≤ 3000) :
    Calls Tryd.prog 19 #[va, vb] w fun e w' => e = .returned (.bool true) ∧ Below w.heap.size w w' := by
  obtain ⟨pa, ca, rfl, hca⟩ := ha
  obtain ⟨pb, cb, rfl, hcb⟩ := hb
  obtain ⟨hul, hal⟩ := hal
  rw [hul]
  have HAL := hid hal
  have HUL := hid hul
  clear hal hul
  by_cases h0 : ts.length = 0
  · rw [h0]
    clear hca hcb h0 hl
    go_enter Tryd.func19, Tryd.ntmps19
    go_wp2
    go_rounds 2
    go_ret
    exact ⟨rfl, Below.refl _ _⟩
  · obtain ⟨ga, rfl, hga, -, hca⟩ := hca (by omega)
    obtain ⟨gb, rfl, hgb, -, hcb⟩ := hcb (by have := HUL.out; omega)
    have HA := hid hca
    have HB := hid hcb
    clear hca hcb
    go_enter Tryd.func19, Tryd.ntmps19
    go_wp2
    go_loopw [5] (fun i wr => ∃ k : Nat, k ≤ ts.length ∧ i = .int .i64 k ∧ Below w.heap.size w wr) (fun i _ => ts.length - (intOf i).toNat)
    case atStart => exact ⟨0, by omega, rfl, Below.refl _ _⟩
    case round =>
      obtain ⟨k, hk, rfl, hbr⟩ := hrel
      by_cases hlt : k < ts.length
      · have ea : ∀ o, wr.cell? ⟨ga, o, none⟩ = w.cell? ⟨ga, o, none⟩ := fun o => hbr.cell (p := (⟨ga, o, none⟩ : Addr)) hga
        have eb : ∀ o, wr.cell? ⟨gb, o, none⟩ = w.cell? ⟨gb, o, none⟩ := fun o => hbr.cell (p := (⟨gb, o, none⟩ : Addr)) hgb
        obtain ⟨a0, a1, a2⟩ := HA.out k hlt
        obtain ⟨b0, b1, b2⟩ := HB.out k (by have := HUL.out; omega)
        rw [← ea] at a0 a1 a2
        rw [← eb] at b0 b1 b2
        obtain ⟨q1, q2⟩ := HAL.out k hlt (by have := HUL.out; omega)
        rw [q1] at b0
        rw [q2] at b1
        clear q1 q2 a2 b2
        clear ea eb
        obtain ⟨x, hx⟩ : ∃ x : ByteArray, x = ⟨(ts[k].t).toArray⟩ := ⟨_, rfl⟩
        rw [← hx] at a1 b1
        clear hx
        obtain ⟨y, hy⟩ : ∃ y : Int, y = (ts[k].k : Int) := ⟨_, rfl⟩
        rw [← hy] at a0 b0
        clear hy
        have hi0 : 0 ≤ (k : Int) := by omega
        have hi1 : (k : Int) < (ts.length : Int) := by omega
        go_wp2
        go_quiet (fail)
        go_wp2
        go_roundw
        case rel => exact ⟨k + 1, by omega, by go_num, below_drewN hbr _⟩
        case measure => simp [intOf]; omega
      · go_wp2
        go_ret
        exact ⟨rfl, hbr⟩

end Lx
end Go.Proofs.YtdhemkcbaoebcaaDoor
