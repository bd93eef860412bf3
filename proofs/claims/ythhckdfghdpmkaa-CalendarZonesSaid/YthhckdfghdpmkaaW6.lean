/-
  The iterator of working days: it hands on every working day from a day to another one, in order.
-/
import Derived.RangeFuncBox
import Derived.RangeFuncLeaves
import Derived.RangeFuncNested
import Derived.RangeFuncWrites
import Derived.Shelf.Abstract
import Derived.OwnWalkIn
import Derived.TacticsInMore
import Derived.LoopNIn
import Derived.LoopIn
import Derived.Shelf.RegionOpen
import Derived.Test.YthhckdfghdpmkaaW5
namespace Go.Proofs.Ythhckdfghdpmkaa
open Go.RowKit Go.Shelf
namespace Cl

attribute [local go_sem] Oper.semAt_some

/-- What a round keeps for the iterator: what lay below n₀, and its three boxes. -/
def KpS (n₀ B : Nat) (W W' : World) : Prop := ∀ k, k < n₀ ∨ (B ≤ k ∧ k < B + 3) → W'.heap[k]? = W.heap[k]?
theorem KpS.refl (n₀ B : Nat) (W : World) : KpS n₀ B W W := fun _ _ => rfl
theorem KpS.trans {n₀ B : Nat} {W W1 W2 : World} (h : KpS n₀ B W W1) (k : KpS n₀ B W1 W2) : KpS n₀ B W W2 := fun i hi => (k i hi).trans (h i hi)
theorem KpS.of_below {n₀ B : Nat} {W W' : World} (h : Below W.heap.size W W') (hn : n₀ ≤ W.heap.size) (hB : B + 3 ≤ W.heap.size) : KpS n₀ B W W' := fun k hk => h.block k (by omega)

set_option maxHeartbeats 1000000 in
theorem wdays_in (n : Nat) (x0 x1 x2 x3 x4 x5 x6 : Bool) (ah : Option Addr) (m ch : Nat) (a b : Int) (w : World) :
    CallsIn Fence.wide n Try.prog 28 #[rulV x0 x1 x2 x3 x4 x5 x6 ah m ch, .int .i64 a, .int .i64 b] w fun e w' =>
      e = .returned (.func (.func 30) #[] #[.pointer (some ⟨w.heap.size + 1, 0, none⟩), .pointer (some ⟨w.heap.size + 2, 0, none⟩), .pointer (some ⟨w.heap.size, 0, none⟩)]) ∧
      w' = ((w.alloc (.cells #[.bool x0, .bool x1, .bool x2, .bool x3, .bool x4, .bool x5, .bool x6, .slice ah m ch] 47)).alloc (.cells #[.int .i64 a] 3)).alloc (.cells #[.int .i64 b] 3) := by
  refine callsIn_of_wp Try.func28 rfl trivial ?_ rfl
  simp only [Try.ntmps28, List.size_toArray, List.length_cons, List.length_nil, Nat.reduceAdd, Nat.reduceSub, Array.replicate_succ, Array.replicate_zero, List.push_toArray, List.append_toArray, List.nil_append, List.cons_append]
  gi_wp2
  go_ret
  exact ⟨rfl, rfl⟩

/-- The three boxes of the iterator. -/
structure Bxs (W : World) (B : Nat) (x0 x1 x2 x3 x4 x5 x6 : Bool) (ah : Option Addr) (m ch : Nat) (a b : Int) : Prop where
  rul : W.heap[B]? = some (.cells #[.bool x0, .bool x1, .bool x2, .bool x3, .bool x4, .bool x5, .bool x6, .slice ah m ch] 47 (0, 0))
  lo : W.heap[B + 1]? = some (.cells #[.int .i64 a] 3 (0, 0))
  hi : W.heap[B + 2]? = some (.cells #[.int .i64 b] 3 (0, 0))
theorem Bxs.kept {W W' : World} {n₀ B : Nat} {x0 x1 x2 x3 x4 x5 x6 : Bool} {ah : Option Addr} {m ch : Nat} {a b : Int} (h : Bxs W B x0 x1 x2 x3 x4 x5 x6 ah m ch a b) (hk : KpS n₀ B W W') : Bxs W' B x0 x1 x2 x3 x4 x5 x6 ah m ch a b :=
  ⟨(hk _ (.inr ⟨by omega, by omega⟩)).trans h.rul, (hk _ (.inr ⟨by omega, by omega⟩)).trans h.lo, (hk _ (.inr ⟨by omega, by omega⟩)).trans h.hi⟩
theorem Bxs.lt {W : World} {B : Nat} {x0 x1 x2 x3 x4 x5 x6 : Bool} {ah : Option Addr} {m ch : Nat} {a b : Int} (h : Bxs W B x0 x1 x2 x3 x4 x5 x6 ah m ch a b) : B + 3 ≤ W.heap.size := (Array.getElem?_eq_some_iff.1 h.hi).1
theorem Bxs.c8 {W : World} {B : Nat} {x0 x1 x2 x3 x4 x5 x6 : Bool} {ah : Option Addr} {m ch : Nat} {a b : Int} (h : Bxs W B x0 x1 x2 x3 x4 x5 x6 ah m ch a b) :
    W.cell? ⟨B, 0, none⟩ = some (.bool x0) ∧ W.cell? ⟨B, 1, none⟩ = some (.bool x1) ∧ W.cell? ⟨B, 2, none⟩ = some (.bool x2) ∧ W.cell? ⟨B, 3, none⟩ = some (.bool x3) ∧ W.cell? ⟨B, 4, none⟩ = some (.bool x4) ∧ W.cell? ⟨B, 5, none⟩ = some (.bool x5) ∧ W.cell? ⟨B, 6, none⟩ = some (.bool x6) ∧ W.cell? ⟨B, 7, none⟩ = some (.slice ah m ch) := by
  simp [World.cell?, h.rul]

/-- How a round ends: it goes on, or it has said 'no more'. -/
def Ends (J Jx : List Int → World → Prop) (n₀ B : Nat) (pre : List Int) (x : Int) (W : World) (b : Bool) (W' : World) : Prop :=
  (b = true ∧ J (pre ++ [x]) W' ∧ KpS n₀ B W W') ∨ (b = false ∧ Jx (pre ++ [x]) W')

set_option maxRecDepth 100000 in
set_option maxHeartbeats 2000000 in
theorem iter_in (n : Nat) (hn : 1 ≤ n) (l n₀ B : Nat) (hnB : n₀ ≤ B) (x0 x1 x2 x3 x4 x5 x6 : Bool) (ah : Option Addr) (ch : Nat) (hs : List Int) (a b : Int) (ha : -2000000 ≤ a ∧ a ≤ 2000000) (hb : -2000000 ≤ b ∧ b ≤ 2000000)
    (N : Nat) (hN : (b - a + 1).toNat ≤ N) (J Jx : List Int → World → Prop) (hJ : ∀ pre W W', J pre W → Below W.heap.size W W' → J pre W')
    (hY : ∀ pre x W, J pre W → pre.length < N → YieldAt Fence.wide (n - 1) Try.prog l #[.int .i64 x] W fun e W' =>
      (e = .returned (.bool true) ∧ J (pre ++ [x]) W' ∧ KpS n₀ B W W') ∨ (e = .returned (.bool false) ∧ Jx (pre ++ [x]) W'))
    (W : World) (hX : Bxs W B x0 x1 x2 x3 x4 x5 x6 ah hs.length ch a b) (hH : Hols n₀ W ah hs) (h0 : J [] W) :
    CallsIn Fence.wide n Try.prog 30 #[.func (.yield l) #[] #[], .pointer (some ⟨B + 1, 0, none⟩), .pointer (some ⟨B + 2, 0, none⟩), .pointer (some ⟨B, 0, none⟩)] W fun e W' => (∃ v, e = .returned v) ∧
      ((∃ ys, ys = wd [x0, x1, x2, x3, x4, x5, x6] hs a (b - a + 1).toNat ∧ J ys W') ∨ (∃ pre, pre <+: wd [x0, x1, x2, x3, x4, x5, x6] hs a (b - a + 1).toNat ∧ Jx pre W')) := by
  have HY := hid hY
  have HJ := hid hJ
  clear hY hJ
  obtain ⟨ha0, ha1⟩ := ha
  obtain ⟨hb0, hb1⟩ := hb
  obtain ⟨m, hm⟩ : ∃ m, m = (b - a + 1).toNat := ⟨_, rfl⟩
  rw [← hm] at hN ⊢
  obtain ⟨wk, hwk⟩ : ∃ wk, wk = [x0, x1, x2, x3, x4, x5, x6] := ⟨_, rfl⟩
  rw [← hwk]
  have HWK := hid hwk
  have HM := hid hm
  have HX := hid hX
  have HH := hid hH
  have ca : W.cell? ⟨B + 1, 0, none⟩ = some (.int .i64 a) := by simp [World.cell?, hX.lo]
  clear hm hwk hX hH
  refine callsIn_of_wp Try.func30 rfl trivial ?_ rfl
  simp only [Try.ntmps30, List.size_toArray, List.length_cons, List.length_nil, Nat.reduceAdd, Nat.reduceSub, Array.replicate_succ, Array.replicate_zero, List.push_toArray, List.append_toArray, List.nil_append, List.cons_append]
  gi_wp2
  clear ca
  gi_loopw [5] (fun v wr => ∃ (k : Nat) (pre : List Int), k ≤ m ∧ v = .int .i64 (a + k) ∧ Hid (pre = wd wk hs a k) ∧ Hid (J pre wr) ∧ Hid (KpS n₀ B W wr))
    (fun v _ => (a + m - intOf v).toNat)
  case atStart => exact ⟨0, [], Nat.zero_le _, by simp, rfl, h0, KpS.refl _ _ _⟩
  case round =>
    obtain ⟨k, pre, hk, rfl, hpre, hJ, hK⟩ := hrel
    have X := HX.out.kept hK.out
    have hlt3 := X.lt
    have cb : wr.cell? ⟨B + 2, 0, none⟩ = some (.int .i64 b) := by simp [World.cell?, X.hi]
    by_cases hlt : k < m
    · have hle : a + k ≤ b := by have := HM.out; omega
      obtain ⟨c0, c1, c2, c3, c4, c5, c6, c7⟩ := X.c8
      have CW := hid (work_any x0 x1 x2 x3 x4 x5 x6 ch ah hs (a + k) wr ((HH.out.kept (fun i hi => hK.out i (.inl hi))).more (by omega)) (by omega) (by omega))
      rw [← HWK.out] at CW
      have hs1 : Hid (wd wk hs a (k + 1) = wd wk hs a k ++ if onB wk hs (a + k) then [a + (k : Int)] else []) := wd_succ a k
      clear X
      by_cases hon : onB wk hs (a + k) = true
      · rw [hon] at CW
        have hs2 : Hid (wd wk hs a (k + 1) = pre ++ [a + (k : Int)]) := by show _ = _; rw [hs1.out, hpre.out, if_pos hon]
        have hpl : pre.length < N := by
          have := wd_len (wk := wk) (hs := hs) a k
          rw [← hpre.out] at this; omega
        clear hon hs1
        gi_wp2_with fail
        refine ⟨trivial, ?_⟩
        refine (callsIn_wide.2 CW.out).mono ?_
        rintro e w2 ⟨rfl, hb2⟩
        have hJ2 := HJ.out _ _ _ hJ.out hb2
        have hK2 := hid (hK.out.trans (KpS.of_below hb2 (by omega) hlt3))
        obtain ⟨fn, tmps, assign, body, hy, hR⟩ := HY.out pre (a + k) w2 hJ2 hpl
        clear CW hJ2 hb2 hK hJ c0 c1 c2 c3 c4 c5 c6 c7 cb
        gi_wp2
        refine hR.mono ?_
        rintro e W3 (⟨rfl, hJ3, hk3⟩ | ⟨rfl, hJx3⟩)
        · gi_wp2
          go_roundw
          case rel => exact ⟨k + 1, pre ++ [a + (k : Int)], by omega, by go_num, hs2.out.symm, hJ3, hK2.out.trans hk3⟩
          case measure => simp [intOf]; omega
        · have hpf : Hid (pre ++ [a + (k : Int)] <+: wd wk hs a m) := by
            show _ <+: _
            have e := wd_add (wk := wk) (hs := hs) a (k + 1) (m - (k + 1))
            rw [show k + 1 + (m - (k + 1)) = m by omega] at e
            rw [← hs2.out, e]
            exact List.prefix_append _ _
          gi_wp2
          refine bodyPost_ret (results_none rfl _ _ _) rfl ?_
          exact ⟨⟨_, rfl⟩, .inr ⟨_, hpf.out, hJx3⟩⟩
      · have hon' : onB wk hs (a + k) = false := by simpa using hon
        rw [hon'] at CW
        have hs2 : Hid (wd wk hs a (k + 1) = pre) := by show _ = _; rw [hs1.out, hpre.out, if_neg hon, List.append_nil]
        clear hon hon' hs1
        gi_wp2_with fail
        refine ⟨trivial, ?_⟩
        refine (callsIn_wide.2 CW.out).mono ?_
        rintro e w2 ⟨rfl, hb2⟩
        have hJ2 := hid (HJ.out _ _ _ hJ.out hb2)
        have hK2 := hid (hK.out.trans (KpS.of_below hb2 (by omega) hlt3))
        clear CW hb2 hK hJ c0 c1 c2 c3 c4 c5 c6 c7 cb
        gi_wp2
        try (refine ⟨fun _ h => (by cases h), ?_⟩; gi_wp2)
        go_roundw
        case rel => exact ⟨k + 1, pre, by omega, by go_num, hs2.out.symm, hJ2, hK2⟩
        case measure => simp [intOf]; omega
    · have hkm : k = m := by omega
      have hge : b < a + k := by have := HM.out; omega
      have HP : Hid (pre = wd wk hs a m) := by show _ = _; rw [hpre.out, hkm]
      clear X hkm
      gi_wp2
      go_end0
      exact ⟨⟨_, rfl⟩, .inl ⟨pre, HP.out, hJ.out⟩⟩

theorem grownBy_of_below {W W' : World} (h : Below W.heap.size W W') : W.grownBy W' none := ⟨h.os, h.tape, h.output, h.size, fun k hk _ => h.block k hk⟩
theorem keeps_of_below {W W' : World} (B : Nat) (h : Below W.heap.size W W') : KeepsFrom B W W' :=
  ⟨h.size, fun k _ _ hk _ => (h.block k (Array.getElem?_eq_some_iff.1 hk).1).trans hk⟩

theorem wd_stops (n : Nat) (hn : 1 ≤ n) (n₀ B : Nat) (hnB : n₀ ≤ B) (x0 x1 x2 x3 x4 x5 x6 : Bool) (ah : Option Addr) (ch : Nat) (hs : List Int) (a b : Int) (ha : -2000000 ≤ a ∧ a ≤ 2000000) (hb : -2000000 ≤ b ∧ b ≤ 2000000)
    (N : Nat) (hN : (b - a + 1).toNat ≤ N) (w : World) (hX : Bxs w B x0 x1 x2 x3 x4 x5 x6 ah hs.length ch a b) (hH : Hols n₀ w ah hs) :
    SeqStopsK Fence.wide n Try.prog 30 #[.pointer (some ⟨B + 1, 0, none⟩), .pointer (some ⟨B + 2, 0, none⟩), .pointer (some ⟨B, 0, none⟩)] (fun x : Int => #[Value.int .i64 x]) (KpS n₀ B)
      (fun ys => ys = wd [x0, x1, x2, x3, x4, x5, x6] hs a (b - a + 1).toNat) (fun pre => pre <+: wd [x0, x1, x2, x3, x4, x5, x6] hs a (b - a + 1).toNat) N w := fun l J Jx W hW hJ _ hY h0 =>
  have hk : KpS n₀ B w W := KpS.of_below hW (by have := hX.lt; omega) hX.lt
  iter_in n hn l n₀ B hnB x0 x1 x2 x3 x4 x5 x6 ah ch hs a b ha hb N hN J Jx (fun pre W1 W2 h hb => hJ pre W1 W2 none h (grownBy_of_below hb) (fun r e => by cases e)) hY W (hX.kept hk) (hH.kept (fun i hi => hk i (.inl hi))) h0

theorem kpS_put (n₀ B : Nat) {s : Nat} (h1 : n₀ ≤ s) (h2 : B + 3 ≤ s) (W : World) (l : Nat) (o o' : Obj) (hl : s ≤ l) (_ : W.heap[l]? = some o) (_ : o.isCells = false) (_ : o.isWalk = false) : KpS n₀ B W (W.putObj l o') :=
  fun k hk => World.putObj_heap_other (show k ≠ l by omega)

end Cl
end Go.Proofs.Ythhckdfghdpmkaa
