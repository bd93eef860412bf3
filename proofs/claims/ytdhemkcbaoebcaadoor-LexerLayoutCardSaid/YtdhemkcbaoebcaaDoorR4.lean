/-
  The contract of the document's own next.
-/
import Derived.Test.YtdhemkcbaoebcaaDoorR3
namespace Go.Proofs.YtdhemkcbaoebcaaDoor
open Go.RowKit
namespace Lx

/-- What a piece at the beginning is, seen from the longest one down. -/
theorem next_dec (l : List UInt8) (m : Nat) (h0 : 0 < m) (hm : m ≤ l.length) (hN : (tokL l).2 ≤ m) :
    (kindL (l.take m) = 0 ∧ (tokL l).2 < m) ∨ ((kindL (l.take m) = 1 ∨ kindL (l.take m) = 2) ∧ m < l.length ∧ wordB (l.getD m 0) = true ∧ (tokL l).2 < m) ∨
    (kindL (l.take m) ≠ 0 ∧ tokL l = (kindL (l.take m), m) ∧ ((kindL (l.take m) = 1 ∨ kindL (l.take m) = 2) → m < l.length → wordB (l.getD m 0) = false)) := by
  by_cases hk : kindL (l.take m) = 0
  · left
    refine ⟨hk, ?_⟩
    rcases Nat.lt_or_ge (tokL l).2 m with h | h
    · exact h
    · exfalso
      have he : (tokL l).2 = m := by omega
      obtain ⟨-, h2, h3, -⟩ := tok_at (l := l) (by omega)
      rw [he, hk] at h2
      exact h3 h2.symm
  · right
    by_cases hw : (kindL (l.take m) = 1 ∨ kindL (l.take m) = 2) ∧ m < l.length ∧ wordB (l.getD m 0) = true
    · left
      refine ⟨hw.1, hw.2.1, hw.2.2, ?_⟩
      rcases Nat.lt_or_ge (tokL l).2 m with h | h
      · exact h
      · exfalso
        have he : (tokL l).2 = m := by omega
        obtain ⟨-, h2, h3, h4⟩ := tok_at (l := l) (by omega)
        rw [he] at h2 h4
        have := h4.1 (by rw [← h2]; exact hw.1) (l.getD m 0) (by rw [head_drop, if_pos hw.2.1])
        rw [hw.2.2] at this; cases this
    · right
      have hw2 : (kindL (l.take m) = 1 ∨ kindL (l.take m) = 2) → m < l.length → wordB (l.getD m 0) = false := fun h1 h2 => by
        rw [Bool.eq_false_iff]; intro h3; exact hw ⟨h1, h2, h3⟩
      refine ⟨hk, ?_, hw2⟩
      by_cases hd : l.take m = [45] ∧ (l.drop m).head? = some 62
      · exfalso
        obtain ⟨hd1, hd2⟩ := hd
        have hm1 : m = 1 := by
          have := congrArg List.length hd1
          rw [List.length_take] at this
          simp at this; omega
        subst hm1
        rw [head_drop] at hd2
        split at hd2
        · rename_i hl
          have e1 : l.getD 1 0 = 62 := Option.some.inj hd2
          have e0 : l.getD 0 0 = 45 := by
            have : (l.take 1).getD 0 0 = 45 := by rw [hd1]; rfl
            rwa [getD_take (by omega)] at this
          have ht2 : l.take 2 = [45, 62] := by
            match l, hl, e0, e1 with
            | a :: b :: r, _, e0, e1 =>
              simp at e0 e1
              rw [e0, e1]; rfl
          have hk3 : kindL (l.take 2) = 3 := by rw [ht2]; decide
          have := piece_tok (l := l) (n := 2) (by omega) (by rw [hk3]; decide) (by rw [hk3, ht2]; exact ⟨fun h => by omega, fun h => by simp at h⟩)
          rw [this] at hN
          simp only at hN
          omega
        · cases hd2
      · refine piece_tok hm hk ⟨fun h12 b hb => ?_, fun h45 h62 => hd ⟨h45, h62⟩⟩
        rw [head_drop] at hb
        split at hb
        · rename_i hl
          cases hb
          exact hw2 h12 hl
        · cases hb

theorem kindL_le (p : List UInt8) : kindL p ≤ 4 := by
  by_cases h : kindL p = 0
  · omega
  · exact (kind_head h).2.2.2.2.2

theorem box3' {w : World} {B : Nat} {x y z : Value} {t : TypeId} (h : w.heap[B]? = some (.cells #[x, y, z] t (0, 0))) :
    w.cell? ⟨B, 0, none⟩ = some x ∧ w.cell? ⟨B, 1, none⟩ = some y ∧ w.cell? ⟨B, 2, none⟩ = some z := by
  simp [World.cell?, h]

theorem free3 {w : World} {B : Nat} {x y z : Value} {t : TypeId} (h : w.heap[B]? = some (.cells #[x, y, z] t (0, 0))) :
    w.frozen? ⟨B, 0, none⟩ = false ∧ w.frozen? ⟨B, 1, none⟩ = false ∧ w.frozen? ⟨B, 2, none⟩ = false := by
  simp [World.frozen?, h]

/-- What next answers. -/
def NextPost (l : List UInt8) (w : World) (e : Ending) (w' : World) : Prop :=
  ∃ y : ByteArray, ((tokL l).2 ≠ 0 → y.data.toList = txt (tokL l).1 (l.take (tokL l).2)) ∧ e = .returned (.tuple #[tokV (tokL l).1 y 0, .int .i64 ((tokL l).2 : Nat)]) ∧ Below w.heap.size w w'

set_option maxRecDepth 100000 in
set_option maxHeartbeats 16000000 in
theorem rnext_any (s : ByteArray) (w : World) (hs : s.size ≤ maxLen) :
    Calls Tryd.prog 26 #[.string s] w (NextPost s.data.toList w) := by
  have HS := hid hs
  unfold maxLen at hs
  have hN0 : (tokL s.data.toList).2 ≤ 202 := by
    rcases Nat.eq_zero_or_pos (tokL s.data.toList).2 with h | h
    · omega
    · obtain ⟨h1, h2, h3, -⟩ := tok_at h
      have := (kind_head (p := s.data.toList.take (tokL s.data.toList).2) (by rw [h2]; exact h3)).2.1
      rw [List.length_take] at this
      omega
  have hN1 := tok_len s.data.toList
  rw [s_len] at hN1
  obtain ⟨m0, hm0⟩ : ∃ m0, m0 = min s.size 202 := ⟨_, rfl⟩
  have HN0 : Hid ((tokL s.data.toList).2 ≤ m0) := by show _ ≤ _; omega
  have hms : m0 ≤ s.size := by omega
  have hm2 : m0 ≤ 202 := by omega
  have hmin : min (s.size : Int) 202 = (m0 : Int) := by omega
  clear hN0 hN1 hm0
  have hle : w.heap.size ≤ w.heap.size := Nat.le_refl _
  go_enter Tryd.func26, Tryd.ntmps26
  go_wp2
  go_loopw [4] (fun i wr => ∃ m : Nat, m ≤ s.size ∧ m ≤ 202 ∧ i = .int .i64 m ∧ Hid ((tokL s.data.toList).2 ≤ m) ∧ Hid (wr.heap[w.heap.size]? = some (.cells #[.int .i64 0, .string ⟨#[]⟩, .int .i64 0] 31 (0, 0))) ∧ Below w.heap.size w wr ∧ w.heap.size < wr.heap.size) (fun i _ => (intOf i).toNat)
  case atStart => exact ⟨m0, hms, hm2, rfl, HN0.out, heap_new w _, b0 w _, by simp⟩
  case round =>
    clear hmin hms hm2
    obtain ⟨m, hms, hm2, rfl, hN, hR, hB, hsz⟩ := hrel
    by_cases h0 : 0 < m
    · have hdec := next_dec s.data.toList m h0 (by rw [s_len]; exact hms) hN.out
      have hk4 := kindL_le (s.data.toList.take m)
      have CK := fun u => rkind_any (s.extract 0 m) u (Nat.le_trans (ex_size _ _ _) HS.out)
      have hkt := kindS_txt (s := s.extract 0 m)
      rw [ex_take] at CK hkt
      obtain ⟨K, hK⟩ : ∃ K, K = kindL (s.data.toList.take m) := ⟨_, rfl⟩
      obtain ⟨Y, hY⟩ : ∃ Y, Y = kindS (s.extract 0 m) := ⟨_, rfl⟩
      rw [← hK] at CK hdec hkt hk4
      rw [← hY] at CK hkt
      have CKh := hid CK
      have HKT := hid hkt
      have i0 : 0 ≤ (m : Int) := by omega
      have i1 : (m : Int) ≤ (s.size : Int) := by omega
      clear CK hkt hK hY
      rcases hdec with ⟨hk0, hlt⟩ | ⟨h12, hl, hw, hlt⟩ | ⟨hk0, htok, hnw⟩
      · have HNn : Hid ((tokL s.data.toList).2 ≤ m - 1) := by show _ ≤ _; omega
        have x0 : ((K : Int) == 0) = true := by simp; omega
        have hm1 : (m : Int) - 1 = ((m - 1 : Nat) : Int) := by omega
        clear hk0 hlt hk4
        go_wp2_with fail
        refine (CKh.out _).mono ?_
        rintro e w2 ⟨rfl, hb'⟩
        have hR2 := hid (blk_to hR.out hb')
        have hB2 := bt hB hb'
        have hsz2 : w.heap.size < w2.heap.size := Nat.lt_of_lt_of_le hsz hb'.size
        clear hb'
        go_wp2
        go_roundw
        case rel => exact ⟨m - 1, by omega, by omega, by first | rfl | go_num, HNn, hR2, hB2, hsz2⟩
        case measure => simp [intOf]; omega
      · rw [s_len] at hl
        rw [← s_at s m hl] at hw
        have CW0 := fun u => rWord_any s[m] u
        rw [hw] at CW0
        have CW := hid CW0
        have HNn : Hid ((tokL s.data.toList).2 ≤ m - 1) := by show _ ≤ _; omega
        have x0 : ((K : Int) == 0) = false := by rw [beq_eq_false_iff_ne]; omega
        have t2 : decide ((m : Int) < (s.size : Int)) = true := by rw [decide_eq_true_eq]; omega
        have hm1 : (m : Int) - 1 = ((m - 1 : Nat) : Int) := by omega
        clear hlt hk4 CW0 hw
        rcases h12 with h1 | h1
        · have x1 : ((K : Int) == 1) = true := by simp; omega
          clear h1
          go_wp2_with fail
          refine (CKh.out _).mono ?_
          rintro e w2 ⟨rfl, hb'⟩
          have hR2 := hid (blk_to hR.out hb')
          have hB2 := bt hB hb'
          have hsz2 : w.heap.size < w2.heap.size := Nat.lt_of_lt_of_le hsz hb'.size
          clear hb'
          go_wp2_with fail
          refine (CW.out _).mono ?_
          rintro e w' ⟨rfl, rfl⟩
          go_wp2
          go_roundw
          case rel => exact ⟨m - 1, by omega, by omega, by first | rfl | go_num, HNn, hR2, hB2, hsz2⟩
          case measure => simp [intOf]; omega
        · have x1 : ((K : Int) == 1) = false := by simp; omega
          have x2 : ((K : Int) == 2) = true := by simp; omega
          clear h1
          go_wp2_with fail
          refine (CKh.out _).mono ?_
          rintro e w2 ⟨rfl, hb'⟩
          have hR2 := hid (blk_to hR.out hb')
          have hB2 := bt hB hb'
          have hsz2 : w.heap.size < w2.heap.size := Nat.lt_of_lt_of_le hsz hb'.size
          clear hb'
          go_wp2_with fail
          refine (CW.out _).mono ?_
          rintro e w' ⟨rfl, rfl⟩
          go_wp2
          go_roundw
          case rel => exact ⟨m - 1, by omega, by omega, by first | rfl | go_num, HNn, hR2, hB2, hsz2⟩
          case measure => simp [intOf]; omega
      · have x0 : ((K : Int) == 0) = false := by rw [beq_eq_false_iff_ne]; omega
        have HTok := hid htok
        have HK0 := hid hk0
        clear htok
        by_cases h12 : K = 1 ∨ K = 2
        · by_cases hl : m < s.size
          · have hw := hnw h12 (by rw [s_len]; exact hl)
            rw [← s_at s m hl] at hw
            have CW0 := fun u => rWord_any s[m] u
            rw [hw] at CW0
            have CW := hid CW0
            have t2 : decide ((m : Int) < (s.size : Int)) = true := by rw [decide_eq_true_eq]; omega
            clear CW0 hw hnw hk4 hk0
            rcases h12 with h1 | h1
            · have x1 : ((K : Int) == 1) = true := by simp; omega
              clear h1
              go_wp2_with fail
              refine (CKh.out _).mono ?_
              rintro e w2 ⟨rfl, hb'⟩
              have hR2 := hid (blk_to hR.out hb')
              have hB2 := bt hB hb'
              obtain ⟨f0, f1, f2⟩ := box3' hR2.out
              obtain ⟨z0, z1, z2⟩ := free3 hR2.out
              clear hb'
              go_wp2_with fail
              refine (CW.out _).mono ?_
              rintro e w' ⟨rfl, rfl⟩
              go_wp2
              have hrow := row3 w2 w.heap.size 31 _ _ _ (.int .i64 K) (.string Y) (.int .i64 0) hR2.out
              obtain ⟨c0, c1, c2⟩ := box3' hrow
              (try simp only [Exit.inBlock, Exit.then])
              refine bodyPost_ret (v := .tuple #[tokV K Y 0, .int .i64 m]) ?_ rfl ?_
              · simp [results, Tryd.f26, go_sem, c0, c1, c2]
              · exact ⟨Y, fun _ => by rw [HTok.out]; exact HKT.out HK0.out, by rw [HTok.out], set3 hB2 (Nat.le_refl _) _ _ _⟩
            · have x1 : ((K : Int) == 1) = false := by simp; omega
              have x2 : ((K : Int) == 2) = true := by simp; omega
              clear h1
              go_wp2_with fail
              refine (CKh.out _).mono ?_
              rintro e w2 ⟨rfl, hb'⟩
              have hR2 := hid (blk_to hR.out hb')
              have hB2 := bt hB hb'
              obtain ⟨f0, f1, f2⟩ := box3' hR2.out
              obtain ⟨z0, z1, z2⟩ := free3 hR2.out
              clear hb'
              go_wp2_with fail
              refine (CW.out _).mono ?_
              rintro e w' ⟨rfl, rfl⟩
              go_wp2
              have hrow := row3 w2 w.heap.size 31 _ _ _ (.int .i64 K) (.string Y) (.int .i64 0) hR2.out
              obtain ⟨c0, c1, c2⟩ := box3' hrow
              (try simp only [Exit.inBlock, Exit.then])
              refine bodyPost_ret (v := .tuple #[tokV K Y 0, .int .i64 m]) ?_ rfl ?_
              · simp [results, Tryd.f26, go_sem, c0, c1, c2]
              · exact ⟨Y, fun _ => by rw [HTok.out]; exact HKT.out HK0.out, by rw [HTok.out], set3 hB2 (Nat.le_refl _) _ _ _⟩
          · have t2 : decide ((m : Int) < (s.size : Int)) = false := by rw [decide_eq_false_iff_not]; omega
            clear hnw hk4 hk0
            rcases h12 with h1 | h1
            · have x1 : ((K : Int) == 1) = true := by simp; omega
              clear h1
              go_wp2_with fail
              refine (CKh.out _).mono ?_
              rintro e w2 ⟨rfl, hb'⟩
              have hR2 := hid (blk_to hR.out hb')
              have hB2 := bt hB hb'
              obtain ⟨f0, f1, f2⟩ := box3' hR2.out
              obtain ⟨z0, z1, z2⟩ := free3 hR2.out
              clear hb'
              go_wp2
              have hrow := row3 w2 w.heap.size 31 _ _ _ (.int .i64 K) (.string Y) (.int .i64 0) hR2.out
              obtain ⟨c0, c1, c2⟩ := box3' hrow
              (try simp only [Exit.inBlock, Exit.then])
              refine bodyPost_ret (v := .tuple #[tokV K Y 0, .int .i64 m]) ?_ rfl ?_
              · simp [results, Tryd.f26, go_sem, c0, c1, c2]
              · exact ⟨Y, fun _ => by rw [HTok.out]; exact HKT.out HK0.out, by rw [HTok.out], set3 hB2 (Nat.le_refl _) _ _ _⟩
            · have x1 : ((K : Int) == 1) = false := by simp; omega
              have x2 : ((K : Int) == 2) = true := by simp; omega
              clear h1
              go_wp2_with fail
              refine (CKh.out _).mono ?_
              rintro e w2 ⟨rfl, hb'⟩
              have hR2 := hid (blk_to hR.out hb')
              have hB2 := bt hB hb'
              obtain ⟨f0, f1, f2⟩ := box3' hR2.out
              obtain ⟨z0, z1, z2⟩ := free3 hR2.out
              clear hb'
              go_wp2
              have hrow := row3 w2 w.heap.size 31 _ _ _ (.int .i64 K) (.string Y) (.int .i64 0) hR2.out
              obtain ⟨c0, c1, c2⟩ := box3' hrow
              (try simp only [Exit.inBlock, Exit.then])
              refine bodyPost_ret (v := .tuple #[tokV K Y 0, .int .i64 m]) ?_ rfl ?_
              · simp [results, Tryd.f26, go_sem, c0, c1, c2]
              · exact ⟨Y, fun _ => by rw [HTok.out]; exact HKT.out HK0.out, by rw [HTok.out], set3 hB2 (Nat.le_refl _) _ _ _⟩
        · have x1 : ((K : Int) == 1) = false := by simp; omega
          have x2 : ((K : Int) == 2) = false := by simp; omega
          clear hnw hk4 hk0 h12
          go_wp2_with fail
          refine (CKh.out _).mono ?_
          rintro e w2 ⟨rfl, hb'⟩
          have hR2 := hid (blk_to hR.out hb')
          have hB2 := bt hB hb'
          obtain ⟨f0, f1, f2⟩ := box3' hR2.out
          obtain ⟨z0, z1, z2⟩ := free3 hR2.out
          clear hb'
          go_wp2
          have hrow := row3 w2 w.heap.size 31 _ _ _ (.int .i64 K) (.string Y) (.int .i64 0) hR2.out
          obtain ⟨c0, c1, c2⟩ := box3' hrow
          (try simp only [Exit.inBlock, Exit.then])
          refine bodyPost_ret (v := .tuple #[tokV K Y 0, .int .i64 m]) ?_ rfl ?_
          · simp [results, Tryd.f26, go_sem, c0, c1, c2]
          · exact ⟨Y, fun _ => by rw [HTok.out]; exact HKT.out HK0.out, by rw [HTok.out], set3 hB2 (Nat.le_refl _) _ _ _⟩
    · have HNz : Hid ((tokL s.data.toList).2 = 0) := by have := hN.out; show _ = _; omega
      obtain rfl : m = 0 := by omega
      obtain ⟨f0, f1, f2⟩ := box3' hR.out
      obtain ⟨z0, z1, z2⟩ := free3 hR.out
      clear h0 hms hm2 hs
      go_wp2
      have hrow := row3 wr w.heap.size 31 _ _ _ (.int .i64 0) (.string ⟨#[]⟩) (.int .i64 0) hR.out
      obtain ⟨c0, c1, c2⟩ := box3' hrow
      have hz := tok_zero HNz.out
      (try simp only [Exit.inBlock, Exit.then])
      refine bodyPost_ret (v := .tuple #[tokV 0 ⟨#[]⟩ 0, .int .i64 0]) ?_ rfl ?_
      · simp [results, Tryd.f26, go_sem, c0, c1, c2]
      · exact ⟨⟨#[]⟩, fun h => absurd HNz.out h, by rw [hz]; rfl, set3 hB (Nat.le_refl _) _ _ _⟩

end Lx
end Go.Proofs.YtdhemkcbaoebcaaDoor
