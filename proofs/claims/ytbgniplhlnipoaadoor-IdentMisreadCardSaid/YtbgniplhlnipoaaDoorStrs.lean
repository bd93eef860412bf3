/-
  Sorted lists of texts: the two Misreads answer the same list; the contracts of Strings and in.
-/
import Derived.Test.YtbgniplhlnipoaaDoorMis
import Derived.Test.YtbgniplhlnipoaaDoorRmis
namespace Go.Proofs.YtbgniplhlnipoaaDoor
open Go.RowKit Go.Sort
namespace Id1

theorem foldl_insV (cs acc : List (List UInt8)) : cs.foldl insV acc = (cs.filter validB).foldl insB acc := by
  induction cs generalizing acc with
  | nil => rfl
  | cons c cs ih =>
    rw [List.foldl_cons, ih, List.filter_cons]
    unfold insV
    split
    · rw [List.foldl_cons]
    · rfl
theorem insB_perm (l : List (List UInt8)) (s : List UInt8) : (insB l s).Perm (s :: l) := by
  unfold insB
  refine List.perm_middle.trans ?_
  rw [List.takeWhile_append_dropWhile]
theorem insB_cons (a : List UInt8) (l : List (List UInt8)) (s : List UInt8) : insB (a :: l) s = if a < s then a :: insB l s else s :: a :: l := by
  unfold insB
  by_cases h : a < s <;> simp [h]
theorem insB_sorted (l : List (List UInt8)) (s : List UInt8) (h : l.Pairwise (· ≤ ·)) : (insB l s).Pairwise (· ≤ ·) := by
  induction l with
  | nil => simp [insB]
  | cons a l ih =>
    rw [List.pairwise_cons] at h
    rw [insB_cons]
    split
    · rename_i hlt
      rw [List.pairwise_cons]
      refine ⟨fun b hb => ?_, ih h.2⟩
      rcases List.mem_cons.1 ((insB_perm l s).mem_iff.1 hb) with rfl | hb'
      · exact List.le_of_lt hlt
      · exact h.1 b hb'
    · rename_i hlt
      have hsa : s ≤ a := List.not_lt.1 hlt
      rw [List.pairwise_cons, List.pairwise_cons]
      refine ⟨fun b hb => ?_, h⟩
      rcases List.mem_cons.1 hb with rfl | hb'
      · exact hsa
      · exact List.le_trans hsa (h.1 b hb')
theorem foldl_insB (cs acc : List (List UInt8)) (h : acc.Pairwise (· ≤ ·)) : (cs.foldl insB acc).Pairwise (· ≤ ·) ∧ (cs.foldl insB acc).Perm (acc ++ cs) := by
  induction cs generalizing acc with
  | nil => exact ⟨h, by rw [List.append_nil]; exact .refl _⟩
  | cons c cs ih =>
    obtain ⟨h1, h2⟩ := ih (insB acc c) (insB_sorted acc c h)
    refine ⟨h1, h2.trans ?_⟩
    refine ((insB_perm acc c).append_right cs).trans ?_
    exact (List.perm_middle (l₁ := acc) (l₂ := cs)).symm
theorem mergeSort_sorted (l : List (List UInt8)) : (l.mergeSort (fun x y => decide (x ≤ y))).Pairwise (· ≤ ·) := by
  have h := List.pairwise_mergeSort (le := fun x y : List UInt8 => decide (x ≤ y)) (fun a b c h1 h2 => by simp only [decide_eq_true_eq] at *; exact List.le_trans h1 h2) (fun a b => by simp only [Bool.or_eq_true, decide_eq_true_eq]; exact List.le_total a b) l
  exact h.imp fun hab => by simpa using hab
theorem ref_mis (l : List UInt8) : (if shapeB l = true then refL (cand l) else []) = misL l := by
  unfold misL refL
  split
  · rw [foldl_insV]
    obtain ⟨h1, h2⟩ := foldl_insB ((cand l).filter validB) [] List.Pairwise.nil
    refine List.Perm.eq_of_pairwise (fun a b _ _ h k => List.le_antisymm h k) h1 (mergeSort_sorted _) ?_
    rw [List.nil_append] at h2
    exact h2.trans (List.mergeSort_perm _ _).symm
  · rfl

/-- A slice of texts that can be read. -/
def Reads (w : World) (v : Value) (xs : List (List UInt8)) : Prop :=
  (v = .slice none 0 0 ∧ xs = []) ∨ ∃ g cap, v = .slice (some ⟨g, 0, none⟩) xs.length cap ∧ g < w.heap.size ∧ ∀ j (h : j < xs.length), w.cell? ⟨g, j, none⟩ = some (.string ⟨(xs[j]).toArray⟩)
theorem reads_of_own {w : World} {B : Nat} {v : Value} {xs : List (List UInt8)} (h : w.ownsRow B 9 1 v xs.length (xs.map encStr)) : Reads w v xs := by
  rcases h.2 with ⟨rfl, h0⟩ | ⟨g, cap, cur, rfl, hb, hg, -, -, -, -⟩
  · exact .inl ⟨rfl, List.length_eq_zero_iff.1 h0⟩
  · exact .inr ⟨g, cap, rfl, (Array.getElem?_eq_some_iff.1 hg).1, fun j hj => by rw [h.cellAt j (by omega)]; simp [hj, encStr]⟩
theorem Reads.on {w w' : World} {v : Value} {xs : List (List UInt8)} (h : Reads w v xs) (hb : Below w.heap.size w w') : Reads w' v xs := by
  rcases h with h | ⟨g, cap, hv, hg, hc⟩
  · exact .inl h
  · exact .inr ⟨g, cap, hv, Nat.lt_of_lt_of_le hg hb.size, fun j hj => by rw [hb.cell (p := (⟨g, j, none⟩ : Addr)) hg]; exact hc j hj⟩
theorem Reads.form {w : World} {v : Value} {xs : List (List UInt8)} (h : Reads w v xs) : ∃ p cap, v = .slice p xs.length cap := by
  rcases h with ⟨rfl, rfl⟩ | ⟨g, cap, rfl, -, -⟩
  · exact ⟨_, _, rfl⟩
  · exact ⟨_, _, rfl⟩
theorem take_eq_snoc {us vs : List (List UInt8)} {k : Nat} (ha : k < us.length) (hb : k < vs.length) (h : us.take k = vs.take k) (e : us[k] = vs[k]) : us.take (k + 1) = vs.take (k + 1) := by
  rw [List.take_succ_eq_append_getElem ha, List.take_succ_eq_append_getElem hb, h, e]

set_option maxRecDepth 100000 in
set_option maxHeartbeats 2000000 in
theorem strings_any (va vb : Value) (us vs : List (List UInt8)) (w : World) (ha : Reads w va us) (hb : Reads w vb vs) (hla : us.length ≤ 200) (hlb : vs.length ≤ 200) :
    Calls Tryd.prog 18 #[va, vb] w fun e w' => e = .returned (.bool (decide (us = vs))) ∧ Below w.heap.size w w' := by
  by_cases hll : us.length = vs.length
  · by_cases h0 : us.length = 0
    · obtain ⟨pa, ca, rfl⟩ := ha.form
      obtain ⟨pb, cb, rfl⟩ := hb.form
      have hb0 : vs.length = 0 := by omega
      have hval : decide (us = vs) = true := by rw [List.length_eq_zero_iff.1 h0, List.length_eq_zero_iff.1 hb0]; rfl
      rw [hval, h0, hb0]
      clear hval hb0 h0 hll ha hb hla hlb
      go_enter Tryd.func18, Tryd.ntmps18
      go_wp2
      go_rounds 2
      go_ret
      exact ⟨rfl, Below.refl _ _⟩
    · rcases ha with ⟨-, rfl⟩ | ⟨ga, ca, rfl, hga, hca⟩
      · exact absurd rfl h0
      rcases hb with ⟨-, rfl⟩ | ⟨gb, cb, rfl, hgb, hcb⟩
      · exact absurd hll h0
      have HL := hid hll
      have HA := hid hca
      have HB := hid hcb
      have hne : (((us.length : Nat) : Int) != ((vs.length : Nat) : Int)) = false := by rw [hll]; simp
      have hl1 : us.length ≤ vs.length := by omega
      have hl2 : vs.length ≤ us.length := by omega
      clear hll hca hcb
      go_enter Tryd.func18, Tryd.ntmps18
      go_wp2
      clear hne
      go_loopw [5] (fun i wr => ∃ k : Nat, k ≤ us.length ∧ i = .int .i64 k ∧ Hid (us.take k = vs.take k) ∧ Below w.heap.size w wr) (fun i _ => us.length - (intOf i).toNat)
      case atStart => exact ⟨0, by omega, rfl, rfl, Below.refl _ _⟩
      case round =>
        obtain ⟨k, hk, rfl, heq, hbr⟩ := hrel
        by_cases hlt : k < us.length
        · have hkb : k < vs.length := by omega
          have hdb : decide ((k : Int) < (us.length : Int)) = true := by simp; omega
          have ca1 := (hbr.cell (p := (⟨ga, k, none⟩ : Addr)) hga).trans (HA.out k hlt)
          have cb1 := (hbr.cell (p := (⟨gb, k, none⟩ : Addr)) hgb).trans (HB.out k hkb)
          obtain ⟨xa, hxa⟩ : ∃ x : ByteArray, x = ⟨(us[k]).toArray⟩ := ⟨_, rfl⟩
          obtain ⟨xb, hxb⟩ : ∃ x : ByteArray, x = ⟨(vs[k]).toArray⟩ := ⟨_, rfl⟩
          rw [← hxa] at ca1
          rw [← hxb] at cb1
          have hal : xa.data.toList = us[k] := by rw [hxa]
          have hbl : xb.data.toList = vs[k] := by rw [hxb]
          have hi0 : 0 ≤ (k : Int) := by omega
          have hi1 : (k : Int) < (us.length : Int) := by omega
          have hi2 : (k : Int) < (vs.length : Int) := by omega
          by_cases he : us[k] = vs[k]
          · have ht : xa.toList = xb.toList := by rw [Lib.toList_data, Lib.toList_data, hal, hbl, he]
            have hnext : Hid (us.take (k + 1) = vs.take (k + 1)) := take_eq_snoc hlt hkb heq.out he
            clear he hal hbl hxa hxb
            go_wp2
            go_quiet (fail)
            go_wp2
            go_roundw
            case rel => exact ⟨k + 1, by omega, by go_num, hnext, below_drewN hbr _⟩
            case measure => simp [intOf]; omega
          · have ht : ¬ xa.toList = xb.toList := by rw [Lib.toList_data, Lib.toList_data, hal, hbl]; exact he
            have ht2 : (xa.toList == xb.toList) = false := by simpa using ht
            have hval : Hid (decide (us = vs) = false) := by
              show _ = _
              rw [decide_eq_false_iff_not]
              intro e
              subst e
              exact he rfl
            clear he hal hbl hxa hxb
            go_wp2
            go_quiet (fail)
            go_wp2
            go_ret
            exact ⟨by rw [hval.out]; rfl, below_drewN hbr _⟩
        · have hkn : k = us.length := by omega
          have hval : Hid (decide (us = vs) = true) := by
            show _ = _
            have := heq.out
            rw [List.take_of_length_le (by omega), List.take_of_length_le (by have := HL.out; omega)] at this
            rw [this]; simp
          clear hkn
          go_wp2
          go_ret
          exact ⟨by rw [hval.out]; rfl, hbr⟩
  · obtain ⟨pa, ca, rfl⟩ := ha.form
    obtain ⟨pb, cb, rfl⟩ := hb.form
    have hval : decide (us = vs) = false := by rw [decide_eq_false_iff_not]; intro e; exact hll (by rw [e])
    rw [hval]
    have hne : (((us.length : Nat) : Int) != ((vs.length : Nat) : Int)) = true := by simp; omega
    clear hval hll ha hb
    go_enter Tryd.func18, Tryd.ntmps18
    go_wp2
    go_ret
    exact ⟨rfl, Below.refl _ _⟩

set_option maxRecDepth 100000 in
set_option maxHeartbeats 2000000 in
theorem in_any (v : Value) (xs : List (List UInt8)) (s : ByteArray) (w : World) (hr : Reads w v xs) (hl : xs.length ≤ 200) :
    Calls Tryd.prog 23 #[v, .string s] w fun e w' => e = .returned (.bool (decide (s.data.toList ∈ xs))) ∧ w = w' := by
  rcases hr with ⟨rfl, rfl⟩ | ⟨g, cap, rfl, hg, hc⟩
  · go_enter Tryd.func23, Tryd.ntmps23
    go_wp2
    go_rounds 2
    go_ret
    exact ⟨rfl, rfl⟩
  · have HC := hid hc
    clear hc
    go_enter Tryd.func23, Tryd.ntmps23
    go_wp2
    go_loop [5] (fun i => ∃ k : Nat, k ≤ xs.length ∧ i = .int .i64 k ∧ Hid (¬ s.data.toList ∈ xs.take k)) (fun i => xs.length - (intOf i).toNat)
    case atStart => exact ⟨0, by omega, rfl, by show ¬ _; simp⟩
    case round =>
      obtain ⟨k, hk, rfl, hno⟩ := hrel
      by_cases hlt : k < xs.length
      · have hc := HC.out k hlt
        obtain ⟨xk, hxk⟩ : ∃ x : ByteArray, x = ⟨(xs[k]).toArray⟩ := ⟨_, rfl⟩
        rw [← hxk] at hc
        have hxl : xk.data.toList = xs[k] := by rw [hxk]
        by_cases he : xs[k] = s.data.toList
        · have ht : xk.toList = s.toList := by rw [Lib.toList_data, Lib.toList_data, hxl, he]
          have hval : Hid (decide (s.data.toList ∈ xs) = true) := by
            show _ = _
            rw [decide_eq_true_eq, ← he]; exact List.getElem_mem _
          clear he hxl hxk
          go_wp2
          go_ret
          exact ⟨by rw [hval.out]; rfl, rfl⟩
        · have ht : ¬ xk.toList = s.toList := by rw [Lib.toList_data, Lib.toList_data, hxl]; exact he
          have ht2 : (xk.toList == s.toList) = false := by simpa using ht
          have hnext : Hid (¬ s.data.toList ∈ xs.take (k + 1)) := by
            show ¬ _
            rw [List.take_succ_eq_append_getElem hlt, List.mem_append, List.mem_singleton]
            rintro (h | h)
            · exact hno.out h
            · exact he h.symm
          clear he hxl hxk
          go_wp2
          go_round
          case rel => exact ⟨k + 1, by omega, by go_num, hnext⟩
          case measure => simp [intOf]; omega
      · have hval : Hid (decide (s.data.toList ∈ xs) = false) := by
          show _ = _
          have := hno.out
          rw [List.take_of_length_le (by omega)] at this
          rw [decide_eq_false_iff_not]; exact this
        go_wp2
        go_ret
        exact ⟨by rw [hval.out]; rfl, rfl⟩

end Id1
end Go.Proofs.YtbgniplhlnipoaaDoor
