/-
  The contract of added: a further holiday at its place.
-/
import Derived.Test.YthhckdfghdpmkaaNear
import Derived.Maps.AppendAt
import Derived.Laws.AppendOwn
import Derived.Laws.OwnMore
namespace Go.Proofs.Ythhckdfghdpmkaa
open Go.RowKit
namespace Cl

/-- What has been made of the first k holidays, and whether the day is in it. -/
def insT (hs : List Int) (d : Int) : Nat → List Int × Bool
  | 0 => ([], false)
  | k + 1 => if hs.getD k 0 > d ∧ (insT hs d k).2 = false then ((insT hs d k).1 ++ [d] ++ [hs.getD k 0], true) else ((insT hs d k).1 ++ [hs.getD k 0], (insT hs d k).2)
def insR (hs : List Int) (d : Int) : List Int := if (insT hs d hs.length).2 then (insT hs d hs.length).1 else (insT hs d hs.length).1 ++ [d]
theorem insT_len (hs : List Int) (d : Int) (k : Nat) : (insT hs d k).1.length = k + if (insT hs d k).2 then 1 else 0 := by
  induction k with
  | zero => rfl
  | succ k ih =>
    unfold insT
    split
    · rename_i h
      rw [h.2] at ih
      simp at ih
      simp [ih]
    · simp only [List.length_append, ih]
      simp; omega
theorem insR_len (hs : List Int) (d : Int) : (insR hs d).length = hs.length + 1 := by
  unfold insR
  have := insT_len hs d hs.length
  split
  · rename_i h; rw [h] at this; simpa using this
  · rename_i h
    rw [Bool.not_eq_true] at h
    rw [h] at this
    simp at this
    simp [this]
theorem mem_insT (hs : List Int) (d : Int) (k : Nat) (hk : k ≤ hs.length) (x : Int) : x ∈ (insT hs d k).1 ↔ x ∈ hs.take k ∨ ((insT hs d k).2 = true ∧ x = d) := by
  induction k with
  | zero => simp [insT]
  | succ k ih =>
    have ih := ih (by omega)
    have ht : hs.take (k + 1) = hs.take k ++ [hs.getD k 0] := by
      rw [List.take_succ_eq_append_getElem (by omega), getD_at (by omega)]
    rw [ht]
    unfold insT
    split
    · rename_i h
      simp only [List.mem_append, List.mem_singleton, ih, h.2]
      grind
    · simp only [List.mem_append, List.mem_singleton, ih]
      constructor
      · rintro ((h1 | h1) | h1) <;> simp [h1]
      · rintro ((h1 | h1) | h1) <;> simp [h1]
theorem hol_insR (hs : List Int) (d x : Int) : holB (insR hs d) x = (holB hs x || decide (x = d)) := by
  have hm := mem_insT hs d hs.length (Nat.le_refl _) x
  rw [List.take_length] at hm
  unfold holB
  rw [Bool.eq_iff_iff, Bool.or_eq_true, List.contains_iff_mem, List.contains_iff_mem, decide_eq_true_eq]
  unfold insR
  split
  · rename_i h
    rw [hm, h]; simp
  · rename_i h
    rw [Bool.not_eq_true] at h
    rw [List.mem_append, hm, h]; simp
theorem insT_yes {hs : List Int} {d : Int} {k : Nat} (h1 : d < hs.getD k 0) (h2 : (insT hs d k).2 = false) : insT hs d (k + 1) = ((insT hs d k).1 ++ [d] ++ [hs.getD k 0], true) := by
  show (if _ then _ else _) = _
  rw [if_pos ⟨h1, h2⟩]
theorem insT_no {hs : List Int} {d : Int} {k : Nat} (h : ¬ (d < hs.getD k 0 ∧ (insT hs d k).2 = false)) : insT hs d (k + 1) = ((insT hs d k).1 ++ [hs.getD k 0], (insT hs d k).2) := by
  show (if _ then _ else _) = _
  rw [if_neg h]

theorem on_ins {wk : List Bool} {hs hs' : List Int} {d : Int} (h : ∀ x, holB hs' x = (holB hs x || decide (x = d))) (x : Int) : onB wk hs' x = (onB wk hs x && !decide (x = d)) := by
  unfold onB
  rw [h]
  cases wk.getD (x % 7).toNat false <;> cases holB hs x <;> simp
theorem cnt_ins {wk : List Bool} {hs hs' : List Int} {d : Int} (h : ∀ x, holB hs' x = (holB hs x || decide (x = d))) (a : Int) (n : Nat) :
    cntI wk hs' a (a + n) = cntI wk hs a (a + n) - if (onB wk hs d && decide (a < d) && decide (d ≤ a + n)) = true then 1 else 0 := by
  induction n with
  | zero =>
    rw [cnt_self (by simp), cnt_self (by simp), if_neg]
    · rfl
    · rw [Bool.and_eq_true, Bool.and_eq_true, decide_eq_true_eq, decide_eq_true_eq]; rintro ⟨⟨_, h1⟩, h2⟩; simp at h2; omega
  | succ n ih =>
    rw [cnt_succ, cnt_succ, ih, on_ins h]
    by_cases hx : a + (n : Int) + 1 = d
    · have e1 : (onB wk hs d && decide (a < d) && decide (d ≤ a + (n : Int))) = false := by
        rw [decide_eq_false (show ¬ d ≤ a + (n : Int) by omega), Bool.and_false]
      have e2 : (onB wk hs d && decide (a < d) && decide (d ≤ a + ((n + 1 : Nat) : Int))) = onB wk hs d := by
        rw [decide_eq_true (show a < d by omega), decide_eq_true (show d ≤ a + ((n + 1 : Nat) : Int) by omega)]; simp
      rw [e1, e2, hx]
      cases onB wk hs d <;> simp
    · have e1 : decide (d ≤ a + (n : Int)) = decide (d ≤ a + ((n + 1 : Nat) : Int)) := by
        by_cases h1 : d ≤ a + (n : Int)
        · rw [decide_eq_true h1, decide_eq_true (by omega)]
        · rw [decide_eq_false h1, decide_eq_false (by omega)]
      rw [e1, decide_eq_false hx, Bool.not_false, Bool.and_true]
      omega

theorem infoInt : (Try.prog.info? 3).map (fun i => (i.zero, i.size, i.bytes)) = some (some (.int .i64 0), 1, 8) := by kernel_rfl

theorem app_below {w wr w1 : World} {v : Value} {n : Nat} {xs : List Value} {t : TypeId} {o : Obj} (hB : Below w.heap.size w wr) (hrow : wr.ownsRow w.heap.size t 1 v n xs) (hg : (wr.alloc o).grownBy w1 v.ownBlock) : Below w.heap.size w w1 :=
  (hB.alloc hB.size o).grown hg (by have := hB.size; simp; omega) (fun k e => (hrow.lt k e).1)

/-- What added answers. -/
def AddPost (hs : List Int) (d : Int) (w : World) (e : Ending) (w' : World) : Prop :=
  (holB hs d = true ∧ e = .returned (.tuple #[.slice none 0 0, .bool false]) ∧ Below w.heap.size w w') ∨
  (holB hs d = false ∧ ∃ v, e = .returned (.tuple #[v, .bool true]) ∧ w'.ownsRow w.heap.size 3 1 v (insR hs d).length ((insR hs d).map (Value.int .i64)) ∧ Below w.heap.size w w')

set_option maxRecDepth 100000 in
set_option maxHeartbeats 8000000 in
theorem added_any (ah : Option Addr) (ch : Nat) (hs : List Int) (d : Int) (w : World) (hC : 0 < hs.length → ∃ b o, ah = some ⟨b, o, none⟩ ∧ b < w.heap.size ∧ ∀ k, k < hs.length → w.cell? ⟨b, o + k, none⟩ = some (.int .i64 (hs.getD k 0)))
    (hreach : hs.length * 8 ≤ 140737488351232) :
    Calls Try.prog 18 #[.slice ah hs.length ch, .int .i64 d] w (AddPost hs d w) := by
  have HC := hid hC
  clear hC
  obtain ⟨i0, hi, hz0, hz1, hz2⟩ := info_parts infoInt
  obtain ⟨n, hn⟩ : ∃ n, n = hs.length := ⟨_, rfl⟩
  rw [← hn] at hreach ⊢
  have HN := hid hn
  clear hn
  go_enter Try.func18, Try.ntmps18
  go_wp2
  go_loopw [6, 7, 8] (fun v b i wr => ∃ (k : Nat) (dn : Bool), k ≤ n ∧ i = .int .i64 k ∧ b = .bool dn ∧ Hid ((insT hs d k).2 = dn) ∧ wr.ownsRow w.heap.size 3 1 v (insT hs d k).1.length ((insT hs d k).1.map (Value.int .i64)) ∧ Below w.heap.size w wr ∧ Hid (∀ t, t < k → hs.getD t 0 ≠ d))
    (fun _ _ i _ => n - (intOf i).toNat)
  case atStart => exact ⟨0, false, Nat.zero_le _, rfl, rfl, rfl, World.ownsRow_nil _ _ _ _, Below.refl _ _, fun t ht => absurd ht (Nat.not_lt_zero _)⟩
  case round =>
    obtain ⟨k, dn, hk, rfl, rfl, hdn, hrow, hB, hno⟩ := hrel
    by_cases hlt : k < n
    · obtain ⟨b, o, rfl, hb, hc⟩ := HC.out (by rw [← HN.out]; omega)
      have hck := (hB.cell (p := ⟨b, o + k, none⟩) hb).trans (hc k (by rw [← HN.out]; exact hlt))
      have HCK := hid (hc k (by rw [← HN.out]; exact hlt))
      have hlI : (k : Int) < (n : Int) := by omega
      have hlen := insT_len hs d k
      rw [hdn.out] at hlen
      obtain ⟨x, hx⟩ : ∃ x, x = hs.getD k 0 := ⟨_, rfl⟩
      have HX := hid hx
      rw [← hx] at hck HCK
      clear hc hx
      by_cases hxd : x = d
      · have HF : Hid (holB hs d = true) := by
          show _ = _
          unfold holB
          rw [List.contains_iff_mem]
          have h1 : k < hs.length := by rw [← HN.out]; exact hlt
          exact List.mem_iff_getElem.2 ⟨k, h1, by rw [← getD_at h1, ← HX.out]; exact hxd⟩
        have hxb : (x == d) = true := by simp [hxd]
        clear hxd hlen
        go_wp2
        go_ret2
        exact .inl ⟨HF.out, rfl, hB⟩
      · have hxb : (x == d) = false := by simpa using hxd
        have HNO : Hid (∀ t, t < k + 1 → hs.getD t 0 ≠ d) := fun t ht => by
          rcases Nat.lt_succ_iff_lt_or_eq.1 ht with h1 | h1
          · exact hno.out t h1
          · rw [h1, ← HX.out]; exact hxd
        clear hno hxd
        by_cases hgt : d < x ∧ dn = false
        · obtain ⟨hgt, rfl⟩ := hgt
          have HS : Hid (insT hs d (k + 1) = ((insT hs d k).1 ++ [d] ++ [x], true)) := by show _ = _; rw [HX.out]; exact insT_yes (by rw [← HX.out]; exact hgt) hdn.out
          have hl2 : (insT hs d k).1.length = k := by simpa using hlen
          obtain ⟨acc, hacc⟩ : ∃ acc, acc = (insT hs d k).1 := ⟨_, rfl⟩
          rw [← hacc] at hrow HS hl2
          clear hlen hdn hacc
          go_wp2_with (first
            | (at_builtin; refine wpList_append_own _ rfl _ _ 23 rfl w.heap.size 3 i0 (.int .i64 0) 1 8 Try.underlying23 hi hz0 hz1 hz2 rfl (by decide) _ _ _ rfl (hrow.alloc _) ⟨wr.heap.size, 0, none⟩ 1 1 [.int .i64 d] rfl rfl (cell_one_new _ _ _) (by simp [Value.oneCell']) (by unfold maxLen; omega) (by omega) (by have := hB.size; simp; omega) ?_; intro v1 w1 hrow1 hg1 _; have hB1 := app_below hB hrow hg1; have hck1 := (hB1.cell (p := ⟨b, o + k, none⟩) hb).trans HCK.out; clear hrow hck)
            | (at_builtin; refine wpList_append_own _ rfl _ _ 23 rfl w.heap.size 3 i0 (.int .i64 0) 1 8 Try.underlying23 hi hz0 hz1 hz2 rfl (by decide) _ _ _ rfl (hrow1.alloc _) ⟨w1.heap.size, 0, none⟩ 1 1 [.int .i64 x] rfl rfl (cell_one_new _ _ _) (by simp [Value.oneCell']) (by unfold maxLen; omega) (by omega) (by have := hB1.size; simp; omega) ?_; intro v2 w2 hrow2 hg2 _; have hB2 := app_below hB1 hrow1 hg2; clear hrow1 hck1))
          go_roundw
          case rel => exact ⟨k + 1, true, by omega, by go_num, rfl, by show _ = _; rw [HS.out], by rw [HS.out]; simpa using hrow2, hB2, HNO⟩
          case measure => simp [intOf]; omega
        · have HS : Hid (insT hs d (k + 1) = ((insT hs d k).1 ++ [x], dn)) := by
            show _ = _
            rw [HX.out, insT_no (by rw [← HX.out, hdn.out]; exact hgt), hdn.out]
          have hl2 : (insT hs d k).1.length ≤ k + 1 := by rw [hlen]; split <;> omega
          obtain ⟨acc, hacc⟩ : ∃ acc, acc = (insT hs d k).1 := ⟨_, rfl⟩
          rw [← hacc] at hrow HS hl2
          clear hlen hdn hacc
          by_cases hdx : d < x
          · obtain rfl : dn = true := by
              cases dn
              · exact absurd ⟨hdx, rfl⟩ hgt
              · rfl
            clear hgt
            go_wp2_with (at_builtin; refine wpList_append_own _ rfl _ _ 23 rfl w.heap.size 3 i0 (.int .i64 0) 1 8 Try.underlying23 hi hz0 hz1 hz2 rfl (by decide) _ _ _ rfl (hrow.alloc _) ⟨wr.heap.size, 0, none⟩ 1 1 [.int .i64 x] rfl rfl (cell_one_new _ _ _) (by simp [Value.oneCell']) (by unfold maxLen; omega) (by omega) (by have := hB.size; simp; omega) ?_; intro v1 w1 hrow1 hg1 _; have hB1 := app_below hB hrow hg1; clear hrow)
            go_roundw
            case rel => exact ⟨k + 1, true, by omega, by go_num, rfl, by show _ = _; rw [HS.out], by rw [HS.out]; simpa using hrow1, hB1, HNO⟩
            case measure => simp [intOf]; omega
          · clear hgt
            have hxd2 : decide (d < x) = false := by simp; omega
            go_wp2_with (at_builtin; refine wpList_append_own _ rfl _ _ 23 rfl w.heap.size 3 i0 (.int .i64 0) 1 8 Try.underlying23 hi hz0 hz1 hz2 rfl (by decide) _ _ _ rfl (hrow.alloc _) ⟨wr.heap.size, 0, none⟩ 1 1 [.int .i64 x] rfl rfl (cell_one_new _ _ _) (by simp [Value.oneCell']) (by unfold maxLen; omega) (by omega) (by have := hB.size; simp; omega) ?_; intro v1 w1 hrow1 hg1 _; have hB1 := app_below hB hrow hg1; clear hrow)
            go_roundw
            case rel => exact ⟨k + 1, dn, by omega, by go_num, rfl, by show _ = _; rw [HS.out], by rw [HS.out]; simpa using hrow1, hB1, HNO⟩
            case measure => simp [intOf]; omega
    · have hkn : k = n := by omega
      have HF : Hid (holB hs d = false) := by
        show _ = _
        rw [Bool.eq_false_iff]
        unfold holB
        rw [Ne, List.contains_iff_mem]
        intro hm
        obtain ⟨t, ht, e⟩ := List.mem_iff_getElem.1 hm
        exact hno.out t (by rw [hkn, HN.out]; exact ht) (by rw [getD_at ht]; exact e)
      have hlen := insT_len hs d k
      rw [hdn.out] at hlen
      have hl2 : (insT hs d k).1.length ≤ n + 1 := by rw [hlen]; split <;> omega
      have hlI : (n : Int) ≤ (k : Int) := by omega
      cases dn with
      | true =>
        have HR : Hid ((insT hs d k).1 = insR hs d) := by
          show _ = _
          unfold insR
          rw [← HN.out, ← hkn, hdn.out]; rfl
        rw [HR.out] at hrow
        clear hno hlen hdn hkn hl2
        go_wp2
        go_ret2
        exact .inr ⟨HF.out, _, rfl, hrow, hB⟩
      | false =>
        have HR : Hid ((insT hs d k).1 ++ [d] = insR hs d) := by
          show _ = _
          unfold insR
          rw [← HN.out, ← hkn, hdn.out]; rfl
        obtain ⟨acc, hacc⟩ : ∃ acc, acc = (insT hs d k).1 := ⟨_, rfl⟩
        have hl3 : (insT hs d k).1.length = k := by simpa using hlen
        rw [← hacc] at hrow HR hl2 hl3
        clear hno hlen hdn hacc
        go_wp2_with (at_builtin; refine wpList_append_own _ rfl _ _ 23 rfl w.heap.size 3 i0 (.int .i64 0) 1 8 Try.underlying23 hi hz0 hz1 hz2 rfl (by decide) _ _ _ rfl (hrow.alloc _) ⟨wr.heap.size, 0, none⟩ 1 1 [.int .i64 d] rfl rfl (cell_one_new _ _ _) (by simp [Value.oneCell']) (by unfold maxLen; omega) (by omega) (by have := hB.size; simp; omega) ?_; intro v1 w1 hrow1 hg1 _; have hB1 := app_below hB hrow hg1; clear hrow)
        go_ret2
        exact .inr ⟨HF.out, _, rfl, by rw [← HR.out]; simpa using hrow1, hB1⟩

end Cl
end Go.Proofs.Ythhckdfghdpmkaa
