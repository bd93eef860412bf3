/-
  What the package-level tables hold; the contract of Check.
-/
import Derived.Test.YtbgniplhlnipoaaDoorWalk2
namespace Go.Proofs.YtbgniplhlnipoaaDoor
open Go.RowKit
namespace Id1

/-- The weights of the check digit lie in their variable, below the block that the call makes next. -/
structure Wts (w : World) : Prop where
  cells : ∀ i, i < 8 → w.cell? ⟨0, i, none⟩ = some (.int .i64 (wt i))
  big : 0 < w.heap.size
theorem Wts.below {w w' : World} (h : Wts w) (hb : Below w.heap.size w w') : Wts w' :=
  ⟨fun i hi => (hb.cell (p := ⟨0, i, none⟩) h.big).trans (h.cells i hi), Nat.lt_of_lt_of_le h.big hb.size⟩

/-- What Check answers. -/
def chkV (l : List UInt8) : Int := if l.length = 8 ∧ digitsB l = true then chk l else 0
def chkE (l : List UInt8) : Int := if l.length = 8 ∧ digitsB l = true then 0 else 1

set_option maxRecDepth 100000 in
set_option maxHeartbeats 1000000 in
theorem check_any (s : ByteArray) (w : World) (hs : s.size ≤ maxLen) (hw : Wts w) :
    Calls Tryd.prog 10 #[.string s] w fun e w' => e = .returned (.tuple #[.int .i64 (chkV s.data.toList), .int .i64 (chkE s.data.toList)]) ∧ Below w.heap.size w w' := by
  unfold maxLen at hs
  obtain ⟨l, hl⟩ : ∃ l, l = s.data.toList := ⟨_, rfl⟩
  have hlen : l.length = s.size := by rw [hl]; simp
  by_cases h2 : s.size = 8
  · obtain ⟨c, W1, hcv, hB, hb⟩ := conv_any w s
    have HW := hid (hw.below hb).cells
    rw [← hl] at hB ⊢
    have hne : ((s.size : Int) != 8) = false := by rw [h2]; rfl
    have HB := hid hB
    have HL := hid hlen
    have H8 := hid h2
    have hs8 : s.size ≤ 8 := by omega
    clear hB hlen hl h2 hw
    go_enter Tryd.func10, Tryd.ntmps10
    go_wp2
    go_step3
    go_wp2
    go_step3
    go_wp2
    clear hne
    go_loop [4, 5, 14] (fun a f i => ∃ k : Nat, ∃ acc : Int, k ≤ s.size ∧ i = .int .i64 k ∧ f = .int .i64 0 ∧ a = .int .i64 acc ∧ 0 ≤ acc ∧ acc ≤ 1000 ∧ Hid (acc = wsum 0 (l.take k)) ∧ Hid (digitsB (l.take k) = true)) (fun _ _ i => s.size - (intOf i).toNat)
    case atStart => exact ⟨0, 0, by omega, rfl, rfl, rfl, by omega, by omega, rfl, rfl⟩
    case round =>
      obtain ⟨k, acc, hk, rfl, rfl, rfl, ha0, ha1, hacc, hall⟩ := hrel
      by_cases hlt : k < s.size
      · obtain ⟨x, hx⟩ : ∃ x, x = l.getD k 0 := ⟨_, rfl⟩
        have hc := HB.out k hlt
        have hwc := HW.out k (by omega)
        have hwb := wt_bd k
        rw [← hx] at hc
        have hxb := byte_bd x
        have hdi := digI_byte x
        by_cases hcap : digB x = true
        · have hd : digitsB (l.take (k + 1)) = true := by rw [digitsB_snoc _ _ (by rw [HL.out]; exact hlt), hall.out, ← hx, hcap]; rfl
          have hws : wsum 0 (l.take (k + 1)) = acc + wt k * ((x.toNat : Int) - 48) := by rw [wsum_snoc _ _ (by rw [HL.out]; exact hlt), ← hx, hacc.out]; rfl
          have hbd := wsum_bd _ hd 0
          have htl : (l.take (k + 1)).length ≤ 8 := by have := HL.out; rw [List.length_take]; omega
          have hbx := digB_bd hcap
          rw [hcap] at hdi
          obtain ⟨n, hn⟩ : ∃ n : Int, n = (x.toNat : Int) := ⟨_, rfl⟩
          obtain ⟨wk, hwk⟩ : ∃ wk : Int, wk = wt k := ⟨_, rfl⟩
          have hn0 : 48 ≤ n := by omega
          have hn1 : n ≤ 57 := by omega
          rw [← hn] at hc hdi hws
          rw [← hwk] at hwc hwb hws
          obtain ⟨hw0, hw1⟩ := hwb
          have hm0 : 0 ≤ wk * (n - 48) := Int.mul_nonneg hw0 (by omega)
          have hm1 : wk * (n - 48) ≤ 9 * 9 := Int.mul_le_mul hw1 (by omega) (by omega) (by omega)
          have hr0 : 0 ≤ acc + wk * (n - 48) := by omega
          have hr1 : acc + wk * (n - 48) ≤ 1000 := by rw [← hws]; omega
          have HS := hid hws.symm
          have HDD := hid hd
          have HD := hid hdi
          clear hx hcap hdi hws hd hbd hbx hn hwk hxb htl
          go_wp2_with (go_at_call 24; refine (isDigit_any _ _ (by omega) (by omega)).mono ?_; rw [HD.out]; rintro e w1 ⟨rfl, rfl⟩)
          go_round
          case rel => exact ⟨k + 1, acc + wk * (n - 48), by omega, by go_num, rfl, rfl, hr0, hr1, HS.out, HDD.out⟩
          case measure => simp [intOf]; omega
        · have hcap' : digB x = false := by simpa using hcap
          have hd : digitsB l = false := all_false_at _ _ k (by rw [HL.out]; exact hlt) (by rw [← hx]; exact hcap')
          have hfin : Ending.returned (.tuple #[.int .i64 0, .int .i64 1]) = Ending.returned (.tuple #[.int .i64 (chkV l), .int .i64 (chkE l)]) := by simp [chkV, chkE, hd]
          rw [hcap'] at hdi
          have HD := hid hdi
          have HF := hid hfin
          clear hx hcap hcap' hdi hd hfin hwb
          go_wp2_with (go_at_call 24; refine (isDigit_any _ _ (by omega) (by omega)).mono ?_; rw [HD.out]; rintro e w1 ⟨rfl, rfl⟩)
          try rw [Exit.noGoto_ret]
          go_ret2
          exact ⟨HF.out, hb⟩
      · have hk2 : k = s.size := by omega
        subst hk2
        have hd : digitsB l = true := by have := hall.out; rwa [List.take_of_length_le (by rw [HL.out]; exact Nat.le_refl _)] at this
        have hacc2 : acc = wsum 0 l := by have := hacc.out; rwa [List.take_of_length_le (by rw [HL.out]; exact Nat.le_refl _)] at this
        have hfin : Ending.returned (.tuple #[.int .i64 (cdig acc), .int .i64 0]) = Ending.returned (.tuple #[.int .i64 (chkV l), .int .i64 (chkE l)]) := by
          have : l.length = 8 ∧ digitsB l = true := ⟨by rw [HL.out]; exact H8.out, hd⟩
          unfold chkV chkE
          rw [if_pos this, if_pos this, hacc2]
          rfl
        have HF := hid hfin
        clear hd hacc2 hfin
        go_wp2_with (go_at_call 25; refine (checkDigit_any _ _ (by omega) (by omega)).mono ?_; rintro e w1 ⟨rfl, rfl⟩)
        try rw [Exit.noGoto_ret]
        go_ret2
        exact ⟨HF.out, hb⟩
  · have hfin : Ending.returned (.tuple #[.int .i64 0, .int .i64 1]) = Ending.returned (.tuple #[.int .i64 (chkV s.data.toList), .int .i64 (chkE s.data.toList)]) := by
      have : ¬ l.length = 8 := by omega
      rw [← hl]; simp [chkV, chkE, this]
    have HF := hid hfin
    have hne : ((s.size : Int) != 8) = true := by simp; omega
    clear hfin h2 hlen hl
    go_enter Tryd.func10, Tryd.ntmps10
    go_wp2
    go_step3
    go_wp2
    try rw [Exit.noGoto_ret]
    go_ret2
    exact ⟨HF.out, Below.refl _ _⟩

end Id1
end Go.Proofs.YtbgniplhlnipoaaDoor
