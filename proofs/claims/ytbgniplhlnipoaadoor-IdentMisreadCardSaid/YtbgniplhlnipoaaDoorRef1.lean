/-
  Contracts of the reference implementation: digit, Capital, weight, char, Check, Shape, Valid.
-/
import Derived.Test.YtbgniplhlnipoaaDoorWalk6
import Derived.Test.YtbgniplhlnipoaaDoorCand
namespace Go.Proofs.YtbgniplhlnipoaaDoor
open Go.RowKit
namespace Id1

set_option maxHeartbeats 400000 in
theorem rdigit_any (n : Int) (w : World) (h0 : 0 ≤ n) (h1 : n ≤ 255) :
    Calls Tryd.prog 26 #[.int .u8 n] w fun e w' => e = .returned (.bool (digI n)) ∧ w = w' := by
  by_cases ha : 48 ≤ n
  · by_cases hb : n ≤ 57
    · have hr : digI n = true := by simp [digI, ha, hb]
      rw [hr]
      go_enter Tryd.func26, Tryd.ntmps26
      go_wp2
      go_ret
      exact ⟨rfl, rfl⟩
    · have hr : digI n = false := by simp [digI, hb]
      rw [hr]
      go_enter Tryd.func26, Tryd.ntmps26
      go_wp2
      go_ret
      exact ⟨rfl, rfl⟩
  · have hr : digI n = false := by simp [digI, ha]
    rw [hr]
    go_enter Tryd.func26, Tryd.ntmps26
    go_wp2
    go_ret
    exact ⟨rfl, rfl⟩

set_option maxHeartbeats 400000 in
theorem rcap_any (n : Int) (w : World) (h0 : 0 ≤ n) (h1 : n ≤ 255) :
    Calls Tryd.prog 38 #[.int .u8 n] w fun e w' => e = .returned (.bool (capI n)) ∧ w = w' := by
  by_cases ha : 65 ≤ n
  · by_cases hb : n ≤ 90
    · have hr : capI n = true := by simp [capI, ha, hb]
      rw [hr]
      go_enter Tryd.func38, Tryd.ntmps38
      go_wp2
      go_ret
      exact ⟨rfl, rfl⟩
    · have hr : capI n = false := by simp [capI, hb]
      rw [hr]
      go_enter Tryd.func38, Tryd.ntmps38
      go_wp2
      go_ret
      exact ⟨rfl, rfl⟩
  · have hr : capI n = false := by simp [capI, ha]
    rw [hr]
    go_enter Tryd.func38, Tryd.ntmps38
    go_wp2
    go_ret
    exact ⟨rfl, rfl⟩

set_option maxHeartbeats 1000000 in
theorem rweight_any (i : Nat) (w : World) (hi : i < 8) :
    Calls Tryd.prog 27 #[.int .i64 i] w fun e w' => e = .returned (.int .i64 (wt i)) ∧ w' = w := by
  have h : i = 0 ∨ i = 1 ∨ i = 2 ∨ i = 3 ∨ i = 4 ∨ i = 5 ∨ i = 6 ∨ i = 7 := by omega
  rcases h with rfl | rfl | rfl | rfl | rfl | rfl | rfl | rfl
  all_goals
    go_enter Tryd.func27, Tryd.ntmps27
    go_wp2
    go_ret
    exact ⟨rfl, rfl⟩

set_option maxHeartbeats 400000 in
theorem rchar_any (d : Nat) (w : World) (hd : d < 10) :
    Calls Tryd.prog 32 #[.int .i64 d] w fun e w' => e = .returned (.string ⟨#[dgt (48 + d)]⟩) ∧ w' = w := by
  have h := encode_small (48 + d) (by omega)
  have H := hid h
  clear h
  go_enter Tryd.func32, Tryd.ntmps32
  go_wp2
  go_ret
  exact ⟨by rw [← H.out]; rfl, rfl⟩

set_option maxRecDepth 100000 in
set_option maxHeartbeats 2000000 in
theorem rcheck_any (s : ByteArray) (w : World) (hs : s.size ≤ maxLen) :
    Calls Tryd.prog 11 #[.string s] w fun e w' => e = .returned (.tuple #[.int .i64 (chkV s.data.toList), .int .i64 (chkE s.data.toList)]) ∧ Below w.heap.size w w' := by
  unfold maxLen at hs
  obtain ⟨l, hl⟩ : ∃ l, l = s.data.toList := ⟨_, rfl⟩
  have hlen : l.length = s.size := by rw [hl]; simp
  by_cases h2 : s.size = 8
  · rw [← hl]
    have hne : ((s.size : Int) != 8) = false := by rw [h2]; rfl
    have HL := hid hlen
    have HLL := hid hl
    have H8 := hid h2
    have hs8 : s.size ≤ 8 := by omega
    have hs9 : 8 ≤ s.size := by omega
    clear hlen hl h2
    go_enter Tryd.func11, Tryd.ntmps11
    go_wp2
    clear hne
    go_loopw [4, 5] (fun a i wr => ∃ k : Nat, ∃ acc : Int, k ≤ 8 ∧ i = .int .i64 k ∧ a = .int .i64 acc ∧ 0 ≤ acc ∧ acc ≤ 1000 ∧ Hid (acc = wsum 0 (l.take k)) ∧ Hid (digitsB (l.take k) = true) ∧ Below w.heap.size w wr) (fun _ i _ => 8 - (intOf i).toNat)
    case atStart => exact ⟨0, 0, by omega, rfl, rfl, by omega, by omega, rfl, rfl, Below.refl _ _⟩
    case round =>
      obtain ⟨k, acc, hk, rfl, rfl, ha0, ha1, hacc, hall, hbr⟩ := hrel
      by_cases hlt : k < 8
      · have hks : k < s.size := by omega
        have hgx : s[k]'hks = l.getD k 0 := by rw [HLL.out]; exact Lib.getD_at s k hks
        have hxb := byte_bd (s[k]'hks)
        have hdi := digI_byte (s[k]'hks)
        have hwb := wt_bd k
        by_cases hcap : digB (s[k]'hks) = true
        · have hd : digitsB (l.take (k + 1)) = true := by rw [digitsB_snoc _ _ (by rw [HL.out]; exact hks), hall.out, ← hgx, hcap]; rfl
          have hws : wsum 0 (l.take (k + 1)) = acc + wt k * (((s[k]'hks).toNat : Int) - 48) := by rw [wsum_snoc _ _ (by rw [HL.out]; exact hks), ← hgx, hacc.out]; rfl
          have hbd := wsum_bd _ hd 0
          have htl : (l.take (k + 1)).length ≤ 8 := by have := HL.out; rw [List.length_take]; omega
          have hbx := digB_bd hcap
          rw [hcap] at hdi
          obtain ⟨hw0, hw1⟩ := hwb
          obtain ⟨hx0, hx1⟩ := hbx
          have hm0 : 0 ≤ wt k * (((s[k]'hks).toNat : Int) - 48) := Int.mul_nonneg hw0 (by omega)
          have hm1 : wt k * (((s[k]'hks).toNat : Int) - 48) ≤ 9 * 9 := Int.mul_le_mul hw1 (by omega) (by omega) (by omega)
          have hr0 : 0 ≤ acc + wt k * (((s[k]'hks).toNat : Int) - 48) := by omega
          have hr1 : acc + wt k * (((s[k]'hks).toNat : Int) - 48) ≤ 1000 := by rw [← hws]; omega
          have hq1 : IntKind.u8.wrap (((s[k]'hks).toNat : Int) - 48) = ((s[k]'hks).toNat : Int) - 48 := IntWalk.u8_in _ (by omega)
          have hq2 : IntKind.i64.wrap (((s[k]'hks).toNat : Int) - 48) = ((s[k]'hks).toNat : Int) - 48 := IntWalk.i64_in _ (by omega)
          have hq3 : IntKind.i64.wrap (wt k * (((s[k]'hks).toNat : Int) - 48)) = wt k * (((s[k]'hks).toNat : Int) - 48) := IntWalk.i64_in _ (by omega)
          have hq4 : IntKind.i64.wrap (acc + wt k * (((s[k]'hks).toNat : Int) - 48)) = acc + wt k * (((s[k]'hks).toNat : Int) - 48) := IntWalk.i64_in _ (by omega)
          have HS := hid hws.symm
          have HDD := hid hd
          have HD := hid hdi
          clear hgx hcap hdi hws hd hbd htl
          go_wp2_with (go_at_call 26; refine (rdigit_any _ _ (by omega) (by omega)).mono ?_; rw [HD.out]; rintro e w1 ⟨rfl, rfl⟩)
          go_quiet ((go_at_call 27; exact Calls.quiet_of_same (rweight_any k _ hlt)))
          clear hq1 hq2 hq3 hq4
          go_wp2
          go_roundw
          case rel => exact ⟨k + 1, acc + wt k * (((s[k]'hks).toNat : Int) - 48), by omega, by go_num, rfl, hr0, hr1, HS.out, HDD.out, below_drewN hbr _⟩
          case measure => simp [intOf]; omega
        · have hcap' : digB (s[k]'hks) = false := by simpa using hcap
          have hd : digitsB l = false := all_false_at _ _ k (by rw [HL.out]; exact hks) (by rw [← hgx]; exact hcap')
          have hfin : Ending.returned (.tuple #[.int .i64 0, .int .i64 1]) = Ending.returned (.tuple #[.int .i64 (chkV l), .int .i64 (chkE l)]) := by simp [chkV, chkE, hd]
          rw [hcap'] at hdi
          have HD := hid hdi
          have HF := hid hfin
          clear hgx hcap hcap' hdi hd hfin hwb
          go_wp2_with (go_at_call 26; refine (rdigit_any _ _ (by omega) (by omega)).mono ?_; rw [HD.out]; rintro e w1 ⟨rfl, rfl⟩)
          go_ret2
          exact ⟨HF.out, hbr⟩
      · have hk2 : k = 8 := by omega
        subst hk2
        have hd : digitsB l = true := by have := hall.out; rwa [List.take_of_length_le (by rw [HL.out]; omega)] at this
        have hacc2 : acc = wsum 0 l := by have := hacc.out; rwa [List.take_of_length_le (by rw [HL.out]; omega)] at this
        have hfin : Ending.returned (.tuple #[.int .i64 (chkV l), .int .i64 (chkE l)]) = Ending.returned (.tuple #[.int .i64 (cdig acc), .int .i64 0]) := by
          have : l.length = 8 ∧ digitsB l = true := ⟨by rw [HL.out]; exact H8.out, hd⟩
          unfold chkV chkE
          rw [if_pos this, if_pos this, hacc2]
          rfl
        have HF := hid hfin
        clear hd hacc2 hfin
        by_cases ha : 11 - acc % 11 = 10
        · have hr : cdig acc = 0 := by unfold cdig; rw [if_pos ha]
          have HR := hid hr
          clear hr
          go_wp2
          go_ret2
          exact ⟨by rw [HF.out, HR.out]; rfl, hbr⟩
        · by_cases hb : 11 - acc % 11 = 11
          · have hr : cdig acc = 5 := by unfold cdig; rw [if_neg ha, if_pos hb]
            have HR := hid hr
            clear hr
            go_wp2
            go_ret2
            exact ⟨by rw [HF.out, HR.out]; rfl, hbr⟩
          · have hr : cdig acc = 11 - acc % 11 := by unfold cdig; rw [if_neg ha, if_neg hb]
            have HR := hid hr
            clear hr
            go_wp2
            go_ret2
            exact ⟨by rw [HF.out, HR.out]; rfl, hbr⟩
  · have hfin : Ending.returned (.tuple #[.int .i64 0, .int .i64 1]) = Ending.returned (.tuple #[.int .i64 (chkV s.data.toList), .int .i64 (chkE s.data.toList)]) := by
      have : ¬ l.length = 8 := by omega
      rw [← hl]; simp [chkV, chkE, this]
    have HF := hid hfin
    have hne : ((s.size : Int) != 8) = true := by simp; omega
    clear hfin h2 hlen hl
    go_enter Tryd.func11, Tryd.ntmps11
    go_wp2
    go_ret2
    exact ⟨HF.out, Below.refl _ _⟩

end Id1
end Go.Proofs.YtbgniplhlnipoaaDoor
