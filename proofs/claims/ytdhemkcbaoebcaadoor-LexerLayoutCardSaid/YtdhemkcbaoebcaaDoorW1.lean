/-
  Contracts of the bool functions of a byte: the code's and the document's.
-/
import Derived.Test.YtdhemkcbaoebcaaDoorCov
import Derived.Test.YtdhemkcbaoebcaaDoorRows
import Derived.Test.YtdhemkcbaoebcaaDoorShelf
import Derived.WalkKit
import Derived.WalkSpells
import Derived.WalkLawsBesides
import Derived.Handy
import Derived.BigQuiet
namespace Go.Proofs.YtdhemkcbaoebcaaDoor
open Go.RowKit
namespace Lx

theorem hid {p : Prop} (h : p) : Hid p := h
theorem byte_bd (b : UInt8) : b.toNat ≤ 255 := by have := UInt8.toNat_lt b; omega

set_option maxHeartbeats 400000 in
theorem isBlank_any (b : UInt8) (w : World) :
    Calls Tryd.prog 34 #[.int .u8 (b.toNat : Int)] w fun e w' => e = .returned (.bool (blkB b)) ∧ w = w' := by
  have hbd := byte_bd b
  have hI := blkB_iff b
  obtain ⟨r, hr⟩ : ∃ r, r = blkB b := ⟨_, rfl⟩
  rw [← hr] at hI ⊢
  clear hr
  obtain ⟨n, hn⟩ : ∃ n : Int, n = (b.toNat : Int) := ⟨_, rfl⟩
  have hn0 : 0 ≤ n := by omega
  have hn1 : n ≤ 255 := by omega
  by_cases h0 : n = 32
  · obtain rfl : r = true := by rw [hI]; omega
    rw [← hn]
    clear hI hn hbd
    have a0 : (n == 32) = true := by simp [h0]
    have b0 : (n != 32) = false := by simp [h0]
    clear h0
    go_enter Tryd.func34, Tryd.ntmps34
    go_wp2
    go_ret
    exact ⟨rfl, rfl⟩
  · by_cases h1 : n = 9
    · obtain rfl : r = true := by rw [hI]; omega
      rw [← hn]
      clear hI hn hbd
      have a0 : (n == 32) = false := by simp; omega
      have b0 : (n != 32) = true := by simp; omega
      clear h0
      have a1 : (n == 9) = true := by simp [h1]
      have b1 : (n != 9) = false := by simp [h1]
      clear h1
      go_enter Tryd.func34, Tryd.ntmps34
      go_wp2
      go_ret
      exact ⟨rfl, rfl⟩
    · by_cases h2 : n = 10
      · obtain rfl : r = true := by rw [hI]; omega
        rw [← hn]
        clear hI hn hbd
        have a0 : (n == 32) = false := by simp; omega
        have b0 : (n != 32) = true := by simp; omega
        clear h0
        have a1 : (n == 9) = false := by simp; omega
        have b1 : (n != 9) = true := by simp; omega
        clear h1
        have a2 : (n == 10) = true := by simp [h2]
        have b2 : (n != 10) = false := by simp [h2]
        clear h2
        go_enter Tryd.func34, Tryd.ntmps34
        go_wp2
        go_ret
        exact ⟨rfl, rfl⟩
      · by_cases h3 : n = 13
        · obtain rfl : r = true := by rw [hI]; omega
          rw [← hn]
          clear hI hn hbd
          have a0 : (n == 32) = false := by simp; omega
          have b0 : (n != 32) = true := by simp; omega
          clear h0
          have a1 : (n == 9) = false := by simp; omega
          have b1 : (n != 9) = true := by simp; omega
          clear h1
          have a2 : (n == 10) = false := by simp; omega
          have b2 : (n != 10) = true := by simp; omega
          clear h2
          have a3 : (n == 13) = true := by simp [h3]
          have b3 : (n != 13) = false := by simp [h3]
          clear h3
          go_enter Tryd.func34, Tryd.ntmps34
          go_wp2
          go_ret
          exact ⟨rfl, rfl⟩
        · obtain rfl : r = false := by rw [Bool.eq_false_iff]; intro h; rw [hI] at h; omega
          rw [← hn]
          clear hI hn hbd
          have a0 : (n == 32) = false := by simp; omega
          have b0 : (n != 32) = true := by simp; omega
          clear h0
          have a1 : (n == 9) = false := by simp; omega
          have b1 : (n != 9) = true := by simp; omega
          clear h1
          have a2 : (n == 10) = false := by simp; omega
          have b2 : (n != 10) = true := by simp; omega
          clear h2
          have a3 : (n == 13) = false := by simp; omega
          have b3 : (n != 13) = true := by simp; omega
          clear h3
          go_enter Tryd.func34, Tryd.ntmps34
          go_wp2
          go_ret
          exact ⟨rfl, rfl⟩
set_option maxHeartbeats 400000 in
theorem isNoLineFeed_any (b : UInt8) (w : World) :
    Calls Tryd.prog 36 #[.int .u8 (b.toNat : Int)] w fun e w' => e = .returned (.bool (nlfB b)) ∧ w = w' := by
  have hbd := byte_bd b
  have hI := nlfB_iff b
  obtain ⟨r, hr⟩ : ∃ r, r = nlfB b := ⟨_, rfl⟩
  rw [← hr] at hI ⊢
  clear hr
  obtain ⟨n, hn⟩ : ∃ n : Int, n = (b.toNat : Int) := ⟨_, rfl⟩
  have hn0 : 0 ≤ n := by omega
  have hn1 : n ≤ 255 := by omega
  by_cases h0 : n = 10
  · obtain rfl : r = false := by rw [Bool.eq_false_iff]; intro h; rw [hI] at h; omega
    rw [← hn]
    clear hI hn hbd
    have a0 : (n == 10) = true := by simp [h0]
    have b0 : (n != 10) = false := by simp [h0]
    clear h0
    go_enter Tryd.func36, Tryd.ntmps36
    go_wp2
    go_ret
    exact ⟨rfl, rfl⟩
  · obtain rfl : r = true := by rw [hI]; omega
    rw [← hn]
    clear hI hn hbd
    have a0 : (n == 10) = false := by simp; omega
    have b0 : (n != 10) = true := by simp; omega
    clear h0
    go_enter Tryd.func36, Tryd.ntmps36
    go_wp2
    go_ret
    exact ⟨rfl, rfl⟩
set_option maxHeartbeats 400000 in
theorem isDigit_any (b : UInt8) (w : World) :
    Calls Tryd.prog 40 #[.int .u8 (b.toNat : Int)] w fun e w' => e = .returned (.bool (digB b)) ∧ w = w' := by
  have hbd := byte_bd b
  have hI := digB_iff b
  obtain ⟨r, hr⟩ : ∃ r, r = digB b := ⟨_, rfl⟩
  rw [← hr] at hI ⊢
  clear hr
  obtain ⟨n, hn⟩ : ∃ n : Int, n = (b.toNat : Int) := ⟨_, rfl⟩
  have hn0 : 0 ≤ n := by omega
  have hn1 : n ≤ 255 := by omega
  by_cases h0 : 48 ≤ n
  · by_cases h1 : n ≤ 57
    · obtain rfl : r = true := by rw [hI]; omega
      rw [← hn]
      clear hI hn hbd
      go_enter Tryd.func40, Tryd.ntmps40
      go_wp2
      go_ret
      exact ⟨rfl, rfl⟩
    · obtain rfl : r = false := by rw [Bool.eq_false_iff]; intro h; rw [hI] at h; omega
      rw [← hn]
      clear hI hn hbd
      go_enter Tryd.func40, Tryd.ntmps40
      go_wp2
      go_ret
      exact ⟨rfl, rfl⟩
  · obtain rfl : r = false := by rw [Bool.eq_false_iff]; intro h; rw [hI] at h; omega
    rw [← hn]
    clear hI hn hbd
    go_enter Tryd.func40, Tryd.ntmps40
    go_wp2
    go_ret
    exact ⟨rfl, rfl⟩
set_option maxHeartbeats 400000 in
theorem rDigit_any (b : UInt8) (w : World) :
    Calls Tryd.prog 21 #[.int .u8 (b.toNat : Int)] w fun e w' => e = .returned (.bool (digB b)) ∧ w = w' := by
  have hbd := byte_bd b
  have hI := digB_iff b
  obtain ⟨r, hr⟩ : ∃ r, r = digB b := ⟨_, rfl⟩
  rw [← hr] at hI ⊢
  clear hr
  obtain ⟨n, hn⟩ : ∃ n : Int, n = (b.toNat : Int) := ⟨_, rfl⟩
  have hn0 : 0 ≤ n := by omega
  have hn1 : n ≤ 255 := by omega
  by_cases h0 : 48 ≤ n
  · by_cases h1 : n ≤ 57
    · obtain rfl : r = true := by rw [hI]; omega
      rw [← hn]
      clear hI hn hbd
      go_enter Tryd.func21, Tryd.ntmps21
      go_wp2
      go_ret
      exact ⟨rfl, rfl⟩
    · obtain rfl : r = false := by rw [Bool.eq_false_iff]; intro h; rw [hI] at h; omega
      rw [← hn]
      clear hI hn hbd
      go_enter Tryd.func21, Tryd.ntmps21
      go_wp2
      go_ret
      exact ⟨rfl, rfl⟩
  · obtain rfl : r = false := by rw [Bool.eq_false_iff]; intro h; rw [hI] at h; omega
    rw [← hn]
    clear hI hn hbd
    go_enter Tryd.func21, Tryd.ntmps21
    go_wp2
    go_ret
    exact ⟨rfl, rfl⟩
set_option maxHeartbeats 400000 in
theorem isLetter_any (b : UInt8) (w : World) :
    Calls Tryd.prog 44 #[.int .u8 (b.toNat : Int)] w fun e w' => e = .returned (.bool (letB b)) ∧ w = w' := by
  have hbd := byte_bd b
  have hI := letB_iff b
  obtain ⟨r, hr⟩ : ∃ r, r = letB b := ⟨_, rfl⟩
  rw [← hr] at hI ⊢
  clear hr
  obtain ⟨n, hn⟩ : ∃ n : Int, n = (b.toNat : Int) := ⟨_, rfl⟩
  have hn0 : 0 ≤ n := by omega
  have hn1 : n ≤ 255 := by omega
  by_cases h0 : 65 ≤ n
  · by_cases h1 : n ≤ 90
    · obtain rfl : r = true := by rw [hI]; omega
      rw [← hn]
      clear hI hn hbd
      go_enter Tryd.func44, Tryd.ntmps44
      go_wp2
      go_ret
      exact ⟨rfl, rfl⟩
    · by_cases h2 : 97 ≤ n
      · by_cases h3 : n ≤ 122
        · obtain rfl : r = true := by rw [hI]; omega
          rw [← hn]
          clear hI hn hbd
          go_enter Tryd.func44, Tryd.ntmps44
          go_wp2
          go_ret
          exact ⟨rfl, rfl⟩
        · obtain rfl : r = false := by rw [Bool.eq_false_iff]; intro h; rw [hI] at h; omega
          rw [← hn]
          clear hI hn hbd
          go_enter Tryd.func44, Tryd.ntmps44
          go_wp2
          go_ret
          exact ⟨rfl, rfl⟩
      · obtain rfl : r = false := by rw [Bool.eq_false_iff]; intro h; rw [hI] at h; omega
        rw [← hn]
        clear hI hn hbd
        go_enter Tryd.func44, Tryd.ntmps44
        go_wp2
        go_ret
        exact ⟨rfl, rfl⟩
  · obtain rfl : r = false := by rw [Bool.eq_false_iff]; intro h; rw [hI] at h; omega
    rw [← hn]
    clear hI hn hbd
    go_enter Tryd.func44, Tryd.ntmps44
    go_wp2
    go_ret
    exact ⟨rfl, rfl⟩
set_option maxHeartbeats 400000 in
theorem isQuotable_any (b : UInt8) (w : World) :
    Calls Tryd.prog 42 #[.int .u8 (b.toNat : Int)] w fun e w' => e = .returned (.bool (quoB b)) ∧ w = w' := by
  have hbd := byte_bd b
  have hI := quoB_iff b
  obtain ⟨r, hr⟩ : ∃ r, r = quoB b := ⟨_, rfl⟩
  rw [← hr] at hI ⊢
  clear hr
  obtain ⟨n, hn⟩ : ∃ n : Int, n = (b.toNat : Int) := ⟨_, rfl⟩
  have hn0 : 0 ≤ n := by omega
  have hn1 : n ≤ 255 := by omega
  by_cases h0 : 32 ≤ n
  · by_cases h1 : n ≤ 126
    · by_cases h2 : n = 34
      · obtain rfl : r = false := by rw [Bool.eq_false_iff]; intro h; rw [hI] at h; omega
        rw [← hn]
        clear hI hn hbd
        have a2 : (n == 34) = true := by simp [h2]
        have b2 : (n != 34) = false := by simp [h2]
        clear h2
        go_enter Tryd.func42, Tryd.ntmps42
        go_wp2
        go_ret
        exact ⟨rfl, rfl⟩
      · obtain rfl : r = true := by rw [hI]; omega
        rw [← hn]
        clear hI hn hbd
        have a2 : (n == 34) = false := by simp; omega
        have b2 : (n != 34) = true := by simp; omega
        clear h2
        go_enter Tryd.func42, Tryd.ntmps42
        go_wp2
        go_ret
        exact ⟨rfl, rfl⟩
    · obtain rfl : r = false := by rw [Bool.eq_false_iff]; intro h; rw [hI] at h; omega
      rw [← hn]
      clear hI hn hbd
      go_enter Tryd.func42, Tryd.ntmps42
      go_wp2
      go_ret
      exact ⟨rfl, rfl⟩
  · obtain rfl : r = false := by rw [Bool.eq_false_iff]; intro h; rw [hI] at h; omega
    rw [← hn]
    clear hI hn hbd
    go_enter Tryd.func42, Tryd.ntmps42
    go_wp2
    go_ret
    exact ⟨rfl, rfl⟩

set_option maxHeartbeats 1000000 in
theorem isWord_any (b : UInt8) (w : World) :
    Calls Tryd.prog 39 #[.int .u8 (b.toNat : Int)] w fun e w' => e = .returned (.bool (wordB b)) ∧ w = w' := by
  have hbd := byte_bd b
  have C1 := hid (fun w => isLetter_any b w)
  have C2 := hid (fun w => isDigit_any b w)
  have hv : wordB b = (letB b || digB b || decide (b.toNat = 95)) := rfl
  obtain ⟨r, hr⟩ : ∃ r, r = wordB b := ⟨_, rfl⟩
  rw [← hr] at hv ⊢
  obtain ⟨x, hx⟩ : ∃ x, x = letB b := ⟨_, rfl⟩
  obtain ⟨y, hy⟩ : ∃ y, y = digB b := ⟨_, rfl⟩
  rw [← hx, ← hy] at hv
  rw [← hx] at C1
  rw [← hy] at C2
  clear hr hx hy
  obtain ⟨n, hn⟩ : ∃ n : Int, n = (b.toNat : Int) := ⟨_, rfl⟩
  have hn0 : 0 ≤ n := by omega
  have hn1 : n ≤ 255 := by omega
  have h95 : decide (b.toNat = 95) = decide (n = 95) := by rw [decide_eq_decide]; omega
  rw [h95] at hv
  rw [← hn] at C1 C2 ⊢
  clear h95 hn hbd
  cases x
  · cases y
    · by_cases h : n = 95
      · obtain rfl : r = true := by rw [hv, decide_eq_true h]; rfl
        have a0 : (n == 95) = true := by simp [h]
        clear hv h
        go_enter Tryd.func39, Tryd.ntmps39
        go_wp2_with fail
        refine (C1.out _).mono ?_
        rintro e w' ⟨rfl, rfl⟩
        go_wp2_with fail
        refine (C2.out _).mono ?_
        rintro e w' ⟨rfl, rfl⟩
        go_wp2
        go_ret
        exact ⟨rfl, rfl⟩
      · obtain rfl : r = false := by rw [hv, decide_eq_false h]; rfl
        have a0 : (n == 95) = false := by simp [h]
        clear hv h
        go_enter Tryd.func39, Tryd.ntmps39
        go_wp2_with fail
        refine (C1.out _).mono ?_
        rintro e w' ⟨rfl, rfl⟩
        go_wp2_with fail
        refine (C2.out _).mono ?_
        rintro e w' ⟨rfl, rfl⟩
        go_wp2
        go_ret
        exact ⟨rfl, rfl⟩
    · obtain rfl : r = true := hv
      go_enter Tryd.func39, Tryd.ntmps39
      go_wp2_with fail
      refine (C1.out _).mono ?_
      rintro e w' ⟨rfl, rfl⟩
      go_wp2_with fail
      refine (C2.out _).mono ?_
      rintro e w' ⟨rfl, rfl⟩
      go_wp2
      go_ret
      exact ⟨rfl, rfl⟩
  · obtain rfl : r = true := hv
    go_enter Tryd.func39, Tryd.ntmps39
    go_wp2_with fail
    refine (C1.out _).mono ?_
    rintro e w' ⟨rfl, rfl⟩
    go_wp2
    go_ret
    exact ⟨rfl, rfl⟩


set_option maxRecDepth 100000 in
set_option maxHeartbeats 2000000 in
theorem rWord_any (b : UInt8) (w : World) :
    Calls Tryd.prog 20 #[.int .u8 (b.toNat : Int)] w fun e w' => e = .returned (.bool (wordB b)) ∧ w = w' := by
  have hbd := byte_bd b
  have C2 := hid (fun w => rDigit_any b w)
  have hI := wordB_iff b
  have hD := digB_iff b
  obtain ⟨r, hr⟩ : ∃ r, r = wordB b := ⟨_, rfl⟩
  obtain ⟨y, hy⟩ : ∃ y, y = digB b := ⟨_, rfl⟩
  rw [← hr] at hI ⊢
  rw [← hy] at hD C2
  clear hr hy
  obtain ⟨n, hn⟩ : ∃ n : Int, n = (b.toNat : Int) := ⟨_, rfl⟩
  have hn0 : 0 ≤ n := by omega
  have hn1 : n ≤ 255 := by omega
  have hJ : r = true ↔ ((65 ≤ n ∧ n ≤ 90) ∨ (97 ≤ n ∧ n ≤ 122)) ∨ (48 ≤ n ∧ n ≤ 57) ∨ n = 95 := by rw [hI]; omega
  have hE : y = true ↔ 48 ≤ n ∧ n ≤ 57 := by rw [hD]; omega
  clear hI hD
  rw [← hn] at C2 ⊢
  clear hn hbd
  by_cases h97 : 97 ≤ n
  · have h65 : 65 ≤ n := by omega
    by_cases h122 : n ≤ 122
    · obtain rfl : r = true := by rw [hJ]; omega
      clear hJ hE
      go_enter Tryd.func20, Tryd.ntmps20
      go_wp2
      go_ret
      exact ⟨rfl, rfl⟩
    · have h90 : ¬ n ≤ 90 := by omega
      have h95 : ¬ n = 95 := by omega
      obtain rfl : r = false := by rw [Bool.eq_false_iff]; intro h; rw [hJ] at h; omega
      obtain rfl : y = false := by rw [Bool.eq_false_iff]; intro h; rw [hE] at h; omega
      clear hJ hE
      have a0 : (n == 95) = false := by simp [h95]
      clear h95
      go_enter Tryd.func20, Tryd.ntmps20
      go_wp2_with fail
      refine (C2.out _).mono ?_
      rintro e w' ⟨rfl, rfl⟩
      go_wp2
      go_ret
      exact ⟨rfl, rfl⟩
  · by_cases h65 : 65 ≤ n
    · by_cases h90 : n ≤ 90
      · obtain rfl : r = true := by rw [hJ]; omega
        clear hJ hE
        go_enter Tryd.func20, Tryd.ntmps20
        go_wp2
        go_ret
        exact ⟨rfl, rfl⟩
      · obtain rfl : y = false := by rw [Bool.eq_false_iff]; intro h; rw [hE] at h; omega
        by_cases h95 : n = 95
        · obtain rfl : r = true := by rw [hJ]; omega
          clear hJ hE
          have a0 : (n == 95) = true := by simp [h95]
          clear h95
          go_enter Tryd.func20, Tryd.ntmps20
          go_wp2_with fail
          refine (C2.out _).mono ?_
          rintro e w' ⟨rfl, rfl⟩
          go_wp2
          go_ret
          exact ⟨rfl, rfl⟩
        · obtain rfl : r = false := by rw [Bool.eq_false_iff]; intro h; rw [hJ] at h; omega
          clear hJ hE
          have a0 : (n == 95) = false := by simp [h95]
          clear h95
          go_enter Tryd.func20, Tryd.ntmps20
          go_wp2_with fail
          refine (C2.out _).mono ?_
          rintro e w' ⟨rfl, rfl⟩
          go_wp2
          go_ret
          exact ⟨rfl, rfl⟩
    · have h95 : ¬ n = 95 := by omega
      have hy : y = r := by rw [Bool.eq_iff_iff, hJ, hE]; omega
      subst hy
      clear hJ hE
      have a0 : (n == 95) = false := by simp [h95]
      clear h95
      go_enter Tryd.func20, Tryd.ntmps20
      go_wp2_with fail
      refine (C2.out _).mono ?_
      rintro e w' ⟨rfl, rfl⟩
      cases y
      all_goals
        go_wp2
        go_ret
        exact ⟨rfl, rfl⟩


end Lx
end Go.Proofs.YtdhemkcbaoebcaaDoor
