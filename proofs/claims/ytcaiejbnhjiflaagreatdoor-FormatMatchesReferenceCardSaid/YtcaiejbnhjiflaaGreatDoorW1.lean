/-
  Contracts of the bool functions of a byte: the code's and the document's.
-/
import Derived.Test.YtcaiejbnhjiflaaGreatDoorMe
import Derived.Test.YtcaiejbnhjiflaaGreatDoorSp
import Derived.Test.YtcaiejbnhjiflaaGreatDoorRows
import Derived.WalkKit
import Derived.WalkSpells
import Derived.WalkLawsBesides
import Derived.Handy
import Derived.BigQuiet
namespace Go.Proofs.YtcaiejbnhjiflaaGreatDoor
open Go.RowKit
namespace Fm

theorem hid {p : Prop} (h : p) : Hid p := h
theorem byte_bd (b : UInt8) : b.toNat ≤ 255 := by have := UInt8.toNat_lt b; omega

set_option maxHeartbeats 400000 in
theorem isDigit_any (b : UInt8) (w : World) :
    Calls Tryz.prog 75 #[.int .u8 (b.toNat : Int)] w fun e w' => e = .returned (.bool (digB b)) ∧ w = w' := by
  have hbd := byte_bd b
  have hI := digB_iff b
  obtain ⟨r, hr⟩ : ∃ r, r = digB b := ⟨_, rfl⟩
  rw [← hr] at hI ⊢
  clear hr
  obtain ⟨n, hn⟩ : ∃ n : Int, n = (b.toNat : Int) := ⟨_, rfl⟩
  have hn0 : 0 ≤ n := by omega
  have hn1 : n ≤ 255 := by omega
  by_cases h0 : 48 ≤ n
  · by_cases h1 : n ≤ 57
    · obtain rfl : r = true := by rw [hI]; omega
      rw [← hn]
      clear hI hn hbd
      go_enter Tryz.func75, Tryz.ntmps75
      go_wp2
      go_ret
      exact ⟨rfl, rfl⟩
    · obtain rfl : r = false := by rw [Bool.eq_false_iff]; intro h; rw [hI] at h; omega
      rw [← hn]
      clear hI hn hbd
      go_enter Tryz.func75, Tryz.ntmps75
      go_wp2
      go_ret
      exact ⟨rfl, rfl⟩
  · obtain rfl : r = false := by rw [Bool.eq_false_iff]; intro h; rw [hI] at h; omega
    rw [← hn]
    clear hI hn hbd
    go_enter Tryz.func75, Tryz.ntmps75
    go_wp2
    go_ret
    exact ⟨rfl, rfl⟩
set_option maxHeartbeats 400000 in
theorem isCapital_any (b : UInt8) (w : World) :
    Calls Tryz.prog 80 #[.int .u8 (b.toNat : Int)] w fun e w' => e = .returned (.bool (capB b)) ∧ w = w' := by
  have hbd := byte_bd b
  have hI := capB_iff b
  obtain ⟨r, hr⟩ : ∃ r, r = capB b := ⟨_, rfl⟩
  rw [← hr] at hI ⊢
  clear hr
  obtain ⟨n, hn⟩ : ∃ n : Int, n = (b.toNat : Int) := ⟨_, rfl⟩
  have hn0 : 0 ≤ n := by omega
  have hn1 : n ≤ 255 := by omega
  by_cases h0 : 65 ≤ n
  · by_cases h1 : n ≤ 90
    · obtain rfl : r = true := by rw [hI]; omega
      rw [← hn]
      clear hI hn hbd
      go_enter Tryz.func80, Tryz.ntmps80
      go_wp2
      go_ret
      exact ⟨rfl, rfl⟩
    · obtain rfl : r = false := by rw [Bool.eq_false_iff]; intro h; rw [hI] at h; omega
      rw [← hn]
      clear hI hn hbd
      go_enter Tryz.func80, Tryz.ntmps80
      go_wp2
      go_ret
      exact ⟨rfl, rfl⟩
  · obtain rfl : r = false := by rw [Bool.eq_false_iff]; intro h; rw [hI] at h; omega
    rw [← hn]
    clear hI hn hbd
    go_enter Tryz.func80, Tryz.ntmps80
    go_wp2
    go_ret
    exact ⟨rfl, rfl⟩
set_option maxHeartbeats 400000 in
theorem isSmall_any (b : UInt8) (w : World) :
    Calls Tryz.prog 69 #[.int .u8 (b.toNat : Int)] w fun e w' => e = .returned (.bool (smaB b)) ∧ w = w' := by
  have hbd := byte_bd b
  have hI := smaB_iff b
  obtain ⟨r, hr⟩ : ∃ r, r = smaB b := ⟨_, rfl⟩
  rw [← hr] at hI ⊢
  clear hr
  obtain ⟨n, hn⟩ : ∃ n : Int, n = (b.toNat : Int) := ⟨_, rfl⟩
  have hn0 : 0 ≤ n := by omega
  have hn1 : n ≤ 255 := by omega
  by_cases h0 : 97 ≤ n
  · by_cases h1 : n ≤ 122
    · obtain rfl : r = true := by rw [hI]; omega
      rw [← hn]
      clear hI hn hbd
      go_enter Tryz.func69, Tryz.ntmps69
      go_wp2
      go_ret
      exact ⟨rfl, rfl⟩
    · obtain rfl : r = false := by rw [Bool.eq_false_iff]; intro h; rw [hI] at h; omega
      rw [← hn]
      clear hI hn hbd
      go_enter Tryz.func69, Tryz.ntmps69
      go_wp2
      go_ret
      exact ⟨rfl, rfl⟩
  · obtain rfl : r = false := by rw [Bool.eq_false_iff]; intro h; rw [hI] at h; omega
    rw [← hn]
    clear hI hn hbd
    go_enter Tryz.func69, Tryz.ntmps69
    go_wp2
    go_ret
    exact ⟨rfl, rfl⟩
set_option maxHeartbeats 400000 in
theorem rdigit_any (b : UInt8) (w : World) :
    Calls Tryz.prog 47 #[.int .u8 (b.toNat : Int)] w fun e w' => e = .returned (.bool (digB b)) ∧ w = w' := by
  have hbd := byte_bd b
  have hI := digB_iff b
  obtain ⟨r, hr⟩ : ∃ r, r = digB b := ⟨_, rfl⟩
  rw [← hr] at hI ⊢
  clear hr
  obtain ⟨n, hn⟩ : ∃ n : Int, n = (b.toNat : Int) := ⟨_, rfl⟩
  have hn0 : 0 ≤ n := by omega
  have hn1 : n ≤ 255 := by omega
  by_cases h0 : 48 ≤ n
  · by_cases h1 : n ≤ 57
    · obtain rfl : r = true := by rw [hI]; omega
      rw [← hn]
      clear hI hn hbd
      go_enter Tryz.func47, Tryz.ntmps47
      go_wp2
      go_ret
      exact ⟨rfl, rfl⟩
    · obtain rfl : r = false := by rw [Bool.eq_false_iff]; intro h; rw [hI] at h; omega
      rw [← hn]
      clear hI hn hbd
      go_enter Tryz.func47, Tryz.ntmps47
      go_wp2
      go_ret
      exact ⟨rfl, rfl⟩
  · obtain rfl : r = false := by rw [Bool.eq_false_iff]; intro h; rw [hI] at h; omega
    rw [← hn]
    clear hI hn hbd
    go_enter Tryz.func47, Tryz.ntmps47
    go_wp2
    go_ret
    exact ⟨rfl, rfl⟩
def letB (b : UInt8) : Bool := capB b || smaB b
theorem letB_iff (b : UInt8) : letB b = true ↔ (65 ≤ b.toNat ∧ b.toNat ≤ 90) ∨ (97 ≤ b.toNat ∧ b.toNat ≤ 122) := by simp [letB, capB, smaB]
set_option maxHeartbeats 400000 in
theorem rletter_any (b : UInt8) (w : World) :
    Calls Tryz.prog 46 #[.int .u8 (b.toNat : Int)] w fun e w' => e = .returned (.bool (letB b)) ∧ w = w' := by
  have hbd := byte_bd b
  have hI := letB_iff b
  obtain ⟨r, hr⟩ : ∃ r, r = letB b := ⟨_, rfl⟩
  rw [← hr] at hI ⊢
  clear hr
  obtain ⟨n, hn⟩ : ∃ n : Int, n = (b.toNat : Int) := ⟨_, rfl⟩
  have hn0 : 0 ≤ n := by omega
  have hn1 : n ≤ 255 := by omega
  by_cases h0 : 97 ≤ n
  · by_cases h1 : n ≤ 122
    · obtain rfl : r = true := by rw [hI]; omega
      rw [← hn]
      clear hI hn hbd
      have d0 : decide (97 ≤ n) = true := decide_eq_true h0
      have d1 : decide (n ≤ 122) = true := decide_eq_true h1
      go_enter Tryz.func46, Tryz.ntmps46
      go_wp2
      go_ret
      first | exact ⟨rfl, rfl⟩ | exact ⟨congrArg (fun b => Ending.returned (.bool b)) (decide_eq_false (by omega)), rfl⟩
    · obtain rfl : r = false := by rw [Bool.eq_false_iff]; intro h; rw [hI] at h; omega
      rw [← hn]
      clear hI hn hbd
      have d0 : decide (97 ≤ n) = true := decide_eq_true h0
      have d1 : decide (n ≤ 122) = false := decide_eq_false h1
      go_enter Tryz.func46, Tryz.ntmps46
      go_wp2
      go_ret
      first | exact ⟨rfl, rfl⟩ | exact ⟨congrArg (fun b => Ending.returned (.bool b)) (decide_eq_false (by omega)), rfl⟩
  · by_cases h2 : 65 ≤ n
    · by_cases h3 : n ≤ 90
      · obtain rfl : r = true := by rw [hI]; omega
        rw [← hn]
        clear hI hn hbd
        have d0 : decide (97 ≤ n) = false := decide_eq_false h0
        have d2 : decide (65 ≤ n) = true := decide_eq_true h2
        have d3 : decide (n ≤ 90) = true := decide_eq_true h3
        go_enter Tryz.func46, Tryz.ntmps46
        go_wp2
        go_ret
        first | exact ⟨rfl, rfl⟩ | exact ⟨congrArg (fun b => Ending.returned (.bool b)) (decide_eq_false (by omega)), rfl⟩
      · obtain rfl : r = false := by rw [Bool.eq_false_iff]; intro h; rw [hI] at h; omega
        rw [← hn]
        clear hI hn hbd
        have d0 : decide (97 ≤ n) = false := decide_eq_false h0
        have d2 : decide (65 ≤ n) = true := decide_eq_true h2
        have d3 : decide (n ≤ 90) = false := decide_eq_false h3
        go_enter Tryz.func46, Tryz.ntmps46
        go_wp2
        go_ret
        first | exact ⟨rfl, rfl⟩ | exact ⟨congrArg (fun b => Ending.returned (.bool b)) (decide_eq_false (by omega)), rfl⟩
    · obtain rfl : r = false := by rw [Bool.eq_false_iff]; intro h; rw [hI] at h; omega
      rw [← hn]
      clear hI hn hbd
      have d0 : decide (97 ≤ n) = false := decide_eq_false h0
      have d2 : decide (65 ≤ n) = false := decide_eq_false h2
      go_enter Tryz.func46, Tryz.ntmps46
      go_wp2
      go_ret
      first | exact ⟨rfl, rfl⟩ | exact ⟨congrArg (fun b => Ending.returned (.bool b)) (decide_eq_false (by omega)), rfl⟩
set_option maxHeartbeats 400000 in
theorem isPatternByte_any (b : UInt8) (w : World) :
    Calls Tryz.prog 78 #[.int .u8 (b.toNat : Int)] w fun e w' => e = .returned (.bool (patB b)) ∧ w = w' := by
  have hbd := byte_bd b
  have hI := patB_iff b
  obtain ⟨r, hr⟩ : ∃ r, r = patB b := ⟨_, rfl⟩
  rw [← hr] at hI ⊢
  clear hr
  obtain ⟨n, hn⟩ : ∃ n : Int, n = (b.toNat : Int) := ⟨_, rfl⟩
  have hn0 : 0 ≤ n := by omega
  have hn1 : n ≤ 255 := by omega
  by_cases h0 : n = 57
  · obtain rfl : r = true := by rw [hI]; omega
    rw [← hn]
    clear hI hn hbd
    have a0 : (n == 57) = true := by simp [h0]
    have b0 : (n != 57) = false := by simp [h0]
    clear h0
    go_enter Tryz.func78, Tryz.ntmps78
    go_wp2
    go_ret
    exact ⟨rfl, rfl⟩
  · by_cases h1 : n = 65
    · obtain rfl : r = true := by rw [hI]; omega
      rw [← hn]
      clear hI hn hbd
      have a0 : (n == 57) = false := by simp; omega
      have b0 : (n != 57) = true := by simp; omega
      clear h0
      have a1 : (n == 65) = true := by simp [h1]
      have b1 : (n != 65) = false := by simp [h1]
      clear h1
      go_enter Tryz.func78, Tryz.ntmps78
      go_wp2
      go_ret
      exact ⟨rfl, rfl⟩
    · obtain rfl : r = false := by rw [Bool.eq_false_iff]; intro h; rw [hI] at h; omega
      rw [← hn]
      clear hI hn hbd
      have a0 : (n == 57) = false := by simp; omega
      have b0 : (n != 57) = true := by simp; omega
      clear h0
      have a1 : (n == 65) = false := by simp; omega
      have b1 : (n != 65) = true := by simp; omega
      clear h1
      go_enter Tryz.func78, Tryz.ntmps78
      go_wp2
      go_ret
      exact ⟨rfl, rfl⟩
set_option maxHeartbeats 1000000 in
theorem isNameByte_any (b : UInt8) (w : World) :
    Calls Tryz.prog 71 #[.int .u8 (b.toNat : Int)] w fun e w' => e = .returned (.bool (namB b)) ∧ w = w' := by
  have hbd := byte_bd b
  have C0 := hid (fun w => isSmall_any b w)
  have C1 := hid (fun w => isDigit_any b w)
  have hv : namB b = (smaB b || digB b || decide (b.toNat = 95)) := by unfold namB; simp only [Bool.or_assoc]
  obtain ⟨r, hr⟩ : ∃ r, r = namB b := ⟨_, rfl⟩
  rw [← hr] at hv ⊢
  obtain ⟨x0, hx0⟩ : ∃ x, x = smaB b := ⟨_, rfl⟩
  rw [← hx0] at hv C0
  obtain ⟨x1, hx1⟩ : ∃ x, x = digB b := ⟨_, rfl⟩
  rw [← hx1] at hv C1
  clear hr hx0 hx1
  obtain ⟨n, hn⟩ : ∃ n : Int, n = (b.toNat : Int) := ⟨_, rfl⟩
  have hn0 : 0 ≤ n := by omega
  have hn1 : n ≤ 255 := by omega
  have e2 : decide (b.toNat = 95) = (n == 95) := by rw [Bool.eq_iff_iff]; simp; omega
  rw [e2] at hv
  clear e2
  rw [← hn]
  rw [← hn] at C0 C1
  clear hn hbd
  obtain ⟨x2, a2⟩ : ∃ x, (n == 95) = x := ⟨_, rfl⟩
  rw [a2] at hv
  cases x0
  · skip
    cases x1
    · skip
      cases x2
      · skip
        obtain rfl : r = false := by rw [hv]; first | rfl | simp
        clear hv
        go_enter Tryz.func71, Tryz.ntmps71
        go_wp2_with fail
        refine (C0.out _).mono ?_
        rintro e w' ⟨rfl, rfl⟩
        go_wp2_with fail
        refine (C1.out _).mono ?_
        rintro e w' ⟨rfl, rfl⟩
        go_wp2
        go_ret
        exact ⟨rfl, rfl⟩
      · skip
        obtain rfl : r = true := by rw [hv]; first | rfl | simp
        clear hv
        go_enter Tryz.func71, Tryz.ntmps71
        go_wp2_with fail
        refine (C0.out _).mono ?_
        rintro e w' ⟨rfl, rfl⟩
        go_wp2_with fail
        refine (C1.out _).mono ?_
        rintro e w' ⟨rfl, rfl⟩
        go_wp2
        go_ret
        exact ⟨rfl, rfl⟩
    · skip
      obtain rfl : r = true := by rw [hv]; first | rfl | simp
      clear hv
      go_enter Tryz.func71, Tryz.ntmps71
      go_wp2_with fail
      refine (C0.out _).mono ?_
      rintro e w' ⟨rfl, rfl⟩
      go_wp2_with fail
      refine (C1.out _).mono ?_
      rintro e w' ⟨rfl, rfl⟩
      go_wp2
      go_ret
      exact ⟨rfl, rfl⟩
  · skip
    obtain rfl : r = true := by rw [hv]; first | rfl | simp
    clear hv
    go_enter Tryz.func71, Tryz.ntmps71
    go_wp2_with fail
    refine (C0.out _).mono ?_
    rintro e w' ⟨rfl, rfl⟩
    go_wp2
    go_ret
    exact ⟨rfl, rfl⟩
set_option maxHeartbeats 1000000 in
theorem isFitByte_any (b : UInt8) (w : World) :
    Calls Tryz.prog 73 #[.int .u8 (b.toNat : Int)] w fun e w' => e = .returned (.bool (fitB b)) ∧ w = w' := by
  have hbd := byte_bd b
  have C0 := hid (fun w => isCapital_any b w)
  have C1 := hid (fun w => isSmall_any b w)
  have C2 := hid (fun w => isDigit_any b w)
  have hv : fitB b = (capB b || smaB b || digB b || decide (b.toNat = 45) || decide (b.toNat = 39) || decide (b.toNat = 46)) := by unfold fitB; simp only [Bool.or_assoc]
  obtain ⟨r, hr⟩ : ∃ r, r = fitB b := ⟨_, rfl⟩
  rw [← hr] at hv ⊢
  obtain ⟨x0, hx0⟩ : ∃ x, x = capB b := ⟨_, rfl⟩
  rw [← hx0] at hv C0
  obtain ⟨x1, hx1⟩ : ∃ x, x = smaB b := ⟨_, rfl⟩
  rw [← hx1] at hv C1
  obtain ⟨x2, hx2⟩ : ∃ x, x = digB b := ⟨_, rfl⟩
  rw [← hx2] at hv C2
  clear hr hx0 hx1 hx2
  obtain ⟨n, hn⟩ : ∃ n : Int, n = (b.toNat : Int) := ⟨_, rfl⟩
  have hn0 : 0 ≤ n := by omega
  have hn1 : n ≤ 255 := by omega
  have e3 : decide (b.toNat = 45) = (n == 45) := by rw [Bool.eq_iff_iff]; simp; omega
  rw [e3] at hv
  clear e3
  have e4 : decide (b.toNat = 39) = (n == 39) := by rw [Bool.eq_iff_iff]; simp; omega
  rw [e4] at hv
  clear e4
  have e5 : decide (b.toNat = 46) = (n == 46) := by rw [Bool.eq_iff_iff]; simp; omega
  rw [e5] at hv
  clear e5
  rw [← hn]
  rw [← hn] at C0 C1 C2
  clear hn hbd
  obtain ⟨x3, a3⟩ : ∃ x, (n == 45) = x := ⟨_, rfl⟩
  rw [a3] at hv
  obtain ⟨x4, a4⟩ : ∃ x, (n == 39) = x := ⟨_, rfl⟩
  rw [a4] at hv
  obtain ⟨x5, a5⟩ : ∃ x, (n == 46) = x := ⟨_, rfl⟩
  rw [a5] at hv
  cases x0
  · skip
    cases x1
    · skip
      cases x2
      · skip
        cases x3
        · skip
          cases x4
          · skip
            cases x5
            · skip
              obtain rfl : r = false := by rw [hv]; first | rfl | simp
              clear hv
              go_enter Tryz.func73, Tryz.ntmps73
              go_wp2_with fail
              refine (C0.out _).mono ?_
              rintro e w' ⟨rfl, rfl⟩
              go_wp2_with fail
              refine (C1.out _).mono ?_
              rintro e w' ⟨rfl, rfl⟩
              go_wp2_with fail
              refine (C2.out _).mono ?_
              rintro e w' ⟨rfl, rfl⟩
              go_wp2
              go_ret
              exact ⟨rfl, rfl⟩
            · skip
              obtain rfl : r = true := by rw [hv]; first | rfl | simp
              clear hv
              go_enter Tryz.func73, Tryz.ntmps73
              go_wp2_with fail
              refine (C0.out _).mono ?_
              rintro e w' ⟨rfl, rfl⟩
              go_wp2_with fail
              refine (C1.out _).mono ?_
              rintro e w' ⟨rfl, rfl⟩
              go_wp2_with fail
              refine (C2.out _).mono ?_
              rintro e w' ⟨rfl, rfl⟩
              go_wp2
              go_ret
              exact ⟨rfl, rfl⟩
          · skip
            obtain rfl : r = true := by rw [hv]; first | rfl | simp
            clear hv
            go_enter Tryz.func73, Tryz.ntmps73
            go_wp2_with fail
            refine (C0.out _).mono ?_
            rintro e w' ⟨rfl, rfl⟩
            go_wp2_with fail
            refine (C1.out _).mono ?_
            rintro e w' ⟨rfl, rfl⟩
            go_wp2_with fail
            refine (C2.out _).mono ?_
            rintro e w' ⟨rfl, rfl⟩
            go_wp2
            go_ret
            exact ⟨rfl, rfl⟩
        · skip
          obtain rfl : r = true := by rw [hv]; first | rfl | simp
          clear hv
          go_enter Tryz.func73, Tryz.ntmps73
          go_wp2_with fail
          refine (C0.out _).mono ?_
          rintro e w' ⟨rfl, rfl⟩
          go_wp2_with fail
          refine (C1.out _).mono ?_
          rintro e w' ⟨rfl, rfl⟩
          go_wp2_with fail
          refine (C2.out _).mono ?_
          rintro e w' ⟨rfl, rfl⟩
          go_wp2
          go_ret
          exact ⟨rfl, rfl⟩
      · skip
        obtain rfl : r = true := by rw [hv]; first | rfl | simp
        clear hv
        go_enter Tryz.func73, Tryz.ntmps73
        go_wp2_with fail
        refine (C0.out _).mono ?_
        rintro e w' ⟨rfl, rfl⟩
        go_wp2_with fail
        refine (C1.out _).mono ?_
        rintro e w' ⟨rfl, rfl⟩
        go_wp2_with fail
        refine (C2.out _).mono ?_
        rintro e w' ⟨rfl, rfl⟩
        go_wp2
        go_ret
        exact ⟨rfl, rfl⟩
    · skip
      obtain rfl : r = true := by rw [hv]; first | rfl | simp
      clear hv
      go_enter Tryz.func73, Tryz.ntmps73
      go_wp2_with fail
      refine (C0.out _).mono ?_
      rintro e w' ⟨rfl, rfl⟩
      go_wp2_with fail
      refine (C1.out _).mono ?_
      rintro e w' ⟨rfl, rfl⟩
      go_wp2
      go_ret
      exact ⟨rfl, rfl⟩
  · skip
    obtain rfl : r = true := by rw [hv]; first | rfl | simp
    clear hv
    go_enter Tryz.func73, Tryz.ntmps73
    go_wp2_with fail
    refine (C0.out _).mono ?_
    rintro e w' ⟨rfl, rfl⟩
    go_wp2
    go_ret
    exact ⟨rfl, rfl⟩

/-- The runes at which a line is split. -/
theorem blank_any (r : Nat) (hr : r ≤ 1114111) (w : World) :
    Calls Tryz.prog 38 #[.int .i32 (r : Int)] w fun e w' => e = .returned (.bool (blkR r)) ∧ w = w' := by
  have hv : blkR r = (((r : Int) == 32) || ((r : Int) == 9)) := by
    rw [Bool.eq_iff_iff, blkR_iff]; simp; omega
  obtain ⟨q, hq⟩ : ∃ q, q = blkR r := ⟨_, rfl⟩
  rw [← hq] at hv ⊢
  clear hq
  obtain ⟨x, hx⟩ : ∃ x, ((r : Int) == 32) = x := ⟨_, rfl⟩
  obtain ⟨y, hy⟩ : ∃ y, ((r : Int) == 9) = y := ⟨_, rfl⟩
  rw [hx, hy] at hv
  cases x
  · cases y
    · obtain rfl : q = false := hv
      try clear hv
      go_enter Tryz.func38, Tryz.ntmps38
      go_wp2
      go_ret
      exact ⟨rfl, rfl⟩
    · obtain rfl : q = true := hv
      try clear hv
      go_enter Tryz.func38, Tryz.ntmps38
      go_wp2
      go_ret
      exact ⟨rfl, rfl⟩
  · obtain rfl : q = true := by rw [hv]; rfl
    clear hv
    go_enter Tryz.func38, Tryz.ntmps38
    go_wp2
    go_ret
    exact ⟨rfl, rfl⟩


end Fm
end Go.Proofs.YtcaiejbnhjiflaaGreatDoor
