/-
  Contracts of the functions of the kinds: what a part takes.
-/
import Derived.Test.YtcaiejbnhjiflaaGreatDoorW5
import Derived.Lib.Fold
import Derived.Lib.Join
namespace Go.Proofs.YtcaiejbnhjiflaaGreatDoor
open Go.RowKit Go.ChangeMaps
namespace Fm

/-- The block of a search. -/
def SB (w : World) (S M : Nat) (rv : Value) (a : Ad) : Prop :=
  w.heap[S]? = some (.cells #[.string (sB a.person), .string (sB a.street), .int .i64 a.number, .string (sB a.code), .string (sB a.town), .map (some M), rv] 58 (0, 0))
theorem SB.on {w w' : World} {S M : Nat} {rv : Value} {a : Ad} (h : SB w S M rv a) (hb : Below w.heap.size w w') : SB w' S M rv a := (hb.block _ (heap_lt h)).trans h
theorem SB.cell {w : World} {S M : Nat} {rv : Value} {a : Ad} (h : SB w S M rv a) :
    w.cell? ⟨S, 0, none⟩ = some (.string (sB a.person)) ∧ w.cell? ⟨S, 1, none⟩ = some (.string (sB a.street)) ∧ w.cell? ⟨S, 2, none⟩ = some (.int .i64 a.number) ∧ w.cell? ⟨S, 3, none⟩ = some (.string (sB a.code)) ∧ w.cell? ⟨S, 4, none⟩ = some (.string (sB a.town)) ∧ w.cell? ⟨S, 5, none⟩ = some (.map (some M)) ∧ w.cell? ⟨S, 6, none⟩ = some rv := by
  unfold SB at h
  simp [World.cell?, h]
theorem SB.free {w : World} {S M : Nat} {rv : Value} {a : Ad} (h : SB w S M rv a) (o : Nat) : w.frozen? ⟨S, o, none⟩ = false := by
  unfold SB at h
  simp [World.frozen?, h]
theorem SB.set {w : World} {S M : Nat} {rv : Value} {a b : Ad} (h : SB w S M rv a) (o : Nat) (u : Value)
    (he : (#[.string (sB a.person), .string (sB a.street), .int .i64 a.number, .string (sB a.code), .string (sB a.town), .map (some M), rv] : Array Value).setIfInBounds o u = #[.string (sB b.person), .string (sB b.street), .int .i64 b.number, .string (sB b.code), .string (sB b.town), .map (some M), rv]) : SB (w.setCell ⟨S, o, none⟩ u) S M rv b := by
  have := heap_setCell_same w S o _ _ u h
  rw [he] at this
  exact this
theorem SB.lt {w : World} {S M : Nat} {rv : Value} {a : Ad} (h : SB w S M rv a) : S < w.heap.size := heap_lt h

/-- What a part that takes words has done. -/
def TakePost (k : Int) (ws : List W) (b : Bool) (S M : Nat) (rv : Value) (a : Ad) (w : World) (e : Ending) (w' : World) : Prop :=
  e = .returned (.bool b) ∧ SB w' S M rv (if b = true then setF k ws a else a) ∧ Kept w.heap.size S w w'

theorem fold_up (l r : W) : Lib.equalFold l r = decide (upL l = upL r) := by
  induction l generalizing r with
  | nil => cases r <;> simp [Lib.equalFold, upL]
  | cons x l ih =>
    cases r with
    | nil => simp [Lib.equalFold, upL]
    | cons y r =>
      have h1 : Lib.foldEq x y = decide (upB x = upB y) := by
        unfold Lib.foldEq
        rw [decide_eq_decide, ← UInt8.toNat_inj, upB_nat, upB_nat]
        split <;> split <;> omega
      show (Lib.foldEq x y && Lib.equalFold l r) = decide (upB x :: upL l = upB y :: upL r)
      rw [h1, ih]
      simp
theorem fit_ascii {l : W} (h : fitW l = true) : ∀ (j : Nat) (b : UInt8), (sB l).data.toList[j]? = some b → b.toNat < 128 := by
  intro j b hb
  rw [sB_list] at hb
  have := (fitW_iff l).1 h
  have h2 := (fitB_iff b).1 (this.2.2 b (List.mem_of_getElem? hb))
  omega
theorem upper_up (l : W) : Lib.toUpperA l = upL l := by
  unfold Lib.toUpperA upL
  refine List.map_congr_left fun b _ => ?_
  apply UInt8.toNat_inj.1
  rw [upB_nat]
  unfold Lib.upperB Lib.isLowerB
  split
  · rename_i h
    simp [UInt8.le_iff_toNat_le] at h
    rw [if_pos h, UInt8.toNat_sub_of_le _ _ (by rw [UInt8.le_iff_toNat_le]; show 32 ≤ _; omega)]; rfl
  · rename_i h
    simp [UInt8.le_iff_toNat_le] at h
    rw [if_neg (by omega)]
theorem lib_join (ws : List W) : Lib.join ws [32] = joinW ws := by
  unfold Lib.join
  induction ws with
  | nil => rfl
  | cons a ws ih =>
    match ws with
    | [] => simp [joinW]
    | b :: r => rw [join_two, ← ih]; simp [List.intercalate, List.intersperse]

set_option maxRecDepth 100000 in
set_option maxHeartbeats 4000000 in
theorem takeWord_any (t x : W) (ht : fitW t = true) (hx : fitW x = true) (A : Option Addr) (cap : Nat) (sp : Value) (w : World) (hW : RdW w A [x] cap) :
    Calls Tryz.prog 49 #[sp, .string (sB t), .slice A 1 cap] w fun e w' => e = .returned (.bool (decide (upL x = upL t))) ∧ w = w' := by
  have C := hid (Tryz.strings_EqualFold (sB x) (sB t) w (by rw [sB_size]; have := (fitW_iff x).1 hx; omega) (fit_ascii hx) (fit_ascii ht))
  rw [sB_list, sB_list, fold_up] at C
  obtain ⟨r, hr⟩ : ∃ r, r = decide (upL x = upL t) := ⟨_, rfl⟩
  rw [← hr] at C ⊢
  obtain ⟨g, o, rfl, hg, hc⟩ := SlR.at hW (k := 0) (u := .string (sB x)) rfl
  clear hr hx ht hW
  rw [Nat.add_zero] at hc
  go_enter Tryz.func49, Tryz.ntmps49
  go_wp2_with fail
  refine C.out.mono ?_
  rintro e w1 ⟨rfl, rfl⟩
  go_wp2
  go_ret
  exact ⟨rfl, rfl⟩

theorem num_cases (x : W) (hx : fitW x = true) : (4 < x.length ∧ isNum x = false) ∨ (x.length ≤ 4 ∧ (x.getD 0 0).toNat = 48 ∧ isNum x = false) ∨ (x.length ≤ 4 ∧ (x.getD 0 0).toNat ≠ 48 ∧ isNum x = x.all digB) := by
  have h1 := ((fitW_iff x).1 hx).1
  unfold isNum
  by_cases h4 : x.length ≤ 4
  · by_cases h8 : (x.getD 0 0).toNat = 48
    · exact .inr (.inl ⟨h4, h8, by rw [h8]; simp⟩)
    · exact .inr (.inr ⟨h4, h8, by rw [decide_eq_true h1, decide_eq_true h4, decide_eq_false h8]; simp⟩)
  · exact .inl ⟨by omega, by rw [decide_eq_false h4]; simp⟩

set_option maxRecDepth 100000 in
set_option maxHeartbeats 8000000 in
theorem takeNumber_any (t x : W) (hx : fitW x = true) (A : Option Addr) (cap S M : Nat) (rv : Value) (a : Ad) (w : World) (hW : RdW w A [x] cap) (hS : SB w S M rv a) :
    Calls Tryz.prog 52 #[.pointer (some ⟨S, 0, none⟩), .string (sB t), .slice A 1 cap] w (TakePost 2 [x] (isNum x) S M rv a w) := by
  obtain ⟨g, o, rfl, hg, hc⟩ := SlR.at hW (k := 0) (u := .string (sB x)) rfl
  have h1 := ((fitW_iff x).1 hx).1
  have hSZ := sB_size x
  have h00 : (0 : Int) < ((sB x).size : Int) := by rw [hSZ]; omega
  have h00' : 0 < (sB x).size := by rw [hSZ]; omega
  have hb : (sB x)[0] = x.getD 0 0 := by
    show x.toArray[0] = _
    simp [List.getD, List.getElem?_eq_getElem (show 0 < x.length by omega)]
    rfl
  have HS := hid hS
  clear hW hS
  rw [Nat.add_zero] at hc
  obtain ⟨s, hs⟩ : ∃ s, s = sB x := ⟨_, rfl⟩
  rw [← hs] at hc hSZ h00 h00'
  have hb : s[0] = x.getD 0 0 := by subst hs; exact hb
  have hl : s.data.toList = x := by subst hs; rfl
  clear hs
  rcases num_cases x hx with ⟨h4, hn⟩ | ⟨h4, h8, hn⟩ | ⟨h4, h8, hn⟩
  · rw [hn]
    have d4 : decide ((4 : Int) < (s.size : Int)) = true := decide_eq_true (by rw [hSZ]; omega)
    have d4' : decide (4 < s.size) = true := decide_eq_true (by rw [hSZ]; omega)
    clear hn h4 hx hb hSZ hl
    go_enter Tryz.func52, Tryz.ntmps52
    go_wp2
    go_ret
    exact ⟨rfl, HS.out, Kept.refl _ _ _⟩
  · rw [hn]
    have d4 : decide ((4 : Int) < (s.size : Int)) = false := decide_eq_false (by rw [hSZ]; omega)
    have d4' : decide (4 < s.size) = false := decide_eq_false (by rw [hSZ]; omega)
    have d8 : (((s[0]).toNat : Int) == 48) = true := by rw [hb, h8]; rfl
    clear hn h4 hx hb h8 hSZ hl
    go_enter Tryz.func52, Tryz.ntmps52
    go_wp2
    go_ret
    exact ⟨rfl, HS.out, Kept.refl _ _ _⟩
  · have d4 : decide ((4 : Int) < (s.size : Int)) = false := decide_eq_false (by rw [hSZ]; omega)
    have d4' : decide (4 < s.size) = false := decide_eq_false (by rw [hSZ]; omega)
    have d8 : (((s[0]).toNat : Int) == 48) = false := by rw [hb, beq_eq_false_iff_ne]; omega
    have CA := hid (all_bytes (s) digB 75 w (by rw [hSZ]; omega) clDig)
    have kc := fun w => conv_run w (s)
    rw [hl, ← hn] at CA
    clear hn h4 hx hb h8
    cases hI : isNum x
    · rw [hI] at CA
      clear hI hSZ hl
      go_enter Tryz.func52, Tryz.ntmps52
      go_wp2_with fail
      refine CA.out.mono ?_
      rintro e w1 ⟨rfl, hb1⟩
      have HB1 := hid hb1
      clear hb1
      go_wp2
      go_ret
      exact ⟨rfl, HS.out.on HB1.out, Kept.of HB1.out⟩
    · have CN := hid (fun w => Tryz.strconv_Atoi_ok (s) (by rw [hSZ]; have := ((isNum_iff x).1 hI).2.1; omega) (numF 0 x : Nat) (by rw [hl]; exact atoi_num hI) w)
      have hv : ((numF 0 x : Nat) : Int) = ((numW x : Nat) : Int) := by unfold numW; rw [if_pos hI]
      rw [hv] at CN
      rw [hI] at CA
      clear hI hv hSZ hl
      go_enter Tryz.func52, Tryz.ntmps52
      go_wp2_with fail
      refine CA.out.mono ?_
      rintro e w1 ⟨rfl, hb1⟩
      have HB1 := hid hb1
      clear hb1
      go_wp2_with fail
      refine (CN.out _).mono ?_
      rintro e w2 ⟨rfl, hw2⟩
      have HB2 : Hid (Below w1.heap.size w1 w2) := by
        rcases hw2 with rfl | ⟨t, rfl⟩
        · exact Below.refl _ _
        · exact Lib.bytesWorld_below _ _ _
      clear hw2
      have HS2 := hid ((HS.out.on HB1.out).on HB2.out)
      have hc2 := HS2.out.cell.2.2.1
      have hf2 := HS2.out.free 2
      go_wp2
      go_ret
      refine ⟨rfl, ?_, (Kept.of (bt HB1.out HB2.out)).set 2 _⟩
      rw [if_pos rfl]
      exact HS2.out.set 2 _ rfl

end Fm
end Go.Proofs.YtcaiejbnhjiflaaGreatDoor
