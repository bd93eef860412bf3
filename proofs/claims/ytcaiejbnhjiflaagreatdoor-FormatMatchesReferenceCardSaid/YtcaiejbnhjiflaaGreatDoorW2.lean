/-
  Contracts of slices.IndexFunc, slices.ContainsFunc and all, over bytes and over texts.
-/
import Derived.Test.YtcaiejbnhjiflaaGreatDoorBs
namespace Go.Proofs.YtcaiejbnhjiflaaGreatDoor
open Go.RowKit
namespace Fm

def idxP {α : Type} (p : α → Bool) (l : List α) : Int := if l.all p = true then -1 else ((l.takeWhile p).length : Nat)
theorem idxP_ge {α : Type} (p : α → Bool) (l : List α) : decide (0 ≤ idxP p l) = !l.all p := by
  unfold idxP
  cases h : l.all p
  · simp
  · simp
theorem idxP_end {α : Type} {p : α → Bool} {l : List α} (h : (l.take l.length).all p = true) : idxP p l = -1 := by
  rw [List.take_length] at h; unfold idxP; rw [if_pos h]
theorem take_all {α : Type} {p : α → Bool} {l : List α} {k : Nat} {x : α} (h : (l.take k).all p = true) (hx : l[k]? = some x) (hp : p x = true) : (l.take (k + 1)).all p = true := by
  rw [List.take_add_one, hx, List.all_append, h]; simp [hp]
theorem idxP_at {α : Type} {p : α → Bool} {l : List α} {k : Nat} {x : α} (h : (l.take k).all p = true) (hx : l[k]? = some x) (hp : p x = false) : idxP p l = (k : Int) := by
  obtain ⟨hk, hx⟩ := List.getElem?_eq_some_iff.1 hx
  have e : l = l.take k ++ x :: l.drop (k + 1) := by conv => lhs; rw [← List.take_append_drop k l, List.drop_eq_getElem_cons hk, hx]
  have hn : l.all p = false := by rw [e, List.all_append, List.all_cons, hp]; simp
  unfold idxP
  rw [if_neg (by rw [hn]; simp)]
  have : (l.takeWhile p).length = k := by
    rw [e, List.takeWhile_append_of_pos (fun a ha => List.all_eq_true.1 h a ha), List.takeWhile_cons, hp]
    simp; omega
  rw [this]
def bV (b : UInt8) : Value := .int .u8 (b.toNat : Int)
theorem ge_false (k : Nat) : decide ((0 : Int) ≤ (k : Int)) = true := by simp


/-- What a function value answers for an element, in every later world. -/
def SaysB (p : UInt8 → Bool) (bx : Nat) (w : World) : Prop :=
  ∀ (u : World) (x : UInt8), Below w.heap.size w u → Calls Tryz.prog 89 #[bV x, .pointer (some ⟨bx, 0, none⟩)] u fun e w' => e = .returned (.bool (!p x)) ∧ Below u.heap.size u w'
theorem SaysB.on {p : UInt8 → Bool} {bx : Nat} {w w' : World} (h : SaysB p bx w) (hb : Below w.heap.size w w') : SaysB p bx w' := fun u x hu => h u x (bt hb hu)

set_option maxRecDepth 100000 in
set_option maxHeartbeats 2000000 in
theorem idxB_any (l : List UInt8) (p : UInt8 → Bool) (A : Option Addr) (cap bx : Nat) (w : World) (hl : l.length ≤ 4096) (hs : SlR w A l.length cap 1 (l.map bV)) (hc : SaysB p bx w) :
    Calls Tryz.prog 101 #[.slice A l.length cap, .func (.func 89) #[] #[.pointer (some ⟨bx, 0, none⟩)]] w fun e w' => e = .returned (.int .i64 (idxP p l)) ∧ Below w.heap.size w w' := by
  obtain ⟨r, hr⟩ : ∃ r, r = idxP p l := ⟨_, rfl⟩
  rw [← hr]
  have HR := hid hr
  have HS := hid hs
  have HC := hid hc
  clear hr hs hc
  go_enter Tryz.func101, Tryz.ntmps101
  go_wp2
  go_loopw [8] (fun i wr => ∃ k : Nat, k ≤ l.length ∧ i = .int .i64 k ∧ Hid ((l.take k).all p = true) ∧ Below w.heap.size w wr) (fun i _ => l.length - (intOf i).toNat)
  case atStart => exact ⟨0, Nat.zero_le _, rfl, rfl, Below.refl _ _⟩
  case round =>
    obtain ⟨k, hk, rfl, ha, hb⟩ := hrel
    by_cases hlt : k < l.length
    · have hx : l[k]? = some l[k] := List.getElem?_eq_getElem hlt
      obtain ⟨x, hxx⟩ : ∃ x, x = l[k] := ⟨_, rfl⟩
      rw [← hxx] at hx
      clear hxx
      have HX := hid hx
      have hu : (l.map bV)[k]? = some (bV x) := by rw [List.getElem?_map, hx]; rfl
      obtain ⟨g, o, rfl, hg, hcell⟩ := (HS.out.on hb).at hu
      clear hx hu
      have hlt2 : (k : Int) < (l.length : Int) := by omega
      have hk0 : 0 ≤ (k : Int) := by omega
      have C := hid (HC.out _ x hb)
      cases hp : p x
      · have HI : Hid (r = (k : Int)) := HR.out.trans (idxP_at ha.out HX.out hp)
        rw [hp] at C
        clear hp ha HX
        go_wp2_with fail
        refine C.out.mono ?_
        rintro e w1 ⟨rfl, hb1⟩
        go_wp2
        go_ret
        exact ⟨by rw [HI.out]; try rfl, hb.trans (hb1.mono hb.size)⟩
      · have HI : Hid ((l.take (k + 1)).all p = true) := take_all ha.out HX.out hp
        rw [hp] at C
        clear hp ha HX
        go_wp2_with fail
        refine C.out.mono ?_
        rintro e w1 ⟨rfl, hb1⟩
        go_wp2
        go_roundw
        case rel => exact ⟨k + 1, by omega, by go_num, HI, hb.trans (hb1.mono hb.size)⟩
        case measure => simp [intOf]; omega
    · obtain rfl : k = l.length := by omega
      have HI : Hid (r = -1) := HR.out.trans (idxP_end ha.out)
      clear ha
      go_wp2
      go_ret
      exact ⟨by rw [HI.out]; try rfl, hb⟩

set_option maxHeartbeats 2000000 in
theorem conB_any (l : List UInt8) (p : UInt8 → Bool) (A : Option Addr) (cap bx : Nat) (w : World) (hl : l.length ≤ 4096) (hs : SlR w A l.length cap 1 (l.map bV)) (hc : SaysB p bx w) :
    Calls Tryz.prog 88 #[.slice A l.length cap, .func (.func 89) #[] #[.pointer (some ⟨bx, 0, none⟩)]] w fun e w' => e = .returned (.bool (!l.all p)) ∧ Below w.heap.size w w' := by
  have C := hid (idxB_any l p A cap bx w hl hs hc)
  have hge := idxP_ge p l
  obtain ⟨r, hr⟩ : ∃ r, r = idxP p l := ⟨_, rfl⟩
  rw [← hr] at C hge
  rw [← hge]
  clear hr hge hs hc
  go_enter Tryz.func88, Tryz.ntmps88
  go_wp2_with fail
  refine C.out.mono ?_
  rintro e w1 ⟨rfl, hb⟩
  go_wp2
  go_ret
  exact ⟨rfl, hb⟩

set_option maxHeartbeats 2000000 in
theorem allB_any (l : List UInt8) (p : UInt8 → Bool) (g : Nat) (A : Option Addr) (cap : Nat) (w : World) (hl : l.length ≤ 4096) (hs : SlR w A l.length cap 1 (l.map bV))
    (hc : ∀ (u : World) (bx : Nat) (x : UInt8), bx < u.heap.size → u.cell? ⟨bx, 0, none⟩ = some (fnV g) → Calls Tryz.prog 89 #[bV x, .pointer (some ⟨bx, 0, none⟩)] u fun e w' => e = .returned (.bool (!p x)) ∧ Below u.heap.size u w') :
    Calls Tryz.prog 70 #[.slice A l.length cap, fnV g] w fun e w' => e = .returned (.bool (l.all p)) ∧ Below w.heap.size w w' := by
  have hb0 : Below w.heap.size w (w.alloc (.cells #[fnV g] 76)) := b0 w _
  have hS : SaysB p w.heap.size (w.alloc (.cells #[fnV g] 76)) := fun W x hW =>
    hc W w.heap.size x (Nat.lt_of_lt_of_le (by simp) hW.size) (by rw [hW.cell (p := (⟨w.heap.size, 0, none⟩ : Addr)) (by simp)]; simp)
  have C := hid (conB_any l p A cap w.heap.size _ hl (hs.on hb0) hS)
  obtain ⟨r, hr⟩ : ∃ r, r = l.all p := ⟨_, rfl⟩
  rw [← hr] at C ⊢
  have HB := hid hb0
  clear hs hc hS hr hb0
  unfold fnV at C HB ⊢
  go_enter Tryz.func70, Tryz.ntmps70
  go_wp2_with fail
  refine C.out.mono ?_
  rintro e w1 ⟨rfl, hb⟩
  go_wp2
  go_ret
  exact ⟨by simp, bt HB.out hb⟩


/-- What a function value answers for an element, in every later world. -/
def SaysS (p : W → Bool) (bx : Nat) (w : World) : Prop :=
  ∀ (u : World) (x : W), Below w.heap.size w u → Calls Tryz.prog 85 #[sV x, .pointer (some ⟨bx, 0, none⟩)] u fun e w' => e = .returned (.bool (!p x)) ∧ Below u.heap.size u w'
theorem SaysS.on {p : W → Bool} {bx : Nat} {w w' : World} (h : SaysS p bx w) (hb : Below w.heap.size w w') : SaysS p bx w' := fun u x hu => h u x (bt hb hu)

set_option maxRecDepth 100000 in
set_option maxHeartbeats 2000000 in
theorem idxS_any (l : List W) (p : W → Bool) (A : Option Addr) (cap bx : Nat) (w : World) (hl : l.length ≤ 4096) (hs : SlR w A l.length cap 1 (l.map sV)) (hc : SaysS p bx w) :
    Calls Tryz.prog 98 #[.slice A l.length cap, .func (.func 85) #[] #[.pointer (some ⟨bx, 0, none⟩)]] w fun e w' => e = .returned (.int .i64 (idxP p l)) ∧ Below w.heap.size w w' := by
  obtain ⟨r, hr⟩ : ∃ r, r = idxP p l := ⟨_, rfl⟩
  rw [← hr]
  have HR := hid hr
  have HS := hid hs
  have HC := hid hc
  clear hr hs hc
  go_enter Tryz.func98, Tryz.ntmps98
  go_wp2
  go_loopw [8] (fun i wr => ∃ k : Nat, k ≤ l.length ∧ i = .int .i64 k ∧ Hid ((l.take k).all p = true) ∧ Below w.heap.size w wr) (fun i _ => l.length - (intOf i).toNat)
  case atStart => exact ⟨0, Nat.zero_le _, rfl, rfl, Below.refl _ _⟩
  case round =>
    obtain ⟨k, hk, rfl, ha, hb⟩ := hrel
    by_cases hlt : k < l.length
    · have hx : l[k]? = some l[k] := List.getElem?_eq_getElem hlt
      obtain ⟨x, hxx⟩ : ∃ x, x = l[k] := ⟨_, rfl⟩
      rw [← hxx] at hx
      clear hxx
      have HX := hid hx
      have hu : (l.map sV)[k]? = some (sV x) := by rw [List.getElem?_map, hx]; rfl
      obtain ⟨g, o, rfl, hg, hcell⟩ := (HS.out.on hb).at hu
      clear hx hu
      have hlt2 : (k : Int) < (l.length : Int) := by omega
      have hk0 : 0 ≤ (k : Int) := by omega
      have C := hid (HC.out _ x hb)
      cases hp : p x
      · have HI : Hid (r = (k : Int)) := HR.out.trans (idxP_at ha.out HX.out hp)
        rw [hp] at C
        clear hp ha HX
        go_wp2_with fail
        refine C.out.mono ?_
        rintro e w1 ⟨rfl, hb1⟩
        go_wp2
        go_ret
        exact ⟨by rw [HI.out]; try rfl, hb.trans (hb1.mono hb.size)⟩
      · have HI : Hid ((l.take (k + 1)).all p = true) := take_all ha.out HX.out hp
        rw [hp] at C
        clear hp ha HX
        go_wp2_with fail
        refine C.out.mono ?_
        rintro e w1 ⟨rfl, hb1⟩
        go_wp2
        go_roundw
        case rel => exact ⟨k + 1, by omega, by go_num, HI, hb.trans (hb1.mono hb.size)⟩
        case measure => simp [intOf]; omega
    · obtain rfl : k = l.length := by omega
      have HI : Hid (r = -1) := HR.out.trans (idxP_end ha.out)
      clear ha
      go_wp2
      go_ret
      exact ⟨by rw [HI.out]; try rfl, hb⟩

set_option maxHeartbeats 2000000 in
theorem conS_any (l : List W) (p : W → Bool) (A : Option Addr) (cap bx : Nat) (w : World) (hl : l.length ≤ 4096) (hs : SlR w A l.length cap 1 (l.map sV)) (hc : SaysS p bx w) :
    Calls Tryz.prog 84 #[.slice A l.length cap, .func (.func 85) #[] #[.pointer (some ⟨bx, 0, none⟩)]] w fun e w' => e = .returned (.bool (!l.all p)) ∧ Below w.heap.size w w' := by
  have C := hid (idxS_any l p A cap bx w hl hs hc)
  have hge := idxP_ge p l
  obtain ⟨r, hr⟩ : ∃ r, r = idxP p l := ⟨_, rfl⟩
  rw [← hr] at C hge
  rw [← hge]
  clear hr hge hs hc
  go_enter Tryz.func84, Tryz.ntmps84
  go_wp2_with fail
  refine C.out.mono ?_
  rintro e w1 ⟨rfl, hb⟩
  go_wp2
  go_ret
  exact ⟨rfl, hb⟩

set_option maxHeartbeats 2000000 in
theorem allS_any (l : List W) (p : W → Bool) (g : Nat) (A : Option Addr) (cap : Nat) (w : World) (hl : l.length ≤ 4096) (hs : SlR w A l.length cap 1 (l.map sV))
    (hc : ∀ (u : World) (bx : Nat) (x : W), bx < u.heap.size → u.cell? ⟨bx, 0, none⟩ = some (fnV g) → Calls Tryz.prog 85 #[sV x, .pointer (some ⟨bx, 0, none⟩)] u fun e w' => e = .returned (.bool (!p x)) ∧ Below u.heap.size u w') :
    Calls Tryz.prog 64 #[.slice A l.length cap, fnV g] w fun e w' => e = .returned (.bool (l.all p)) ∧ Below w.heap.size w w' := by
  have hb0 : Below w.heap.size w (w.alloc (.cells #[fnV g] 50)) := b0 w _
  have hS : SaysS p w.heap.size (w.alloc (.cells #[fnV g] 50)) := fun W x hW =>
    hc W w.heap.size x (Nat.lt_of_lt_of_le (by simp) hW.size) (by rw [hW.cell (p := (⟨w.heap.size, 0, none⟩ : Addr)) (by simp)]; simp)
  have C := hid (conS_any l p A cap w.heap.size _ hl (hs.on hb0) hS)
  obtain ⟨r, hr⟩ : ∃ r, r = l.all p := ⟨_, rfl⟩
  rw [← hr] at C ⊢
  have HB := hid hb0
  clear hs hc hS hr hb0
  unfold fnV at C HB ⊢
  go_enter Tryz.func64, Tryz.ntmps64
  go_wp2_with fail
  refine C.out.mono ?_
  rintro e w1 ⟨rfl, hb⟩
  go_wp2
  go_ret
  exact ⟨by simp, bt HB.out hb⟩


set_option maxHeartbeats 2000000 in
theorem clName (W : World) (bx : Nat) (x : UInt8) (_hb : bx < W.heap.size) (hc : W.cell? ⟨bx, 0, none⟩ = some (fnV 71)) :
    Calls Tryz.prog 89 #[bV x, .pointer (some ⟨bx, 0, none⟩)] W fun e w' => e = .returned (.bool (!namB x)) ∧ Below W.heap.size W w' := by
  have C := hid (((isNameByte_any x W).mono fun _ _ ⟨he, hw⟩ => ⟨he, by rw [← hw]; exact Below.refl _ _⟩ : Calls Tryz.prog 71 #[bV x] W fun e w' => e = .returned (.bool (namB x)) ∧ Below W.heap.size W w'))
  obtain ⟨r, hr⟩ : ∃ r, r = namB x := ⟨_, rfl⟩
  rw [← hr] at C ⊢
  clear hr
  unfold fnV at hc
  unfold bV
  go_enter Tryz.func89, Tryz.ntmps89
  go_wp2_with fail
  refine C.out.mono ?_
  rintro e w1 ⟨rfl, hb⟩
  go_wp2
  go_ret
  exact ⟨rfl, hb⟩


set_option maxHeartbeats 2000000 in
theorem clFit (W : World) (bx : Nat) (x : UInt8) (_hb : bx < W.heap.size) (hc : W.cell? ⟨bx, 0, none⟩ = some (fnV 73)) :
    Calls Tryz.prog 89 #[bV x, .pointer (some ⟨bx, 0, none⟩)] W fun e w' => e = .returned (.bool (!fitB x)) ∧ Below W.heap.size W w' := by
  have C := hid (((isFitByte_any x W).mono fun _ _ ⟨he, hw⟩ => ⟨he, by rw [← hw]; exact Below.refl _ _⟩ : Calls Tryz.prog 73 #[bV x] W fun e w' => e = .returned (.bool (fitB x)) ∧ Below W.heap.size W w'))
  obtain ⟨r, hr⟩ : ∃ r, r = fitB x := ⟨_, rfl⟩
  rw [← hr] at C ⊢
  clear hr
  unfold fnV at hc
  unfold bV
  go_enter Tryz.func89, Tryz.ntmps89
  go_wp2_with fail
  refine C.out.mono ?_
  rintro e w1 ⟨rfl, hb⟩
  go_wp2
  go_ret
  exact ⟨rfl, hb⟩


set_option maxHeartbeats 2000000 in
theorem clDig (W : World) (bx : Nat) (x : UInt8) (_hb : bx < W.heap.size) (hc : W.cell? ⟨bx, 0, none⟩ = some (fnV 75)) :
    Calls Tryz.prog 89 #[bV x, .pointer (some ⟨bx, 0, none⟩)] W fun e w' => e = .returned (.bool (!digB x)) ∧ Below W.heap.size W w' := by
  have C := hid (((isDigit_any x W).mono fun _ _ ⟨he, hw⟩ => ⟨he, by rw [← hw]; exact Below.refl _ _⟩ : Calls Tryz.prog 75 #[bV x] W fun e w' => e = .returned (.bool (digB x)) ∧ Below W.heap.size W w'))
  obtain ⟨r, hr⟩ : ∃ r, r = digB x := ⟨_, rfl⟩
  rw [← hr] at C ⊢
  clear hr
  unfold fnV at hc
  unfold bV
  go_enter Tryz.func89, Tryz.ntmps89
  go_wp2_with fail
  refine C.out.mono ?_
  rintro e w1 ⟨rfl, hb⟩
  go_wp2
  go_ret
  exact ⟨rfl, hb⟩


set_option maxHeartbeats 2000000 in
theorem clPat (W : World) (bx : Nat) (x : UInt8) (_hb : bx < W.heap.size) (hc : W.cell? ⟨bx, 0, none⟩ = some (fnV 78)) :
    Calls Tryz.prog 89 #[bV x, .pointer (some ⟨bx, 0, none⟩)] W fun e w' => e = .returned (.bool (!patB x)) ∧ Below W.heap.size W w' := by
  have C := hid (((isPatternByte_any x W).mono fun _ _ ⟨he, hw⟩ => ⟨he, by rw [← hw]; exact Below.refl _ _⟩ : Calls Tryz.prog 78 #[bV x] W fun e w' => e = .returned (.bool (patB x)) ∧ Below W.heap.size W w'))
  obtain ⟨r, hr⟩ : ∃ r, r = patB x := ⟨_, rfl⟩
  rw [← hr] at C ⊢
  clear hr
  unfold fnV at hc
  unfold bV
  go_enter Tryz.func89, Tryz.ntmps89
  go_wp2_with fail
  refine C.out.mono ?_
  rintro e w1 ⟨rfl, hb⟩
  go_wp2
  go_ret
  exact ⟨rfl, hb⟩


end Fm
end Go.Proofs.YtcaiejbnhjiflaaGreatDoor
