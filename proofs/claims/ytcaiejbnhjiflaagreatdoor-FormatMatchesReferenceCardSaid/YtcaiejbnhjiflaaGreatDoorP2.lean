/-
  Print: what it answers, in plain words; blocks that stay.
-/
import Derived.Test.YtcaiejbnhjiflaaGreatDoorP1
import Derived.Test.YtcaiejbnhjiflaaGreatDoorW12
namespace Go.Proofs.YtcaiejbnhjiflaaGreatDoor
open Go.RowKit Go.ChangeMaps
namespace Fm

def showT (x : Ad) (p : Pt) : W := if p.k = 1 then p.t else if p.k = 2 then Lib.itoa x.number else if p.k = 3 then x.code else if p.k = 4 then x.street else if p.k = 5 then x.town else x.person
theorem own_show (x : Ad) (p : Pt) : ownW x p = wordsL (showT x p) := by
  unfold ownW showT
  split
  · rfl
  · split
    · rfl
    · split
      · rfl
      · split
        · rfl
        · split <;> rfl
/-- WHAT PRINT ANSWERS. -/
def printR (name : W) (fs : List (List Pt)) (x : Ad) : List W × Int :=
  if validB name fs = true ∧ fitsB fs.flatten x = true then (fs.map fun ps => joinW (lineW x ps), 0) else ([], 1)
theorem print_bad {name : W} {fs : List (List Pt)} {x : Ad} (h : ¬ (validB name fs = true ∧ fitsB fs.flatten x = true)) : printR name fs x = ([], 1) := by unfold printR; rw [if_neg h]
theorem print_ok {name : W} {fs : List (List Pt)} {x : Ad} (h : validB name fs = true) (h2 : fitsB fs.flatten x = true) : printR name fs x = (fs.map fun ps => joinW (lineW x ps), 0) := by unfold printR; rw [if_pos ⟨h, h2⟩]
/-- A part that takes nothing; an address that is another one. -/
theorem print_part {name : W} {fs : List (List Pt)} {x : Ad} {p : Pt} (hv : validB name fs = true) (hp : p ∈ fs.flatten) (hc : canB p (ownW x p) = false) : printR name fs x = ([], 1) := by
  obtain ⟨_, _, _, h4, h5⟩ := valid_parts hv
  refine print_bad fun h => ?_
  have := ((print_fits h5 h4).2 h.2).1 p hp
  rw [hc] at this; cases this
theorem print_other {name : W} {fs : List (List Pt)} {x : Ad} (hv : validB name fs = true) (hx : foldS x fs.flatten ad0 ≠ x) : printR name fs x = ([], 1) := by
  obtain ⟨_, _, _, h4, h5⟩ := valid_parts hv
  exact print_bad fun h => hx ((print_fits h5 h4).2 h.2).2
theorem print_same {name : W} {fs : List (List Pt)} {x : Ad} (hv : validB name fs = true) (hc : ∀ p ∈ fs.flatten, canB p (ownW x p) = true) (hx : foldS x fs.flatten ad0 = x) : printR name fs x = (fs.map fun ps => joinW (lineW x ps), 0) := by
  obtain ⟨_, _, _, h4, h5⟩ := valid_parts hv
  exact print_ok hv ((print_fits h5 h4).1 ⟨hc, hx⟩)

/-- Blocks of other kinds stay. -/
theorem kept_block {S M : Nat} {rv : Value} {a : Ad} {w w' : World} (hk : Kept w.heap.size S w w') (hs : SB w S M rv a) {b : Nat} {o : Obj} (h : w.heap[b]? = some o) (hn : ∀ c fz, o ≠ .cells c 58 fz) : w'.heap[b]? = some o := by
  refine (hk.block b (heap_lt h) ?_).trans h
  rintro rfl
  unfold SB at hs
  rw [h] at hs
  cases hs
  exact hn _ _ rfl
theorem grown_block {w w' : World} {B : Nat} {v : Value} {n : Nat} {xs : List Value} (hg : w.grownBy w' v.ownBlock) (ho : w.ownsRow B 9 1 v n xs) {b : Nat} {o : Obj} (h : w.heap[b]? = some o) (hn : ∀ c fz, o ≠ .cells c 9 fz) : w'.heap[b]? = some o := by
  refine (hg.block b (heap_lt h) ?_).trans h
  intro e
  rcases ho.2 with ⟨rfl, _⟩ | ⟨g, cap, cur, rfl, _, hh, _⟩
  · cases e
  · simp only [Value.ownBlock, Option.some.injEq] at e
    subst e
    rw [hh] at h
    cases h
    exact hn _ _ rfl
theorem Kinds.kept {w w' : World} {S M : Nat} {rv : Value} {a : Ad} {F : Int → Nat} {L : List Int} (h : Kinds w M F L) (hk : Kept w.heap.size S w w') (hs : SB w S M rv a) : Kinds w' M F L :=
  ⟨kept_block hk hs h.map (fun _ _ e => by cases e), fun k h4 h6 => kept_block hk hs (h.box k h4 h6) (fun _ _ e => by cases e)⟩
theorem Kinds.grown {w w' : World} {M B : Nat} {v : Value} {n : Nat} {xs : List Value} {F : Int → Nat} {L : List Int} (h : Kinds w M F L) (hg : w.grownBy w' v.ownBlock) (ho : w.ownsRow B 9 1 v n xs) : Kinds w' M F L :=
  ⟨grown_block hg ho h.map (fun _ _ e => by cases e), fun k h4 h6 => grown_block hg ho (h.box k h4 h6) (fun _ _ e => by cases e)⟩
/-- The box of an address. -/
def XB (w : World) (b : Nat) (x : Ad) : Prop := w.heap[b]? = some (.cells #[.string (sB x.person), .string (sB x.street), .int .i64 x.number, .string (sB x.code), .string (sB x.town)] 27 (0, 0))
theorem XB.cell {w : World} {b : Nat} {x : Ad} (h : XB w b x) : w.cell? ⟨b, 0, none⟩ = some (.string (sB x.person)) ∧ w.cell? ⟨b, 1, none⟩ = some (.string (sB x.street)) ∧ w.cell? ⟨b, 2, none⟩ = some (.int .i64 x.number) ∧ w.cell? ⟨b, 3, none⟩ = some (.string (sB x.code)) ∧ w.cell? ⟨b, 4, none⟩ = some (.string (sB x.town)) := by
  unfold XB at h
  simp [World.cell?, h]
theorem XB.on {w w' : World} {b : Nat} {x : Ad} (h : XB w b x) (hb : Below w.heap.size w w') : XB w' b x := (hb.block _ (heap_lt h)).trans h

set_option maxRecDepth 100000 in
theorem eg1 (args : Array Value) (w : World) : (callFunc 50 args).run Tryz.prog w = .ok (.enter 50 args) w := rfl
set_option maxRecDepth 100000 in
theorem eg2 (args : Array Value) (w : World) : (callFunc 53 args).run Tryz.prog w = .ok (.enter 53 args) w := rfl
set_option maxRecDepth 100000 in
theorem eg3 (args : Array Value) (w : World) : (callFunc 57 args).run Tryz.prog w = .ok (.enter 57 args) w := rfl
set_option maxRecDepth 100000 in
theorem eg4 (args : Array Value) (w : World) : (callFunc 82 args).run Tryz.prog w = .ok (.enter 82 args) w := rfl
/-- What a kind shows. -/
theorem kd_show {p : Pt} (hp : partB p = true) (F : Int → Nat) : ∃ m fx cx fy cy g caps, kdV F p.k = .agg #[.int .i64 m, .func (.func fx) #[] cx, .func (.func fy) #[] cy, .func (.func g) #[] caps] ∧ (∀ args w, (callFunc g args).run Tryz.prog w = .ok (.enter g args) w) ∧
    ∀ (x : Ad) (M : Nat) (u : World), -9223372036854775808 ≤ x.number → x.number ≤ 9223372036854775807 → Tab u → Kinds u M F allK → Calls Tryz.prog g (#[adV x, .string (sB p.t)] ++ caps) u fun e w' => e = .returned (.string (sB (showT x p))) ∧ Below u.heap.size u w' := by
  obtain ⟨k, t⟩ := p
  obtain ⟨h1, h6, -⟩ := wfp hp
  simp only at h1 h6 ⊢
  rcases (show k = 1 ∨ k = 2 ∨ k = 3 ∨ k = 4 ∨ k = 5 ∨ k = 6 by omega) with rfl | rfl | rfl | rfl | rfl | rfl
  · exact ⟨_, _, _, _, _, 50, _, rfl, eg1, fun x M u _ _ _ _ => show1_any x t u⟩
  · exact ⟨_, _, _, _, _, 53, _, rfl, eg2, fun x M u h0 h1 hT _ => show2_any x t u h0 h1 hT⟩
  · exact ⟨_, _, _, _, _, 57, _, rfl, eg3, fun x M u _ _ _ _ => show3_any x t u⟩
  · exact ⟨_, _, _, _, _, 82, _, rfl, eg4, fun x M u _ _ _ hK => show4_any x t (F 4) u (hK.box 4 (by decide) (by decide))⟩
  · exact ⟨_, _, _, _, _, 82, _, rfl, eg4, fun x M u _ _ _ hK => show5_any x t (F 5) u (hK.box 5 (by decide) (by decide))⟩
  · exact ⟨_, _, _, _, _, 82, _, rfl, eg4, fun x M u _ _ _ hK => show6_any x t (F 6) u (hK.box 6 (by decide) (by decide))⟩

/-- An address of moderate size. -/
structure Small (x : Ad) : Prop where
  p : x.person.length ≤ 1000
  s : x.street.length ≤ 1000
  c : x.code.length ≤ 1000
  t : x.town.length ≤ 1000
  n0 : -9223372036854775808 ≤ x.number
  n1 : x.number ≤ 9223372036854775807
theorem itoa_len {n : Int} (h0 : -9223372036854775808 ≤ n) (h1 : n ≤ 9223372036854775807) : (Lib.itoa n).length ≤ 20 := by
  unfold Lib.itoa
  split
  · have := dec_len n.natAbs 18 (by omega)
    rw [List.length_cons]; omega
  · have := dec_len n.toNat 18 (by omega)
    omega
theorem show_len {x : Ad} {p : Pt} (hx : Small x) (hp : partB p = true) : (showT x p).length ≤ 1000 := by
  obtain ⟨_, _, h1, _⟩ := wfp hp
  unfold showT
  split
  · rename_i h; have := ((fitW_iff _).1 (h1 h)).2.1; omega
  · split
    · have := itoa_len hx.n0 hx.n1; omega
    · split
      · exact hx.c
      · split
        · exact hx.s
        · split
          · exact hx.t
          · exact hx.p

/-- Where a line of Print stands. -/
def PAt (x : Ad) (ps : List Pt) (j : Nat) (ai a : Ad) : Prop := (∀ p ∈ ps.take j, canB p (ownW x p) = true) ∧ a = foldS x (ps.take j) ai
theorem PAt.start (x : Ad) (ps : List Pt) (ai : Ad) : PAt x ps 0 ai ai := ⟨fun p hp => (by simp at hp), by simp [foldS]⟩
theorem PAt.next {x : Ad} {ps : List Pt} {j : Nat} {ai a : Ad} {p : Pt} (h : PAt x ps j ai a) (hp : ps[j]? = some p) (hc : canB p (ownW x p) = true) : PAt x ps (j + 1) ai (setF p.k (ownW x p) a) := by
  obtain ⟨h1, h2⟩ := h
  rw [PAt, List.take_add_one, hp]
  refine ⟨fun q hq => ?_, ?_⟩
  · rcases List.mem_append.1 hq with hq | hq
    · exact h1 q hq
    · simp at hq; rw [hq]; exact hc
  · rw [foldS_append, ← h2]; rfl
theorem line_next {x : Ad} {ps : List Pt} {j : Nat} {p : Pt} (hp : ps[j]? = some p) : lineW x (ps.take (j + 1)) = lineW x (ps.take j) ++ ownW x p := by
  unfold lineW
  rw [List.take_add_one, hp, List.flatMap_append]; simp
theorem line_len {x : Ad} {ps : List Pt} (hc : ∀ p ∈ ps, canB p (ownW x p) = true) : (lineW x ps).length ≤ ps.length * 4 ∧ ∀ w ∈ lineW x ps, fitW w = true := by
  induction ps with
  | nil => exact ⟨Nat.le_refl _, fun w hw => (by cases hw)⟩
  | cons p ps ih =>
    obtain ⟨i1, i2⟩ := ih fun q hq => hc q (List.mem_cons_of_mem _ hq)
    have h0 := hc p (List.mem_cons_self ..)
    have := can_len h0
    unfold lineW at i1 i2 ⊢
    rw [List.flatMap_cons, List.length_append, List.length_cons]
    refine ⟨by omega, fun w hw => ?_⟩
    rcases List.mem_append.1 hw with hw | hw
    · exact can_fit h0 w hw
    · exact i2 w hw
/-- Where Print stands. -/
def PLn (x : Ad) (fs : List (List Pt)) (i : Nat) (a : Ad) : Prop := (∀ p ∈ (fs.take i).flatten, canB p (ownW x p) = true) ∧ a = foldS x (fs.take i).flatten ad0
theorem PLn.start (x : Ad) (fs : List (List Pt)) : PLn x fs 0 ad0 := ⟨fun p hp => (by simp at hp), by simp [foldS]⟩
theorem PLn.next {x : Ad} {fs : List (List Pt)} {i : Nat} {ai a : Ad} {ps : List Pt} (h : PLn x fs i ai) (hi : fs[i]? = some ps) (hp : PAt x ps ps.length ai a) : PLn x fs (i + 1) a := by
  obtain ⟨h1, h2⟩ := h
  obtain ⟨p1, p2⟩ := hp
  rw [List.take_length] at p1 p2
  rw [PLn, List.take_add_one, hi]
  simp only [Option.toList_some, List.flatten_append, List.flatten_cons, List.flatten_nil, List.append_nil]
  refine ⟨fun q hq => ?_, ?_⟩
  · rcases List.mem_append.1 hq with hq | hq
    · exact h1 q hq
    · exact p1 q hq
  · rw [foldS_append, ← h2]; exact p2
theorem lines_next {x : Ad} {fs : List (List Pt)} {i : Nat} {ps : List Pt} (hi : fs[i]? = some ps) : (fs.take (i + 1)).map (fun ps => joinW (lineW x ps)) = (fs.take i).map (fun ps => joinW (lineW x ps)) ++ [joinW (lineW x ps)] := by
  rw [List.take_add_one, hi, List.map_append]; rfl

end Fm
end Go.Proofs.YtcaiejbnhjiflaaGreatDoor
