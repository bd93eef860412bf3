/-
  Plain mathematics of layer 4: what a part takes, the readings of lines. No program is named here.
-/
import Derived.Test.YtcaiejbnhjiflaaGreatDoorMa
namespace Go.Proofs.YtcaiejbnhjiflaaGreatDoor
namespace Fm

/-- A part; an address. -/
structure Pt where
  k : Int
  t : W
deriving DecidableEq
structure Ad where
  person : W
  street : W
  number : Int
  code : W
  town : W
deriving DecidableEq
def ad0 : Ad := ⟨[], [], 0, [], []⟩
theorem ad_ext {a b : Ad} (h1 : a.person = b.person) (h2 : a.street = b.street) (h3 : a.number = b.number) (h4 : a.code = b.code) (h5 : a.town = b.town) : a = b := by
  cases a; cases b; simp at h1 h2 h3 h4 h5; rw [h1, h2, h3, h4, h5]

/-- A part is well-formed. -/
def partB (p : Pt) : Bool := if p.k = 1 then fitW p.t else if p.k = 3 then patW p.t else decide (2 ≤ p.k) && decide (p.k ≤ 6) && decide (p.t = [])
/-- A part that can take several words. -/
def sevB (p : Pt) : Bool := decide (4 ≤ p.k)
/-- The field that a part of a kind sets, as a word or words. -/
def setF (k : Int) (ws : List W) (a : Ad) : Ad :=
  if k = 2 then { a with number := (numW (ws.getD 0 []) : Nat) } else if k = 3 then { a with code := upL (ws.getD 0 []) } else if k = 4 then { a with street := joinW ws } else if k = 5 then { a with town := joinW ws } else if k = 6 then { a with person := joinW ws } else a
/-- Whether a part takes words. -/
def canB (p : Pt) (ws : List W) : Bool :=
  decide (1 ≤ ws.length) && decide (ws.length ≤ if 4 ≤ p.k then 4 else 1) && ws.all fitW &&
  (if p.k = 1 then decide (upL (ws.getD 0 []) = upL p.t) else if p.k = 2 then isNum (ws.getD 0 []) else if p.k = 3 then codeW (ws.getD 0 []) p.t else true)
theorem can_len {p : Pt} {ws : List W} (h : canB p ws = true) : 1 ≤ ws.length ∧ ws.length ≤ 4 := by
  unfold canB at h
  simp only [Bool.and_eq_true, decide_eq_true_eq] at h
  refine ⟨h.1.1.1, ?_⟩
  have := h.1.1.2
  split at this <;> omega
theorem can_one {p : Pt} {ws : List W} (h : canB p ws = true) (hp : sevB p = false) : ws.length = 1 := by
  unfold canB at h
  simp only [Bool.and_eq_true, decide_eq_true_eq] at h
  have hp : ¬ 4 ≤ p.k := by simpa [sevB] using hp
  have := h.1.1.2
  rw [if_neg hp] at this
  have := h.1.1.1
  omega
theorem can_fit {p : Pt} {ws : List W} (h : canB p ws = true) : ∀ w ∈ ws, fitW w = true := by
  unfold canB at h
  simp only [Bool.and_eq_true, List.all_eq_true] at h
  exact h.1.2

/-- The readings of the words of a line, behind an address; of n words at most for the first part. -/
def rdL : List Pt → Ad → List W → List Ad
  | [], a, ws => if ws = [] then [a] else []
  | p :: ps, a, ws => (List.range 4).flatMap fun i => if i + 1 ≤ ws.length ∧ canB p (ws.take (i + 1)) = true then rdL ps (setF p.k (ws.take (i + 1)) a) (ws.drop (i + 1)) else []
def rdN (n : Nat) (p : Pt) (ps : List Pt) (a : Ad) (ws : List W) : List Ad :=
  (List.range n).flatMap fun i => if i + 1 ≤ ws.length ∧ canB p (ws.take (i + 1)) = true then rdL ps (setF p.k (ws.take (i + 1)) a) (ws.drop (i + 1)) else []
theorem rdL_nil (a : Ad) (ws : List W) : rdL [] a ws = if ws = [] then [a] else [] := rfl
theorem rdL_cons (p : Pt) (ps : List Pt) (a : Ad) (ws : List W) : rdL (p :: ps) a ws = rdN 4 p ps a ws := rfl
theorem rdN_zero (p : Pt) (ps : List Pt) (a : Ad) (ws : List W) : rdN 0 p ps a ws = [] := rfl
theorem rdN_succ (n : Nat) (p : Pt) (ps : List Pt) (a : Ad) (ws : List W) : rdN (n + 1) p ps a ws = rdN n p ps a ws ++ (if n + 1 ≤ ws.length ∧ canB p (ws.take (n + 1)) = true then rdL ps (setF p.k (ws.take (n + 1)) a) (ws.drop (n + 1)) else []) := by
  unfold rdN
  rw [List.range_succ, List.flatMap_append]
  simp
theorem rdN_ge {n : Nat} {p : Pt} {ps : List Pt} {a : Ad} {ws : List W} (h : min 4 ws.length ≤ n) (hn : n ≤ 4) : rdN n p ps a ws = rdN 4 p ps a ws := by
  have step : ∀ m, min 4 ws.length ≤ m → m < 4 → rdN (m + 1) p ps a ws = rdN m p ps a ws := by
    intro m h1 h2
    rw [rdN_succ, if_neg (by omega), List.append_nil]
  have : ∀ d, n + d ≤ 4 → rdN (n + d) p ps a ws = rdN n p ps a ws := by
    intro d
    induction d with
    | zero => intro _; rfl
    | succ d ih => intro hd; rw [← Nat.add_assoc, step (n + d) (by omega) (by omega), ih (by omega)]
  have := this (4 - n) (by omega)
  rw [show n + (4 - n) = 4 by omega] at this
  exact this.symm
theorem mem_rdL {p : Pt} {ps : List Pt} {a x : Ad} {ws : List W} : x ∈ rdL (p :: ps) a ws ↔ ∃ n, 1 ≤ n ∧ n ≤ ws.length ∧ n ≤ 4 ∧ canB p (ws.take n) = true ∧ x ∈ rdL ps (setF p.k (ws.take n) a) (ws.drop n) := by
  rw [rdL_cons]
  unfold rdN
  simp only [List.mem_flatMap, List.mem_range]
  constructor
  · rintro ⟨i, hi, hx⟩
    split at hx
    · rename_i h; exact ⟨i + 1, by omega, h.1, by omega, h.2, hx⟩
    · cases hx
  · rintro ⟨n, h1, h2, h3, h4, hx⟩
    refine ⟨n - 1, by omega, ?_⟩
    rw [show n - 1 + 1 = n by omega, if_pos ⟨h2, h4⟩]
    exact hx

/-- A line that is read: its parts and its words. -/
abbrev Ln := List Pt × List W
def rdA : List Ln → Ad → List Ad
  | [], a => [a]
  | l :: r, a => (rdL l.1 a l.2).flatMap (rdA r)
theorem rdA_nil (a : Ad) : rdA [] a = [a] := rfl
theorem rdA_cons (l : Ln) (r : List Ln) (a : Ad) : rdA (l :: r) a = (rdL l.1 a l.2).flatMap (rdA r) := rfl
/-- The readings of the rest of a line, and of the lines behind it. -/
def rdG (ps : List Pt) (a : Ad) (ws : List W) (r : List Ln) : List Ad := (rdL ps a ws).flatMap (rdA r)
theorem rdG_nil (a : Ad) (ws : List W) (r : List Ln) : rdG [] a ws r = if ws = [] then rdA r a else [] := by
  unfold rdG; rw [rdL_nil]; split <;> simp
theorem rdG_rest (l : Ln) (r : List Ln) (a : Ad) : rdG [] a [] (l :: r) = rdG l.1 a l.2 r := by
  rw [rdG_nil, if_pos rfl, rdA_cons]; rfl
def rdGN (n : Nat) (p : Pt) (ps : List Pt) (a : Ad) (ws : List W) (r : List Ln) : List Ad := (rdN n p ps a ws).flatMap (rdA r)
theorem rdGN_zero (p : Pt) (ps : List Pt) (a : Ad) (ws : List W) (r : List Ln) : rdGN 0 p ps a ws r = [] := rfl
theorem rdGN_yes {n : Nat} {p : Pt} {ps : List Pt} {a : Ad} {ws : List W} {r : List Ln} (h : n + 1 ≤ ws.length) (hc : canB p (ws.take (n + 1)) = true) : rdGN (n + 1) p ps a ws r = rdGN n p ps a ws r ++ rdG ps (setF p.k (ws.take (n + 1)) a) (ws.drop (n + 1)) r := by
  unfold rdGN rdG; rw [rdN_succ, if_pos ⟨h, hc⟩, List.flatMap_append]
theorem rdGN_no {n : Nat} {p : Pt} {ps : List Pt} {a : Ad} {ws : List W} {r : List Ln} (hc : canB p (ws.take (n + 1)) = false) : rdGN (n + 1) p ps a ws r = rdGN n p ps a ws r := by
  unfold rdGN; rw [rdN_succ, if_neg (fun h => by rw [hc] at h; exact absurd h.2 (by simp)), List.append_nil]
theorem rdGN_all {n : Nat} {p : Pt} {ps : List Pt} {a : Ad} {ws : List W} {r : List Ln} (h : min 4 ws.length ≤ n) (hn : n ≤ 4) : rdGN n p ps a ws r = rdG (p :: ps) a ws r := by
  unfold rdGN rdG; rw [rdL_cons, rdN_ge h hn]

/-- Addresses that agree but for the fields of some kinds. -/
structure Off (K : Int → Prop) (a b : Ad) : Prop where
  n : ¬ K 2 → a.number = b.number
  c : ¬ K 3 → a.code = b.code
  s : ¬ K 4 → a.street = b.street
  t : ¬ K 5 → a.town = b.town
  p : ¬ K 6 → a.person = b.person
def kin (ps : List Pt) (k : Int) : Prop := ∃ p ∈ ps, p.k = k
def kinR (r : List Ln) (k : Int) : Prop := ∃ l ∈ r, kin l.1 k
def kinG (ps : List Pt) (r : List Ln) (k : Int) : Prop := kin ps k ∨ kinR r k
theorem Off.refl (K : Int → Prop) (a : Ad) : Off K a a := ⟨fun _ => rfl, fun _ => rfl, fun _ => rfl, fun _ => rfl, fun _ => rfl⟩
theorem Off.mono {K L : Int → Prop} {a b : Ad} (h : Off K a b) (hk : ∀ k, K k → L k) : Off L a b :=
  ⟨fun g => h.n fun x => g (hk _ x), fun g => h.c fun x => g (hk _ x), fun g => h.s fun x => g (hk _ x), fun g => h.t fun x => g (hk _ x), fun g => h.p fun x => g (hk _ x)⟩
theorem Off.trans {K : Int → Prop} {a b c : Ad} (h : Off K a b) (g : Off K b c) : Off K a c :=
  ⟨fun k => (h.n k).trans (g.n k), fun k => (h.c k).trans (g.c k), fun k => (h.s k).trans (g.s k), fun k => (h.t k).trans (g.t k), fun k => (h.p k).trans (g.p k)⟩
theorem Off.symm {K : Int → Prop} {a b : Ad} (h : Off K a b) : Off K b a := ⟨fun g => (h.n g).symm, fun g => (h.c g).symm, fun g => (h.s g).symm, fun g => (h.t g).symm, fun g => (h.p g).symm⟩
theorem Off.eq {K : Int → Prop} {a b : Ad} (h : Off K a b) (hk : ∀ k, ¬ K k) : a = b := ad_ext (h.p (hk _)) (h.s (hk _)) (h.n (hk _)) (h.c (hk _)) (h.t (hk _))
theorem nor {a k : Int} {K : Int → Prop} (h : a ≠ k) (g : ¬ K a) : ¬ (a = k ∨ K a) := fun o => o.elim h g
/-- A part sets its field alone. -/
theorem off_set (k : Int) (ws : List W) (a : Ad) : Off (fun x => x = k) a (setF k ws a) := by
  unfold setF
  constructor <;> intro g <;> (repeat' split) <;> first | rfl | (exfalso; apply g; rename_i h; first | exact h.symm | (exact Eq.symm ‹_›))
/-- .. and what it sets does not depend on what was there. -/
theorem set_off {K : Int → Prop} {k : Int} {ws : List W} {a b : Ad} (h : Off (fun x => x = k ∨ K x) a b) : Off K (setF k ws a) (setF k ws b) := by
  unfold setF
  by_cases h2 : k = 2
  · subst h2; simp only [if_true]
    exact ⟨fun _ => rfl, fun g => h.c (nor (by decide) g), fun g => h.s (nor (by decide) g), fun g => h.t (nor (by decide) g), fun g => h.p (nor (by decide) g)⟩
  by_cases h3 : k = 3
  · subst h3; simp only [if_true]
    exact ⟨fun g => h.n (nor (by decide) g), fun _ => rfl, fun g => h.s (nor (by decide) g), fun g => h.t (nor (by decide) g), fun g => h.p (nor (by decide) g)⟩
  by_cases h4 : k = 4
  · subst h4; simp only [if_true]
    exact ⟨fun g => h.n (nor (by decide) g), fun g => h.c (nor (by decide) g), fun _ => rfl, fun g => h.t (nor (by decide) g), fun g => h.p (nor (by decide) g)⟩
  by_cases h5 : k = 5
  · subst h5; simp only [if_true]
    exact ⟨fun g => h.n (nor (by decide) g), fun g => h.c (nor (by decide) g), fun g => h.s (nor (by decide) g), fun _ => rfl, fun g => h.p (nor (by decide) g)⟩
  by_cases h6 : k = 6
  · subst h6; simp only [if_true]
    exact ⟨fun g => h.n (nor (by decide) g), fun g => h.c (nor (by decide) g), fun g => h.s (nor (by decide) g), fun g => h.t (nor (by decide) g), fun _ => rfl⟩
  · simp only [if_neg h2, if_neg h3, if_neg h4, if_neg h5, if_neg h6]
    exact ⟨fun g => h.n (nor (fun e => h2 e.symm) g), fun g => h.c (nor (fun e => h3 e.symm) g), fun g => h.s (nor (fun e => h4 e.symm) g), fun g => h.t (nor (fun e => h5 e.symm) g), fun g => h.p (nor (fun e => h6 e.symm) g)⟩
/-- Fields that are read later need not be cleared. -/
theorem rdG_off (ps : List Pt) (ws : List W) (r : List Ln) (a b : Ad) (h : Off (kinG ps r) a b) : rdG ps a ws r = rdG ps b ws r := by
  induction r generalizing ps ws a b with
  | nil =>
    induction ps generalizing ws a b with
    | nil => rw [h.eq (fun k => by rintro (⟨p, hp, -⟩ | ⟨l, hl, -⟩) <;> (first | cases hp | cases hl))]
    | cons p ps ih =>
      unfold rdG
      rw [rdL_cons, rdL_cons]
      unfold rdN
      rw [List.flatMap_assoc, List.flatMap_assoc]
      refine congrArg (List.flatMap · _) (funext fun i => ?_)
      split
      · refine ih _ _ _ (set_off (h.mono fun k => ?_))
        rintro (⟨q, hq, rfl⟩ | hk)
        · rcases List.mem_cons.1 hq with rfl | hq
          · exact .inl rfl
          · exact .inr (.inl ⟨q, hq, rfl⟩)
        · exact .inr (.inr hk)
      · rfl
  | cons l r ihr =>
    induction ps generalizing ws a b with
    | nil =>
      rw [rdG_nil, rdG_nil]
      split
      · refine ihr l.1 l.2 a b (h.mono fun k => ?_)
        rintro (⟨p, hp, -⟩ | ⟨m, hm, hk⟩)
        · cases hp
        · rcases List.mem_cons.1 hm with rfl | hm
          · exact .inl hk
          · exact .inr ⟨m, hm, hk⟩
      · rfl
    | cons p ps ih =>
      unfold rdG
      rw [rdL_cons, rdL_cons]
      unfold rdN
      rw [List.flatMap_assoc, List.flatMap_assoc]
      refine congrArg (List.flatMap · _) (funext fun i => ?_)
      split
      · refine ih _ _ _ (set_off (h.mono fun k => ?_))
        rintro (⟨q, hq, rfl⟩ | hk)
        · rcases List.mem_cons.1 hq with rfl | hq
          · exact .inl rfl
          · exact .inr (.inl ⟨q, hq, rfl⟩)
        · exact .inr (.inr hk)
      · rfl

end Fm
end Go.Proofs.YtcaiejbnhjiflaaGreatDoor
