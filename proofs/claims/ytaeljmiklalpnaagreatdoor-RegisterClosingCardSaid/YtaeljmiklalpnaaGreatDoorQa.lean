/-
  Plain mathematics of layer 5.
-/
import Derived.Lib.MapLaws
import Derived.Lib.TrimUEq
import Derived.Lib.TrimAscii
import Derived.Lib.SlTrimSet
import Derived.Lib.Split
import Derived.Lib.IndexLaws
import Derived.Lib.IndexBytes
import Derived.Lib.CutLaws
import Derived.KernelRfl
namespace Go.Proofs.YtaeljmiklalpnaaGreatDoor
namespace Rg

abbrev W := List UInt8
def lowB (b : UInt8) : UInt8 := if 65 ≤ b.toNat ∧ b.toNat ≤ 90 then b + 32 else b
def foldW (l : W) : W := l.map lowB
def eqW (a b : W) : Bool := decide (foldW a = foldW b)
theorem eqW_iff (a b : W) : eqW a b = true ↔ foldW a = foldW b := by unfold eqW; exact decide_eq_true_iff
theorem eqW_refl (a : W) : eqW a a = true := (eqW_iff _ _).2 rfl
theorem eqW_symm {a b : W} (h : eqW a b = true) : eqW b a = true := (eqW_iff _ _).2 ((eqW_iff _ _).1 h).symm
theorem eqW_trans {a b c : W} (h : eqW a b = true) (g : eqW b c = true) : eqW a c = true := (eqW_iff _ _).2 (((eqW_iff _ _).1 h).trans ((eqW_iff _ _).1 g))

/-! ### Names and codes -/
def letB (b : UInt8) : Bool := decide (97 ≤ (lowB b).toNat) && decide ((lowB b).toNat ≤ 122)
def digB (b : UInt8) : Bool := decide (48 ≤ b.toNat) && decide (b.toNat ≤ 57)
def namB (b : UInt8) : Bool := letB b || digB b || decide (b.toNat = 45) || decide (b.toNat = 39)
/-- The rest of a name, behind n bytes of its word number k. -/
def nameF : Nat → Nat → W → Bool
  | k, n, [] => decide (0 < n) && decide (k ≤ 4)
  | k, n, b :: l => if b.toNat = 32 then decide (0 < n) && nameF (k + 1) 0 l else namB b && decide (n + 1 ≤ 20) && nameF k (n + 1) l
def nameW (l : W) : Bool := nameF 1 0 l
def codB (b : UInt8) : Bool := (decide (65 ≤ b.toNat) && decide (b.toNat ≤ 90)) || digB b
def codeW (l : W) : Bool := decide (1 ≤ l.length) && decide (l.length ≤ 8) && l.all codB
theorem nameF_len {k n : Nat} {l : W} (h : nameF k n l = true) (hk1 : 1 ≤ k) (hk : k ≤ 5) (hn : n ≤ 20) : l.length + n + (k - 1) * 21 ≤ 104 := by
  induction l generalizing k n with
  | nil =>
    simp only [nameF, Bool.and_eq_true, decide_eq_true_eq] at h
    obtain ⟨_, h4⟩ := h
    have : (k - 1) * 21 ≤ 3 * 21 := Nat.mul_le_mul_right _ (by omega)
    simp only [List.length_nil]; omega
  | cons b l ih =>
    rw [nameF] at h
    split at h
    · rw [Bool.and_eq_true] at h
      by_cases hk4 : k ≤ 4
      · have := ih h.2 (by omega) (by omega) (by omega)
        rw [List.length_cons]
        rw [show k + 1 - 1 = k by omega] at this
        have e : k * 21 = (k - 1) * 21 + 21 ∨ k = 0 := by omega
        omega
      · have hk5 : k = 5 := by omega
        exfalso
        have H : ∀ (l : W) (k n : Nat), 5 ≤ k → nameF k n l = false := by
          intro l
          induction l with
          | nil => intro k n hk; simp [nameF]; omega
          | cons b l ih =>
            intro k n hk
            rw [nameF]
            split
            · rw [ih _ _ (by omega), Bool.and_false]
            · rw [ih _ _ hk, Bool.and_false]
        rw [H _ _ _ (by omega)] at h
        exact absurd h.2 (by simp)
    · simp only [Bool.and_eq_true, decide_eq_true_eq] at h
      have := ih h.2 hk1 hk h.1.2
      rw [List.length_cons]; omega
theorem name_len {l : W} (h : nameW l = true) : l.length ≤ 104 := by have := nameF_len h (by omega) (by omega) (by omega); omega
theorem code_len {l : W} (h : codeW l = true) : l.length ≤ 8 := by
  unfold codeW at h
  simp only [Bool.and_eq_true, decide_eq_true_eq] at h
  exact h.1.2
theorem nameF_nil {k : Nat} : nameF k 0 [] = false := rfl
theorem name_ne {l : W} (h : nameW l = true) : l ≠ [] := by rintro rfl; cases h

/-! ### Streets and changes -/
structure St where
  code : W
  town : W
  name : W
  al : List W
  low : Int
  high : Int
  shift : Int
  isOpen : Bool
structure Ch where
  day : Int
  kind : Int
  street : Int
  code : W
  town : W
  name : W
  low : Int
  high : Int
  shift : Int
def namesS (s : St) : List W := s.name :: s.al
def named (s : St) (z : W) : Bool := (namesS s).any fun y => eqW y z
theorem named_iff (s : St) (z : W) : named s z = true ↔ ∃ y ∈ namesS s, eqW y z = true := by unfold named; rw [List.any_eq_true]
theorem named_fold {s : St} {a b : W} (h : eqW a b = true) : named s a = named s b := by
  rw [Bool.eq_iff_iff, named_iff, named_iff]
  exact ⟨fun ⟨y, hy, he⟩ => ⟨y, hy, eqW_trans he h⟩, fun ⟨y, hy, he⟩ => ⟨y, hy, eqW_trans he (eqW_symm h)⟩⟩
def common (a b : St) : Bool := (namesS a).any fun y => named b y
theorem common_iff (a b : St) : common a b = true ↔ ∃ y ∈ namesS a, ∃ z ∈ namesS b, eqW z y = true := by
  unfold common
  simp only [List.any_eq_true, named_iff]
theorem common_symm {a b : St} (h : common a b = true) : common b a = true := by
  obtain ⟨y, hy, z, hz, he⟩ := (common_iff _ _).1 h
  exact (common_iff _ _).2 ⟨z, hz, y, hy, eqW_symm he⟩
theorem common_of {a b : St} {z : W} (h : named a z = true) (g : named b z = true) : common a b = true := by
  obtain ⟨y, hy, he⟩ := (named_iff _ _).1 h
  obtain ⟨x, hx, hf⟩ := (named_iff _ _).1 g
  exact (common_iff _ _).2 ⟨y, hy, x, hx, eqW_trans hf (eqW_symm he)⟩
/-- Two streets clash. -/
def clash2 (a b : St) : Bool := a.isOpen && b.isOpen && decide (a.code = b.code) && decide (a.low ≤ b.high) && decide (b.low ≤ a.high) && common a b
theorem clash2_iff (a b : St) : clash2 a b = true ↔ a.isOpen = true ∧ b.isOpen = true ∧ a.code = b.code ∧ a.low ≤ b.high ∧ b.low ≤ a.high ∧ common a b = true := by
  unfold clash2
  simp only [Bool.and_eq_true, decide_eq_true_eq, and_assoc]
theorem clash2_symm {a b : St} (h : clash2 a b = true) : clash2 b a = true := by
  obtain ⟨h1, h2, h3, h4, h5, h6⟩ := (clash2_iff _ _).1 h
  exact (clash2_iff _ _).2 ⟨h2, h1, h3.symm, h5, h4, common_symm h6⟩
/-- The street number n clashes with another one. -/
def clashAt (l : List St) (n : Nat) : Bool := (List.range l.length).any fun i => decide (i ≠ n) && (match l[i]?, l[n]? with | some s, some t => clash2 s t | _, _ => false)
theorem clashAt_no {l : List St} {n : Nat} : clashAt l n = false ↔ ∀ i s t, i ≠ n → l[i]? = some s → l[n]? = some t → clash2 s t = false := by
  unfold clashAt
  rw [List.any_eq_false]
  constructor
  · intro h i s t hi hs ht
    have hl := (List.getElem?_eq_some_iff.1 hs).1
    have := h i (List.mem_range.2 hl)
    rw [hs, ht] at this
    simpa [hi] using this
  · intro h i _
    by_cases hi : i = n
    · simp [hi]
    · cases hs : l[i]? with
      | none => simp
      | some s =>
        cases ht : l[n]? with
        | none => simp
        | some t => simp [h i s t hi hs ht]

def houseB (n : Int) : Bool := decide (1 ≤ n) && decide (n ≤ 9999)
theorem houseB_iff (n : Int) : houseB n = true ↔ 1 ≤ n ∧ n ≤ 9999 := by simp [houseB]
/-- A change has the fields that its kind uses, and no others. -/
def formedB (c : Ch) : Bool :=
  decide (-1000000 ≤ c.day) && decide (c.day ≤ 1000000) && decide (1 ≤ c.kind) && decide (c.kind ≤ 6) &&
  (if c.kind = 1 ∨ c.kind = 2 ∨ c.kind = 5 then nameW c.name else decide (c.name = [])) &&
  (if c.kind = 1 ∨ c.kind = 3 then codeW c.code else decide (c.code = [])) &&
  (if c.kind = 1 then nameW c.town && houseB c.low && houseB c.high && decide (c.low ≤ c.high) && decide (c.street = 0) else decide (c.town = []) && decide (c.low = 0) && decide (c.high = 0)) &&
  (decide (c.kind = 4) || decide (c.shift = 0))
/-- What a change makes of its street. -/
def chg (c : Ch) (s : St) : St :=
  if c.kind = 2 then { s with name := c.name } else if c.kind = 3 then { s with code := c.code } else if c.kind = 4 then { s with low := s.low + c.shift, high := s.high + c.shift, shift := s.shift + c.shift }
  else if c.kind = 5 then { s with al := s.al ++ [c.name] } else { s with isOpen := false }
def newS (c : Ch) : St := ⟨c.code, c.town, c.name, [], c.low, c.high, 0, true⟩
def stp (l : List St) (c : Ch) : List St :=
  if c.kind = 1 then l ++ [newS c] else match l[c.street.toNat]? with | some s => l.set c.street.toNat (chg c s) | none => l
/-- The number of the street that a change is about. -/
def trg (l : List St) (c : Ch) : Nat := if c.kind = 1 then l.length else c.street.toNat
def hasB (l : List St) (n : Int) : Bool := decide (0 ≤ n) && (match l[n.toNat]? with | some s => s.isOpen | none => false)
def roomB (l : List St) (c : Ch) : Bool := match l[c.street.toNat]? with | some s => houseB (s.low + c.shift) && houseB (s.high + c.shift) | none => false
def twiceB (l : List St) (c : Ch) : Bool := match l[c.street.toNat]? with | some s => named s c.name | none => false
/-- The error of a change. -/
def errR (l : List St) (c : Ch) : Int :=
  if formedB c = false then 1 else if c.kind ≠ 1 ∧ hasB l c.street = false then 3 else if c.kind = 4 ∧ roomB l c = false then 1 else if c.kind = 5 ∧ twiceB l c = true then 4
  else if clashAt (stp l c) (trg l c) = true then 51 else 0
theorem hasB_iff (l : List St) (n : Int) : hasB l n = true ↔ 0 ≤ n ∧ ∃ s, l[n.toNat]? = some s ∧ s.isOpen = true := by
  unfold hasB
  rw [Bool.and_eq_true, decide_eq_true_eq]
  refine and_congr_right fun _ => ?_
  cases l[n.toNat]? <;> simp
/-- What is known of a change without an error. -/
structure OkC (l : List St) (c : Ch) : Prop where
  formed : formedB c = true
  has : c.kind ≠ 1 → 0 ≤ c.street ∧ ∃ s, l[c.street.toNat]? = some s ∧ s.isOpen = true
  room : c.kind = 4 → ∀ s, l[c.street.toNat]? = some s → houseB (s.low + c.shift) = true ∧ houseB (s.high + c.shift) = true
  twice : c.kind = 5 → ∀ s, l[c.street.toNat]? = some s → named s c.name = false
  clash : clashAt (stp l c) (trg l c) = false
theorem ok_iff (l : List St) (c : Ch) : errR l c = 0 ↔ OkC l c := by
  unfold errR
  constructor
  · intro h
    by_cases h1 : formedB c = false
    · rw [if_pos h1] at h; cases h
    rw [if_neg h1] at h
    by_cases h2 : c.kind ≠ 1 ∧ hasB l c.street = false
    · rw [if_pos h2] at h; cases h
    rw [if_neg h2] at h
    by_cases h3 : c.kind = 4 ∧ roomB l c = false
    · rw [if_pos h3] at h; cases h
    rw [if_neg h3] at h
    by_cases h4 : c.kind = 5 ∧ twiceB l c = true
    · rw [if_pos h4] at h; cases h
    rw [if_neg h4] at h
    by_cases h5 : clashAt (stp l c) (trg l c) = true
    · rw [if_pos h5] at h; cases h
    refine ⟨by simpa using h1, fun hk => (hasB_iff _ _).1 (by have := fun q => h2 ⟨hk, q⟩; simpa using this), fun hk s hs => ?_, fun hk s hs => ?_, by simpa using h5⟩
    · have := fun q => h3 ⟨hk, q⟩
      unfold roomB at this
      rw [hs] at this
      simpa using this
    · have := fun q => h4 ⟨hk, q⟩
      unfold twiceB at this
      rw [hs] at this
      simpa using this
  · intro h
    rw [if_neg (by rw [h.formed]; simp), if_neg (fun ⟨hk, q⟩ => by rw [(hasB_iff _ _).2 (h.has hk)] at q; cases q), if_neg ?_, if_neg ?_, if_neg (by rw [h.clash]; simp)]
    · rintro ⟨hk, q⟩
      obtain ⟨_, s, hs, _⟩ := h.has (by omega)
      unfold twiceB at q
      rw [hs] at q
      simp only at q
      rw [h.twice hk s hs] at q; cases q
    · rintro ⟨hk, q⟩
      obtain ⟨_, s, hs, _⟩ := h.has (by omega)
      unfold roomB at q
      rw [hs] at q
      obtain ⟨a, b⟩ := h.room hk s hs
      simp only at q
      rw [a, b] at q; cases q

end Rg
end Go.Proofs.YtaeljmiklalpnaaGreatDoor

namespace Go.Proofs.YtaeljmiklalpnaaGreatDoor
namespace Rg

structure GoodS (s : St) : Prop where
  code : codeW s.code = true
  town : nameW s.town = true
  name : nameW s.name = true
  al : ∀ y ∈ s.al, nameW y = true
  lo : 1 ≤ s.low
  le : s.low ≤ s.high
  hi : s.high ≤ 9999
  o1 : 1 ≤ s.low - s.shift
  o2 : s.high - s.shift ≤ 9999
structure Inv (l : List St) : Prop where
  apart : ∀ (i j : Nat) (s t : St), i ≠ j → l[i]? = some s → l[j]? = some t → clash2 s t = false
  good : ∀ s ∈ l, GoodS s
/-- The fields of a change. -/
structure FmC (c : Ch) : Prop where
  day : -1000000 ≤ c.day ∧ c.day ≤ 1000000
  kind : 1 ≤ c.kind ∧ c.kind ≤ 6
  name : c.kind = 1 ∨ c.kind = 2 ∨ c.kind = 5 → nameW c.name = true
  noname : ¬ (c.kind = 1 ∨ c.kind = 2 ∨ c.kind = 5) → c.name = []
  code : c.kind = 1 ∨ c.kind = 3 → codeW c.code = true
  nocode : ¬ (c.kind = 1 ∨ c.kind = 3) → c.code = []
  new : c.kind = 1 → nameW c.town = true ∧ 1 ≤ c.low ∧ c.low ≤ c.high ∧ c.high ≤ 9999 ∧ c.street = 0
  nonew : c.kind ≠ 1 → c.town = [] ∧ c.low = 0 ∧ c.high = 0
  shift : c.kind ≠ 4 → c.shift = 0
theorem formed_iff (c : Ch) : formedB c = true ↔ FmC c := by
  unfold formedB
  simp only [Bool.and_eq_true, decide_eq_true_eq, Bool.or_eq_true]
  constructor
  · rintro ⟨⟨⟨⟨⟨⟨⟨h1, h2⟩, h3⟩, h4⟩, h5⟩, h6⟩, h7⟩, h8⟩
    refine ⟨⟨h1, h2⟩, ⟨h3, h4⟩, fun h => by rwa [if_pos h] at h5, fun h => by rw [if_neg h] at h5; exact of_decide_eq_true h5, fun h => by rwa [if_pos h] at h6, fun h => by rw [if_neg h] at h6; exact of_decide_eq_true h6, fun h => ?_, fun h => ?_, fun h => h8.resolve_left h⟩
    · rw [if_pos h] at h7
      simp only [Bool.and_eq_true, decide_eq_true_eq, houseB_iff] at h7
      obtain ⟨⟨⟨⟨a, b⟩, d⟩, e⟩, f⟩ := h7
      exact ⟨a, b.1, e, d.2, f⟩
    · rw [if_neg h] at h7
      simp only [Bool.and_eq_true, decide_eq_true_eq] at h7
      exact ⟨h7.1.1, h7.1.2, h7.2⟩
  · intro h
    refine ⟨⟨⟨⟨⟨⟨⟨h.day.1, h.day.2⟩, h.kind.1⟩, h.kind.2⟩, ?_⟩, ?_⟩, ?_⟩, ?_⟩
    · by_cases k : c.kind = 1 ∨ c.kind = 2 ∨ c.kind = 5
      · rw [if_pos k]; exact h.name k
      · rw [if_neg k]; exact decide_eq_true (h.noname k)
    · by_cases k : c.kind = 1 ∨ c.kind = 3
      · rw [if_pos k]; exact h.code k
      · rw [if_neg k]; exact decide_eq_true (h.nocode k)
    · by_cases k : c.kind = 1
      · rw [if_pos k]
        obtain ⟨a, b, d, e, f⟩ := h.new k
        simp only [Bool.and_eq_true, decide_eq_true_eq, houseB_iff]
        exact ⟨⟨⟨⟨a, b, by omega⟩, by omega, e⟩, d⟩, f⟩
      · rw [if_neg k]
        obtain ⟨a, b, d⟩ := h.nonew k
        simp only [Bool.and_eq_true, decide_eq_true_eq]
        exact ⟨⟨a, b⟩, d⟩
    · by_cases k : c.kind = 4
      · exact .inl k
      · exact .inr (h.shift k)

theorem stp_open {l : List St} {c : Ch} (h : c.kind = 1) : stp l c = l ++ [newS c] := by unfold stp; rw [if_pos h]
theorem stp_set {l : List St} {c : Ch} {s : St} (h : c.kind ≠ 1) (hs : l[c.street.toNat]? = some s) : stp l c = l.set c.street.toNat (chg c s) := by unfold stp; rw [if_neg h, hs]
theorem trg_open {l : List St} {c : Ch} (h : c.kind = 1) : trg l c = l.length := by unfold trg; rw [if_pos h]
theorem trg_set {l : List St} {c : Ch} (h : c.kind ≠ 1) : trg l c = c.street.toNat := by unfold trg; rw [if_neg h]
theorem stp_ne {l : List St} {c : Ch} (h : OkC l c) {i : Nat} (hi : i ≠ trg l c) : (stp l c)[i]? = l[i]? := by
  by_cases k : c.kind = 1
  · rw [trg_open k] at hi
    rw [stp_open k]
    by_cases hl : i < l.length
    · rw [List.getElem?_append_left hl]
    · rw [List.getElem?_eq_none (by rw [List.length_append]; simp; omega), List.getElem?_eq_none (by omega)]
  · obtain ⟨_, s, hs, _⟩ := h.has k
    rw [trg_set k] at hi
    rw [stp_set k hs, List.getElem?_set_ne (fun e => hi e.symm)]
theorem stp_ne_open {l : List St} {c : Ch} (k : c.kind = 1) {i : Nat} (hi : i ≠ l.length) : (stp l c)[i]? = l[i]? := by
  rw [stp_open k]
  by_cases hl : i < l.length
  · rw [List.getElem?_append_left hl]
  · rw [List.getElem?_eq_none (by rw [List.length_append]; simp; omega), List.getElem?_eq_none (by omega)]
theorem stp_new {l : List St} {c : Ch} (k : c.kind = 1) : (stp l c)[l.length]? = some (newS c) := by rw [stp_open k]; simp
theorem stp_at {l : List St} {c : Ch} {s : St} (k : c.kind ≠ 1) (hs : l[c.street.toNat]? = some s) : (stp l c)[c.street.toNat]? = some (chg c s) := by
  rw [stp_set k hs]
  have := (List.getElem?_eq_some_iff.1 hs).1
  rw [List.getElem?_set_self (by simpa using this)]
theorem stp_len {l : List St} {c : Ch} : (stp l c).length = l.length + if c.kind = 1 then 1 else 0 := by
  unfold stp
  split
  · rw [List.length_append]; rfl
  · split
    · rw [List.length_set]; rfl
    · rfl
theorem stp_mem {l : List St} {c : Ch} (h : OkC l c) {s : St} (hs : s ∈ stp l c) : s ∈ l ∨ (c.kind = 1 ∧ s = newS c) ∨ (c.kind ≠ 1 ∧ ∃ t, l[c.street.toNat]? = some t ∧ t.isOpen = true ∧ s = chg c t) := by
  by_cases k : c.kind = 1
  · rw [stp_open k] at hs
    rcases List.mem_append.1 hs with h | h
    · exact .inl h
    · exact .inr (.inl ⟨k, List.mem_singleton.1 h⟩)
  · obtain ⟨_, t, ht, ho⟩ := h.has k
    rw [stp_set k ht] at hs
    rcases List.mem_or_eq_of_mem_set hs with h | h
    · exact .inl h
    · exact .inr (.inr ⟨k, t, ht, ho, h⟩)
theorem good_new {c : Ch} (h : FmC c) (k : c.kind = 1) : GoodS (newS c) := by
  obtain ⟨a, b, d, e, _⟩ := h.new k
  exact ⟨h.code (.inl k), a, h.name (.inl k), (fun y hy => by cases hy), b, d, e, by show 1 ≤ c.low - 0; omega, by show c.high - 0 ≤ 9999; omega⟩
theorem good_chg {l : List St} {c : Ch} {s : St} (h : OkC l c) (_k : c.kind ≠ 1) (hs : l[c.street.toNat]? = some s) (g : GoodS s) : GoodS (chg c s) := by
  have f := (formed_iff c).1 h.formed
  unfold chg
  by_cases k2 : c.kind = 2
  · rw [if_pos k2]; exact ⟨g.code, g.town, f.name (.inr (.inl k2)), g.al, g.lo, g.le, g.hi, g.o1, g.o2⟩
  rw [if_neg k2]
  by_cases k3 : c.kind = 3
  · rw [if_pos k3]; exact ⟨f.code (.inr k3), g.town, g.name, g.al, g.lo, g.le, g.hi, g.o1, g.o2⟩
  rw [if_neg k3]
  by_cases k4 : c.kind = 4
  · rw [if_pos k4]
    obtain ⟨a, b⟩ := h.room k4 s hs
    have a := (houseB_iff _).1 a
    have b := (houseB_iff _).1 b
    have h1 := g.le
    have h2 := g.o1
    have h3 := g.o2
    exact ⟨g.code, g.town, g.name, g.al, a.1, by show s.low + c.shift ≤ s.high + c.shift; omega, b.2, by show 1 ≤ s.low + c.shift - (s.shift + c.shift); omega, by show s.high + c.shift - (s.shift + c.shift) ≤ 9999; omega⟩
  rw [if_neg k4]
  by_cases k5 : c.kind = 5
  · rw [if_pos k5]
    refine ⟨g.code, g.town, g.name, fun y hy => ?_, g.lo, g.le, g.hi, g.o1, g.o2⟩
    rcases List.mem_append.1 hy with h | h
    · exact g.al y h
    · rw [List.mem_singleton.1 h]; exact f.name (.inr (.inr k5))
  · rw [if_neg k5]; exact ⟨g.code, g.town, g.name, g.al, g.lo, g.le, g.hi, g.o1, g.o2⟩
theorem Inv.nil : Inv [] := ⟨fun i j s t _ h => by simp at h, fun s h => by cases h⟩
theorem Inv.step {l : List St} {c : Ch} (h : Inv l) (ok : OkC l c) : Inv (stp l c) := by
  refine ⟨fun i j s t hij hs ht => ?_, fun s hs => ?_⟩
  · by_cases hj : j = trg l c
    · subst hj
      exact clashAt_no.1 ok.clash i s t hij hs ht
    · by_cases hi : i = trg l c
      · subst hi
        have := clashAt_no.1 ok.clash j t s hj ht hs
        rw [Bool.eq_false_iff] at this ⊢
        exact fun e => this (clash2_symm e)
      · rw [stp_ne ok hi] at hs
        rw [stp_ne ok hj] at ht
        exact h.apart i j s t hij hs ht
  · rcases stp_mem ok hs with h1 | ⟨k, rfl⟩ | ⟨k, t, ht, _, rfl⟩
    · exact h.good s h1
    · exact good_new ((formed_iff c).1 ok.formed) k
    · exact good_chg ok k ht (h.good t (List.mem_of_getElem? ht))

/-- The streets behind some changes. -/
def runL (r : List Ch) : List St := r.foldl stp []
theorem run_take {r : List Ch} {i : Nat} {c : Ch} (h : r[i]? = some c) : runL (r.take (i + 1)) = stp (runL (r.take i)) c := by
  unfold runL
  rw [List.take_add_one, h, List.foldl_append]; rfl
structure Sound (r : List Ch) : Prop where
  few : r.length ≤ 60
  days : ∀ (i : Nat) (c d : Ch), r[i]? = some c → r[i + 1]? = some d → c.day ≤ d.day
  ok : ∀ (i : Nat) (c : Ch), r[i]? = some c → OkC (runL (r.take i)) c
theorem Sound.take {r : List Ch} (h : Sound r) (k : Nat) : Sound (r.take k) := by
  refine ⟨by have := h.few; rw [List.length_take]; omega, fun i c d hc hd => ?_, fun i c hc => ?_⟩
  · rw [List.getElem?_take] at hc hd
    split at hd
    · rw [if_pos (by omega)] at hc
      exact h.days i c d hc hd
    · cases hd
  · rw [List.getElem?_take] at hc
    split at hc
    · rw [List.take_take, Nat.min_eq_left (by omega)]
      exact h.ok i c hc
    · cases hc
theorem Sound.inv {r : List Ch} (h : Sound r) : Inv (runL r) := by
  have H : ∀ k, k ≤ r.length → Inv (runL (r.take k)) := by
    intro k
    induction k with
    | zero => intro _; exact Inv.nil
    | succ k ih =>
      intro hk
      have hc : r[k]? = some r[k] := List.getElem?_eq_getElem (by omega)
      rw [run_take hc]
      exact (ih (by omega)).step (h.ok k _ hc)
  have := H r.length (Nat.le_refl _)
  rwa [List.take_length] at this
theorem Sound.order {r : List Ch} (h : Sound r) {i j : Nat} {c d : Ch} (hij : i ≤ j) (hc : r[i]? = some c) (hd : r[j]? = some d) : c.day ≤ d.day := by
  induction j generalizing d with
  | zero =>
    obtain rfl : i = 0 := by omega
    rw [hc] at hd; cases hd; exact Int.le_refl _
  | succ j ih =>
    by_cases e : i = j + 1
    · subst e; rw [hc] at hd; cases hd; exact Int.le_refl _
    · have hj := (List.getElem?_eq_some_iff.1 hd).1
      have he : r[j]? = some r[j] := List.getElem?_eq_getElem (by omega)
      exact Int.le_trans (ih (by omega) he) (h.days j _ d he hd)
/-- How many changes count at a day; the streets then. -/
def atN (r : List Ch) (d : Int) : Nat := (r.takeWhile fun c => decide (c.day ≤ d)).length
def atL (r : List Ch) (d : Int) : List St := runL (r.take (atN r d))
theorem takeWhile_len {α : Type} (p : α → Bool) (l : List α) : l.takeWhile p = l.take (l.takeWhile p).length := by
  induction l with
  | nil => rfl
  | cons a l ih =>
    rw [List.takeWhile_cons]
    split
    · rw [List.length_cons, List.take_succ_cons, ← ih]
    · rfl
theorem atN_le (r : List Ch) (d : Int) : atN r d ≤ r.length := by
  unfold atN
  exact (List.takeWhile_sublist _).length_le
theorem atN_lt {r : List Ch} {d : Int} {i : Nat} {c : Ch} (h : i < atN r d) (hc : r[i]? = some c) : c.day ≤ d := by
  have hm : c ∈ r.takeWhile fun c => decide (c.day ≤ d) := by
    have he := takeWhile_len (fun c : Ch => decide (c.day ≤ d)) r
    rw [he]
    refine List.mem_of_getElem? (i := i) ?_
    rw [List.getElem?_take]
    show (if i < atN r d then r[i]? else none) = _
    rw [if_pos h]; exact hc
  have := List.all_takeWhile (p := fun c : Ch => decide (c.day ≤ d)) (l := r)
  rw [List.all_eq_true] at this
  exact of_decide_eq_true (this c hm)
theorem atN_stop {r : List Ch} {d : Int} {c : Ch} (hc : r[atN r d]? = some c) : d < c.day := by
  unfold atN at hc
  have H : ∀ r : List Ch, r[(r.takeWhile fun c => decide (c.day ≤ d)).length]? = some c → d < c.day := by
    intro r
    induction r with
    | nil => intro h; simp at h
    | cons a r ih =>
      intro h
      rw [List.takeWhile_cons] at h
      split at h
      · rw [List.length_cons, List.getElem?_cons_succ] at h; exact ih h
      · rename_i hn
        simp at h
        subst h
        simpa using hn
  exact H r hc
theorem Sound.counts {r : List Ch} (h : Sound r) {d : Int} {i : Nat} {c : Ch} (hc : r[i]? = some c) : i < atN r d ↔ c.day ≤ d := by
  refine ⟨fun hi => atN_lt hi hc, fun hd => ?_⟩
  rcases Nat.lt_or_ge i (atN r d) with hi | hi
  · exact hi
  · exfalso
    have hl := (List.getElem?_eq_some_iff.1 hc).1
    have he : r[atN r d]? = some r[atN r d] := List.getElem?_eq_getElem (by omega)
    have h1 := atN_stop he
    have h2 := h.order hi he hc
    omega
theorem Sound.atInv {r : List Ch} (h : Sound r) (d : Int) : Inv (atL r d) := (h.take _).inv
theorem run_len (r : List Ch) : (runL r).length = (r.filter fun c => decide (c.kind = 1)).length := by
  have H : ∀ (r : List Ch) (l : List St), (r.foldl stp l).length = l.length + (r.filter fun c => decide (c.kind = 1)).length := by
    intro r
    induction r with
    | nil => intro l; rfl
    | cons c r ih =>
      intro l
      rw [List.foldl_cons, ih, stp_len, List.filter_cons]
      by_cases k : c.kind = 1
      · rw [if_pos k, if_pos (by simpa using k), List.length_cons]; omega
      · rw [if_neg k, if_neg (by simpa using k)]; omega
  have := H r []
  simpa [runL] using this

end Rg
end Go.Proofs.YtaeljmiklalpnaaGreatDoor

namespace Go.Proofs.YtaeljmiklalpnaaGreatDoor
namespace Rg

/-- An open street with a code, a name and a house number. -/
def hitB (code street : W) (num : Int) (s : St) : Bool := s.isOpen && decide (s.code = code) && named s street && decide (s.low ≤ num) && decide (num ≤ s.high)
theorem hit_iff (code street : W) (num : Int) (s : St) : hitB code street num s = true ↔ s.isOpen = true ∧ s.code = code ∧ named s street = true ∧ s.low ≤ num ∧ num ≤ s.high := by
  unfold hitB
  simp only [Bool.and_eq_true, decide_eq_true_eq, and_assoc]
/-- There is at most one. -/
theorem hit_one {l : List St} (h : Inv l) {code street : W} {num : Int} {i j : Nat} {s t : St} (hs : l[i]? = some s) (ht : l[j]? = some t) (h1 : hitB code street num s = true) (h2 : hitB code street num t = true) : i = j := by
  obtain ⟨a1, a2, a3, a4, a5⟩ := (hit_iff ..).1 h1
  obtain ⟨b1, b2, b3, b4, b5⟩ := (hit_iff ..).1 h2
  by_cases e : i = j
  · exact e
  · have := h.apart i j s t e hs ht
    rw [(clash2_iff _ _).2 ⟨a1, b1, a2.trans b2.symm, by omega, by omega, common_of a3 b3⟩] at this
    cases this
/-- The point with an address: number of the street, number of the house. -/
def findR (l : List St) (code street : W) (num : Int) : Option (Nat × Int) :=
  match l.findIdx? (hitB code street num) with
  | some i => some (i, num - (l.getD i ⟨[], [], [], [], 0, 0, 0, false⟩).shift)
  | none => none
theorem find_yes {l : List St} (h : Inv l) {code street : W} {num : Int} {i : Nat} {s : St} (hs : l[i]? = some s) (hh : hitB code street num s = true) : findR l code street num = some (i, num - s.shift) := by
  unfold findR
  cases hf : l.findIdx? (hitB code street num) with
  | none =>
    rw [List.findIdx?_eq_none_iff] at hf
    have := hf s (List.mem_of_getElem? hs)
    rw [hh] at this; cases this
  | some j =>
    obtain ⟨hj, h1, _⟩ := List.findIdx?_eq_some_iff_getElem.1 hf
    have e : i = j := hit_one h hs (List.getElem?_eq_getElem hj) hh h1
    subst e
    simp only [List.getD, hs, Option.getD_some]
theorem find_some {l : List St} {code street : W} {num : Int} {i : Nat} {n : Int} (h : findR l code street num = some (i, n)) : ∃ s, l[i]? = some s ∧ hitB code street num s = true ∧ n = num - s.shift := by
  unfold findR at h
  cases hf : l.findIdx? (hitB code street num) with
  | none => rw [hf] at h; cases h
  | some j =>
    rw [hf] at h
    obtain ⟨hj, h1, _⟩ := List.findIdx?_eq_some_iff_getElem.1 hf
    have hg : l[j]? = some l[j] := List.getElem?_eq_getElem hj
    simp only [Option.some.injEq, Prod.mk.injEq] at h
    obtain ⟨rfl, rfl⟩ := h
    exact ⟨_, hg, h1, by simp only [List.getD, hg, Option.getD_some]⟩
theorem find_none {l : List St} {code street : W} {num : Int} (h : findR l code street num = none) : ∀ s ∈ l, hitB code street num s = false := by
  unfold findR at h
  cases hf : l.findIdx? (hitB code street num) with
  | none => exact fun s hs => by simpa using List.findIdx?_eq_none_iff.1 hf s hs
  | some j => rw [hf] at h; cases h
theorem find_fold {l : List St} {code a b : W} {num : Int} (h : eqW a b = true) : findR l code a num = findR l code b num := by
  have e : hitB code a num = hitB code b num := by
    funext s; unfold hitB; rw [named_fold h]
  unfold findR; rw [e]
/-- The address of a point: name of the street, house number, code, town. -/
def nameR (l : List St) (k n : Int) : Option (W × Int × W × W) :=
  if 0 ≤ k then match l[k.toNat]? with
    | some s => if s.isOpen = true ∧ s.low - s.shift ≤ n ∧ n ≤ s.high - s.shift then some (s.name, n + s.shift, s.code, s.town) else none
    | none => none
  else none
theorem name_some {l : List St} {k n : Int} {a : W × Int × W × W} (h : nameR l k n = some a) : 0 ≤ k ∧ ∃ s, l[k.toNat]? = some s ∧ s.isOpen = true ∧ s.low ≤ n + s.shift ∧ n + s.shift ≤ s.high ∧ a = (s.name, n + s.shift, s.code, s.town) := by
  unfold nameR at h
  by_cases hk : 0 ≤ k
  · rw [if_pos hk] at h
    cases hs : l[k.toNat]? with
    | none => rw [hs] at h; cases h
    | some s =>
      rw [hs] at h
      simp only at h
      by_cases hc : s.isOpen = true ∧ s.low - s.shift ≤ n ∧ n ≤ s.high - s.shift
      · rw [if_pos hc] at h
        exact ⟨hk, s, rfl, hc.1, by omega, by omega, (Option.some.inj h).symm⟩
      · rw [if_neg hc] at h; cases h
  · rw [if_neg hk] at h; cases h
theorem name_yes {l : List St} {k n : Int} {s : St} (hk : 0 ≤ k) (hs : l[k.toNat]? = some s) (ho : s.isOpen = true) (h1 : s.low ≤ n + s.shift) (h2 : n + s.shift ≤ s.high) : nameR l k n = some (s.name, n + s.shift, s.code, s.town) := by
  unfold nameR
  rw [if_pos hk, hs]
  simp only
  rw [if_pos ⟨ho, by omega, by omega⟩]
theorem name_closed {l : List St} {k n : Int} {s : St} (hs : l[k.toNat]? = some s) (ho : s.isOpen = false) : nameR l k n = none := by
  unfold nameR
  split
  · rw [hs]; simp [ho]
  · rfl

theorem named_self (s : St) : named s s.name = true := (named_iff _ _).2 ⟨s.name, List.mem_cons_self .., eqW_refl _⟩
theorem named_al {s : St} {y : W} (h : y ∈ s.al) : named s y = true := (named_iff _ _).2 ⟨y, List.mem_cons_of_mem _ h, eqW_refl _⟩
/-- P5.3, first half; P5.7: the point is found by the name, and by each alias. -/
theorem find_name {l : List St} (hi : Inv l) {k n : Int} {a : W × Int × W × W} (h : nameR l k n = some a) {z : W} (hz : ∀ s, l[k.toNat]? = some s → named s z = true) : findR l a.2.2.1 z a.2.1 = some (k.toNat, n) := by
  obtain ⟨hk, s, hs, ho, h1, h2, rfl⟩ := name_some h
  have := find_yes hi (code := s.code) (street := z) (num := n + s.shift) hs ((hit_iff ..).2 ⟨ho, rfl, hz s hs, h1, h2⟩)
  rwa [show n + s.shift - s.shift = n by omega] at this
/-- P5.3, second half. -/
theorem name_find {l : List St} {code street : W} {num : Int} {i : Nat} {n : Int} (h : findR l code street num = some (i, n)) : ∃ s, l[i]? = some s ∧ nameR l i n = some (s.name, num, code, s.town) ∧ named s street = true := by
  obtain ⟨s, hs, hh, rfl⟩ := find_some h
  obtain ⟨a1, a2, a3, a4, a5⟩ := (hit_iff ..).1 hh
  refine ⟨s, hs, ?_, a3⟩
  have := name_yes (l := l) (k := (i : Int)) (n := num - s.shift) (s := s) (by omega) (by simpa using hs) a1 (by omega) (by omega)
  rw [this, show num - s.shift + s.shift = num by omega, a2]
/-- P5.4. -/
theorem name_one {l : List St} (hi : Inv l) {k n k' n' : Int} {a b : W × Int × W × W} (h : nameR l k n = some a) (g : nameR l k' n' = some b) : (k = k' ∧ n = n') ↔ (a.2.2.1 = b.2.2.1 ∧ a.2.1 = b.2.1 ∧ eqW a.1 b.1 = true) := by
  constructor
  · rintro ⟨rfl, rfl⟩
    rw [h] at g; cases g
    exact ⟨rfl, rfl, eqW_refl _⟩
  · rintro ⟨e1, e2, e3⟩
    have hf := find_name hi h (z := a.1) (fun s hs => by
      obtain ⟨_, t, ht, _, _, _, rfl⟩ := name_some h
      rw [hs] at ht; cases ht; exact named_self s)
    have hg := find_name hi g (z := b.1) (fun s hs => by
      obtain ⟨_, t, ht, _, _, _, rfl⟩ := name_some g
      rw [hs] at ht; cases ht; exact named_self s)
    rw [e1, e2, find_fold e3, hg] at hf
    simp only [Option.some.injEq, Prod.mk.injEq] at hf
    have hk := (name_some h).1
    have hk' := (name_some g).1
    omega

/-! ### P5.5: points stay -/
/-- A change of the street number k. -/
def ofB (k : Int) (c : Ch) : Bool := decide (c.kind ≠ 1) && decide (c.street = k)
structure Moved (s t : St) (f : List Ch) : Prop where
  isOpen : t.isOpen = true
  low : t.low = s.low + (f.map (·.shift)).sum
  high : t.high = s.high + (f.map (·.shift)).sum
  shift : t.shift = s.shift + (f.map (·.shift)).sum
  town : t.town = s.town
  same : (f.any fun c => decide (c.kind ≠ 5)) = false → t.name = s.name ∧ t.code = s.code ∧ (f.map (·.shift)).sum = 0
/-- Some changes, each without an error where it stands. -/
def OkRun (l : List St) (cs : List Ch) : Prop := ∀ (i : Nat) (c : Ch), cs[i]? = some c → OkC ((cs.take i).foldl stp l) c
theorem OkRun.head {l : List St} {c : Ch} {cs : List Ch} (h : OkRun l (c :: cs)) : OkC l c := h 0 c rfl
theorem OkRun.tail {l : List St} {c : Ch} {cs : List Ch} (h : OkRun l (c :: cs)) : OkRun (stp l c) cs := fun i d hd => h (i + 1) d hd
theorem closed_stays {k : Int} (hk : 0 ≤ k) : ∀ (cs : List Ch) (l : List St) (s : St), OkRun l cs → l[k.toNat]? = some s → s.isOpen = false → (cs.foldl stp l)[k.toNat]? = some s ∧ cs.filter (ofB k) = [] := by
  intro cs
  induction cs with
  | nil => intro l s _ hs _; exact ⟨hs, rfl⟩
  | cons c cs ih =>
    intro l s h hs ho
    have hc := h.head
    have hn : ofB k c = false := by
      unfold ofB
      by_cases k1 : c.kind = 1
      · simp [k1]
      · by_cases e : c.street = k
        · obtain ⟨_, t, ht, hto⟩ := hc.has k1
          rw [e, hs] at ht; cases ht
          rw [ho] at hto; cases hto
        · simp [e]
    have hne : k.toNat ≠ trg l c := by
      have hl := (List.getElem?_eq_some_iff.1 hs).1
      by_cases k1 : c.kind = 1
      · rw [trg_open k1]; omega
      · rw [trg_set k1]
        have := (hc.has k1).1
        intro e
        have e2 : c.street = k := by omega
        unfold ofB at hn
        simp [k1, e2] at hn
    obtain ⟨h1, h2⟩ := ih (stp l c) s h.tail (by rw [stp_ne hc hne]; exact hs) ho
    refine ⟨h1, ?_⟩
    rw [List.filter_cons_of_neg (by rw [hn]; simp)]; exact h2
theorem stays {k : Int} (hk : 0 ≤ k) : ∀ (cs : List Ch) (l : List St) (s : St), OkRun l cs → l[k.toNat]? = some s → s.isOpen = true →
    ∃ t, (cs.foldl stp l)[k.toNat]? = some t ∧ (if ((cs.filter (ofB k)).any fun c => decide (c.kind = 6)) = true then t.isOpen = false else Moved s t (cs.filter (ofB k))) := by
  intro cs
  induction cs with
  | nil =>
    intro l s _ hs ho
    exact ⟨s, hs, by rw [if_neg (by simp)]; exact ⟨ho, by simp, by simp, by simp, rfl, fun _ => ⟨rfl, rfl, rfl⟩⟩⟩
  | cons c cs ih =>
    intro l s h hs ho
    have hc := h.head
    have hf := (formed_iff c).1 hc.formed
    by_cases hof : ofB k c = true
    · have hof' := hof
      unfold ofB at hof'
      simp only [Bool.and_eq_true, decide_eq_true_eq] at hof'
      obtain ⟨k1, e⟩ := hof'
      have hat : (stp l c)[k.toNat]? = some (chg c s) := by rw [← e]; exact stp_at k1 (by rw [e]; exact hs)
      rw [List.filter_cons_of_pos hof]
      by_cases k6 : c.kind = 6
      · have hcl : (chg c s).isOpen = false := by
          unfold chg
          rw [if_neg (by omega), if_neg (by omega), if_neg (by omega), if_neg (by omega)]
        obtain ⟨h1, _⟩ := closed_stays hk cs (stp l c) _ h.tail hat hcl
        exact ⟨_, h1, by rw [if_pos (by simp [k6])]; exact hcl⟩
      · have ho' : (chg c s).isOpen = true := by
          unfold chg
          split; · exact ho
          split; · exact ho
          split; · exact ho
          split; · exact ho
          · have := hf.kind; omega
        obtain ⟨t, ht, hm⟩ := ih (stp l c) _ h.tail hat ho'
        refine ⟨t, ht, ?_⟩
        rw [List.any_cons, decide_eq_false k6, Bool.false_or]
        split
        · rename_i hx
          rw [if_pos hx] at hm; exact hm
        · rename_i hx
          rw [if_neg hx] at hm
          have hsh : (chg c s).low = s.low + c.shift ∧ (chg c s).high = s.high + c.shift ∧ (chg c s).shift = s.shift + c.shift ∧ (chg c s).town = s.town := by
            unfold chg
            by_cases k4 : c.kind = 4
            · rw [if_neg (by omega), if_neg (by omega), if_pos k4]; exact ⟨rfl, rfl, rfl, rfl⟩
            · have h0 := hf.shift k4
              rw [h0]
              split
              · exact ⟨by simp, by simp, by simp, rfl⟩
              split
              · exact ⟨by simp, by simp, by simp, rfl⟩
              try rw [if_neg k4]
              split <;> exact ⟨by simp, by simp, by simp, rfl⟩
          obtain ⟨q1, q2, q3, q4⟩ := hsh
          refine ⟨hm.isOpen, ?_, ?_, ?_, hm.town.trans q4, fun hy => ?_⟩
          · rw [hm.low, q1, List.map_cons, List.sum_cons]; omega
          · rw [hm.high, q2, List.map_cons, List.sum_cons]; omega
          · rw [hm.shift, q3, List.map_cons, List.sum_cons]; omega
          · rw [List.any_cons, Bool.or_eq_false_iff] at hy
            have k5 : c.kind = 5 := by simpa using hy.1
            obtain ⟨m1, m2, m3⟩ := hm.same hy.2
            have hc5 : (chg c s).name = s.name ∧ (chg c s).code = s.code := by
              unfold chg
              rw [if_neg (by omega), if_neg (by omega), if_neg (by omega), if_pos k5]; exact ⟨rfl, rfl⟩
            refine ⟨m1.trans hc5.1, m2.trans hc5.2, ?_⟩
            rw [List.map_cons, List.sum_cons, m3, hf.shift (by omega)]; rfl
    · have hn : ofB k c = false := by simpa using hof
      have hl := (List.getElem?_eq_some_iff.1 hs).1
      have hne : k.toNat ≠ trg l c := by
        by_cases k1 : c.kind = 1
        · rw [trg_open k1]; omega
        · rw [trg_set k1]
          have := (hc.has k1).1
          intro e
          have e2 : c.street = k := by omega
          unfold ofB at hn
          simp [k1, e2] at hn
      rw [List.filter_cons_of_neg hof]
      exact ih (stp l c) s h.tail (by rw [stp_ne hc hne]; exact hs) ho
theorem sound_run {r : List Ch} (h : Sound r) (m : Nat) : OkRun (runL (r.take m)) (r.drop m) := fun i c hc => by
  rw [List.getElem?_drop] at hc
  have := h.ok (m + i) c hc
  unfold runL at this ⊢
  rw [List.take_add, List.foldl_append] at this
  exact this
theorem run_split (r : List Ch) (m n : Nat) : runL (r.take (m + n)) = ((r.drop m).take n).foldl stp (runL (r.take m)) := by
  unfold runL; rw [List.take_add, List.foldl_append]

end Rg
end Go.Proofs.YtaeljmiklalpnaaGreatDoor

namespace Go.Proofs.YtaeljmiklalpnaaGreatDoor
namespace Rg

theorem three {α : Type} (l : List α) {m n : Nat} (h : m ≤ n) : l.take m ++ ((l.drop m).take (n - m) ++ l.drop n) = l := by
  have e : l.drop n = (l.drop m).drop (n - m) := by rw [List.drop_drop]; congr 1; omega
  rw [e, List.take_append_drop, List.take_append_drop]
theorem atN_mono {r : List Ch} (_h : Sound r) {d e : Int} (hde : d ≤ e) : atN r d ≤ atN r e := by
  have hdl := atN_le r d
  rcases Nat.lt_or_ge (atN r e) (atN r d) with hl | hl
  · have hc : r[atN r e]? = some r[atN r e] := List.getElem?_eq_getElem (by omega)
    have h1 := atN_stop hc
    have h2 := atN_lt hl hc
    omega
  · exact hl
/-- The changes between two days. -/
theorem between {r : List Ch} (h : Sound r) {d e : Int} (hde : d ≤ e) : (r.drop (atN r d)).take (atN r e - atN r d) = r.filter fun c => decide (d < c.day) && decide (c.day ≤ e) := by
  have hm := atN_mono h hde
  have hle := atN_le r e
  have e1 := (three r hm).symm
  have f1 : (r.take (atN r d)).filter (fun c => decide (d < c.day) && decide (c.day ≤ e)) = [] := by
    rw [List.filter_eq_nil_iff]
    intro c hc
    obtain ⟨i, hi⟩ := List.mem_iff_getElem?.1 hc
    rw [List.getElem?_take] at hi
    split at hi
    · rename_i hlt
      have := atN_lt hlt hi
      simp; omega
    · cases hi
  have f3 : (r.drop (atN r e)).filter (fun c => decide (d < c.day) && decide (c.day ≤ e)) = [] := by
    rw [List.filter_eq_nil_iff]
    intro c hc
    obtain ⟨i, hi⟩ := List.mem_iff_getElem?.1 hc
    rw [List.getElem?_drop] at hi
    have := (h.counts (d := e) hi)
    simp; intro _
    have : ¬ c.day ≤ e := fun q => by have := this.2 q; omega
    omega
  have f2 : ((r.drop (atN r d)).take (atN r e - atN r d)).filter (fun c => decide (d < c.day) && decide (c.day ≤ e)) = (r.drop (atN r d)).take (atN r e - atN r d) := by
    rw [List.filter_eq_self]
    intro c hc
    obtain ⟨i, hi⟩ := List.mem_iff_getElem?.1 hc
    rw [List.getElem?_take] at hi
    split at hi
    · rename_i hlt
      rw [List.getElem?_drop] at hi
      have h1 : c.day ≤ e := atN_lt (by omega) hi
      have h2 : ¬ c.day ≤ d := fun q => by have := (h.counts (d := d) hi).2 q; omega
      simp; omega
    · cases hi
  conv => rhs; rw [e1]
  rw [List.filter_append, List.filter_append, f1, f2, f3]
  simp
/-- The changes of a street between two days, as the law reads them. -/
def segB (d e k : Int) (c : Ch) : Bool := decide (d < c.day) && decide (c.day ≤ e) && decide (c.kind ≠ 1) && decide (c.street = k)
/-- P5.5: what becomes of a point between two days. -/
theorem points_stay {r : List Ch} (h : Sound r) {d e k n : Int} (hde : d ≤ e) {a : W × Int × W × W} (ha : nameR (atL r d) k n = some a) :
    if ((r.filter (segB d e k)).any fun c => decide (c.kind = 6)) = true then nameR (atL r e) k n = none
    else ∃ b, nameR (atL r e) k n = some b ∧ b.2.1 = a.2.1 + ((r.filter (segB d e k)).map (·.shift)).sum ∧ b.2.2.2 = a.2.2.2 ∧ (((r.filter (segB d e k)).any fun c => decide (c.kind ≠ 5)) = false → a = b) := by
  obtain ⟨hk, s, hs, ho, h1, h2, rfl⟩ := name_some ha
  have hm := atN_mono h hde
  have hrun := sound_run h (atN r d)
  have hok : OkRun (atL r d) ((r.drop (atN r d)).take (atN r e - atN r d)) := fun i c hc => by
    rw [List.getElem?_take] at hc
    split at hc
    · rename_i hlt
      have := hrun i c hc
      rw [List.take_take, Nat.min_eq_left (by omega)]; exact this
    · cases hc
  obtain ⟨t, ht, hmv⟩ := stays hk _ _ _ hok hs ho
  have hend : ((r.drop (atN r d)).take (atN r e - atN r d)).foldl stp (atL r d) = atL r e := by
    unfold atL
    rw [← run_split, show atN r d + (atN r e - atN r d) = atN r e by omega]
  rw [hend] at ht
  have hseg : ((r.drop (atN r d)).take (atN r e - atN r d)).filter (ofB k) = r.filter (segB d e k) := by
    rw [between h hde, List.filter_filter]
    congr 1
    funext c
    unfold ofB segB
    rw [Bool.and_comm, ← Bool.and_assoc]
  rw [hseg] at hmv
  split
  · rename_i hx
    rw [if_pos hx] at hmv
    exact name_closed ht hmv
  · rename_i hx
    rw [if_neg hx] at hmv
    have hl := hmv.low
    have hh := hmv.high
    have hsft := hmv.shift
    refine ⟨_, name_yes hk ht hmv.isOpen (by omega) (by omega), ?_, hmv.town, fun hy => ?_⟩
    · show n + t.shift = n + s.shift + _; omega
    · obtain ⟨m1, m2, m3⟩ := hmv.same hy
      have : t.shift = s.shift := by omega
      rw [m1, m2, this, hmv.town]

/-! ### P5.2 -/
theorem atN_take {r : List Ch} (_h : Sound r) {d e : Int} {m : Nat} (hm : m = atN r d) (hde : d ≤ e) : atN (r.take m) e = m := by
  have hle := atN_le r d
  have hl : (r.take m).length = m := by rw [List.length_take]; omega
  rcases Nat.lt_or_ge (atN (r.take m) e) m with hlt | hge
  · have hc : (r.take m)[atN (r.take m) e]? = some (r.take m)[atN (r.take m) e] := List.getElem?_eq_getElem (by omega)
    have h1 := atN_stop hc
    rw [List.getElem?_take, if_pos hlt] at hc
    have h2 := atN_lt (d := d) (by omega) hc
    omega
  · have := atN_le (r.take m) e
    omega
theorem at_begin {r : List Ch} (h : Sound r) {d e : Int} (hde : d ≤ e) : atL (r.take (atN r d)) e = atL r d := by
  unfold atL
  rw [atN_take h rfl hde, List.take_take, Nat.min_self]
theorem at_len {r : List Ch} (d : Int) : (atL r d).length = ((r.take (atN r d)).filter fun c => decide (c.kind = 1)).length := run_len _

/-! ### P5.8 -/
theorem at_last {r : List Ch} (h : Sound r) {c : Ch} {d : Int} (hc : r[r.length - 1]? = some c) (hd : c.day ≤ d) : atL r d = runL r := by
  have h0 := (List.getElem?_eq_some_iff.1 hc).1
  have := (h.counts (d := d) hc).2 hd
  have hle := atN_le r d
  unfold atL
  rw [show atN r d = r.length by omega, List.take_length]
def closeC (d : Int) (k : Nat) : Ch := ⟨d, 6, k, [], [], [], 0, 0, 0⟩
def openC (d : Int) (s : St) : Ch := ⟨d, 1, 0, s.code, s.town, s.name, s.low, s.high, 0⟩
theorem close_ok {l : List St} (_hi : Inv l) {d : Int} (hd : -1000000 ≤ d ∧ d ≤ 1000000) {k : Nat} {s : St} (hs : l[k]? = some s) (ho : s.isOpen = true) : OkC l (closeC d k) := by
  have hk6 : (closeC d k).kind ≠ 1 := by unfold closeC; simp
  have hst : (closeC d k).street.toNat = k := by unfold closeC; simp
  refine ⟨(formed_iff _).2 ⟨hd, by unfold closeC; simp, fun h => by unfold closeC at h; simp at h, fun _ => rfl, fun h => by unfold closeC at h; simp at h, fun _ => rfl, fun h => by unfold closeC at h; simp at h, fun _ => ⟨rfl, rfl, rfl⟩, fun _ => rfl⟩,
    fun _ => ⟨by unfold closeC; simp, s, by rw [hst]; exact hs, ho⟩, fun h => by unfold closeC at h; simp at h, fun h => by unfold closeC at h; simp at h, ?_⟩
  rw [trg_set hk6, hst, clashAt_no]
  intro i a b hik ha hb
  have e := stp_at (l := l) (c := closeC d k) (s := s) hk6 (by rw [hst]; exact hs)
  rw [hst] at e
  rw [e] at hb
  cases hb
  unfold clash2
  have : (chg (closeC d k) s).isOpen = false := by unfold chg closeC; simp
  rw [this]; simp
theorem open_ok {l : List St} (hi : Inv l) {d : Int} (hd : -1000000 ≤ d ∧ d ≤ 1000000) {k : Nat} {s : St} (hs : l[k]? = some s) (ho : s.isOpen = true) : OkC (stp l (closeC d k)) (openC d s) := by
  have hc := close_ok hi hd hs ho
  have g := hi.good s (List.mem_of_getElem? hs)
  have hk6 : (closeC d k).kind ≠ 1 := by unfold closeC; simp
  have hst : (closeC d k).street.toNat = k := by unfold closeC; simp
  refine ⟨(formed_iff _).2 ⟨hd, by unfold openC; simp, fun _ => g.name, fun h => absurd (.inl rfl) h, fun _ => g.code, fun h => absurd (.inl rfl) h, fun _ => ⟨g.town, g.lo, g.le, g.hi, rfl⟩, fun h => absurd rfl h, fun _ => rfl⟩,
    fun h => absurd rfl h, fun h => by unfold openC at h; simp at h, fun h => by unfold openC at h; simp at h, ?_⟩
  rw [trg_open rfl, clashAt_no]
  intro i a b hik ha hb
  rw [stp_new rfl] at hb
  cases hb
  rw [stp_ne_open rfl hik] at ha
  by_cases e : i = k
  · subst e
    have e1 := stp_at (l := l) (c := closeC d i) (s := s) hk6 (by rw [hst]; exact hs)
    rw [hst] at e1
    rw [e1] at ha; cases ha
    unfold clash2
    have : (chg (closeC d i) s).isOpen = false := by unfold chg closeC; simp
    rw [this]; simp
  · rw [stp_ne hc (by rw [trg_set hk6, hst]; exact e)] at ha
    have := hi.apart i k a s e ha hs
    rw [Bool.eq_false_iff] at this ⊢
    intro q
    apply this
    obtain ⟨q1, q2, q3, q4, q5, q6⟩ := (clash2_iff _ _).1 q
    refine (clash2_iff _ _).2 ⟨q1, ho, q3, q4, q5, ?_⟩
    obtain ⟨y, hy, z, hz, he⟩ := (common_iff _ _).1 q6
    have hz' : z = s.name := by unfold namesS newS openC at hz; simpa using hz
    exact (common_iff _ _).2 ⟨y, hy, z, by rw [hz']; exact List.mem_cons_self .., he⟩
/-- A sound register goes on. -/
theorem Sound.snoc {r : List Ch} (h : Sound r) {c : Ch} (hl : r.length < 60) (hd : ∀ b, r[r.length - 1]? = some b → b.day ≤ c.day) (ok : OkC (runL r) c) : Sound (r ++ [c]) := by
  refine ⟨by rw [List.length_append]; simp; omega, fun i a b ha hb => ?_, fun i a ha => ?_⟩
  · by_cases hi : i + 1 < r.length
    · rw [List.getElem?_append_left (by omega)] at ha
      rw [List.getElem?_append_left hi] at hb
      exact h.days i a b ha hb
    · have hlen := (List.getElem?_eq_some_iff.1 hb).1
      rw [List.length_append] at hlen
      simp at hlen
      have hi2 : i + 1 = r.length := by omega
      rw [List.getElem?_append_left (by omega)] at ha
      rw [hi2, List.getElem?_append_right (Nat.le_refl _), Nat.sub_self] at hb
      simp at hb
      subst hb
      exact hd a (by rw [← ha]; congr 1; omega)
  · by_cases hi : i < r.length
    · rw [List.getElem?_append_left hi] at ha
      rw [List.take_append_of_le_length (by omega)]
      exact h.ok i a ha
    · have hlen := (List.getElem?_eq_some_iff.1 ha).1
      rw [List.length_append] at hlen
      simp at hlen
      obtain rfl : i = r.length := by omega
      rw [List.getElem?_append_right (Nat.le_refl _), Nat.sub_self] at ha
      simp at ha
      subst ha
      rw [List.take_append_of_le_length (Nat.le_refl _), List.take_length]; exact ok
/-- P5.8: a street that is closed, and one with the same fields that is opened in its place. -/
theorem closing {r : List Ch} (h : Sound r) (hl : r.length ≤ 58) {b : Ch} (hb : r[r.length - 1]? = some b) {k : Nat} {s : St} (hs : (runL r)[k]? = some s) (ho : s.isOpen = true) :
    Sound (r ++ [closeC b.day k, openC b.day s]) ∧ (∀ n, nameR (atL (r ++ [closeC b.day k, openC b.day s]) b.day) k n = none) ∧
    (∀ m, s.low ≤ m → m ≤ s.high → findR (atL (r ++ [closeC b.day k, openC b.day s]) b.day) s.code s.name m = some ((runL r).length, m)) := by
  have hd := ((formed_iff b).1 (h.ok _ b hb).formed).day
  have hi := h.inv
  have ok1 := close_ok hi hd hs ho
  have ok2 := open_ok hi hd hs ho
  have s1 : Sound (r ++ [closeC b.day k]) := h.snoc (by omega) (fun a ha => by rw [hb] at ha; cases ha; exact Int.le_refl _) ok1
  have e1 : runL (r ++ [closeC b.day k]) = stp (runL r) (closeC b.day k) := by unfold runL; rw [List.foldl_append]; rfl
  have s2 : Sound (r ++ [closeC b.day k] ++ [openC b.day s]) := s1.snoc (by rw [List.length_append]; simp; omega) (fun a ha => by
    rw [List.length_append] at ha
    simp at ha
    rw [← ha]; exact Int.le_refl _) (by rw [e1]; exact ok2)
  have e0 : r ++ [closeC b.day k, openC b.day s] = r ++ [closeC b.day k] ++ [openC b.day s] := by simp
  rw [e0]
  have e2 : runL (r ++ [closeC b.day k] ++ [openC b.day s]) = stp (stp (runL r) (closeC b.day k)) (openC b.day s) := by
    rw [← e1]; unfold runL; rw [List.foldl_append]; rfl
  have hat : atL (r ++ [closeC b.day k] ++ [openC b.day s]) b.day = runL (r ++ [closeC b.day k] ++ [openC b.day s]) := at_last s2 (c := openC b.day s) (by simp) (Int.le_refl _)
  rw [hat, e2]
  have hk6 : (closeC b.day k).kind ≠ 1 := by unfold closeC; simp
  have hst : (closeC b.day k).street.toNat = k := by unfold closeC; simp
  have hkl := (List.getElem?_eq_some_iff.1 hs).1
  have hlen : (stp (runL r) (closeC b.day k)).length = (runL r).length := by rw [stp_len, if_neg hk6]; rfl
  refine ⟨s2, fun n => ?_, fun m h1 h2 => ?_⟩
  · have e := stp_at (l := runL r) (c := closeC b.day k) (s := s) hk6 (by rw [hst]; exact hs)
    rw [hst] at e
    refine name_closed (s := chg (closeC b.day k) s) ?_ (by unfold chg closeC; simp)
    rw [stp_ne_open rfl (by rw [hlen]; simp; omega)]
    simpa using e
  · have hn : (stp (stp (runL r) (closeC b.day k)) (openC b.day s))[(runL r).length]? = some (newS (openC b.day s)) := by rw [← hlen]; exact stp_new rfl
    have hinv := s2.inv
    rw [e2] at hinv
    have := find_yes hinv (code := s.code) (street := s.name) (num := m) hn ((hit_iff ..).2 ⟨rfl, rfl, named_self (newS (openC b.day s)), h1, h2⟩)
    rw [this]
    show some ((runL r).length, m - 0) = _
    rw [Int.sub_zero]

end Rg
end Go.Proofs.YtaeljmiklalpnaaGreatDoor

namespace Go.Proofs.YtaeljmiklalpnaaGreatDoor
namespace Rg

theorem shift_bd {r : List Ch} (h : Sound r) {i : Nat} {c : Ch} (hc : r[i]? = some c) : -9999 ≤ c.shift ∧ c.shift ≤ 9999 := by
  have ok := h.ok i c hc
  by_cases k4 : c.kind = 4
  · obtain ⟨_, s, hs, _⟩ := ok.has (by omega)
    obtain ⟨a, b⟩ := ok.room k4 s hs
    have a := (houseB_iff _).1 a
    have b := (houseB_iff _).1 b
    have g := (h.take i).inv.good s (List.mem_of_getElem? hs)
    have h1 := g.lo; have h2 := g.le; have h3 := g.hi
    omega
  · have := ((formed_iff c).1 ok.formed).shift k4
    omega
/-- The changes of a street between two days, among the first so many. -/
def segL (r : List Ch) (d e k : Int) (n : Nat) : List Ch := (r.take n).filter (segB d e k)
def shS (l : List Ch) : Int := (l.map (·.shift)).sum
def chG (l : List Ch) : Bool := l.any fun c => decide (c.kind ≠ 5)
def clG (l : List Ch) : Bool := l.any fun c => decide (c.kind = 6)
theorem segL_yes {r : List Ch} {d e k : Int} {n : Nat} {c : Ch} (hc : r[n]? = some c) (h : segB d e k c = true) : segL r d e k (n + 1) = segL r d e k n ++ [c] := by
  unfold segL
  rw [List.take_add_one, hc, List.filter_append]
  simp [h]
theorem segL_no {r : List Ch} {d e k : Int} {n : Nat} {c : Ch} (hc : r[n]? = some c) (h : segB d e k c = false) : segL r d e k (n + 1) = segL r d e k n := by
  unfold segL
  rw [List.take_add_one, hc, List.filter_append]
  simp [h]
theorem segL_all (r : List Ch) (d e k : Int) {n : Nat} (h : r.length ≤ n) : segL r d e k n = r.filter (segB d e k) := by
  unfold segL; rw [List.take_of_length_le h]
theorem shS_snoc (l : List Ch) (c : Ch) : shS (l ++ [c]) = shS l + c.shift := by unfold shS; simp
theorem chG_snoc (l : List Ch) (c : Ch) : chG (l ++ [c]) = (chG l || decide (c.kind ≠ 5)) := by unfold chG; simp
theorem clG_snoc (l : List Ch) (c : Ch) : clG (l ++ [c]) = (clG l || decide (c.kind = 6)) := by unfold clG; simp
theorem shS_bd {r : List Ch} (h : Sound r) (d e k : Int) : ∀ n : Nat, -(10000 * (n : Int)) ≤ shS (segL r d e k n) ∧ shS (segL r d e k n) ≤ 10000 * (n : Int) := by
  intro n
  induction n with
  | zero => simp [segL, shS]
  | succ n ih =>
    cases hc : r[n]? with
    | none =>
      have hl : r.length ≤ n := List.getElem?_eq_none_iff.1 hc
      have e1 : segL r d e k (n + 1) = segL r d e k n := by rw [segL_all r d e k hl, segL_all r d e k (by omega)]
      rw [e1]; omega
    | some c =>
      have hb := shift_bd h hc
      cases hs : segB d e k c with
      | true => rw [segL_yes hc hs, shS_snoc]; omega
      | false => rw [segL_no hc hs]; omega
/-- P5.5 in the words of the walk. -/
theorem stay_words {r : List Ch} (h : Sound r) {d e k n : Int} (hde : d ≤ e) {a : W × Int × W × W} (ha : nameR (atL r d) k n = some a) :
    (clG (segL r d e k r.length) = true → nameR (atL r e) k n = none) ∧
    (clG (segL r d e k r.length) = false → ∃ b, nameR (atL r e) k n = some b ∧ b.2.1 = a.2.1 + shS (segL r d e k r.length) ∧ b.2.2.2 = a.2.2.2 ∧ (chG (segL r d e k r.length) = false → a = b)) := by
  have H := points_stay h hde ha
  rw [segL_all r d e k (Nat.le_refl _)]
  unfold clG chG shS
  refine ⟨fun q => by rw [if_pos q] at H; exact H, fun q => ?_⟩
  rw [if_neg (by rw [q]; simp)] at H
  exact H
theorem seg_conds (d e k : Int) (c : Ch) : segB d e k c = true ↔ d < c.day ∧ c.day ≤ e ∧ c.kind ≠ 1 ∧ c.street = k := by
  unfold segB
  simp only [Bool.and_eq_true, decide_eq_true_eq, and_assoc]

/-! Where the changes up to a day end. -/
theorem end_is {r : List Ch} (h : Sound r) {d : Int} {j : Nat} (h1 : 1 ≤ j) (hj : j ≤ r.length) (hp : ∀ c, r[j - 1]? = some c → c.day = d) (hn : ∀ c, r[j]? = some c → c.day ≠ d) : j = atN r d := by
  have hc0 : r[j - 1]? = some r[j - 1] := List.getElem?_eq_getElem (by omega)
  have h0 := hp _ hc0
  have a := (h.counts (d := d) hc0).2 (by omega)
  have hle := atN_le r d
  rcases Nat.lt_or_ge j (atN r d) with hlt | hge
  · have hc : r[j]? = some r[j] := List.getElem?_eq_getElem (by omega)
    have b := atN_lt hlt hc
    have o := h.order (by omega) hc0 hc
    exact absurd (by omega) (hn _ hc)
  · omega
/-- How many streets some changes open. -/
def opN (r : List Ch) (n : Nat) : Nat := ((r.take n).filter fun c => decide (c.kind = 1)).length
theorem opN_yes {r : List Ch} {n : Nat} {c : Ch} (hc : r[n]? = some c) (h : c.kind = 1) : opN r (n + 1) = opN r n + 1 := by
  unfold opN
  rw [List.take_add_one, hc, List.filter_append, List.length_append]
  simp [h]
theorem opN_no {r : List Ch} {n : Nat} {c : Ch} (hc : r[n]? = some c) (h : c.kind ≠ 1) : opN r (n + 1) = opN r n := by
  unfold opN
  rw [List.take_add_one, hc, List.filter_append, List.length_append]
  simp [h]
theorem opN_le (r : List Ch) (n : Nat) : opN r n ≤ n := by
  unfold opN
  have := List.length_filter_le (fun c : Ch => decide (c.kind = 1)) (r.take n)
  rw [List.length_take] at this; omega

end Rg
end Go.Proofs.YtaeljmiklalpnaaGreatDoor

namespace Go.Proofs.YtaeljmiklalpnaaGreatDoor
namespace Rg

theorem lowB_val (b : UInt8) : (lowB b).toNat = if 65 ≤ b.toNat ∧ b.toNat ≤ 90 then b.toNat + 32 else b.toNat := by
  unfold lowB
  split
  · rename_i h
    rw [UInt8.toNat_add]
    show (b.toNat + 32) % 256 = _
    omega
  · rfl
/-- What the program's function makes of a rune. -/
def foldC (r : Int) : Int := if 65 ≤ r ∧ r ≤ 90 then r + 32 else r
/-- What the program's fold makes of a text. -/
def fldW (l : W) : W := Lib.mapD foldC l
def AscW (l : W) : Prop := ∀ b ∈ l, b.toNat < 128
theorem low_asc {b : UInt8} : (lowB b).toNat < 128 ↔ b.toNat < 128 := by rw [lowB_val]; split <;> omega
theorem fold_asc {l : W} : AscW (foldW l) ↔ AscW l := by
  unfold AscW foldW
  constructor
  · intro h b hb; exact low_asc.1 (h _ (List.mem_map_of_mem hb))
  · intro h b hb
    obtain ⟨c, hc, rfl⟩ := List.mem_map.1 hb
    exact low_asc.2 (h c hc)
theorem enc_low (b : UInt8) (h : b.toNat < 128) : Lib.encodeRune (foldC (b.toNat : Int)) = [lowB b] := by
  have e : foldC (b.toNat : Int) = ((lowB b).toNat : Int) := by
    unfold foldC; rw [lowB_val]; split <;> split <;> omega
  have h2 := low_asc.2 h
  rw [e]
  unfold Lib.encodeRune
  rw [Lib.encodeRuneZ_one (by omega) (by omega)]
  simp
theorem fld_nil : fldW [] = [] := rfl
theorem fld_cons {b : UInt8} (h : b.toNat < 128) (l : W) : fldW (b :: l) = lowB b :: fldW l := by
  unfold fldW
  rw [Lib.mapD_step _ _ (by simp), Lib.decodeL_ascii b l h]
  have : 0 ≤ foldC ((b.toNat, 1) : Nat × Nat).1 := by unfold foldC; split <;> simp; omega
  rw [if_pos this]
  rw [enc_low b h]; rfl
theorem fld_asc {l : W} (h : AscW l) : fldW l = foldW l := by
  induction l with
  | nil => rfl
  | cons b l ih => rw [fld_cons (h b (List.mem_cons_self ..)), ih fun c hc => h c (List.mem_cons_of_mem _ hc)]; rfl
theorem enc_hi {r : Int} (h : 128 ≤ r) : ∃ b ∈ Lib.encodeRune r, 128 ≤ b.toNat := by
  by_cases hr : r ≤ 1114111
  · by_cases h2 : r ≤ 2047
    · exact ⟨_, by unfold Lib.encodeRune; rw [Lib.encodeRuneZ_two h h2]; exact List.mem_cons_self .., by
        show 128 ≤ (192 + r / 64).toNat % 256; omega⟩
    · by_cases h3 : (2048 ≤ r ∧ r < 55296) ∨ (57343 < r ∧ r ≤ 65535)
      · exact ⟨_, by unfold Lib.encodeRune; rw [Lib.encodeRuneZ_three h3]; exact List.mem_cons_self .., by
          show 128 ≤ (224 + r / 4096).toNat % 256; omega⟩
      · by_cases h4 : 65536 ≤ r
        · exact ⟨_, by unfold Lib.encodeRune; rw [Lib.encodeRuneZ_four h4 hr]; exact List.mem_cons_self .., by
            show 128 ≤ (240 + r / 262144).toNat % 256; omega⟩
        · refine ⟨239, ?_, by decide⟩
          unfold Lib.encodeRune Lib.encodeRuneZ
          rw [if_neg (by omega), if_neg (by omega), if_neg h3, if_neg (by omega)]
          simp
  · refine ⟨239, ?_, by decide⟩
    unfold Lib.encodeRune Lib.encodeRuneZ
    rw [if_neg (by omega), if_neg (by omega), if_neg (by omega), if_neg (by omega)]
    simp
theorem dec_hi {b : UInt8} {l : W} (h : 128 ≤ b.toNat) : 128 ≤ (Lib.decodeL (b :: l)).1 := by
  rw [Lib.decodeL_N]
  have h0 : ((b :: l).getD 0 0).toNat = b.toNat := rfl
  rcases Lib.decodeN_shape (b :: l).length ((b :: l).getD 0 0).toNat ((b :: l).getD 1 0).toNat ((b :: l).getD 2 0).toNat ((b :: l).getD 3 0).toNat with ⟨h1, -⟩ | ⟨_, _, _, h2, e⟩ | ⟨_, _, _, _, h2, _, e⟩ | ⟨_, _, _, _, _, h2, _, e⟩ | e
  · rw [h0] at h1; omega
  · rw [e]; exact h2
  · rw [e]; show 128 ≤ _; omega
  · rw [e]; show 128 ≤ _; omega
  · rw [e]; show 128 ≤ 65533; omega
theorem fld_hi {l : W} (h : AscW (fldW l)) : AscW l := by
  induction l with
  | nil => intro b hb; cases hb
  | cons b l ih =>
    by_cases hb : b.toNat < 128
    · rw [fld_cons hb] at h
      intro c hc
      rcases List.mem_cons.1 hc with rfl | hc
      · exact hb
      · exact ih (fun d hd => h d (List.mem_cons_of_mem _ hd)) c hc
    · exfalso
      have hd := dec_hi (b := b) (l := l) (by omega)
      unfold fldW at h
      rw [Lib.mapD_step _ _ (by simp)] at h
      have e : foldC ((Lib.decodeL (b :: l)).1 : Int) = ((Lib.decodeL (b :: l)).1 : Int) := by unfold foldC; rw [if_neg (by omega)]
      rw [e, if_pos (by omega)] at h
      obtain ⟨c, hc, h2⟩ := enc_hi (r := ((Lib.decodeL (b :: l)).1 : Int)) (by omega)
      have := h c (List.mem_append_left _ hc)
      omega
/-- Against an ASCII text the program's fold answers as folding byte by byte. -/
theorem fld_eq {y z : W} (hy : AscW y) : fldW y = fldW z ↔ foldW y = foldW z := by
  rw [fld_asc hy]
  constructor
  · intro h
    have h1 : AscW (fldW z) := by rw [← h]; exact fold_asc.2 hy
    rw [← fld_asc (fld_hi h1)]; exact h
  · intro h
    have h1 : AscW (foldW z) := by rw [← h]; exact fold_asc.2 hy
    rw [fld_asc (fold_asc.1 h1)]; exact h
theorem fld_len (l : W) (h : AscW l) : (fldW l).length = l.length := by rw [fld_asc h]; simp [foldW]

/-! Trim of a text whose bytes are all in the set. -/
theorem trim_all {l cs : W} (h : ∀ b ∈ l, cs.contains b = true) : Lib.trimS l cs = [] := by
  unfold Lib.trimS
  have e : Lib.trimRightS l cs = [] := by
    unfold Lib.trimRightS
    have H : ∀ (l : W), (∀ b ∈ l, cs.contains b = true) → l.dropWhile (cs.contains ·) = [] := by
      intro l
      induction l with
      | nil => intro _; rfl
      | cons b l ih =>
        intro h
        rw [List.dropWhile_cons, if_pos (h b (List.mem_cons_self ..))]
        exact ih fun c hc => h c (List.mem_cons_of_mem _ hc)
    rw [H l.reverse fun b hb => h b (List.mem_reverse.1 hb)]; rfl
  rw [e]; rfl

/-! Names and codes, as the program reads them. -/
def codeBs : W := [65, 66, 67, 68, 69, 70, 71, 72, 73, 74, 75, 76, 77, 78, 79, 80, 81, 82, 83, 84, 85, 86, 87, 88, 89, 90, 48, 49, 50, 51, 52, 53, 54, 55, 56, 57]
def wordBs : W := codeBs ++ [97, 98, 99, 100, 101, 102, 103, 104, 105, 106, 107, 108, 109, 110, 111, 112, 113, 114, 115, 116, 117, 118, 119, 120, 121, 122, 45, 39]
theorem all_bytes (p : UInt8 → Bool) (h : (List.range 256).all (fun n => p (UInt8.ofNat n)) = true) (b : UInt8) : p b = true := by
  have := List.all_eq_true.1 h b.toNat (List.mem_range.2 b.toNat_lt)
  simpa using this
theorem cod_mem (b : UInt8) (h : codB b = true) : codeBs.contains b = true := by
  have := all_bytes (fun b => !codB b || codeBs.contains b) (by kernel_rfl) b
  rw [h] at this; simpa using this
theorem nam_mem (b : UInt8) (h : namB b = true) : wordBs.contains b = true := by
  have := all_bytes (fun b => !namB b || wordBs.contains b) (by kernel_rfl) b
  rw [h] at this; simpa using this
theorem nam_asc (b : UInt8) (h : namB b = true) : b.toNat < 128 := by
  have := all_bytes (fun b => !namB b || decide (b.toNat < 128)) (by kernel_rfl) b
  rw [h] at this; simpa using this
/-- A text that the program takes for a word of so many bytes. -/
def goodW (most : Nat) (bs l : W) : Bool := decide (l ≠ []) && decide (l.length ≤ most) && decide (Lib.trimS l bs = [])
theorem good_code {l : W} (h : codeW l = true) : goodW 8 codeBs l = true := by
  unfold codeW at h
  simp only [Bool.and_eq_true, decide_eq_true_eq, List.all_eq_true] at h
  obtain ⟨⟨h1, h2⟩, h3⟩ := h
  unfold goodW
  simp only [Bool.and_eq_true, decide_eq_true_eq]
  exact ⟨⟨by rintro rfl; simp at h1, h2⟩, trim_all fun b hb => cod_mem b (h3 b hb)⟩
theorem nameF_split {a t : W} : ∀ {k n : Nat}, (∀ b ∈ a, b.toNat ≠ 32) → nameF k n (a ++ 32 :: t) = true → 0 < n + a.length ∧ (n ≤ 20 → n + a.length ≤ 20) ∧ (∀ b ∈ a, namB b = true) ∧ nameF (k + 1) 0 t = true := by
  induction a with
  | nil =>
    intro k n _ h
    rw [List.nil_append, nameF, if_pos (by decide), Bool.and_eq_true] at h
    have := of_decide_eq_true h.1
    exact ⟨by simpa using this, (fun h => by simpa using h), (fun b hb => by cases hb), h.2⟩
  | cons c a ih =>
    intro k n hb h
    rw [List.cons_append, nameF, if_neg (hb c (List.mem_cons_self ..))] at h
    simp only [Bool.and_eq_true, decide_eq_true_eq] at h
    obtain ⟨h1, h2, h3, h4⟩ := ih (fun b hb' => hb b (List.mem_cons_of_mem _ hb')) h.2
    refine ⟨by rw [List.length_cons]; omega, fun _ => ?_, fun b hb' => ?_, h4⟩
    · have := h2 h.1.2; rw [List.length_cons]; omega
    · rcases List.mem_cons.1 hb' with rfl | hb'
      · exact h.1.1
      · exact h3 b hb'
theorem nameF_word {a : W} : ∀ {k n : Nat}, (∀ b ∈ a, b.toNat ≠ 32) → nameF k n a = true → 0 < n + a.length ∧ (n ≤ 20 → n + a.length ≤ 20) ∧ (∀ b ∈ a, namB b = true) ∧ k ≤ 4 := by
  induction a with
  | nil =>
    intro k n _ h
    simp only [nameF, Bool.and_eq_true, decide_eq_true_eq] at h
    exact ⟨by simpa using h.1, (fun h => by simpa using h), (fun b hb => by cases hb), h.2⟩
  | cons c a ih =>
    intro k n hb h
    rw [nameF, if_neg (hb c (List.mem_cons_self ..))] at h
    simp only [Bool.and_eq_true, decide_eq_true_eq] at h
    obtain ⟨h1, h2, h3, h4⟩ := ih (fun b hb' => hb b (List.mem_cons_of_mem _ hb')) h.2
    refine ⟨by rw [List.length_cons]; omega, fun _ => ?_, fun b hb' => ?_, h4⟩
    · have := h2 h.1.2; rw [List.length_cons]; omega
    · rcases List.mem_cons.1 hb' with rfl | hb'
      · exact h.1.1
      · exact h3 b hb'
theorem nameF_le {l : W} : ∀ {k n : Nat}, nameF k n l = true → k ≤ 4 := by
  induction l with
  | nil => intro k n h; simp only [nameF, Bool.and_eq_true, decide_eq_true_eq] at h; exact h.2
  | cons b l ih =>
    intro k n h
    rw [nameF] at h
    split at h
    · rw [Bool.and_eq_true] at h
      have := ih h.2; omega
    · rw [Bool.and_eq_true] at h
      exact ih h.2
theorem blank_split (l : W) : (Lib.index l [32] = -1 ∧ ∀ b ∈ l, b.toNat ≠ 32) ∨ ∃ i : Nat, Lib.index l [32] = i ∧ (∀ b ∈ l.take i, b.toNat ≠ 32) ∧ l = l.take i ++ 32 :: l.drop (i + 1) := by
  rw [Lib.index_one]
  have hge := Lib.indexByte_ge l 32
  by_cases h : Lib.indexByte l 32 = -1
  · refine .inl ⟨h, fun b hb e => ?_⟩
    obtain ⟨k, hk⟩ := List.mem_iff_getElem?.1 hb
    have e2 : b = 32 := UInt8.toNat_inj.1 e
    exact Lib.indexByte_none h k (by rw [hk, e2])
  · refine .inr ⟨(Lib.indexByte l 32).toNat, by omega, ?_, ?_⟩
    · intro b hb e
      obtain ⟨k, hk⟩ := List.mem_iff_getElem?.1 hb
      have e2 : b = 32 := UInt8.toNat_inj.1 e
      rw [List.getElem?_take] at hk
      split at hk
      · rename_i hlt
        have := (Lib.indexByte_some (l := l) (c := 32) (o := (Lib.indexByte l 32).toNat) (by omega)).2 k hlt
        exact this (by rw [hk, e2])
      · cases hk
    · have := (Lib.indexByte_some (l := l) (c := 32) (o := (Lib.indexByte l 32).toNat) (by omega)).1
      obtain ⟨hl, e⟩ := List.getElem?_eq_some_iff.1 this
      conv => lhs; rw [← List.take_append_drop (Lib.indexByte l 32).toNat l]
      rw [List.drop_eq_getElem_cons hl, e]
theorem good_word {a : W} (h0 : 0 < a.length) (h1 : a.length ≤ 20) (h2 : ∀ b ∈ a, namB b = true) : goodW 20 wordBs a = true := by
  unfold goodW
  simp only [Bool.and_eq_true, decide_eq_true_eq]
  exact ⟨⟨by rintro rfl; simp at h0, h1⟩, trim_all fun b hb => nam_mem b (h2 b hb)⟩
theorem pieces_good : ∀ (m : Nat) (l : W) (k : Nat), nameF k 0 l = true → (4 ≤ k + m ∨ l.length ≤ m) → ∀ a ∈ Lib.splitK [32] 0 m l, goodW 20 wordBs a = true := by
  intro m
  induction m with
  | zero =>
    intro l k h hk a ha
    rw [Lib.splitK, List.mem_singleton] at ha
    subst ha
    rcases blank_split a with ⟨_, hb⟩ | ⟨i, _, hb, e⟩
    · obtain ⟨h1, h2, h3, h4⟩ := nameF_word hb h
      exact good_word (by omega) (by have := h2 (by omega); omega) h3
    · rw [e] at h
      have := (nameF_split hb h).2.2.2
      have h4 := nameF_le this
      have hl := congrArg List.length e
      rw [List.length_append, List.length_cons] at hl
      omega
  | succ m ih =>
    intro l k h hk a ha
    rw [Lib.splitK] at ha
    rcases blank_split l with ⟨hi, hb⟩ | ⟨i, hi, hb, e⟩
    · rw [hi] at ha
      simp only [BEq.rfl, if_true, List.mem_singleton] at ha
      subst ha
      obtain ⟨h1, h2, h3, h4⟩ := nameF_word hb h
      exact good_word (by omega) (by have := h2 (by omega); omega) h3
    · have hne : ¬ ((Lib.index l [32] == -1) = true) := by rw [hi]; simp
      rw [if_neg hne, hi] at ha
      have hh := h
      rw [e] at hh
      obtain ⟨h1, h2, h3, h4⟩ := nameF_split hb hh
      have hl := congrArg List.length e
      rw [List.length_append, List.length_cons, List.length_drop] at hl
      rcases List.mem_cons.1 ha with rfl | ha
      · simp only [Int.toNat_natCast, Nat.add_zero]
        exact good_word (by omega) (by have := h2 (by omega); omega) h3
      · simp only [Int.toNat_natCast, List.length_singleton] at ha
        exact ih _ _ h4 (by rw [List.length_drop]; omega) a ha
/-- The words of a name, as the program parts it. -/
theorem name_good {l : W} (h : nameW l = true) : ∀ a ∈ Lib.splitK [32] 0 (min 4 (l.length + 1) - 1) l, goodW 20 wordBs a = true :=
  pieces_good _ l 1 h (by omega)
theorem nameF_asc {l : W} : ∀ {k n : Nat}, nameF k n l = true → AscW l := by
  induction l with
  | nil => intro k n _ b hb; cases hb
  | cons b l ih =>
    intro k n h
    rw [nameF] at h
    split at h
    · rename_i h32
      rw [Bool.and_eq_true] at h
      intro c hc
      rcases List.mem_cons.1 hc with rfl | hc
      · omega
      · exact ih h.2 c hc
    · simp only [Bool.and_eq_true] at h
      intro c hc
      rcases List.mem_cons.1 hc with rfl | hc
      · exact nam_asc _ h.1.1
      · exact ih h.2 c hc
theorem name_asc {l : W} (h : nameW l = true) : AscW l := nameF_asc h

end Rg
end Go.Proofs.YtaeljmiklalpnaaGreatDoor
