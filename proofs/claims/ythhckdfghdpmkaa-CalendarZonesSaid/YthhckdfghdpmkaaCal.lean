/-
  Plain mathematics of a calendar: well-formed ones, working days, the next one, adding, counting.
-/
import Derived.Below
namespace Go.Proofs.Ythhckdfghdpmkaa
namespace Cl

/-- In strictly increasing order, as far as the first n. -/
def incTo (hs : List Int) (n : Nat) : Bool := (List.range n).all fun i => i == 0 || decide (hs.getD (i - 1) 0 < hs.getD i 0)
def incB (hs : List Int) : Bool := incTo hs hs.length
theorem incTo_succ (hs : List Int) (n : Nat) : incTo hs (n + 1) = (incTo hs n && (n == 0 || decide (hs.getD (n - 1) 0 < hs.getD n 0))) := by
  unfold incTo
  rw [List.range_succ, List.all_append]; simp
theorem incTo_one (hs : List Int) : incTo hs (0 + 1) = true := by rw [incTo_succ]; simp [incTo]
theorem incTo_all {hs : List Int} {n : Nat} : incTo hs n = true ↔ ∀ i, 1 ≤ i → i < n → hs.getD (i - 1) 0 < hs.getD i 0 := by
  unfold incTo
  rw [List.all_eq_true]
  constructor
  · intro h i h1 h2
    have := h i (List.mem_range.2 h2)
    rw [Bool.or_eq_true, beq_iff_eq, decide_eq_true_eq] at this
    omega
  · intro h i hi
    rw [Bool.or_eq_true, beq_iff_eq, decide_eq_true_eq]
    rcases Nat.eq_zero_or_pos i with h0 | h0
    · exact .inl h0
    · exact .inr (h i h0 (List.mem_range.1 hi))
theorem inc_false {hs : List Int} {i : Nat} (h1 : i + 1 < hs.length) (h : ¬ hs.getD i 0 < hs.getD (i + 1) 0) : incB hs = false := by
  rw [Bool.eq_false_iff]
  intro h2
  exact h (by have := incTo_all.1 h2 (i + 1) (by omega) h1; simpa using this)
theorem inc_lt {hs : List Int} (h : incB hs = true) : ∀ i j, i < j → j < hs.length → hs.getD i 0 < hs.getD j 0 := by
  intro i j hij hj
  have h' := incTo_all.1 h
  obtain ⟨k, rfl⟩ : ∃ k, j = i + 1 + k := ⟨j - (i + 1), by omega⟩
  induction k with
  | zero => have := h' (i + 1) (by omega) (by omega); simpa using this
  | succ k ih =>
    have a := ih (by omega) (by omega)
    have b := h' (i + 1 + (k + 1)) (by omega) (by omega)
    rw [show i + 1 + (k + 1) - 1 = i + 1 + k by omega] at b
    omega

def validB (z : Int) (wk : List Bool) (hs : List Int) : Bool := decide (-720 ≤ z) && decide (z ≤ 840) && decide (wk.length = 7) && decide (hs.length ≤ 40) && incB hs
def smallB (wk : List Bool) (hs : List Int) : Bool := decide (wk.length ≤ 20) && decide (hs.length ≤ 60)
def fineB (z : Int) (wk : List Bool) (hs : List Int) : Bool := smallB wk hs && validB z wk hs
theorem valid_parts {z : Int} {wk : List Bool} {hs : List Int} (h : validB z wk hs = true) : -720 ≤ z ∧ z ≤ 840 ∧ wk.length = 7 ∧ hs.length ≤ 40 ∧ incB hs = true := by
  unfold validB at h
  simpa [Bool.and_eq_true, and_assoc] using h
theorem valid_mk {z : Int} {wk : List Bool} {hs : List Int} (h1 : -720 ≤ z) (h2 : z ≤ 840) (h3 : wk.length = 7) (h4 : hs.length ≤ 40) : validB z wk hs = incB hs := by
  unfold validB; simp [h1, h2, h3, h4]
theorem fine_eq (z : Int) (wk : List Bool) (hs : List Int) : fineB z wk hs = validB z wk hs := by
  unfold fineB
  cases h : validB z wk hs with
  | false => simp
  | true =>
    obtain ⟨_, _, h3, h4, _⟩ := valid_parts h
    unfold smallB
    simp [h3]; omega

def holB (hs : List Int) (d : Int) : Bool := hs.contains d
def onB (wk : List Bool) (hs : List Int) (d : Int) : Bool := wk.getD (d % 7).toNat false && !holB hs d
def inR (d : Int) : Bool := decide (-1000000 ≤ d) && decide (d ≤ 1000000)
theorem inR_iff {d : Int} : inR d = true ↔ -1000000 ≤ d ∧ d ≤ 1000000 := by unfold inR; simp
theorem inR_no {d : Int} : inR d = false ↔ d < -1000000 ∨ 1000000 < d := by
  rw [← Bool.not_eq_true, inR_iff]; omega

/-- The working days among the n days from d on. -/
def wd (wk : List Bool) (hs : List Int) (d : Int) (n : Nat) : List Int := ((List.range n).map fun i => d + ((i : Nat) : Int)).filter (onB wk hs)
section
variable {wk : List Bool} {hs : List Int}
theorem wd_zero (d : Int) : wd wk hs d 0 = [] := rfl
theorem wd_succ (d : Int) (n : Nat) : wd wk hs d (n + 1) = wd wk hs d n ++ if onB wk hs (d + n) then [d + n] else [] := by
  unfold wd
  rw [List.range_succ, List.map_append, List.filter_append]
  congr 1
  simp only [List.map_cons, List.map_nil, List.filter_cons, List.filter_nil]
theorem wd_add (d : Int) (m n : Nat) : wd wk hs d (m + n) = wd wk hs d m ++ wd wk hs (d + m) n := by
  induction n with
  | zero => simp [wd_zero]
  | succ n ih => rw [← Nat.add_assoc, wd_succ, ih, wd_succ, List.append_assoc, show d + ((m + n : Nat) : Int) = d + m + n by omega]
theorem wd_len (d : Int) (n : Nat) : (wd wk hs d n).length ≤ n := by
  unfold wd
  have := List.length_filter_le (onB wk hs) ((List.range n).map fun i => d + ((i : Nat) : Int))
  simpa using this
theorem mem_wd {d x : Int} {n : Nat} : x ∈ wd wk hs d n ↔ d ≤ x ∧ x < d + n ∧ onB wk hs x = true := by
  unfold wd
  rw [List.mem_filter, List.mem_map]
  constructor
  · rintro ⟨⟨i, hi, rfl⟩, h⟩
    have := List.mem_range.1 hi
    exact ⟨by omega, by omega, h⟩
  · rintro ⟨h1, h2, h3⟩
    exact ⟨⟨(x - d).toNat, List.mem_range.2 (by omega), by omega⟩, h3⟩

/-- The first working day among the 60 days from d on. -/
def nextO (wk : List Bool) (hs : List Int) (d : Int) : Option Int := (wd wk hs d 60).head?
theorem head_some {d x : Int} {n : Nat} (h : (wd wk hs d n).head? = some x) : d ≤ x ∧ x < d + n ∧ onB wk hs x = true ∧ ∀ y, d ≤ y → y < x → onB wk hs y = false := by
  induction n with
  | zero => simp [wd_zero] at h
  | succ n ih =>
    rw [wd_succ, List.head?_append] at h
    cases h0 : (wd wk hs d n).head? with
    | some y =>
      rw [h0] at h
      simp at h
      subst h
      obtain ⟨a, b, c, e⟩ := ih h0
      exact ⟨a, by omega, c, e⟩
    | none =>
      rw [h0] at h
      have hnil : wd wk hs d n = [] := List.head?_eq_none_iff.1 h0
      by_cases hon : onB wk hs (d + n) = true
      · rw [if_pos hon] at h
        simp at h
        subst h
        refine ⟨by omega, by omega, hon, fun y h1 h2 => ?_⟩
        rw [Bool.eq_false_iff]
        intro hy
        have := mem_wd.2 (⟨h1, h2, hy⟩ : d ≤ y ∧ y < d + n ∧ onB wk hs y = true)
        rw [hnil] at this
        cases this
      · rw [if_neg hon] at h
        simp at h
theorem head_none {d : Int} {n : Nat} (h : (wd wk hs d n).head? = none) : ∀ y, d ≤ y → y < d + n → onB wk hs y = false := by
  intro y h1 h2
  have hnil : wd wk hs d n = [] := List.head?_eq_none_iff.1 h
  rw [Bool.eq_false_iff]
  intro hy
  have := mem_wd.2 ⟨h1, h2, hy⟩
  rw [hnil] at this
  cases this
theorem next_some {d x : Int} (h : nextO wk hs d = some x) : d ≤ x ∧ x < d + 60 ∧ onB wk hs x = true ∧ ∀ y, d ≤ y → y < x → onB wk hs y = false := head_some h
theorem next_none {d : Int} (h : nextO wk hs d = none) : ∀ y, d ≤ y → y < d + 60 → onB wk hs y = false := head_none h

/-- The n-th working day behind d. -/
def addO (wk : List Bool) (hs : List Int) (d : Int) : Nat → Option Int
  | 0 => some d
  | n + 1 => (addO wk hs d n).bind fun x => nextO wk hs (x + 1)
theorem addO_add (d : Int) (a b : Nat) : addO wk hs d (a + b) = (addO wk hs d a).bind fun x => addO wk hs x b := by
  induction b with
  | zero => simp [addO]
  | succ b ih =>
    rw [← Nat.add_assoc]
    show (addO wk hs d (a + b)).bind _ = _
    rw [ih]
    cases addO wk hs d a with
    | none => rfl
    | some x => rfl
theorem add_some {d x : Int} {n : Nat} (h : addO wk hs d n = some x) : d + n ≤ x ∧ x ≤ d + 60 * n ∧ (0 < n → onB wk hs x = true) := by
  induction n generalizing x with
  | zero =>
    obtain rfl := Option.some.inj h
    exact ⟨by simp, by simp, fun h => absurd h (Nat.lt_irrefl 0)⟩
  | succ n ih =>
    obtain ⟨y, hy, hx⟩ := Option.bind_eq_some_iff.1 h
    obtain ⟨h1, h2, _⟩ := ih hy
    obtain ⟨a, b, c, _⟩ := next_some hx
    exact ⟨by omega, by omega, fun _ => c⟩

/-- How many working days are behind a, up to b. -/
def cntI (wk : List Bool) (hs : List Int) (a b : Int) : Int := ((wd wk hs (a + 1) (b - a).toNat).length : Int)
theorem cnt_self {a b : Int} (h : b ≤ a) : cntI wk hs a b = 0 := by
  unfold cntI
  rw [show (b - a).toNat = 0 by omega, wd_zero]; rfl
theorem cnt_add {a b c : Int} (h1 : a ≤ b) (h2 : b ≤ c) : cntI wk hs a b + cntI wk hs b c = cntI wk hs a c := by
  unfold cntI
  rw [show (c - a).toNat = (b - a).toNat + (c - b).toNat by omega, wd_add, show a + 1 + ((b - a).toNat : Int) = b + 1 by omega, List.length_append]
  omega
theorem cnt_succ {a : Int} (n : Nat) : cntI wk hs a (a + (n + 1 : Nat)) = cntI wk hs a (a + n) + if onB wk hs (a + n + 1) then 1 else 0 := by
  unfold cntI
  rw [show (a + ((n + 1 : Nat) : Int) - a).toNat = n + 1 by omega, show (a + (n : Int) - a).toNat = n by omega, wd_succ, List.length_append, show a + 1 + (n : Int) = a + n + 1 by omega]
  split <;> simp
theorem cnt_next {d x : Int} (h : nextO wk hs (d + 1) = some x) : cntI wk hs d x = 1 := by
  obtain ⟨h1, h2, h3, h4⟩ := next_some h
  have e1 : cntI wk hs d (x - 1) = 0 := by
    unfold cntI
    have : wd wk hs (d + 1) (x - 1 - d).toNat = [] := by
      rw [List.eq_nil_iff_forall_not_mem]
      intro y hy
      obtain ⟨a, b, c⟩ := mem_wd.1 hy
      rw [h4 y a (by omega)] at c
      cases c
    rw [this]; rfl
  have e2 := cnt_succ (wk := wk) (hs := hs) (a := d) (x - 1 - d).toNat
  rw [show d + (((x - 1 - d).toNat + 1 : Nat) : Int) = x by omega, show d + ((x - 1 - d).toNat : Int) = x - 1 by omega, e1, show x - 1 + 1 = x by omega, if_pos h3] at e2
  omega
theorem cnt_adds {d x : Int} {n : Nat} (h : addO wk hs d n = some x) : cntI wk hs d x = n := by
  induction n generalizing x with
  | zero =>
    obtain rfl := Option.some.inj h
    exact cnt_self (Int.le_refl _)
  | succ n ih =>
    obtain ⟨y, hy, hx⟩ := Option.bind_eq_some_iff.1 h
    have a := ih hy
    have b := cnt_next hx
    obtain ⟨h1, h2, _⟩ := add_some hy
    obtain ⟨h3, _, _, _⟩ := next_some hx
    have c := cnt_add (wk := wk) (hs := hs) (a := d) (b := y) (c := x) (by omega) (by omega)
    omega
end

/-- A result and its error. -/
def oV (o : Option Int) : Int := o.getD 0
def oE : Option Int → Int | some _ => 0 | none => 20
@[simp] theorem oV_some (x : Int) : oV (some x) = x := rfl
@[simp] theorem oE_some (x : Int) : oE (some x) = 0 := rfl
@[simp] theorem oV_none : oV none = 0 := rfl
@[simp] theorem oE_none : oE none = 20 := rfl

end Cl
end Go.Proofs.Ythhckdfghdpmkaa
