/-
  Plain mathematics of layer 4: when a format is well-formed. No program is named here.
-/
import Derived.Test.YtcaiejbnhjiflaaGreatDoorMe
namespace Go.Proofs.YtcaiejbnhjiflaaGreatDoor
namespace Fm

def textB (p : Pt) : Bool := if p.k = 1 then fitW p.t else if p.k = 3 then patW p.t else decide (p.t = [])
/-- The kinds that are left behind some parts. -/
def vl : List Int → List Pt → Option (List Int)
  | L, [] => some L
  | L, p :: ps => if p.k ∈ L ∧ textB p = true then vl (if p.k = 1 then L else L.erase p.k) ps else none
theorem vl_nil (L : List Int) : vl L [] = some L := rfl
theorem vl_yes {L : List Int} {p : Pt} {ps : List Pt} (h1 : p.k ∈ L) (h2 : textB p = true) : vl L (p :: ps) = vl (if p.k = 1 then L else L.erase p.k) ps := by
  rw [vl, if_pos ⟨h1, h2⟩]
theorem vl_no {L : List Int} {p : Pt} {ps : List Pt} (h : ¬ (p.k ∈ L ∧ textB p = true)) : vl L (p :: ps) = none := by
  rw [vl, if_neg h]
theorem vl_append (L : List Int) (a b : List Pt) : vl L (a ++ b) = (vl L a).bind fun K => vl K b := by
  induction a generalizing L with
  | nil => rfl
  | cons p a ih =>
    rw [List.cons_append, vl, vl]
    split
    · exact ih _
    · rfl
theorem vl_sub {L K : List Int} {ps : List Pt} (h : vl L ps = some K) : (∀ k ∈ K, k ∈ L) ∧ (L.Nodup → K.Nodup) ∧ (1 ∈ L → 1 ∈ K) := by
  induction ps generalizing L with
  | nil => rw [vl_nil] at h; cases h; exact ⟨fun _ h => h, fun h => h, fun h => h⟩
  | cons p ps ih =>
    rw [vl] at h
    split at h
    · obtain ⟨i1, i2, i3⟩ := ih h
      refine ⟨fun k hk => ?_, fun hn => i2 ?_, fun h1 => i3 ?_⟩
      · have := i1 k hk
        split at this
        · exact this
        · exact List.mem_of_mem_erase this
      · split
        · exact hn
        · exact hn.erase _
      · split
        · exact h1
        · rename_i hp; exact (List.mem_erase_of_ne (fun e => hp e.symm)).2 h1
    · cases h
theorem vl_iff {L : List Int} {ps : List Pt} (hn : L.Nodup) (h1 : 1 ∈ L) : (vl L ps).isSome = true ↔ (∀ p ∈ ps, p.k ∈ L ∧ textB p = true) ∧ uniq ps := by
  induction ps generalizing L with
  | nil => exact ⟨fun _ => ⟨fun p hp => (by cases hp), trivial⟩, fun _ => rfl⟩
  | cons p ps ih =>
    by_cases hp : p.k ∈ L ∧ textB p = true
    · rw [vl_yes hp.1 hp.2]
      by_cases e : p.k = 1
      · rw [if_pos e, ih hn h1]
        constructor
        · rintro ⟨a, b⟩
          exact ⟨fun q hq => (List.mem_cons.1 hq).elim (fun x => x ▸ hp) (a q), fun h => absurd e h, b⟩
        · rintro ⟨a, b⟩
          exact ⟨fun q hq => a q (List.mem_cons_of_mem _ hq), b.2⟩
      · rw [if_neg e, ih (hn.erase _) ((List.mem_erase_of_ne (fun x => e x.symm)).2 h1)]
        constructor
        · rintro ⟨a, b⟩
          refine ⟨fun q hq => (List.mem_cons.1 hq).elim (fun x => x ▸ hp) fun hq => ⟨List.mem_of_mem_erase (a q hq).1, (a q hq).2⟩, fun _ => ?_, b⟩
          rintro ⟨q, hq, hk⟩
          have := (a q hq).1
          rw [hk] at this
          exact (hn.mem_erase_iff.1 this).1 rfl
        · rintro ⟨a, b⟩
          refine ⟨fun q hq => ⟨(hn.mem_erase_iff).2 ⟨fun hk => b.1 e ⟨q, hq, hk⟩, (a q (List.mem_cons_of_mem _ hq)).1⟩, (a q (List.mem_cons_of_mem _ hq)).2⟩, b.2⟩
    · rw [vl_no hp]
      constructor
      · intro h; cases h
      · rintro ⟨a, _⟩; exact absurd (a p (List.mem_cons_self ..)) hp
theorem textB_part {p : Pt} (h1 : 1 ≤ p.k) (h6 : p.k ≤ 6) : textB p = partB p := by
  unfold textB partB
  split
  · rfl
  · split
    · rfl
    · rw [decide_eq_true (show 2 ≤ p.k by omega), decide_eq_true h6]; rfl
def allK : List Int := [1, 2, 3, 4, 5, 6]
theorem allK_iff (k : Int) : k ∈ allK ↔ 1 ≤ k ∧ k ≤ 6 := by unfold allK; simp; omega
theorem vl_all (ps : List Pt) : (vl allK ps).isSome = true ↔ (∀ p ∈ ps, partB p = true) ∧ uniq ps := by
  rw [vl_iff (by decide) (by decide)]
  refine and_congr_left fun _ => forall_congr' fun p => forall_congr' fun _ => ?_
  rw [allK_iff]
  constructor
  · rintro ⟨⟨a, b⟩, c⟩; rwa [← textB_part a b]
  · intro h
    have := wfp h
    exact ⟨⟨this.1, this.2.1⟩, by rw [textB_part this.1 this.2.1]; exact h⟩
/-- A format is well-formed. -/
def lineB (ps : List Pt) : Bool := decide (1 ≤ ps.length) && decide (ps.length ≤ 8)
def validB (name : W) (fs : List (List Pt)) : Bool := nameW name && decide (1 ≤ fs.length) && decide (fs.length ≤ 8) && fs.all lineB && (vl allK fs.flatten).isSome
theorem valid_parts {name : W} {fs : List (List Pt)} (h : validB name fs = true) : 1 ≤ fs.length ∧ fs.length ≤ 8 ∧ (∀ ps ∈ fs, 1 ≤ ps.length ∧ ps.length ≤ 8) ∧ (∀ p ∈ fs.flatten, partB p = true) ∧ uniq fs.flatten := by
  unfold validB at h
  simp only [Bool.and_eq_true, decide_eq_true_eq, List.all_eq_true] at h
  obtain ⟨⟨⟨⟨h1, h2⟩, h3⟩, h4⟩, h5⟩ := h
  obtain ⟨h6, h7⟩ := (vl_all _).1 h5
  refine ⟨h2, h3, fun ps hp => ?_, h6, h7⟩
  have := h4 ps hp
  unfold lineB at this
  simpa using this
/-- What is known behind some lines and parts of the next one. -/
def VAt (fs : List (List Pt)) (i j : Nat) (L : List Int) : Prop := (fs.take i).all lineB = true ∧ vl allK ((fs.take i).flatten ++ (fs.getD i []).take j) = some L
theorem VAt.start (fs : List (List Pt)) : VAt fs 0 0 allK := ⟨rfl, by simp [vl_nil]⟩
theorem VAt.line {fs : List (List Pt)} {i j : Nat} {L : List Int} {ps : List Pt} (h : VAt fs i j L) (hi : fs[i]? = some ps) (hj : ps.length ≤ j) (hl : lineB ps = true) : VAt fs (i + 1) 0 L := by
  obtain ⟨h1, h2⟩ := h
  have hg : fs.getD i [] = ps := by rw [List.getD, hi]; rfl
  rw [hg, List.take_of_length_le hj] at h2
  refine ⟨?_, ?_⟩
  · rw [List.take_add_one, hi, List.all_append, h1]; simp [hl]
  · rw [List.take_add_one, hi]; simpa using h2
theorem VAt.part {fs : List (List Pt)} {i j : Nat} {L : List Int} {ps : List Pt} {p : Pt} (h : VAt fs i j L) (hi : fs[i]? = some ps) (hj : ps[j]? = some p) (hk : p.k ∈ L) (ht : textB p = true) : VAt fs i (j + 1) (if p.k = 1 then L else L.erase p.k) := by
  obtain ⟨h1, h2⟩ := h
  have hg : fs.getD i [] = ps := by rw [List.getD, hi]; rfl
  refine ⟨h1, ?_⟩
  rw [hg] at h2 ⊢
  rw [List.take_add_one, hj, ← List.append_assoc, vl_append, h2]
  show vl L [p] = _
  rw [vl_yes hk ht, vl_nil]
theorem split_at {fs : List (List Pt)} {i : Nat} {ps : List Pt} (hi : fs[i]? = some ps) : fs = fs.take i ++ ps :: fs.drop (i + 1) := by
  obtain ⟨h, e⟩ := List.getElem?_eq_some_iff.1 hi
  conv => lhs; rw [← List.take_append_drop i fs, List.drop_eq_getElem_cons h, e]
theorem VAt.bad {fs : List (List Pt)} {i j : Nat} {L : List Int} {ps : List Pt} {p : Pt} (h : VAt fs i j L) (hi : fs[i]? = some ps) (hj : ps[j]? = some p) (hn : ¬ (p.k ∈ L ∧ textB p = true)) (name : W) : validB name fs = false := by
  obtain ⟨h1, h2⟩ := h
  have hg : fs.getD i [] = ps := by rw [List.getD, hi]; rfl
  rw [hg] at h2
  have hps : ps = ps.take j ++ p :: ps.drop (j + 1) := by
    obtain ⟨h, e⟩ := List.getElem?_eq_some_iff.1 hj
    conv => lhs; rw [← List.take_append_drop j ps, List.drop_eq_getElem_cons h, e]
  have : vl allK fs.flatten = none := by
    rw [split_at hi, List.flatten_append, List.flatten_cons, hps, ← List.append_assoc, ← List.append_assoc, vl_append, vl_append, h2]
    show (vl L (p :: ps.drop (j + 1))).bind _ = none
    rw [vl_no hn]; rfl
  unfold validB
  rw [this]; simp
theorem VAt.badline {fs : List (List Pt)} {i : Nat} {ps : List Pt} (hi : fs[i]? = some ps) (hl : lineB ps = false) (name : W) : validB name fs = false := by
  have : fs.all lineB = false := by
    rw [split_at hi, List.all_append, List.all_cons, hl]; simp
  unfold validB
  rw [this]; simp
theorem VAt.good {fs : List (List Pt)} {L : List Int} (h : VAt fs fs.length 0 L) {name : W} (hn : nameW name = true) (h1 : 1 ≤ fs.length) (h8 : fs.length ≤ 8) : validB name fs = true := by
  obtain ⟨a, b⟩ := h
  rw [List.take_length] at a b
  rw [List.take_zero, List.append_nil] at b
  unfold validB
  rw [hn, a, b, decide_eq_true h1, decide_eq_true h8]; rfl

end Fm
end Go.Proofs.YtcaiejbnhjiflaaGreatDoor
