/-
  Streets in memory of the call's own: rows, aliases, what a store and an append make of them.
-/
import Derived.Test.YtaeljmiklalpnaaGreatDoorQf
namespace Go.Proofs.YtaeljmiklalpnaaGreatDoor
open Go.RowKit Go.ChangeMaps Gn
namespace Rg

theorem own_apart {w : World} {B B' : Nat} {e e' : TypeId} {sz sz' n n' : Nat} {v v' : Value} {xs xs' : List Value} (h : w.ownsRow B e sz v n xs) (h' : w.ownsRow B' e' sz' v' n' xs') (hne : e ≠ e') : v.ownBlock = none ∨ v.ownBlock ≠ v'.ownBlock := by
  rcases h.2 with ⟨rfl, _⟩ | ⟨g, cap, cur, rfl, _, hg, _⟩
  · exact .inl rfl
  · right
    rcases h'.2 with ⟨rfl, _⟩ | ⟨g', cap', cur', rfl, _, hg', _⟩
    · simp [Value.ownBlock]
    · intro hh
      simp only [Value.ownBlock, Option.some.injEq] at hh
      subst hh
      rw [hg] at hg'
      cases hg'
      exact hne rfl
structure Strs (base : Nat) (w : World) (v : Value) (l : List St) (vs : List Value) : Prop where
  row : w.ownsRow base 44 8 v l.length (cellsS l vs)
  len : vs.length = l.length
  als : ∀ (i : Nat) (s : St) (u : Value), l[i]? = some s → vs[i]? = some u → w.ownsRow base 9 1 u s.al.length (s.al.map sV)
  sep : ∀ (i j : Nat) (u u' : Value), i ≠ j → vs[i]? = some u → vs[j]? = some u' → u.ownBlock = none ∨ u.ownBlock ≠ u'.ownBlock
def nilV : Value := .slice none 0 0
theorem Strs.nil (base : Nat) (w : World) : Strs base w nilV [] [] := ⟨World.ownsRow_nil _ _ _ _, rfl, fun i s u h => by simp at h, fun i j u u' _ h => by simp at h⟩
theorem Strs.on {base : Nat} {w w' : World} {v : Value} {l : List St} {vs : List Value} (h : Strs base w v l vs) (hb : Below w.heap.size w w') : Strs base w' v l vs :=
  ⟨own_below h.row hb, h.len, fun i s u hs hu => own_below (h.als i s u hs hu) hb, h.sep⟩
theorem Strs.isSts {base : Nat} {w : World} {v : Value} {l : List St} {vs : List Value} (h : Strs base w v l vs) : IsSts w v l vs := by
  obtain ⟨A, cap, e, hS⟩ := SlR.of_own h.row
  exact ⟨A, cap, e, h.len, hS, fun i s u hs hu => IsW.of_own (B := base) (e := 9) (h.als i s u hs hu)⟩
theorem cells_snoc (z : St) (x : Value) : ∀ (l : List St) (vs : List Value), vs.length = l.length → cellsS (l ++ [z]) (vs ++ [x]) = cellsS l vs ++ stV z x := by
  intro l
  induction l with
  | nil =>
    intro vs h
    obtain rfl : vs = [] := List.length_eq_zero_iff.1 h
    simp [cellsS]
  | cons a l ih =>
    intro vs h
    match vs, h with
    | b :: vs, h =>
      rw [List.cons_append, List.cons_append, cellsS_cons, cellsS_cons, ih vs (by simpa using h), List.append_assoc]
theorem cells_len : ∀ (l : List St) (vs : List Value), vs.length = l.length → (cellsS l vs).length = l.length * 8 := by
  intro l
  induction l with
  | nil => intro vs _; simp [cellsS]
  | cons a l ih =>
    intro vs h
    match vs, h with
    | b :: vs, h =>
      rw [cellsS_cons, List.length_append, ih vs (by simpa using h), List.length_cons]
      simp [stV]; omega
theorem cells_set {j : Nat} {x : Value} {s s' : St} {u u' : Value} (hj : j < 8) (he : (stV s u).set j x = stV s' u') : ∀ (l : List St) (vs : List Value) (n : Nat), l[n]? = some s → vs[n]? = some u → (cellsS l vs).set (n * 8 + j) x = cellsS (l.set n s') (vs.set n u') := by
  intro l
  induction l with
  | nil => intro vs n h; simp at h
  | cons a l ih =>
    intro vs n hs hu
    match vs, hu with
    | b :: vs, hu =>
      match n with
      | 0 =>
        simp only [List.getElem?_cons_zero, Option.some.injEq] at hs hu
        subst hs hu
        rw [cellsS_cons, List.set_cons_zero, List.set_cons_zero, cellsS_cons, List.set_append_left _ _ (by simp [stV]; omega), Nat.zero_mul, Nat.zero_add, he]
      | n + 1 =>
        rw [List.getElem?_cons_succ] at hs hu
        rw [cellsS_cons, List.set_cons_succ, List.set_cons_succ, cellsS_cons, List.set_append_right _ _ (by simp [stV]; omega)]
        rw [← ih vs n hs hu]
        congr 2
        simp [stV]; omega

/-- What else stays: blocks below a number, and all that hold neither streets nor texts. -/
structure Frm (base : Nat) (w w' : World) : Prop where
  os : w'.os = w.os
  tape : w'.tape = w.tape
  output : w'.output = w.output
  size : w.heap.size ≤ w'.heap.size
  block : ∀ k, k < w.heap.size → (k < base ∨ ∀ cur T, w.heap[k]? = some (.cells cur T (0, 0)) → T ≠ 44 ∧ T ≠ 9) → w'.heap[k]? = w.heap[k]?
theorem Frm.refl (base : Nat) (w : World) : Frm base w w := ⟨rfl, rfl, rfl, Nat.le_refl _, fun _ _ _ => rfl⟩
theorem Frm.trans {base : Nat} {a b c : World} (h : Frm base a b) (k : Frm base b c) : Frm base a c :=
  ⟨k.os.trans h.os, k.tape.trans h.tape, k.output.trans h.output, Nat.le_trans h.size k.size, fun i hi hc => by
    have e := h.block i hi hc
    rw [k.block i (Nat.lt_of_lt_of_le hi h.size) (by rw [e]; exact hc), e]⟩
theorem Frm.of {base : Nat} {w w' : World} (h : Below w.heap.size w w') : Frm base w w' := ⟨h.os, h.tape, h.output, h.size, fun k hk _ => h.block k hk⟩
theorem Frm.grown {base : Nat} {w w' : World} {e : TypeId} {sz n : Nat} {v : Value} {xs : List Value} (hrow : w.ownsRow base e sz v n xs) (he : e = 44 ∨ e = 9) (hg : w.grownBy w' v.ownBlock) : Frm base w w' :=
  ⟨hg.os, hg.tape, hg.output, hg.size, fun k hk hc => hg.block k hk fun q => by
    have h1 := hrow.lt k q.symm
    rcases hrow.2 with ⟨rfl, _⟩ | ⟨g, cap, cur, rfl, _, hgg, _⟩
    · simp [Value.ownBlock] at q
    · simp only [Value.ownBlock, Option.some.injEq] at q
      subst q
      rcases hc with hc | hc
      · omega
      · have := hc _ _ hgg
        rcases he with he | he
        · exact this.1 he
        · exact this.2 he⟩
theorem Frm.below {base : Nat} {w w' : World} (h : Frm base w w') (hb : base ≤ w.heap.size) : Below base w w' := ⟨h.os, h.tape, h.output, h.size, fun k hk => h.block k (by omega) (.inl hk)⟩
theorem Frm.keep {base : Nat} {w w' : World} (h : Frm base w w') {k : Nat} {cur : Array Value} {T : TypeId} (hk : w.heap[k]? = some (.cells cur T (0, 0))) (hT : T ≠ 44 ∧ T ≠ 9) : w'.heap[k]? = some (.cells cur T (0, 0)) := by
  rw [h.block k (heap_lt hk) (.inr fun c t q => by rw [hk] at q; cases q; exact hT)]; exact hk
theorem Frm.map {base : Nat} {w w' : World} (h : Frm base w w') {k : Nat} {es : Array MapEntry} {c : Nat} (hk : w.heap[k]? = some (.map es c)) : w'.heap[k]? = some (.map es c) := by
  rw [h.block k (heap_lt hk) (.inr fun c t q => by rw [hk] at q; cases q)]; exact hk

/-- A store into a cell of a street. -/
theorem Strs.put {base : Nat} {w : World} {l : List St} {vs : List Value} {g cap n j : Nat} {s s' : St} {u x : Value} (h : Strs base w (.slice (some ⟨g, 0, none⟩) l.length cap) l vs) (hs : l[n]? = some s) (hu : vs[n]? = some u) (hj : j < 8)
    (he : (stV s u).set j x = stV s' u) (hal : s'.al = s.al) :
    Strs base (w.setCell ⟨g, n * 8 + j, none⟩ x) (.slice (some ⟨g, 0, none⟩) l.length cap) (l.set n s') vs ∧ Frm base w (w.setCell ⟨g, n * 8 + j, none⟩ x) := by
  obtain ⟨h1, h2⟩ := h.row.stored (n * 8 + j) x
  have hvs : vs.set n u = vs := by
    apply List.ext_getElem?
    intro i
    by_cases e : i = n
    · subst e; rw [List.getElem?_set_self (List.getElem?_eq_some_iff.1 hu).1, hu]
    · rw [List.getElem?_set_ne (fun q => e q.symm)]
  have hc := cells_set hj he l vs n hs hu
  rw [hvs] at hc
  rw [hc] at h1
  have hg2 : w.grownBy (w.setCell ⟨g, n * 8 + j, none⟩ x) (Value.slice (some ⟨g, 0, none⟩) l.length cap).ownBlock := h2
  refine ⟨⟨by rw [List.length_set]; exact h1, by rw [List.length_set]; exact h.len, fun i a b ha hb => ?_, h.sep⟩, Frm.grown h.row (.inl rfl) hg2⟩
  by_cases e : i = n
  · subst e
    rw [List.getElem?_set_self (List.getElem?_eq_some_iff.1 hs).1] at ha
    cases ha
    rw [hu] at hb; cases hb
    have := h.als i s u hs hu
    rw [hal]
    exact this.kept hg2 (own_apart this h.row (by decide))
  · rw [List.getElem?_set_ne (fun q => e q.symm)] at ha
    have := h.als i a b ha hb
    exact this.kept hg2 (own_apart this h.row (by decide))
/-- A store that makes the aliases none. -/
theorem Strs.cut {base : Nat} {w : World} {l : List St} {vs : List Value} {g cap n : Nat} {s : St} {u : Value} (h : Strs base w (.slice (some ⟨g, 0, none⟩) l.length cap) l vs) (hs : l[n]? = some s) (hu : vs[n]? = some u) :
    Strs base (w.setCell ⟨g, n * 8 + 3, none⟩ nilV) (.slice (some ⟨g, 0, none⟩) l.length cap) (l.set n { s with al := [] }) (vs.set n nilV) ∧ Frm base w (w.setCell ⟨g, n * 8 + 3, none⟩ nilV) := by
  obtain ⟨h1, h2⟩ := h.row.stored (n * 8 + 3) nilV
  have hc := cells_set (j := 3) (x := nilV) (s := s) (s' := { s with al := [] }) (u := u) (u' := nilV) (by omega) rfl l vs n hs hu
  rw [hc] at h1
  have hg2 : w.grownBy (w.setCell ⟨g, n * 8 + 3, none⟩ nilV) (Value.slice (some ⟨g, 0, none⟩) l.length cap).ownBlock := h2
  refine ⟨⟨by rw [List.length_set]; exact h1, by rw [List.length_set, List.length_set]; exact h.len, fun i a b ha hb => ?_, fun i k a b hik ha hb => ?_⟩, Frm.grown h.row (.inl rfl) hg2⟩
  · by_cases e : i = n
    · subst e
      rw [List.getElem?_set_self (List.getElem?_eq_some_iff.1 hs).1] at ha
      rw [List.getElem?_set_self (List.getElem?_eq_some_iff.1 hu).1] at hb
      cases ha; cases hb
      exact World.ownsRow_nil _ _ _ _
    · rw [List.getElem?_set_ne (fun q => e q.symm)] at ha hb
      have := h.als i a b ha hb
      exact this.kept hg2 (own_apart this h.row (by decide))
  · by_cases e : i = n
    · subst e
      rw [List.getElem?_set_self (List.getElem?_eq_some_iff.1 hu).1] at ha
      cases ha; exact .inl rfl
    · rw [List.getElem?_set_ne (fun q => e q.symm)] at ha
      by_cases e2 : k = n
      · subst e2
        rw [List.getElem?_set_self (List.getElem?_eq_some_iff.1 hu).1] at hb
        cases hb
        cases hq : a.ownBlock with
        | none => exact .inl rfl
        | some q => exact .inr (by simp [nilV, Value.ownBlock])
      · rw [List.getElem?_set_ne (fun q => e2 q.symm)] at hb
        exact h.sep i k a b hik ha hb
/-- A street appended. -/
theorem Strs.snoc {base : Nat} {w w' : World} {v v' : Value} {l : List St} {vs : List Value} {z : St} {o : Obj} (h : Strs base w v l vs) (hz : z.al = []) (hown : w'.ownsRow base 44 8 v' (l.length + 1) (cellsS l vs ++ stV z nilV)) (hg : (w.alloc o).grownBy w' v.ownBlock) :
    Strs base w' v' (l ++ [z]) (vs ++ [nilV]) ∧ Frm base w w' := by
  have hr := h.row.alloc o
  refine ⟨⟨by rw [cells_snoc _ _ _ _ h.len, List.length_append]; exact hown, by rw [List.length_append, List.length_append, h.len]; rfl, fun i a b ha hb => ?_, fun i k a b hik ha hb => ?_⟩, (Frm.of (b0 w o)).trans (Frm.grown hr (.inl rfl) hg)⟩
  · by_cases e : i < l.length
    · rw [List.getElem?_append_left e] at ha
      rw [List.getElem?_append_left (by rw [h.len]; exact e)] at hb
      have := (h.als i a b ha hb).alloc o
      exact this.kept hg (own_apart this hr (by decide))
    · have hi : i = l.length := by
        have := (List.getElem?_eq_some_iff.1 ha).1
        rw [List.length_append] at this; simp at this; omega
      subst hi
      rw [List.getElem?_append_right (Nat.le_refl _), Nat.sub_self] at ha
      rw [List.getElem?_append_right (by rw [h.len]; exact Nat.le_refl _), h.len, Nat.sub_self] at hb
      simp at ha hb
      subst ha hb
      rw [hz]; exact World.ownsRow_nil _ _ _ _
  · have hcase : ∀ (i : Nat) (a : Value), (vs ++ [nilV])[i]? = some a → (i < vs.length ∧ vs[i]? = some a) ∨ a = nilV := fun i a ha => by
      by_cases e : i < vs.length
      · rw [List.getElem?_append_left e] at ha; exact .inl ⟨e, ha⟩
      · rw [List.getElem?_append_right (by omega)] at ha
        right
        have := List.mem_of_getElem? ha
        simpa using this
    rcases hcase i a ha with ⟨_, h1⟩ | h1
    · rcases hcase k b hb with ⟨_, h2⟩ | h2
      · exact h.sep i k a b hik h1 h2
      · subst h2
        cases hq : a.ownBlock with
        | none => exact .inl rfl
        | some q => exact .inr (by simp [nilV, Value.ownBlock])
    · subst h1; exact .inl rfl
/-- An alias appended: the row of the aliases first, then the street's cell. -/
theorem Strs.alias {base : Nat} {w w' : World} {l : List St} {vs : List Value} {g cap n gg gc : Nat} {s : St} {u : Value} {y : W} {o : Obj} (h : Strs base w (.slice (some ⟨g, 0, none⟩) l.length cap) l vs) (hs : l[n]? = some s) (hu : vs[n]? = some u)
    (hown : w'.ownsRow base 9 1 (.slice (some ⟨gg, 0, none⟩) (s.al.length + 1) gc) (s.al.length + 1) (s.al.map sV ++ [sV y])) (hg : (w.alloc o).grownBy w' u.ownBlock) (hat : u.ownBlock = some gg ∨ gg = w.heap.size + 1) :
    Strs base (w'.setCell ⟨g, n * 8 + 3, none⟩ (.slice (some ⟨gg, 0, none⟩) (s.al.length + 1) gc)) (.slice (some ⟨g, 0, none⟩) l.length cap) (l.set n { s with al := s.al ++ [y] }) (vs.set n (.slice (some ⟨gg, 0, none⟩) (s.al.length + 1) gc)) ∧
      Frm base w (w'.setCell ⟨g, n * 8 + 3, none⟩ (.slice (some ⟨gg, 0, none⟩) (s.al.length + 1) gc)) := by
  obtain ⟨z, hz⟩ : ∃ z, z = Value.slice (some ⟨gg, 0, none⟩) (s.al.length + 1) gc := ⟨_, rfl⟩
  rw [← hz] at hown ⊢
  have ha0 := h.als n s u hs hu
  have hua := ha0.alloc o
  have hrow := (h.row.alloc o).kept hg (own_apart (h.row.alloc o) hua (by decide))
  have hf1 : Frm base w w' := (Frm.of (b0 w o)).trans (Frm.grown hua (.inr rfl) hg)
  obtain ⟨h1, h2⟩ := hrow.stored (n * 8 + 3) z
  have hc := cells_set (j := 3) (x := z) (s := s) (s' := { s with al := s.al ++ [y] }) (u := u) (u' := z) (by omega) rfl l vs n hs hu
  rw [hc] at h1
  have hg2 : w'.grownBy (w'.setCell ⟨g, n * 8 + 3, none⟩ z) (Value.slice (some ⟨g, 0, none⟩) l.length cap).ownBlock := h2
  have hzb : z.ownBlock = some gg := by rw [hz]; rfl
  have hnew : ∀ (i : Nat) (a : Value), i ≠ n → vs[i]? = some a → a.ownBlock = none ∨ a.ownBlock ≠ z.ownBlock := fun i a hi ha => by
    rw [hzb]
    rcases hat with hat | hat
    · rw [← hat]; exact h.sep i n a u hi ha hu
    · cases hq : a.ownBlock with
      | none => exact .inl rfl
      | some q =>
        right
        intro e
        have hil : i < l.length := by rw [← h.len]; exact (List.getElem?_eq_some_iff.1 ha).1
        have := ((h.als i _ a (List.getElem?_eq_getElem hil) ha).lt q hq).2
        cases e; omega
  refine ⟨⟨by rw [List.length_set]; exact h1, by rw [List.length_set, List.length_set]; exact h.len, fun i a b ha hb => ?_, fun i k a b hik ha hb => ?_⟩, hf1.trans (Frm.grown hrow (.inl rfl) hg2)⟩
  · by_cases e : i = n
    · subst e
      rw [List.getElem?_set_self (List.getElem?_eq_some_iff.1 hs).1] at ha
      rw [List.getElem?_set_self (List.getElem?_eq_some_iff.1 hu).1] at hb
      cases ha; cases hb
      have : w'.ownsRow base 9 1 z (s.al ++ [y]).length ((s.al ++ [y]).map sV) := by rw [List.length_append, List.map_append]; exact hown
      exact this.kept hg2 (own_apart this hrow (by decide))
    · rw [List.getElem?_set_ne (fun q => e q.symm)] at ha hb
      have h3 := ((h.als i a b ha hb).alloc o).kept hg (h.sep i n b u e hb hu)
      exact h3.kept hg2 (own_apart h3 hrow (by decide))
  · by_cases e : i = n
    · subst e
      rw [List.getElem?_set_self (List.getElem?_eq_some_iff.1 hu).1] at ha
      cases ha
      rw [List.getElem?_set_ne (fun q => hik q)] at hb
      rcases hnew k b (fun q => hik q.symm) hb with q | q
      · right; rw [hzb, q]; simp
      · exact .inr fun e => q e.symm
    · rw [List.getElem?_set_ne (fun q => e q.symm)] at ha
      by_cases e2 : k = n
      · subst e2
        rw [List.getElem?_set_self (List.getElem?_eq_some_iff.1 hu).1] at hb
        cases hb
        exact hnew i a e ha
      · rw [List.getElem?_set_ne (fun q => e2 q.symm)] at hb
        exact h.sep i k a b hik ha hb

end Rg
end Go.Proofs.YtaeljmiklalpnaaGreatDoor
