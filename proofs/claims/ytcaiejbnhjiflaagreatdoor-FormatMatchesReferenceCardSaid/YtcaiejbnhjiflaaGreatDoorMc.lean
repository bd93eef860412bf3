/-
  Plain mathematics of layer 4: what readings are: fields, order, number. No program is named here.
-/
import Derived.Test.YtcaiejbnhjiflaaGreatDoorMb
namespace Go.Proofs.YtcaiejbnhjiflaaGreatDoor
namespace Fm

/-- The words that an address has of a part. -/
def ownW (x : Ad) (p : Pt) : List W :=
  if p.k = 1 then wordsL p.t else if p.k = 2 then wordsL (Lib.itoa x.number) else if p.k = 3 then wordsL x.code else if p.k = 4 then wordsL x.street else if p.k = 5 then wordsL x.town else wordsL x.person
/-- Kinds that occur once: of those that set a field. -/
def uniq : List Pt → Prop
  | [] => True
  | p :: ps => (p.k ≠ 1 → ¬ kin ps p.k) ∧ uniq ps
def partsR (r : List Ln) : List Pt := r.flatMap (·.1)
theorem kin_partsR (r : List Ln) (k : Int) : kin (partsR r) k ↔ kinR r k := by
  unfold kin kinR partsR
  constructor
  · rintro ⟨p, hp, rfl⟩
    obtain ⟨l, hl, hp⟩ := List.mem_flatMap.1 hp
    exact ⟨l, hl, p, hp, rfl⟩
  · rintro ⟨l, hl, p, hp, rfl⟩
    exact ⟨p, List.mem_flatMap.2 ⟨l, hl, hp⟩, rfl⟩
theorem kin_append (a b : List Pt) (k : Int) : kin (a ++ b) k ↔ kin a k ∨ kin b k := by
  unfold kin
  constructor
  · rintro ⟨p, hp, h⟩
    rcases List.mem_append.1 hp with hp | hp
    · exact .inl ⟨p, hp, h⟩
    · exact .inr ⟨p, hp, h⟩
  · rintro (⟨p, hp, h⟩ | ⟨p, hp, h⟩)
    · exact ⟨p, List.mem_append_left _ hp, h⟩
    · exact ⟨p, List.mem_append_right _ hp, h⟩
theorem kin_cons (p : Pt) (ps : List Pt) (k : Int) : kin (p :: ps) k ↔ p.k = k ∨ kin ps k := by
  unfold kin; simp [List.mem_cons, or_and_right, exists_or]
theorem uniq_append {a b : List Pt} (h : uniq (a ++ b)) : uniq a ∧ uniq b ∧ ∀ k, k ≠ 1 → kin a k → ¬ kin b k := by
  induction a with
  | nil => exact ⟨trivial, h, fun k _ hk => by obtain ⟨p, hp, -⟩ := hk; cases hp⟩
  | cons p a ih =>
    obtain ⟨h1, h2⟩ := h
    obtain ⟨i1, i2, i3⟩ := ih h2
    refine ⟨⟨fun hk hn => h1 hk ((kin_append ..).2 (.inl hn)), i1⟩, i2, fun k h0 hk => ?_⟩
    rcases (kin_cons ..).1 hk with rfl | hk
    · exact fun hb => h1 h0 ((kin_append ..).2 (.inr hb))
    · exact i3 k h0 hk
theorem wfp {p : Pt} (h : partB p = true) : 1 ≤ p.k ∧ p.k ≤ 6 ∧ (p.k = 1 → fitW p.t = true) ∧ (p.k = 3 → patW p.t = true) ∧ (p.k ≠ 1 → p.k ≠ 3 → p.t = []) := by
  unfold partB at h
  split at h
  · exact ⟨by omega, by omega, fun _ => h, fun _ => by omega, fun _ => by omega⟩
  · split at h
    · exact ⟨by omega, by omega, fun _ => by omega, fun _ => h, fun _ _ => by omega⟩
    · simp only [Bool.and_eq_true, decide_eq_true_eq] at h
      exact ⟨by omega, by omega, fun _ => by omega, fun _ => by omega, fun _ _ => h.2⟩

/-- What becomes of the fields of a reading: those of the parts that are still to be read are set, all else stays. -/
theorem rdA_off {r : List Ln} {a x : Ad} (h : x ∈ rdA r a) : Off (kin (partsR r)) a x := by
  induction r generalizing a with
  | nil => rw [rdA_nil, List.mem_singleton] at h; subst h; exact .refl _ _
  | cons l r ih =>
    rw [rdA_cons, List.mem_flatMap] at h
    obtain ⟨b, hb, hx⟩ := h
    have h1 := ih hx
    have h2 : Off (kin l.1) a b := by
      clear h1 hx
      obtain ⟨ps, ws⟩ := l
      simp only at hb ⊢
      induction ps generalizing a ws with
      | nil =>
        rw [rdL_nil] at hb
        split at hb
        · rw [List.mem_singleton.1 hb]; exact .refl _ _
        · cases hb
      | cons p ps ih2 =>
        obtain ⟨n, _, _, _, _, hb⟩ := mem_rdL.1 hb
        exact ((off_set p.k _ a).mono fun k hk => (kin_cons ..).2 (.inl hk.symm)).trans ((ih2 _ hb).mono fun k hk => (kin_cons ..).2 (.inr hk))
    exact (h2.mono fun k hk => (kin_append ..).2 (.inl hk)).trans (h1.mono fun k hk => (kin_append ..).2 (.inr hk))
theorem rdG_offs {ps : List Pt} {r : List Ln} {ws : List W} {a x : Ad} (h : x ∈ rdG ps a ws r) : Off (kin (ps ++ partsR r)) a x := rdA_off (r := (ps, ws) :: r) (by rw [rdA_cons]; exact h)

/-- The words of a field that a part has set and that stays. -/
theorem own_set {K : Int → Prop} {p : Pt} {ws : List W} {a x : Ad} (_hp : partB p = true) (_hc : canB p ws = true) (hk : p.k ≠ 1 → ¬ K p.k) (h : Off K (setF p.k ws a) x) :
    (p.k = 2 → x.number = (numW (ws.getD 0 []) : Nat)) ∧ (p.k = 3 → x.code = upL (ws.getD 0 [])) ∧ (p.k = 4 → x.street = joinW ws) ∧ (p.k = 5 → x.town = joinW ws) ∧ (p.k = 6 → x.person = joinW ws) := by
  refine ⟨fun e => ?_, fun e => ?_, fun e => ?_, fun e => ?_, fun e => ?_⟩ <;> rw [e] at h hk
  · rw [← h.n (hk (by decide))]; rfl
  · rw [← h.c (hk (by decide))]; rfl
  · rw [← h.s (hk (by decide))]; rfl
  · rw [← h.t (hk (by decide))]; rfl
  · rw [← h.p (hk (by decide))]; rfl

theorem ownW_sev {p : Pt} {ws : List W} {x : Ad} (hs : sevB p = true) (hp : partB p = true) (hc : canB p ws = true) (h : (p.k = 4 → x.street = joinW ws) ∧ (p.k = 5 → x.town = joinW ws) ∧ (p.k = 6 → x.person = joinW ws)) : ownW x p = ws := by
  have hj : wordsL (joinW ws) = ws := words_join ws fun w hw => fit_is (can_fit hc w hw)
  have h4 : 4 ≤ p.k := by simpa [sevB] using hs
  obtain ⟨_, h6, -⟩ := wfp hp
  unfold ownW
  rw [if_neg (by omega), if_neg (by omega), if_neg (by omega)]
  by_cases e4 : p.k = 4
  · rw [if_pos e4, h.1 e4, hj]
  · rw [if_neg e4]
    by_cases e5 : p.k = 5
    · rw [if_pos e5, h.2.1 e5, hj]
    · rw [if_neg e5, h.2.2 (by omega), hj]

/-- Lists of numbers, in order. -/
def ltL : List Nat → List Nat → Prop
  | _, [] => False
  | [], _ :: _ => True
  | a :: l, b :: r => a < b ∨ (a = b ∧ ltL l r)
def cnts (ps : List Pt) (x : Ad) : List Nat := (ps.filter sevB).map fun p => (ownW x p).length
theorem cnts_cons_yes {p : Pt} {ps : List Pt} {x : Ad} (h : sevB p = true) : cnts (p :: ps) x = (ownW x p).length :: cnts ps x := by
  unfold cnts; rw [List.filter_cons_of_pos h]; rfl
theorem cnts_cons_no {p : Pt} {ps : List Pt} {x : Ad} (h : sevB p = false) : cnts (p :: ps) x = cnts ps x := by
  unfold cnts; rw [List.filter_cons_of_neg (by rw [h]; simp)]
theorem flatMap_one {β : Type} (f : Nat → List β) (n : Nat) (h : ∀ i, 1 ≤ i → f i = []) : (List.range (n + 1)).flatMap f = f 0 := by
  rw [List.range_succ_eq_map, List.flatMap_cons]
  have : ((List.range n).map Nat.succ).flatMap f = [] := by
    rw [List.flatMap_eq_nil_iff]
    intro x hx
    obtain ⟨i, _, rfl⟩ := List.mem_map.1 hx
    exact h _ (by omega)
  rw [this, List.append_nil]
/-- A part that takes one word. -/
theorem rdL_single {p : Pt} {ps : List Pt} {a : Ad} {ws : List W} (h : sevB p = false) : rdL (p :: ps) a ws = if 1 ≤ ws.length ∧ canB p (ws.take 1) = true then rdL ps (setF p.k (ws.take 1) a) (ws.drop 1) else [] := by
  rw [rdL_cons]
  unfold rdN
  rw [flatMap_one _ 3]
  intro i hi
  rw [if_neg]
  rintro ⟨h1, h2⟩
  have := can_one h2 h
  rw [List.length_take] at this
  omega
theorem rdG_ind {P : List Pt → List Ln → Prop} (h0 : P [] []) (h1 : ∀ l r, P l.1 r → P [] (l :: r)) (h2 : ∀ p ps r, P ps r → P (p :: ps) r) : ∀ r ps, P ps r := by
  intro r
  induction r with
  | nil =>
    intro ps
    induction ps with
    | nil => exact h0
    | cons p ps ih => exact h2 p ps [] ih
  | cons l r ihr =>
    intro ps
    induction ps with
    | nil => exact h1 l r (ihr l.1)
    | cons p ps ih => exact h2 p ps (l :: r) ih
theorem rdG_single {p : Pt} {ps : List Pt} {a : Ad} {ws : List W} {r : List Ln} (h : sevB p = false) : rdG (p :: ps) a ws r = if 1 ≤ ws.length ∧ canB p (ws.take 1) = true then rdG ps (setF p.k (ws.take 1) a) (ws.drop 1) r else [] := by
  unfold rdG
  rw [rdL_single h]
  split <;> rfl
theorem rdG_sev (p : Pt) (ps : List Pt) (a : Ad) (ws : List W) (r : List Ln) : rdG (p :: ps) a ws r = (List.range 4).flatMap fun i => if i + 1 ≤ ws.length ∧ canB p (ws.take (i + 1)) = true then rdG ps (setF p.k (ws.take (i + 1)) a) (ws.drop (i + 1)) r else [] := by
  unfold rdG
  rw [rdL_cons]
  unfold rdN
  rw [List.flatMap_assoc]
  refine congrArg (List.flatMap · _) (funext fun i => ?_)
  split <;> rfl
/-- READINGS ARE IN ORDER. -/
theorem rdG_order (r : List Ln) (ps : List Pt) : ∀ (ws : List W) (a : Ad), uniq (ps ++ partsR r) → (∀ p ∈ ps ++ partsR r, partB p = true) →
    (rdG ps a ws r).Pairwise fun x y => ltL (cnts (ps ++ partsR r) x) (cnts (ps ++ partsR r) y) := by
  refine rdG_ind (P := fun ps r => ∀ (ws : List W) (a : Ad), uniq (ps ++ partsR r) → (∀ p ∈ ps ++ partsR r, partB p = true) →
    (rdG ps a ws r).Pairwise fun x y => ltL (cnts (ps ++ partsR r) x) (cnts (ps ++ partsR r) y)) ?_ ?_ ?_ r ps
  · intro ws a _ _
    rw [rdG_nil]; split
    · rw [rdA_nil]; exact List.pairwise_singleton _ _
    · exact List.Pairwise.nil
  · intro l r ih ws a hu hw
    rw [rdG_nil]; split
    · rw [rdA_cons]; exact ih l.2 a hu hw
    · exact List.Pairwise.nil
  · intro p ps r ih ws a hu hw
    have hu2 : uniq (ps ++ partsR r) := hu.2
    have hw2 : ∀ q ∈ ps ++ partsR r, partB q = true := fun q hq => hw q (List.mem_cons_of_mem _ hq)
    have hp : partB p = true := hw p (List.mem_cons_self ..)
    by_cases hs : sevB p = true
    · rw [rdG_sev, List.pairwise_flatMap]
      have key : ∀ (i : Nat) (x : Ad), x ∈ (if i + 1 ≤ ws.length ∧ canB p (ws.take (i + 1)) = true then rdG ps (setF p.k (ws.take (i + 1)) a) (ws.drop (i + 1)) r else []) →
          cnts (p :: (ps ++ partsR r)) x = (i + 1) :: cnts (ps ++ partsR r) x := by
        intro i x hx
        split at hx
        · rename_i hc
          have ho := rdG_offs hx
          obtain ⟨_, _, e4, e5, e6⟩ := own_set hp hc.2 hu.1 ho
          rw [cnts_cons_yes hs, ownW_sev hs hp hc.2 ⟨e4, e5, e6⟩, List.length_take, Nat.min_eq_left hc.1]
        · cases hx
      constructor
      · intro i _
        have hk := key i
        have hI : (if i + 1 ≤ ws.length ∧ canB p (ws.take (i + 1)) = true then rdG ps (setF p.k (ws.take (i + 1)) a) (ws.drop (i + 1)) r else []).Pairwise fun x y => ltL (cnts (ps ++ partsR r) x) (cnts (ps ++ partsR r) y) := by
          split
          · exact ih _ _ hu2 hw2
          · exact List.Pairwise.nil
        refine List.Pairwise.imp_of_mem (fun {x y} hx hy h => ?_) hI
        show ltL (cnts (p :: (ps ++ partsR r)) x) (cnts (p :: (ps ++ partsR r)) y)
        rw [hk x hx, hk y hy]
        exact .inr ⟨rfl, h⟩
      · have hr : (List.range 4).Pairwise (· < ·) := List.pairwise_lt_range
        refine hr.imp fun {i j} hij x hx y hy => ?_
        show ltL (cnts (p :: (ps ++ partsR r)) x) (cnts (p :: (ps ++ partsR r)) y)
        rw [key i x hx, key j y hy]
        exact .inl (by omega)
    · have hs : sevB p = false := by simpa using hs
      rw [rdG_single hs]
      split
      · refine (ih _ _ hu2 hw2).imp fun {x y} h => ?_
        show ltL (cnts (p :: (ps ++ partsR r)) x) (cnts (p :: (ps ++ partsR r)) y)
        rw [cnts_cons_no hs, cnts_cons_no hs]
        exact h
      · exact List.Pairwise.nil

end Fm
end Go.Proofs.YtcaiejbnhjiflaaGreatDoor
