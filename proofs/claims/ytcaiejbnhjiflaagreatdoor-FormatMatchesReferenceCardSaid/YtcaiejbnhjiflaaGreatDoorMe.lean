/-
  Plain mathematics of layer 4: addresses that fit, what is printed of them and what a reading prints. No program is named here.
-/
import Derived.Test.YtcaiejbnhjiflaaGreatDoorMd
namespace Go.Proofs.YtcaiejbnhjiflaaGreatDoor
namespace Fm

/-- A text of one to four fit words, separated by one blank each. -/
def sevT (s : W) : Bool := (wordsL s).all fitW && decide (1 ≤ (wordsL s).length) && decide ((wordsL s).length ≤ 4) && decide (joinW (wordsL s) = s)
def kinB (ps : List Pt) (k : Int) : Bool := ps.any fun p => decide (p.k = k)
theorem kinB_iff (ps : List Pt) (k : Int) : kinB ps k = true ↔ kin ps k := by unfold kinB kin; simp
/-- The fields of parts that a format does not have. -/
def voidB (ps : List Pt) (x : Ad) : Bool :=
  (kinB ps 2 || decide (x.number = 0)) && (kinB ps 3 || decide (x.code = [])) && (kinB ps 4 || decide (x.street = [])) && (kinB ps 5 || decide (x.town = [])) && (kinB ps 6 || decide (x.person = []))
/-- A part's field fits. -/
def fitP (x : Ad) (p : Pt) : Bool :=
  if p.k = 2 then decide (1 ≤ x.number) && decide (x.number ≤ 9999) else if p.k = 3 then codeW x.code p.t && decide (upL x.code = x.code) else if p.k = 4 then sevT x.street else if p.k = 5 then sevT x.town else if p.k = 6 then sevT x.person else true
def fitsB (ps : List Pt) (x : Ad) : Bool := voidB ps x && ps.all (fitP x)

/-- What Print collects. -/
def foldS (x : Ad) (ps : List Pt) (a : Ad) : Ad := ps.foldl (fun a p => setF p.k (ownW x p) a) a
theorem foldS_cons (x : Ad) (p : Pt) (ps : List Pt) (a : Ad) : foldS x (p :: ps) a = foldS x ps (setF p.k (ownW x p) a) := rfl
theorem foldS_append (x : Ad) (ps qs : List Pt) (a : Ad) : foldS x (ps ++ qs) a = foldS x qs (foldS x ps a) := by unfold foldS; rw [List.foldl_append]
theorem foldS_off (x : Ad) (ps : List Pt) (a : Ad) : Off (kin ps) a (foldS x ps a) := by
  induction ps generalizing a with
  | nil => exact .refl _ _
  | cons p ps ih =>
    rw [foldS_cons]
    exact ((off_set p.k _ a).mono fun k hk => (kin_cons ..).2 (.inl hk.symm)).trans ((ih _).mono fun k hk => (kin_cons ..).2 (.inr hk))
/-- What a part sets there stays. -/
theorem foldS_at {x : Ad} {ps : List Pt} (hu : uniq ps) {p : Pt} (hp : p ∈ ps) (a : Ad) : ∃ (K : Int → Prop) (b : Ad), (p.k ≠ 1 → ¬ K p.k) ∧ Off K (setF p.k (ownW x p) b) (foldS x ps a) := by
  induction ps generalizing a with
  | nil => cases hp
  | cons q ps ih =>
    rw [foldS_cons]
    rcases List.mem_cons.1 hp with rfl | hp
    · exact ⟨kin ps, a, hu.1, foldS_off x ps _⟩
    · exact ih hu.2 hp _

theorem can_of {p : Pt} {ws : List W} (h1 : 1 ≤ ws.length) (h2 : ws.length ≤ if 4 ≤ p.k then 4 else 1) (h3 : ∀ w ∈ ws, fitW w = true) (h4 : (if p.k = 1 then decide (upL (ws.getD 0 []) = upL p.t) else if p.k = 2 then isNum (ws.getD 0 []) else if p.k = 3 then codeW (ws.getD 0 []) p.t else true) = true) : canB p ws = true := by
  unfold canB
  rw [h4]
  simp only [Bool.and_eq_true, decide_eq_true_eq, List.all_eq_true]
  exact ⟨⟨⟨h1, h2⟩, h3⟩, trivial⟩
theorem can_at {p : Pt} {ws : List W} (h : canB p ws = true) : (if p.k = 1 then decide (upL (ws.getD 0 []) = upL p.t) else if p.k = 2 then isNum (ws.getD 0 []) else if p.k = 3 then codeW (ws.getD 0 []) p.t else true) = true := by
  unfold canB at h
  simp only [Bool.and_eq_true] at h
  exact h.2
theorem sevT_iff (s : W) : sevT s = true ↔ (∀ w ∈ wordsL s, fitW w = true) ∧ 1 ≤ (wordsL s).length ∧ (wordsL s).length ≤ 4 ∧ joinW (wordsL s) = s := by
  unfold sevT; simp [and_assoc]
theorem sevT_join {ws : List W} (h : ∀ w ∈ ws, fitW w = true) (h1 : 1 ≤ ws.length) (h2 : ws.length ≤ 4) : sevT (joinW ws) = true := by
  rw [sevT_iff, words_join ws fun w hw => fit_is (h w hw)]
  exact ⟨h, h1, h2, rfl⟩
theorem one_of {ws : List W} (h : ws.length = 1) : ∃ w, ws = [w] := List.length_eq_one_iff.1 h

/-- A FIELD THAT FITS IS WHAT ITS PART TAKES .. -/
theorem can_of_fit {x : Ad} {p : Pt} (hp : partB p = true) (h : fitP x p = true) : canB p (ownW x p) = true ∧
    (p.k = 2 → x.number = (numW ((ownW x p).getD 0 []) : Nat)) ∧ (p.k = 3 → x.code = upL ((ownW x p).getD 0 [])) ∧ (p.k = 4 → x.street = joinW (ownW x p)) ∧ (p.k = 5 → x.town = joinW (ownW x p)) ∧ (p.k = 6 → x.person = joinW (ownW x p)) := by
  obtain ⟨hk1, hk6, hw1, hw3, _⟩ := wfp hp
  unfold fitP at h
  rcases (show p.k = 1 ∨ p.k = 2 ∨ p.k = 3 ∨ p.k = 4 ∨ p.k = 5 ∨ p.k = 6 by omega) with e | e | e | e | e | e
  · have ho : ownW x p = [p.t] := by unfold ownW; rw [if_pos e]; exact words_of_is (fit_is (hw1 e))
    rw [ho]
    refine ⟨can_of (by simp) (by rw [e]; simp) (fun w hw => by rw [List.mem_singleton.1 hw]; exact hw1 e) (by rw [e]; simp), ?_⟩
    refine ⟨?_, ?_, ?_, ?_, ?_⟩ <;> intro e' <;> omega
  · have ho : ownW x p = [Lib.itoa x.number] := by unfold ownW; rw [e]; exact words_of_is (itoa_is _)
    rw [ho]
    rw [e] at h
    simp at h
    obtain ⟨m, hm⟩ := Int.eq_ofNat_of_zero_le (show 0 ≤ x.number by omega)
    obtain ⟨i1, i2⟩ := num_itoa (n := m) (by omega) (by omega)
    rw [← hm] at i1 i2
    refine ⟨can_of (by simp) (by rw [e]; simp) (fun w hw => by rw [List.mem_singleton.1 hw]; exact isNum_fit i1) (by rw [e]; simpa using i1), ?_, ?_, ?_, ?_, ?_⟩ <;> intro e' <;> try omega
    simp only [List.getD_cons_zero]
    unfold numW
    rw [if_pos i1, i2]; exact hm
  · rw [e] at h
    simp at h
    obtain ⟨h1, h2⟩ := h
    obtain ⟨q1, q2, q3⟩ := (patW_iff p.t).1 (hw3 e)
    have hl := codeW_len h1
    have hf : fitW x.code = true := (fitW_iff _).2 ⟨by omega, by omega, codeW_fit q3 h1⟩
    have ho : ownW x p = [x.code] := by unfold ownW; rw [e]; exact words_of_is (fit_is hf)
    rw [ho]
    refine ⟨can_of (by simp) (by rw [e]; simp) (fun w hw => by rw [List.mem_singleton.1 hw]; exact hf) (by rw [e]; simpa using h1), ?_, ?_, ?_, ?_, ?_⟩ <;> intro e' <;> try omega
    exact h2.symm
  all_goals
    rw [e] at h
    simp at h
    obtain ⟨s1, s2, s3, s4⟩ := (sevT_iff _).1 h
  · have ho : ownW x p = wordsL x.street := by unfold ownW; rw [e]; rfl
    rw [ho]
    refine ⟨can_of s2 (by rw [e]; simpa using s3) s1 (by rw [e]; simp), ?_, ?_, ?_, ?_, ?_⟩ <;> intro e' <;> first | omega | exact s4.symm
  · have ho : ownW x p = wordsL x.town := by unfold ownW; rw [e]; rfl
    rw [ho]
    refine ⟨can_of s2 (by rw [e]; simpa using s3) s1 (by rw [e]; simp), ?_, ?_, ?_, ?_, ?_⟩ <;> intro e' <;> first | omega | exact s4.symm
  · have ho : ownW x p = wordsL x.person := by unfold ownW; rw [e]; rfl
    rw [ho]
    refine ⟨can_of s2 (by rw [e]; simpa using s3) s1 (by rw [e]; simp), ?_, ?_, ?_, ?_, ?_⟩ <;> intro e' <;> first | omega | exact s4.symm
/-- .. AND A FIELD THAT A PART HAS SET FITS. -/
theorem fit_of_can {x : Ad} {p : Pt} {ws : List W} (hp : partB p = true) (hc : canB p ws = true)
    (h : (p.k = 2 → x.number = (numW (ws.getD 0 []) : Nat)) ∧ (p.k = 3 → x.code = upL (ws.getD 0 [])) ∧ (p.k = 4 → x.street = joinW ws) ∧ (p.k = 5 → x.town = joinW ws) ∧ (p.k = 6 → x.person = joinW ws)) :
    fitP x p = true ∧ (ownW x p).map upL = ws.map upL := by
  obtain ⟨hk1, hk6, hw1, hw3, _⟩ := wfp hp
  have ha := can_at hc
  have hl := can_len hc
  have hf := can_fit hc
  obtain ⟨e2, e3, e4, e5, e6⟩ := h
  unfold fitP
  by_cases h4 : 4 ≤ p.k
  · have hs : sevB p = true := by simpa [sevB] using h4
    rw [ownW_sev hs hp hc ⟨e4, e5, e6⟩]
    refine ⟨?_, rfl⟩
    rw [if_neg (by omega), if_neg (by omega)]
    by_cases k4 : p.k = 4
    · rw [if_pos k4, e4 k4]; exact sevT_join hf hl.1 hl.2
    · rw [if_neg k4]
      by_cases k5 : p.k = 5
      · rw [if_pos k5, e5 k5]; exact sevT_join hf hl.1 hl.2
      · rw [if_neg k5, if_pos (by omega), e6 (by omega)]; exact sevT_join hf hl.1 hl.2
  · obtain ⟨w, rfl⟩ := one_of (can_one hc (by simpa [sevB] using h4))
    have hfw := hf w (List.mem_cons_self ..)
    simp only [List.getD_cons_zero] at ha e2 e3
    unfold ownW
    rcases (show p.k = 1 ∨ p.k = 2 ∨ p.k = 3 by omega) with e | e | e
    · rw [e] at ha ⊢
      simp at ha
      refine ⟨by simp, ?_⟩
      rw [if_pos rfl, words_of_is (fit_is (hw1 e))]
      simp [ha]
    · rw [e] at ha ⊢
      simp at ha
      have hn := e2 e
      have hb := num_bd ha
      unfold numW at hn
      rw [if_pos ha] at hn
      refine ⟨by simp; omega, ?_⟩
      rw [if_neg (by decide), if_pos rfl, hn, itoa_num ha, words_of_is (fit_is hfw)]
    · rw [e] at ha ⊢
      simp at ha
      have hc3 := e3 e
      refine ⟨?_, ?_⟩
      · rw [hc3]
        simp [codeW_up, ha, upL_upL]
      · rw [if_neg (by decide), if_neg (by decide), if_pos rfl, hc3, words_of_is (fit_is (by rw [fitW_up]; exact hfw))]
        simp [upL_upL]

/-- PRINT ACCEPTS THE ADDRESSES THAT FIT. -/
theorem print_fits {ps : List Pt} {x : Ad} (hu : uniq ps) (hw : ∀ p ∈ ps, partB p = true) : ((∀ p ∈ ps, canB p (ownW x p) = true) ∧ foldS x ps ad0 = x) ↔ fitsB ps x = true := by
  unfold fitsB voidB
  simp only [Bool.and_eq_true, Bool.or_eq_true, decide_eq_true_eq, kinB_iff, List.all_eq_true]
  constructor
  · rintro ⟨hc, hx⟩
    have ho := foldS_off x ps ad0
    rw [hx] at ho
    refine ⟨⟨⟨⟨⟨?_, ?_⟩, ?_⟩, ?_⟩, ?_⟩, fun p hp => ?_⟩
    · by_cases h : kin ps 2; · exact .inl h
      exact .inr (ho.n h).symm
    · by_cases h : kin ps 3; · exact .inl h
      exact .inr (ho.c h).symm
    · by_cases h : kin ps 4; · exact .inl h
      exact .inr (ho.s h).symm
    · by_cases h : kin ps 5; · exact .inl h
      exact .inr (ho.t h).symm
    · by_cases h : kin ps 6; · exact .inl h
      exact .inr (ho.p h).symm
    · obtain ⟨K, b, hK, hO⟩ := foldS_at (x := x) hu hp ad0
      rw [hx] at hO
      exact (fit_of_can (hw p hp) (hc p hp) (own_set (hw p hp) (hc p hp) hK hO)).1
  · rintro ⟨⟨⟨⟨⟨v2, v3⟩, v4⟩, v5⟩, v6⟩, hf⟩
    have hc : ∀ p ∈ ps, canB p (ownW x p) = true := fun p hp => (can_of_fit (hw p hp) (hf p hp)).1
    refine ⟨hc, ?_⟩
    have ho := foldS_off x ps ad0
    have key : ∀ p ∈ ps, ((p.k = 2 → (foldS x ps ad0).number = x.number) ∧ (p.k = 3 → (foldS x ps ad0).code = x.code) ∧ (p.k = 4 → (foldS x ps ad0).street = x.street) ∧ (p.k = 5 → (foldS x ps ad0).town = x.town) ∧ (p.k = 6 → (foldS x ps ad0).person = x.person)) := by
      intro p hp
      obtain ⟨K, b, hK, hO⟩ := foldS_at (x := x) hu hp ad0
      obtain ⟨f2, f3, f4, f5, f6⟩ := own_set (hw p hp) (hc p hp) hK hO
      obtain ⟨_, g2, g3, g4, g5, g6⟩ := can_of_fit (hw p hp) (hf p hp)
      exact ⟨fun e => (f2 e).trans (g2 e).symm, fun e => (f3 e).trans (g3 e).symm, fun e => (f4 e).trans (g4 e).symm, fun e => (f5 e).trans (g5 e).symm, fun e => (f6 e).trans (g6 e).symm⟩
    refine ad_ext ?_ ?_ ?_ ?_ ?_
    · by_cases h : kin ps 6
      · obtain ⟨p, hp, e⟩ := h; exact (key p hp).2.2.2.2 e
      · rw [← ho.p h]; rcases v6 with h' | h'
        · exact absurd h' h
        · exact h'.symm
    · by_cases h : kin ps 4
      · obtain ⟨p, hp, e⟩ := h; exact (key p hp).2.2.1 e
      · rw [← ho.s h]; rcases v4 with h' | h'
        · exact absurd h' h
        · exact h'.symm
    · by_cases h : kin ps 2
      · obtain ⟨p, hp, e⟩ := h; exact (key p hp).1 e
      · rw [← ho.n h]; rcases v2 with h' | h'
        · exact absurd h' h
        · exact h'.symm
    · by_cases h : kin ps 3
      · obtain ⟨p, hp, e⟩ := h; exact (key p hp).2.1 e
      · rw [← ho.c h]; rcases v3 with h' | h'
        · exact absurd h' h
        · exact h'.symm
    · by_cases h : kin ps 5
      · obtain ⟨p, hp, e⟩ := h; exact (key p hp).2.2.2.1 e
      · rw [← ho.t h]; rcases v5 with h' | h'
        · exact absurd h' h
        · exact h'.symm

/-- The words that a line prints. -/
def lineW (x : Ad) (ps : List Pt) : List W := ps.flatMap (ownW x)
/-- WHAT IS PRINTED IS READ. -/
theorem rdL_print {x : Ad} {ps : List Pt} (hc : ∀ p ∈ ps, canB p (ownW x p) = true) (a : Ad) : foldS x ps a ∈ rdL ps a (lineW x ps) := by
  induction ps generalizing a with
  | nil => unfold lineW; rw [List.flatMap_nil, rdL_nil, if_pos rfl]; exact List.mem_singleton.2 rfl
  | cons p ps ih =>
    have h0 := hc p (List.mem_cons_self ..)
    have hl := can_len h0
    rw [mem_rdL]
    refine ⟨(ownW x p).length, hl.1, ?_, hl.2, ?_, ?_⟩
    · unfold lineW; rw [List.flatMap_cons, List.length_append]; omega
    · unfold lineW; rw [List.flatMap_cons, List.take_left]; exact h0
    · unfold lineW; rw [List.flatMap_cons, List.take_left, List.drop_left]
      exact ih (fun q hq => hc q (List.mem_cons_of_mem _ hq)) _
theorem rdA_print {x : Ad} {fs : List (List Pt)} (hc : ∀ p ∈ fs.flatten, canB p (ownW x p) = true) (a : Ad) : foldS x fs.flatten a ∈ rdA (fs.map fun ps => (ps, lineW x ps)) a := by
  induction fs generalizing a with
  | nil => exact List.mem_singleton.2 rfl
  | cons ps fs ih =>
    rw [List.flatten_cons] at hc ⊢
    rw [List.map_cons, rdA_cons, foldS_append, List.mem_flatMap]
    exact ⟨_, rdL_print (fun p hp => hc p (List.mem_append_left _ hp)) a, ih (fun p hp => hc p (List.mem_append_right _ hp)) _⟩
/-- WHAT IS READ FITS, AND IS PRINTED WITH ITS WORDS. -/
theorem rdG_reads (r : List Ln) (ps : List Pt) : ∀ (ws : List W) (a x : Ad), uniq (ps ++ partsR r) → (∀ p ∈ ps ++ partsR r, partB p = true) → x ∈ rdG ps a ws r →
    (∀ p ∈ ps ++ partsR r, fitP x p = true) ∧ (lineW x ps).map upL = ws.map upL ∧ ∀ l ∈ r, (lineW x l.1).map upL = l.2.map upL := by
  refine rdG_ind (P := fun ps r => ∀ (ws : List W) (a x : Ad), uniq (ps ++ partsR r) → (∀ p ∈ ps ++ partsR r, partB p = true) → x ∈ rdG ps a ws r →
    (∀ p ∈ ps ++ partsR r, fitP x p = true) ∧ (lineW x ps).map upL = ws.map upL ∧ ∀ l ∈ r, (lineW x l.1).map upL = l.2.map upL) ?_ ?_ ?_ r ps
  · intro ws a x _ _ hx
    rw [rdG_nil] at hx
    split at hx
    · rename_i h; rw [h]; exact ⟨fun p hp => (by cases hp), rfl, fun l hl => (by cases hl)⟩
    · cases hx
  · intro l r ih ws a x hu hw hx
    rw [rdG_nil] at hx
    split at hx
    · rename_i h
      obtain ⟨i1, i2, i3⟩ := ih l.2 a x hu hw hx
      rw [h]
      refine ⟨i1, rfl, fun m hm => ?_⟩
      rcases List.mem_cons.1 hm with rfl | hm
      · exact i2
      · exact i3 m hm
    · cases hx
  · intro p ps r ih ws a x hu hw hx
    obtain ⟨b, hb, hx⟩ := List.mem_flatMap.1 hx
    obtain ⟨n, h1, h2, h3, hc, hb⟩ := mem_rdL.1 hb
    have hg : x ∈ rdG ps (setF p.k (ws.take n) a) (ws.drop n) r := List.mem_flatMap.2 ⟨b, hb, hx⟩
    obtain ⟨i1, i2, i3⟩ := ih _ _ x hu.2 (fun q hq => hw q (List.mem_cons_of_mem _ hq)) hg
    have hp := hw p (List.mem_cons_self ..)
    obtain ⟨f1, f2⟩ := fit_of_can hp hc (own_set hp hc hu.1 (rdG_offs hg))
    refine ⟨fun q hq => ?_, ?_, i3⟩
    · rcases List.mem_cons.1 hq with rfl | hq
      · exact f1
      · exact i1 q hq
    · unfold lineW at i2 ⊢
      rw [List.flatMap_cons, List.map_append, f2, i2, ← List.map_append, List.take_append_drop]
theorem rdA_reads {r : List Ln} {x : Ad} (hu : uniq (partsR r)) (hw : ∀ p ∈ partsR r, partB p = true) (hx : x ∈ rdA r ad0) :
    fitsB (partsR r) x = true ∧ ∀ l ∈ r, (lineW x l.1).map upL = l.2.map upL := by
  have hg : x ∈ rdG [] ad0 [] r := by rw [rdG_nil, if_pos rfl]; exact hx
  obtain ⟨i1, _, i3⟩ := rdG_reads r [] [] ad0 x hu hw hg
  refine ⟨?_, i3⟩
  have ho := rdA_off hx
  unfold fitsB voidB
  simp only [Bool.and_eq_true, Bool.or_eq_true, decide_eq_true_eq, kinB_iff, List.all_eq_true]
  refine ⟨⟨⟨⟨⟨?_, ?_⟩, ?_⟩, ?_⟩, ?_⟩, i1⟩
  · by_cases h : kin (partsR r) 2; · exact .inl h
    exact .inr (ho.n h).symm
  · by_cases h : kin (partsR r) 3; · exact .inl h
    exact .inr (ho.c h).symm
  · by_cases h : kin (partsR r) 4; · exact .inl h
    exact .inr (ho.s h).symm
  · by_cases h : kin (partsR r) 5; · exact .inl h
    exact .inr (ho.t h).symm
  · by_cases h : kin (partsR r) 6; · exact .inl h
    exact .inr (ho.p h).symm

end Fm
end Go.Proofs.YtcaiejbnhjiflaaGreatDoor
