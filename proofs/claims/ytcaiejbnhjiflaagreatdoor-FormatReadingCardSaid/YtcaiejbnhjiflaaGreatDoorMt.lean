/-
  What FormatReading asks of the readings that Parse answers.
-/
import Derived.Test.YtcaiejbnhjiflaaGreatDoorMo
import Derived.Test.YtcaiejbnhjiflaaGreatDoorMq
namespace Go.Proofs.YtcaiejbnhjiflaaGreatDoor
namespace Fm

/-- What a reading prints. -/
structure RdIs (name : W) (fs : List (List Pt)) (lns : List W) (x : Ad) (ls : List W) : Prop where
  print : printR name fs x = (ls, 0)
  fits : fitsB fs.flatten x = true
  small : Small x
  len : ls.length = lns.length
  short : ∀ l ∈ ls, l.length ≤ 1000
  same : ∀ (k : Nat) (a b : W), ls[k]? = some a → lns[k]? = some b → wordsL (upL a) = wordsL (upL b)
theorem reading_is {name : W} {fs : List (List Pt)} {lns : List W} {rs : List Ad} {er : Int} (h : parseR name fs lns = (rs, er)) {x : Ad} (hx : x ∈ rs) : ∃ ls, RdIs name fs lns x ls := by
  obtain ⟨hv, hl, _, hrs⟩ := parse_has h (fun e => by rw [e] at hx; cases hx)
  obtain ⟨_, hf, hs⟩ := parse_fits h hx
  obtain ⟨v1, v2, v3, v4, v5⟩ := valid_parts hv
  have hz := parts_zip fs (lns.map wordsL) (by rw [List.length_map]; exact hl.symm)
  rw [hrs] at hx
  have hup := (rdA_reads (by rw [hz]; exact v5) (by rw [hz]; exact v4) hx).2
  obtain ⟨hc, _⟩ := (print_fits v5 v4).2 hf
  have hline : ∀ ps ∈ fs, (lineW x ps).length ≤ ps.length * 4 ∧ ∀ w ∈ lineW x ps, fitW w = true := fun ps hps => line_len fun p hp => hc p (List.mem_flatten.2 ⟨ps, hps, hp⟩)
  refine ⟨_, print_ok hv hf, hf, hs, by rw [List.length_map]; exact hl.symm, fun l hl => ?_, fun k a b ha hb => ?_⟩
  · obtain ⟨ps, hps, rfl⟩ := List.mem_map.1 hl
    have h1 := join_fit (hline ps hps).2
    have h2 := (hline ps hps).1
    have h3 := (v3 ps hps).2
    have : (lineW x ps).length * 21 ≤ 32 * 21 := Nat.mul_le_mul_right _ (by omega)
    omega
  · rw [List.getElem?_map, Option.map_eq_some_iff] at ha
    obtain ⟨ps, hps, rfl⟩ := ha
    rw [wordsL_up, wordsL_up, words_join _ fun w hw => fit_is ((hline ps (List.mem_of_getElem? hps)).2 w hw)]
    refine hup (ps, wordsL b) ?_
    refine List.mem_of_getElem? (i := k) ?_
    rw [List.getElem?_zip_eq_some]
    exact ⟨hps, by rw [List.getElem?_map, hb]; rfl⟩
theorem reading_apart {name : W} {fs : List (List Pt)} {lns : List W} {rs : List Ad} {er : Int} (h : parseR name fs lns = (rs, er)) {k i : Nat} {x y : Ad} (hki : k < i) (hy : rs[k]? = some y) (hx : rs[i]? = some x) : y ≠ x := by
  obtain ⟨hv, hl, _, hrs⟩ := parse_has h (fun e => by rw [e] at hx; simp at hx)
  obtain ⟨_, _, _, v4, v5⟩ := valid_parts hv
  have hz := parts_zip fs (lns.map wordsL) (by rw [List.length_map]; exact hl.symm)
  have hp := rdA_nodup (fs.zip (lns.map wordsL)) ad0 (by rw [hz]; exact v5) (by rw [hz]; exact v4)
  rw [← hrs, hz, List.pairwise_iff_getElem] at hp
  obtain ⟨i1, e1⟩ := List.getElem?_eq_some_iff.1 hy
  obtain ⟨i2, e2⟩ := List.getElem?_eq_some_iff.1 hx
  have := hp k i i1 i2 hki
  rw [e1, e2] at this
  intro e
  rw [e] at this
  exact ltL_irrefl _ this
theorem parse_err {name : W} {fs : List (List Pt)} {lns : List W} {rs : List Ad} {er : Int} (h : parseR name fs lns = (rs, er)) (he : er ≠ 0) : rs = [] := by
  by_cases h0 : rs = []
  · exact h0
  · exact absurd (parse_has h h0).2.2.1 he

end Fm
end Go.Proofs.YtcaiejbnhjiflaaGreatDoor
