/-
  The readings that Parse answers: in order, fitting, of moderate size.
-/
import Derived.Test.YtcaiejbnhjiflaaGreatDoorMp
namespace Go.Proofs.YtcaiejbnhjiflaaGreatDoor
namespace Fm

theorem sevT_len {s : W} (h : sevT s = true) : s.length ≤ 84 := by
  obtain ⟨h1, h2, h3, h4⟩ := (sevT_iff s).1 h
  have := join_fit h1
  rw [h4] at this
  omega
theorem fits_small {ps : List Pt} {x : Ad} (hw : ∀ p ∈ ps, partB p = true) (h : fitsB ps x = true) : Small x := by
  unfold fitsB voidB at h
  simp only [Bool.and_eq_true, Bool.or_eq_true, decide_eq_true_eq, kinB_iff, List.all_eq_true] at h
  obtain ⟨⟨⟨⟨⟨n2, n3⟩, n4⟩, n5⟩, n6⟩, hp⟩ := h
  have a2 : -9223372036854775808 ≤ x.number ∧ x.number ≤ 9223372036854775807 := by
    rcases n2 with ⟨p, hpm, hk⟩ | h
    · have := hp p hpm
      unfold fitP at this
      rw [if_pos hk, Bool.and_eq_true, decide_eq_true_eq, decide_eq_true_eq] at this
      omega
    · rw [h]; decide
  have a3 : x.code.length ≤ 1000 := by
    rcases n3 with ⟨p, hpm, hk⟩ | h
    · have := hp p hpm
      unfold fitP at this
      rw [if_neg (by omega), if_pos hk, Bool.and_eq_true] at this
      have hl := codeW_len this.1
      have hq := hw p hpm
      unfold partB at hq
      rw [if_neg (by omega), if_pos hk, patW_iff] at hq
      omega
    · rw [h]; decide
  have a4 : x.street.length ≤ 1000 := by
    rcases n4 with ⟨p, hpm, hk⟩ | h
    · have := hp p hpm
      unfold fitP at this
      rw [if_neg (by omega), if_neg (by omega), if_pos hk] at this
      have := sevT_len this; omega
    · rw [h]; decide
  have a5 : x.town.length ≤ 1000 := by
    rcases n5 with ⟨p, hpm, hk⟩ | h
    · have := hp p hpm
      unfold fitP at this
      rw [if_neg (by omega), if_neg (by omega), if_neg (by omega), if_pos hk] at this
      have := sevT_len this; omega
    · rw [h]; decide
  have a6 : x.person.length ≤ 1000 := by
    rcases n6 with ⟨p, hpm, hk⟩ | h
    · have := hp p hpm
      unfold fitP at this
      rw [if_neg (by omega), if_neg (by omega), if_neg (by omega), if_neg (by omega), if_pos hk] at this
      have := sevT_len this; omega
    · rw [h]; decide
  exact ⟨a6, a4, a3, a5, a2.1, a2.2⟩
/-- Where there is a reading: the format is well-formed, the readings are those of the lines. -/
theorem parse_has {name : W} {fs : List (List Pt)} {lns : List W} {rs : List Ad} {er : Int} (h : parseR name fs lns = (rs, er)) (h0 : rs ≠ []) :
    validB name fs = true ∧ lns.length = fs.length ∧ er = 0 ∧ rs = rdA (fs.zip (lns.map wordsL)) ad0 := by
  unfold parseR at h
  split at h
  · cases h; exact absurd rfl h0
  · rename_i hv
    split at h
    · cases h; exact absurd rfl h0
    · split at h
      · cases h; exact absurd rfl h0
      · rename_i hl
        cases h
        exact ⟨by simpa using hv, by omega, rfl, rfl⟩
theorem parse_fits {name : W} {fs : List (List Pt)} {lns : List W} {rs : List Ad} {er : Int} (h : parseR name fs lns = (rs, er)) {x : Ad} (hx : x ∈ rs) : validB name fs = true ∧ fitsB fs.flatten x = true ∧ Small x := by
  obtain ⟨hv, hl, _, hrs⟩ := parse_has h (fun e => by rw [e] at hx; cases hx)
  obtain ⟨_, _, _, v4, v5⟩ := valid_parts hv
  have hz := parts_zip fs (lns.map wordsL) (by rw [List.length_map]; exact hl.symm)
  rw [hrs] at hx
  have := (rdA_reads (by rw [hz]; exact v5) (by rw [hz]; exact v4) hx).1
  rw [hz] at this
  exact ⟨hv, this, fits_small v4 this⟩
theorem parse_order {name : W} {fs : List (List Pt)} {lns : List W} {rs : List Ad} {er : Int} (h : parseR name fs lns = (rs, er)) {k : Nat} {x y : Ad} (hx : rs[k]? = some x) (hy : rs[k + 1]? = some y) : ltL (cnts fs.flatten x) (cnts fs.flatten y) := by
  obtain ⟨hv, hl, _, hrs⟩ := parse_has h (fun e => by rw [e] at hx; simp at hx)
  obtain ⟨_, _, _, v4, v5⟩ := valid_parts hv
  have hz := parts_zip fs (lns.map wordsL) (by rw [List.length_map]; exact hl.symm)
  have hp := rdA_nodup (fs.zip (lns.map wordsL)) ad0 (by rw [hz]; exact v5) (by rw [hz]; exact v4)
  rw [← hrs, hz, List.pairwise_iff_getElem] at hp
  obtain ⟨i1, e1⟩ := List.getElem?_eq_some_iff.1 hx
  obtain ⟨i2, e2⟩ := List.getElem?_eq_some_iff.1 hy
  have := hp k (k + 1) i1 i2 (by omega)
  rwa [e1, e2] at this

end Fm
end Go.Proofs.YtcaiejbnhjiflaaGreatDoor
