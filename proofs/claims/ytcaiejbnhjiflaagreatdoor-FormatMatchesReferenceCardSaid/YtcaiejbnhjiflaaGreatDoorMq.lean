/-
  A line laid out anew: the words stay; what Parse answers hangs on the words alone.
-/
import Derived.Test.YtcaiejbnhjiflaaGreatDoorW12
namespace Go.Proofs.YtcaiejbnhjiflaaGreatDoor
namespace Fm

theorem parse_words {name : W} {fs : List (List Pt)} {la lb : List W} (h : la.map wordsL = lb.map wordsL) : parseR name fs la = parseR name fs lb := by
  have hl : la.length = lb.length := by have := congrArg List.length h; simpa using this
  have hc : cntW la = cntW lb := by
    unfold cntW
    have e : ∀ l : List W, (l.map fun x => (wordsL x).length) = (l.map wordsL).map List.length := fun l => by rw [List.map_map]; rfl
    rw [e, e, h]
  unfold parseR
  rw [hl, hc, h]
theorem parse_len (name : W) (fs : List (List Pt)) (lns : List W) : (parseR name fs lns).1.length ≤ 16 := by
  unfold parseR
  split
  · exact Nat.zero_le _
  · rename_i hv
    split
    · exact Nat.zero_le _
    · split
      · exact Nat.zero_le _
      · rename_i hl
        exact parse_few (by simpa using hv) (by rw [List.length_map]; omega) _
/-- Behind this text other words begin. -/
def JoinAt (s : W) (us : List W) : Prop := ∀ r, wordsL (s ++ r) = us ++ wordsL r
theorem JoinAt.nil : JoinAt [] [] := fun _ => rfl
theorem words_lead {b : UInt8} (hb : blkB b = true) (r : W) : wordsL (b :: r) = wordsL r := by
  have := words_mid [] r hb
  exact this
theorem JoinAt.blank {s : W} {us : List W} (h : JoinAt s us) {b : UInt8} (hb : blkB b = true) : JoinAt (s ++ [b]) us := fun r => by
  rw [List.append_assoc, h, List.singleton_append, words_lead hb]
theorem JoinAt.word {s : W} {us : List W} (h : JoinAt s us) {w : W} (hw : isW w) : JoinAt (s ++ w ++ [32]) (us ++ [w]) := fun r => by
  rw [List.append_assoc, List.append_assoc, h, List.singleton_append, words_mid _ _ (by rfl), words_of_is hw, List.append_assoc]
theorem JoinAt.end {s : W} {us : List W} (h : JoinAt s us) : wordsL (s ++ [32, 32]) = us := by
  rw [h]; simp [show wordsL [32, 32] = [] from rfl]

/-- Where the loop stands: q is the word before which blanks more are put. -/
structure LayAt (ws : List W) (q i : Nat) (s : W) : Prop where
  join : JoinAt s (ws.take i)
  len : s.length + ((ws.drop i).map List.length).sum ≤ (ws.map List.length).sum + i + if q < i then 2 else 0
theorem LayAt.start (ws : List W) (q : Nat) : LayAt ws q 0 [] := ⟨JoinAt.nil, by simp⟩
theorem LayAt.one {ws : List W} {q i : Nat} {s w : W} (h : LayAt ws q i s) (hw : ws[i]? = some w) (his : isW w) (hq : i ≠ q) : LayAt ws q (i + 1) (s ++ w ++ [32]) := by
  refine ⟨by rw [List.take_add_one, hw]; exact h.join.word his, ?_⟩
  have h2 := h.len
  obtain ⟨hi, hg⟩ := List.getElem?_eq_some_iff.1 hw
  rw [List.drop_eq_getElem_cons hi, hg, List.map_cons, List.sum_cons] at h2
  simp only [List.length_append, List.length_cons, List.length_nil]
  by_cases c : q < i
  · rw [if_pos c] at h2; rw [if_pos (by omega)]; omega
  · rw [if_neg c] at h2; rw [if_neg (by omega)]; omega
theorem LayAt.two {ws : List W} {q i : Nat} {s w : W} (h : LayAt ws q i s) (hw : ws[i]? = some w) (his : isW w) (hq : i = q) : LayAt ws q (i + 1) (s ++ [9, 32] ++ w ++ [32]) := by
  have hj : JoinAt (s ++ [9, 32]) (ws.take i) := by
    have := (h.join.blank (b := 9) (by rfl)).blank (b := 32) (by rfl)
    rwa [List.append_assoc] at this
  refine ⟨by rw [List.take_add_one, hw]; exact hj.word his, ?_⟩
  have h2 := h.len
  obtain ⟨hi, hg⟩ := List.getElem?_eq_some_iff.1 hw
  rw [List.drop_eq_getElem_cons hi, hg, List.map_cons, List.sum_cons, if_neg (by omega)] at h2
  simp only [List.length_append, List.length_cons, List.length_nil]
  rw [if_pos (by omega)]; omega
theorem LayAt.small {ws : List W} {q i : Nat} {s : W} (h : LayAt ws q i s) : s.length ≤ (ws.map List.length).sum + i + 2 := by
  have := h.len
  split at this <;> omega
theorem set_words {lns : List W} {m : Nat} {l s : W} (h : lns[m]? = some l) (hw : wordsL s = wordsL l) : (lns.set m s).map wordsL = lns.map wordsL := by
  apply List.ext_getElem?
  intro i
  rw [List.getElem?_map, List.getElem?_map, List.getElem?_set]
  by_cases hi : m = i
  · subst hi
    have hlt := (List.getElem?_eq_some_iff.1 h).1
    rw [if_pos rfl, if_pos hlt, h]; simp [hw]
  · rw [if_neg hi]
theorem words_sum (l : W) : ((wordsL l).map List.length).sum ≤ l.length := by
  have := (wordsF_len [] l).1
  simpa [wordsL] using this

end Fm
end Go.Proofs.YtcaiejbnhjiflaaGreatDoor
