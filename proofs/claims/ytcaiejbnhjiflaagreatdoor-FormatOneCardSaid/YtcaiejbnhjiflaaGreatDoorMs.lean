/-
  At most one reading; none with a line more or less.
-/
import Derived.Test.YtcaiejbnhjiflaaGreatDoorMo
import Derived.Test.YtcaiejbnhjiflaaGreatDoorMq
namespace Go.Proofs.YtcaiejbnhjiflaaGreatDoor
namespace Fm

/-- What FormatOne asks of the two answers. -/
theorem one_facts {name : W} {fs : List (List Pt)} {la lb : List W} {ra rb : List Ad} {ea eb : Int} (hv : validB name fs = true) (hs : ∀ ps ∈ fs, nsev ps ≤ 1) (hl : lb.length = la.length + 1)
    (ha : parseR name fs la = (ra, ea)) (hb : parseR name fs lb = (rb, eb)) : (ea = 2 ∨ ea = 0) ∧ (eb = 2 ∨ eb = 0) ∧ ra.length ≤ 1 ∧ (ra = [] ∨ rb = []) := by
  have H : ∀ (l : List W) (r : List Ad) (e : Int), parseR name fs l = (r, e) → (e = 2 ∨ e = 0) ∧ r.length ≤ 1 ∧ (r ≠ [] → l.length = fs.length) := by
    intro l r e h
    by_cases hm : 40 < cntW l
    · rw [parse_many hv hm] at h
      cases h
      exact ⟨.inl rfl, by simp, fun h => absurd rfl h⟩
    · by_cases hq : l.length = fs.length
      · rw [parse_ok hv (by omega) hq] at h
        cases h
        refine ⟨.inr rfl, rdA_one _ _ fun x hx => ?_, fun _ => hq⟩
        exact hs x.1 (List.of_mem_zip hx).1
      · rw [parse_lines hv (by omega) hq] at h
        cases h
        exact ⟨.inr rfl, by simp, fun h => absurd rfl h⟩
  obtain ⟨a1, a2, a3⟩ := H la ra ea ha
  obtain ⟨b1, b2, b3⟩ := H lb rb eb hb
  refine ⟨a1, b1, a2, ?_⟩
  by_cases h1 : ra = []
  · exact .inl h1
  · by_cases h2 : rb = []
    · exact .inr h2
    · have := a3 h1
      have := b3 h2
      omega
/-- The parts that can take several words, counted part after part. -/
theorem nsev_snoc {ps : List Pt} {k : Nat} {p : Pt} (h : ps[k]? = some p) : nsev (ps.take (k + 1)) = nsev (ps.take k) + if sevB p = true then 1 else 0 := by
  rw [List.take_add_one, h, nsev_append]
  by_cases hs : sevB p = true
  · rw [if_pos hs]; simp [nsev, hs]
  · rw [if_neg hs]; simp [nsev, hs]
theorem nsev_len (ps : List Pt) : nsev ps ≤ ps.length := List.length_filter_le _ _

end Fm
end Go.Proofs.YtcaiejbnhjiflaaGreatDoor
