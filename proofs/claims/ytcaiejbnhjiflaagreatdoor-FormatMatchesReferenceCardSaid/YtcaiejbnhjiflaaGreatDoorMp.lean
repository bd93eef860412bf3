/-
  What is printed, and read again; what a reading prints.
-/
import Derived.Test.YtcaiejbnhjiflaaGreatDoorP2
import Derived.Test.YtcaiejbnhjiflaaGreatDoorW12
namespace Go.Proofs.YtcaiejbnhjiflaaGreatDoor
namespace Fm

theorem zip_words {fs : List (List Pt)} {x : Ad} (h : ∀ ps ∈ fs, wordsL (joinW (lineW x ps)) = lineW x ps) : fs.zip ((fs.map fun ps => joinW (lineW x ps)).map wordsL) = fs.map fun ps => (ps, lineW x ps) := by
  induction fs with
  | nil => rfl
  | cons ps fs ih =>
    rw [List.map_cons, List.map_cons, List.zip_cons_cons, List.map_cons, h ps (List.mem_cons_self ..), ih fun q hq => h q (List.mem_cons_of_mem _ hq)]
/-- WHAT PRINT ANSWERS IS READ BY PARSE. -/
structure PrintIs (name : W) (fs : List (List Pt)) (x : Ad) (ls : List W) : Prop where
  len : ls.length = fs.length
  few : ls.length ≤ 8
  short : ∀ l ∈ ls, l.length ≤ 5000
  back : parseR name fs ls = ([], 2) ∨ ∃ rs, parseR name fs ls = (rs, 0) ∧ x ∈ rs ∧ rs.length ≤ 16
theorem print_is {name : W} {fs : List (List Pt)} {x : Ad} (hv : validB name fs = true) (hf : fitsB fs.flatten x = true) : PrintIs name fs x (fs.map fun ps => joinW (lineW x ps)) := by
  obtain ⟨v1, v2, v3, v4, v5⟩ := valid_parts hv
  obtain ⟨hc, hx⟩ := (print_fits v5 v4).2 hf
  have hline : ∀ ps ∈ fs, (lineW x ps).length ≤ ps.length * 4 ∧ ∀ w ∈ lineW x ps, fitW w = true := fun ps hps => line_len fun p hp => hc p (List.mem_flatten.2 ⟨ps, hps, hp⟩)
  have hwj : ∀ ps ∈ fs, wordsL (joinW (lineW x ps)) = lineW x ps := fun ps hps => words_join _ fun w hw => fit_is ((hline ps hps).2 w hw)
  have hlen : (fs.map fun ps => joinW (lineW x ps)).length = fs.length := List.length_map ..
  refine ⟨hlen, by omega, fun l hl => ?_, ?_⟩
  · obtain ⟨ps, hps, rfl⟩ := List.mem_map.1 hl
    have h1 := join_fit (hline ps hps).2
    have h2 := (hline ps hps).1
    have h3 := (v3 ps hps).2
    have : (lineW x ps).length * 21 ≤ 32 * 21 := Nat.mul_le_mul_right _ (by omega)
    omega
  · by_cases hm : 40 < cntW (fs.map fun ps => joinW (lineW x ps))
    · exact .inl (parse_many hv hm)
    · right
      refine ⟨_, parse_ok hv (by omega) hlen, ?_, parse_few hv (by rw [List.length_map, hlen]) _⟩
      rw [zip_words hwj]
      have := rdA_print hc ad0
      rwa [hx] at this

end Fm
end Go.Proofs.YtcaiejbnhjiflaaGreatDoor
