/-
  Arguments opened: a format, an address that came in.
-/
import Derived.Test.YtcaiejbnhjiflaaGreatDoorOpen
import Derived.Test.YtcaiejbnhjiflaaGreatDoorLPr
import Derived.Lib.SmallJoins
namespace Go.Proofs.YtcaiejbnhjiflaaGreatDoor
open Go.Joins Go.ChangeShapes Go.WideShapes Go.ChangeAt Go.RowKit Go.Deep
namespace Fm

theorem cellsInt : Tryz.prog.cellsOf 3 = 1 := by kernel_rfl
theorem cellsPart : Tryz.prog.cellsOf 49 = 2 := by kernel_rfl
theorem cellsParts : Tryz.prog.cellsOf 47 = 1 := by kernel_rfl
theorem cellsLines : Tryz.prog.cellsOf 22 = 1 := by kernel_rfl
theorem cellsFmt : Tryz.prog.cellsOf 24 = 2 := by kernel_rfl
theorem cellsAddr : Tryz.prog.cellsOf 27 = 5 := by kernel_rfl
section
variable {H : Type} {enc : TypeId × Value → H} {Wd : World} {base : Nat} {sp : Nat → Bool} {held : Bool}
set_option maxRecDepth 100000 in
theorem part_cells {n : Nat} {cs : List Value} {x : DataW H × List MemPlace} (h : DataW.trod enc Tryz.prog Wd base sp held n 49 cs = some x) : ∃ (k : Int) (s : ByteArray), cs = [.int .i64 k, .string s] := by
  obtain ⟨xs, m, rfl, hx, hl, hxl, hall⟩ := DataW.trod_struct Tryz.underlying49 h
  rw [cellsPart] at hl
  match cs, hl with
  | [c0, c1], _ =>
    match xs, hxl with
    | [x0, x1], _ =>
      have f0 := hall 0 _ rfl
      have f1 := hall 1 _ rfl
      change DataW.trod _ _ _ _ _ _ _ 3 (([c0, c1].drop 0).take (Tryz.prog.cellsOf 3)) = some x0 at f0
      change DataW.trod _ _ _ _ _ _ _ 9 (([c0, c1].drop 1).take (Tryz.prog.cellsOf 9)) = some x1 at f1
      rw [cellsInt] at f0
      rw [cellsStr] at f1
      obtain ⟨k, e0, _⟩ := DataW.trod_int Tryz.underlying3 f0
      obtain ⟨s, e1, _⟩ := DataW.trod_string Tryz.underlying9 f1
      simp at e0 e1
      exact ⟨k, s, by rw [e0, e1]⟩
theorem collect {α β : Type} {Q : Nat → α → β → Prop} (n : Nat) (h : ∀ i, i < n → ∃ u p, Q i u p) : ∃ (us : List α) (ps : List β), us.length = n ∧ ps.length = n ∧ ∀ (i : Nat) (u : α) (p : β), us[i]? = some u → ps[i]? = some p → Q i u p := by
  induction n with
  | zero => exact ⟨[], [], rfl, rfl, fun i u p hu => by simp at hu⟩
  | succ n ih =>
    obtain ⟨us, ps, h1, h2, h3⟩ := ih fun i hi => h i (by omega)
    obtain ⟨u, p, hq⟩ := h n (by omega)
    refine ⟨us ++ [u], ps ++ [p], by simp [h1], by simp [h2], fun i a b ha hb => ?_⟩
    by_cases hi : i < n
    · rw [List.getElem?_append_left (by omega)] at ha hb
      exact h3 i a b ha hb
    · have hi2 : i = n := by have := (List.getElem?_eq_some_iff.1 ha).1; simp [h1] at this; omega
      subst hi2
      rw [List.getElem?_append_right (by omega), h1, Nat.sub_self] at ha
      rw [List.getElem?_append_right (by omega), h2, Nat.sub_self] at hb
      simp at ha hb
      subst ha hb
      exact hq
theorem add_add (a : Addr) (i j : Nat) : (a.add i).add j = a.add (i + j) := by
  unfold Addr.add
  by_cases h1 : i = 0
  · subst h1; simp
  · by_cases h2 : j = 0
    · subst h2; simp [h1]
    · rw [if_neg h1, if_neg h2, if_neg (by omega)]; simp [Nat.add_assoc]
set_option maxRecDepth 100000 in
/-- A slice of parts. -/
theorem parts_of {n : Nat} {cs : List Value} {x : DataW H × List MemPlace} (h : DataW.trod enc Tryz.prog Wd base sp held n 47 cs = some x) : ∃ (u : Value) (ps : List Pt), cs = [u] ∧ IsP Wd u ps := by
  rcases DataW.trod_slice Tryz.underlying47 h with ⟨rfl, -⟩ | ⟨a, len, cap, elems, rest, m, _, rfl, _, hb, hl, hm, hlen, hel, _, _⟩
  · exact ⟨_, [], rfl, none, 0, rfl, SlR.nil _ _⟩
  · have hQ : ∀ i, i < len → ∃ (u : Unit) (p : Pt), Wd.cell? (a.add (i * 2)) = some (.int .i64 p.k) ∧ Wd.cell? (a.add (i * 2 + 1)) = some (sV p.t) := by
      intro i hi
      have he := hel i hi
      rw [cellsPart] at he
      rw [List.getElem?_eq_getElem (by omega)] at he
      obtain ⟨cs', hcs, hy⟩ := Option.bind_eq_some_iff.1 he
      obtain ⟨k, s, rfl⟩ := part_cells hy
      obtain ⟨_, _, hat⟩ := World.cells?_some hcs
      have h0 := hat 0 (by omega)
      have h1 := hat 1 (by omega)
      rw [add_add] at h0 h1
      refine ⟨(), ⟨k, s.data.toList⟩, by simpa using h0, ?_⟩
      rw [h1, ← sV_of]; rfl
    obtain ⟨us, ps, hu, hp, hall⟩ := collect len hQ
    refine ⟨_, ps, rfl, some a, cap, by rw [hp], ?_⟩
    unfold RdP
    rw [hp]
    refine slR_of (by rw [flat_len, hp]) hl (fun j u hj => ?_) (by decide)
    have hjl : j < ps.length * 2 := by rw [← flat_len]; exact (List.getElem?_eq_some_iff.1 hj).1
    have hi : j / 2 < ps.length := by omega
    have hpp : ps[j / 2]? = some ps[j / 2] := List.getElem?_eq_getElem hi
    have huu : us[j / 2]? = some us[j / 2] := List.getElem?_eq_getElem (by omega)
    obtain ⟨q0, q1⟩ := hall (j / 2) _ _ huu hpp
    obtain ⟨r0, r1⟩ := flat_at ps (j / 2) _ hpp
    rcases (show j = j / 2 * 2 ∨ j = j / 2 * 2 + 1 by omega) with e | e
    · rw [e] at hj ⊢; rw [r0] at hj; cases hj; exact q0
    · rw [e] at hj ⊢; rw [r1] at hj; cases hj; exact q1
set_option maxRecDepth 100000 in
/-- The lines of a format. -/
theorem lines_of {n : Nat} {cs : List Value} {x : DataW H × List MemPlace} (h : DataW.trod enc Tryz.prog Wd base sp held n 22 cs = some x) : ∃ (u : Value) (fs : List (List Pt)), cs = [u] ∧ IsPs Wd u fs := by
  rcases DataW.trod_slice Tryz.underlying22 h with ⟨rfl, -⟩ | ⟨a, len, cap, elems, rest, m, _, rfl, _, hb, hl, hm, hlen, hel, _, _⟩
  · exact ⟨_, [], rfl, none, 0, [], rfl, SlR.nil _ _, fun i ps hi => by simp at hi⟩
  · have hQ : ∀ i, i < len → ∃ (u : Value) (ps : List Pt), Wd.cell? (a.add i) = some u ∧ IsP Wd u ps := by
      intro i hi
      have he := hel i hi
      rw [cellsParts, Nat.mul_one] at he
      rw [List.getElem?_eq_getElem (by omega)] at he
      obtain ⟨cs', hcs, hy⟩ := Option.bind_eq_some_iff.1 he
      obtain ⟨u, ps, rfl, hP⟩ := parts_of hy
      exact ⟨u, ps, cell_of_cells?_one hcs, hP⟩
    obtain ⟨us, fs, hu, hf, hall⟩ := collect len hQ
    refine ⟨_, fs, rfl, some a, cap, us, by rw [hf], ?_, fun i ps hi => ?_⟩
    · rw [hf]
      refine slR_of (by rw [hu, Nat.mul_one]) hl (fun j u hj => ?_) (by decide)
      have hjl := (List.getElem?_eq_some_iff.1 hj).1
      exact (hall j u _ hj (List.getElem?_eq_getElem (by omega))).1
    · have hil := (List.getElem?_eq_some_iff.1 hi).1
      have huu : us[i]? = some us[i] := List.getElem?_eq_getElem (by omega)
      exact ⟨us[i], huu, (hall i _ _ huu hi).2⟩
end
set_option maxRecDepth 100000 in
/-- A FORMAT THAT CAME IN. -/
theorem format_of {H : Type} {enc : TypeId × Value → H} {Wd : World} {base : Nat} {v : Value} {d : DataW H} {ps : List MemPlace} (hv : Value.okWide Tryz.prog Wd .any base 24 v)
    (h : DataW.Trod enc Tryz.prog Wd 0 (fun _ => true) true 24 v d ps) : ∃ (nm : W) (fv : Value) (fs : List (List Pt)), v = .agg #[.string (sB nm), fv] ∧ IsPs Wd fv fs ∧ nm.length ≤ maxLen := by
  obtain ⟨cs, rfl, hsz⟩ := okWide_struct Tryz.underlying24 hv
  rw [cellsFmt] at hsz
  obtain ⟨l⟩ := cs
  match l, hsz with
  | [c0, c1], _ =>
    obtain ⟨fuel, hf⟩ := h
    obtain ⟨xs, n, _, hx, _, hlen, hall⟩ := DataW.trod_struct Tryz.underlying24 hf
    match xs, hlen with
    | [y0, y1], _ =>
      have f0 := hall 0 _ rfl
      have f1 := hall 1 _ rfl
      change DataW.trod _ _ _ _ _ _ _ 9 (([c0, c1].drop 0).take (Tryz.prog.cellsOf 9)) = some y0 at f0
      change DataW.trod _ _ _ _ _ _ _ 22 (([c0, c1].drop 1).take (Tryz.prog.cellsOf 22)) = some y1 at f1
      rw [cellsStr] at f0
      rw [cellsLines] at f1
      obtain ⟨s, e0, _, hw⟩ := DataW.trod_string Tryz.underlying9 f0
      obtain ⟨u, fs, e1, hP⟩ := lines_of f1
      simp at e0 e1
      subst e0 e1
      exact ⟨s.data.toList, _, fs, by rw [← sB_of], hP, by rw [size_len]; exact hw⟩
set_option maxRecDepth 100000 in
/-- AN ADDRESS THAT CAME IN: its datum's weights are the lengths of its texts. -/
theorem address_of {H : Type} {enc : TypeId × Value → H} {Wd : World} {base : Nat} {v : Value} {d : DataW H} {ps : List MemPlace} (hv : Value.okWide Tryz.prog Wd .any base 27 v)
    (h : DataW.Trod enc Tryz.prog Wd 0 (fun _ => true) true 27 v d ps) : ∃ (x : Ad), v = adV x ∧ ((∀ z ∈ DataW.weights Tryz.prog 27 d, z ≤ reachBytes) → BigAd x) := by
  obtain ⟨cs, rfl, hsz⟩ := okWide_struct Tryz.underlying27 hv
  rw [cellsAddr] at hsz
  obtain ⟨l⟩ := cs
  match l, hsz with
  | [c0, c1, c2, c3, c4], _ =>
    obtain ⟨fuel, hf⟩ := h
    obtain ⟨xs, n, _, hx, _, hlen, hall⟩ := DataW.trod_struct Tryz.underlying27 hf
    match xs, hlen with
    | [y0, y1, y2, y3, y4], _ =>
      have f0 := hall 0 _ rfl
      have f1 := hall 1 _ rfl
      have f2 := hall 2 _ rfl
      have f3 := hall 3 _ rfl
      have f4 := hall 4 _ rfl
      change DataW.trod _ _ _ _ _ _ _ 9 (([c0, c1, c2, c3, c4].drop 0).take (Tryz.prog.cellsOf 9)) = some y0 at f0
      change DataW.trod _ _ _ _ _ _ _ 9 (([c0, c1, c2, c3, c4].drop 1).take (Tryz.prog.cellsOf 9)) = some y1 at f1
      change DataW.trod _ _ _ _ _ _ _ 3 (([c0, c1, c2, c3, c4].drop 2).take (Tryz.prog.cellsOf 3)) = some y2 at f2
      change DataW.trod _ _ _ _ _ _ _ 9 (([c0, c1, c2, c3, c4].drop 3).take (Tryz.prog.cellsOf 9)) = some y3 at f3
      change DataW.trod _ _ _ _ _ _ _ 9 (([c0, c1, c2, c3, c4].drop 4).take (Tryz.prog.cellsOf 9)) = some y4 at f4
      rw [cellsStr] at f0 f1 f3 f4
      rw [cellsInt] at f2
      obtain ⟨s0, e0, g0, _⟩ := DataW.trod_string Tryz.underlying9 f0
      obtain ⟨s1, e1, g1, _⟩ := DataW.trod_string Tryz.underlying9 f1
      obtain ⟨z, e2, g2, hwf⟩ := DataW.trod_int Tryz.underlying3 f2
      obtain ⟨s3, e3, g3, _⟩ := DataW.trod_string Tryz.underlying9 f3
      obtain ⟨s4, e4, g4, _⟩ := DataW.trod_string Tryz.underlying9 f4
      simp at e0 e1 e2 e3 e4
      subst e0 e1 e2 e3 e4 g0 g1 g2 g3 g4
      obtain ⟨rfl, -⟩ := Prod.mk.inj hx
      refine ⟨⟨s0.data.toList, s1.data.toList, z, s3.data.toList, s4.data.toList⟩, by unfold adV; rw [← sB_of, ← sB_of, ← sB_of, ← sB_of], fun hw => ?_⟩
      have hb := bounds_i64 hwf
      have hm : ∀ q ∈ [s0.data.toList.length, s1.data.toList.length, s3.data.toList.length, s4.data.toList.length], q ≤ reachBytes := fun q hq => hw q (by
        have hu := Tryz.underlying27
        simp [DataW.weights, DataW.weightsEach, hu]
        simpa using hq)
      simp [reachBytes] at hm
      exact ⟨by simpa using hm.1, by simpa using hm.2.1, by simpa using hm.2.2.1, by simpa using hm.2.2.2, by show _ ≤ z; omega, by show z ≤ _; omega⟩

end Fm
end Go.Proofs.YtcaiejbnhjiflaaGreatDoor
