/-
  The contract of Parse.
-/
import Derived.Test.YtcaiejbnhjiflaaGreatDoorW11
namespace Go.Proofs.YtcaiejbnhjiflaaGreatDoor
open Go.RowKit Go.ChangeMaps
namespace Fm

def IsA (w : World) (v : Value) (rs : List Ad) : Prop := ∃ A cap, v = .slice A rs.length cap ∧ SlR w A rs.length cap 5 (encAs rs)
theorem IsA.on {w w' : World} {v : Value} {rs : List Ad} (h : IsA w v rs) (hb : Below w.heap.size w w') : IsA w' v rs := by
  obtain ⟨A, cap, e, h⟩ := h; exact ⟨A, cap, e, h.on hb⟩
theorem IsA.nil (w : World) : IsA w (.slice none 0 0) [] := ⟨none, 0, rfl, SlR.nil w 5⟩
/-- How many words lines have. -/
def cntW (lns : List W) : Nat := (lns.map fun l => (wordsL l).length).sum
theorem cnt_snoc {lns : List W} {k : Nat} {l : W} (h : lns[k]? = some l) : cntW (lns.take (k + 1)) = cntW (lns.take k) + (wordsL l).length := by
  unfold cntW
  rw [List.take_add_one, h, List.map_append, List.sum_append]; simp
theorem cnt_take (lns : List W) (k : Nat) : cntW (lns.take k) ≤ cntW lns := by
  conv => rhs; rw [← List.take_append_drop k lns]
  unfold cntW
  rw [List.map_append, List.sum_append]; omega
theorem cnt_mem {lns : List W} {l : W} (h : l ∈ lns) : (wordsL l).length ≤ cntW lns := by
  induction lns with
  | nil => cases h
  | cons a lns ih =>
    unfold cntW at ih ⊢
    rw [List.map_cons, List.sum_cons]
    rcases List.mem_cons.1 h with rfl | h
    · omega
    · have := ih h; omega
/-- WHAT PARSE ANSWERS. -/
def parseR (name : W) (fs : List (List Pt)) (lns : List W) : List Ad × Int :=
  if validB name fs = false then ([], 1) else if 40 < cntW lns then ([], 2) else if lns.length ≠ fs.length then ([], 0) else (rdA (fs.zip (lns.map wordsL)) ad0, 0)
theorem parse_bad {name : W} {fs : List (List Pt)} {lns : List W} (h : validB name fs = false) : parseR name fs lns = ([], 1) := by unfold parseR; rw [if_pos h]
theorem parse_many {name : W} {fs : List (List Pt)} {lns : List W} (h : validB name fs = true) (h2 : 40 < cntW lns) : parseR name fs lns = ([], 2) := by
  unfold parseR; rw [if_neg (by rw [h]; simp), if_pos h2]
theorem parse_lines {name : W} {fs : List (List Pt)} {lns : List W} (h : validB name fs = true) (h2 : cntW lns ≤ 40) (h3 : lns.length ≠ fs.length) : parseR name fs lns = ([], 0) := by
  unfold parseR; rw [if_neg (by rw [h]; simp), if_neg (by omega), if_pos h3]
theorem parse_ok {name : W} {fs : List (List Pt)} {lns : List W} (h : validB name fs = true) (h2 : cntW lns ≤ 40) (h3 : lns.length = fs.length) : parseR name fs lns = (rdA (fs.zip (lns.map wordsL)) ad0, 0) := by
  unfold parseR; rw [if_neg (by rw [h]; simp), if_neg (by omega), if_neg (by omega)]
theorem parts_zip (fs : List (List Pt)) (ls : List (List W)) (h : fs.length = ls.length) : partsR (fs.zip ls) = fs.flatten := by
  induction fs generalizing ls with
  | nil => rfl
  | cons ps fs ih =>
    match ls, h with
    | ws :: ls, h =>
      rw [List.zip_cons_cons, List.flatten_cons, ← ih ls (by simpa using h)]
      rfl
theorem parse_few {name : W} {fs : List (List Pt)} {ls : List (List W)} (h : validB name fs = true) (hl : fs.length = ls.length) (a : Ad) : (rdA (fs.zip ls) a).length ≤ 16 := by
  obtain ⟨_, _, _, h4, h5⟩ := valid_parts h
  exact rdA_few _ _ (by rw [parts_zip _ _ hl]; exact h5) (by rw [parts_zip _ _ hl]; exact h4)

def ParsePost (rs : List Ad) (x : Int) (w : World) (e : Ending) (w' : World) : Prop := ∃ v, e = .returned (.tuple #[v, .int .i64 x]) ∧ Hid (IsA w' v rs) ∧ Below w.heap.size w w'
theorem infoWs : (Tryz.prog.info? 25).map (fun i => (i.zero, i.size, i.bytes)) = some (some (.slice none 0 0), 1, 24) := by kernel_rfl

abbrev OwnW (w0 w : World) (u : Value) (ws : List W) : Prop := w.ownsRow w0.heap.size 9 1 u ws.length (ws.map sV)
/-- The rows of words that have been divided. -/
def Div (w0 : World) (lns : List W) (k : Nat) (dv : Value) (vs : List Value) (w : World) : Prop :=
  w.ownsRow w0.heap.size 25 1 dv k vs ∧ ∀ (i : Nat) (l : W), i < k → lns[i]? = some l → ∃ u, vs[i]? = some u ∧ OwnW w0 w u (wordsL l)
theorem Div.start (w0 w : World) (lns : List W) : Div w0 lns 0 (.slice none 0 0) [] w := ⟨World.ownsRow_nil _ _ _ _, fun i l h => absurd h (by omega)⟩
theorem Div.on {w0 w w' : World} {lns : List W} {k : Nat} {dv : Value} {vs : List Value} (h : Div w0 lns k dv vs w) (hb : Below w.heap.size w w') : Div w0 lns k dv vs w' :=
  ⟨own_below h.1 hb, fun i l hi hl => by obtain ⟨u, hu, hw⟩ := h.2 i l hi hl; exact ⟨u, hu, own_below hw hb⟩⟩
theorem Div.isWs {w0 w : World} {lns : List W} {dv : Value} {vs : List Value} (h : Div w0 lns lns.length dv vs w) : IsWs w dv (lns.map wordsL) := by
  obtain ⟨ho, hv⟩ := h
  obtain ⟨A, cap, e, hs⟩ := SlR.of_own ho
  refine ⟨A, cap, vs, by rw [List.length_map]; exact e, by rw [List.length_map]; exact hs, fun i ws hi => ?_⟩
  rw [List.getElem?_map] at hi
  obtain ⟨l, hl, rfl⟩ := Option.map_eq_some_iff.1 hi
  obtain ⟨u, hu, hw⟩ := hv i l (List.getElem?_eq_some_iff.1 hl).1 hl
  obtain ⟨B, c, e', hs'⟩ := SlR.of_own hw
  exact ⟨u, hu, B, c, e', hs'⟩
/-- Rows of other elements lie in other blocks. -/
theorem own_apart {w : World} {B B' : Nat} {e e' : TypeId} {sz sz' n n' : Nat} {v v' : Value} {xs xs' : List Value} (h : w.ownsRow B e sz v n xs) (h' : w.ownsRow B' e' sz' v' n' xs') (hne : e ≠ e') : v.ownBlock = none ∨ v.ownBlock ≠ v'.ownBlock := by
  rcases h.2 with ⟨rfl, _⟩ | ⟨g, cap, cur, rfl, _, hg, _⟩
  · exact .inl rfl
  · right
    rcases h'.2 with ⟨rfl, _⟩ | ⟨g', cap', cur', rfl, _, hg', _⟩
    · simp [Value.ownBlock]
    · intro hh
      simp only [Value.ownBlock, Option.some.injEq] at hh
      subst hh
      rw [hg] at hg'
      cases hg'
      exact hne rfl
theorem Div.push {w0 w w' : World} {lns : List W} {k : Nat} {dv dv' u : Value} {vs : List Value} {l : W} {o : Obj} (h : Div w0 lns k dv vs w) (hl : lns[k]? = some l) (hu : OwnW w0 w u (wordsL l))
    (hg : (w.alloc o).grownBy w' dv.ownBlock) (ho : w'.ownsRow w0.heap.size 25 1 dv' (k + 1) (vs ++ [u])) : Div w0 lns (k + 1) dv' (vs ++ [u]) w' := by
  obtain ⟨hown, hv⟩ := h
  have hlen : vs.length = k := by have := hown.1; omega
  have hkeep : ∀ (x : Value) (ws : List W), OwnW w0 w x ws → OwnW w0 w' x ws := fun x ws hx => (hx.alloc o).kept hg (own_apart (hx.alloc o) (hown.alloc o) (by decide))
  refine ⟨ho, fun i m hi hm => ?_⟩
  by_cases h' : i < k
  · obtain ⟨x, hx, hw⟩ := hv i m h' hm
    exact ⟨x, by rw [List.getElem?_append_left (by omega)]; exact hx, hkeep _ _ hw⟩
  · obtain rfl : i = k := by omega
    rw [hl] at hm; cases hm
    exact ⟨u, by rw [List.getElem?_append_right (by omega), hlen]; simp, hkeep _ _ hu⟩
theorem grow_below {w w1 : World} {B : Nat} {v : Value} {n : Nat} {e : TypeId} {sz : Nat} {xs : List Value} {o : Obj} {b0 : Nat} {wx : World} (hB : Below b0 wx w) (h0 : b0 ≤ B) (hs : b0 ≤ w.heap.size) (hrow : w.ownsRow B e sz v n xs) (hg : (w.alloc o).grownBy w1 v.ownBlock) : Below b0 wx w1 :=
  (hB.alloc hs o).grown hg (by simp; omega) (fun k e => by have := (hrow.lt k e).1; omega)

end Fm
end Go.Proofs.YtcaiejbnhjiflaaGreatDoor
