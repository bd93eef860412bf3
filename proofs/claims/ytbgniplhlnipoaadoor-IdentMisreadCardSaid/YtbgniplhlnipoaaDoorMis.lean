/-
  The contract of Misread.
-/
import Derived.RangeFuncNested
import Derived.Sort.OwnSorted
import Derived.Shelf.Slices.In.SortNone
import Derived.Test.YtbgniplhlnipoaaDoorIter
namespace Go.Proofs.YtbgniplhlnipoaaDoor
open Go.RowKit Go.Shelf Go.Sort
namespace Id1

attribute [local go_sem] Oper.semAt_some

theorem infoStr : (Tryd.prog.info? 9).map (fun i => (i.zero, i.size, i.bytes)) = some (some (.string ⟨#[]⟩), 1, 16) := by kernel_rfl

def fil (ys : List Txt) : List (List UInt8) := (vals ys).filter validB
theorem fil_hit (pre : List Txt) {x : Txt} (h : validB x.1.data.toList = true) : fil (pre ++ [x]) = fil pre ++ [x.1.data.toList] := by simp [fil, vals_snoc, h]
theorem fil_miss (pre : List Txt) {x : Txt} (h : validB x.1.data.toList = false) : fil (pre ++ [x]) = fil pre := by simp [fil, vals_snoc, h]
theorem fil_len (pre : List Txt) : (fil pre).length ≤ pre.length := by
  unfold fil; have := List.length_filter_le validB (vals pre); rw [vals_len] at this; exact this

/-- What a text can be misread as. -/
def misL (l : List UInt8) : List (List UInt8) := if shapeB l = true then ((cand l).filter validB).mergeSort (fun x y => decide (x ≤ y)) else []

theorem grownBy_of_below {W W' : World} (h : Below W.heap.size W W') : W.grownBy W' none := ⟨h.os, h.tape, h.output, h.size, fun k hk _ => h.block k hk⟩
theorem keeps_of_below {W W' : World} (B : Nat) (h : Below W.heap.size W W') : KeepsFrom B W W' :=
  ⟨h.size, fun k o _ hk _ => (h.block k (Array.getElem?_eq_some_iff.1 hk).1).trans hk⟩
theorem kpB_put {w : World} (Bn : Nat) (hlt : Bn < w.heap.size) (W : World) (l : Nat) (o o' : Obj) (hl : w.heap.size ≤ l) (_ : W.heap[l]? = some o) (_ : o.isCells = false) (_ : o.isWalk = false) : KpB Bn W (W.putObj l o') :=
  World.cell?_of_block (World.putObj_heap_other (show Bn ≠ l by omega))

theorem ownsRow_base {w : World} {b b' : Nat} {e : TypeId} {size : Nat} {v : Value} {k : Nat} {xs : List Value} (h : w.ownsRow b e size v k xs) (hb : b' ≤ b) : w.ownsRow b' e size v k xs := by
  obtain ⟨h1, h2⟩ := h
  refine ⟨h1, ?_⟩
  rcases h2 with h2 | ⟨g, cap, cur, hv, hg, r⟩
  · exact .inl h2
  · exact .inr ⟨g, cap, cur, hv, Nat.le_trans hb hg, r⟩

/-- The box of the list, one append on: the box of the shape lies as it lay. -/
theorem appended2 {w2 w3 : World} {B : Nat} {v v' : Value} {k m : Nat} {xs ys : List Value} {tmp : Obj} {sv : Value}
    (hv : Boxed w2 B 30 v) (hN : Boxed w2 (B + 1) 9 sv) (hrow : w2.ownsRow (B + 2) 9 1 v k xs) (hown' : w3.ownsRow (B + 2) 9 1 v' m ys) (hgrow : (w2.alloc tmp).grownBy w3 v.ownBlock) :
    Boxed w3 B 30 v ∧ Boxed (w3.setCell ⟨B, 0, none⟩ v') B 30 v' ∧ Boxed (w3.setCell ⟨B, 0, none⟩ v') (B + 1) 9 sv ∧ (w3.setCell ⟨B, 0, none⟩ v').ownsRow (B + 2) 9 1 v' m ys ∧
    KeepsOthers w2 (w3.setCell ⟨B, 0, none⟩ v') ∧ Below B w2 (w3.setCell ⟨B, 0, none⟩ v') := by
  have hsz := hN.lt
  obtain ⟨h1, h2, -, h4, h5⟩ := hv.appended (by decide) (ownsRow_base hrow (by omega : B ≤ B + 2)) (by omega) (Nat.le_refl _) (ownsRow_base hown' (by omega : B ≤ B + 2)) hgrow
  have hN3 : Boxed w3 (B + 1) 9 sv := (hN.alloc tmp).kept hgrow (fun e => by have := (hrow.lt _ e.symm).1; omega)
  exact ⟨h1, h2, hN3.other (by omega) v', hown'.kept (grownBy_setCell' w3 B v') (.inr (fun e => by have := (hown'.lt _ e).1; omega)), h4, h5⟩

theorem encStr_bytes (s : ByteArray) : encStr s.data.toList = .string s := by
  unfold encStr; congr

set_option maxRecDepth 100000 in
set_option maxHeartbeats 4000000 in
theorem misread_any (s : ByteArray) (w : World) (hs : s.size ≤ maxLen) (hw : Wts w) :
    Calls Tryd.prog 19 #[.string s] w fun e w' => ∃ v, e = .returned v ∧ w'.ownsRow w.heap.size 9 1 v (misL s.data.toList).length ((misL s.data.toList).map encStr) ∧ Below w.heap.size w w' := by
  have C1 := hid (fun w => isShape_any s w hs)
  by_cases hsh : shapeB s.data.toList = true
  · obtain ⟨h13, -, -, -⟩ := shape_parts hsh
    have h13s : s.size = 13 := by rw [← h13]; simp
    rw [hsh] at C1
    have hmis : misL s.data.toList = ((cand s.data.toList).filter validB).mergeSort (fun x y => decide (x ≤ y)) := by unfold misL; rw [if_pos hsh]
    have HM := hid hmis
    have H13 := hid h13s
    clear hmis h13s h13 hsh hs
    obtain ⟨i0, hi, hz0, hz1, hz2⟩ := info_parts infoStr
    refine (callsIn_wide (n := 9)).1 ?_
    refine callsIn_of_wp_marks Tryd.func19 rfl trivial ?_ rfl
    simp only [Tryd.ntmps19, List.size_toArray, List.length_cons, List.length_nil, Nat.reduceAdd, Nat.reduceSub, Array.replicate_succ, Array.replicate_zero, List.push_toArray, List.append_toArray, List.nil_append, List.cons_append]
    gi_wp2_with fail
    refine ⟨trivial, ?_⟩
    refine (callsIn_wide.2 (C1.out _)).mono ?_
    rintro e w1 ⟨rfl, hb1⟩
    gi_wp2_with (refine ⟨trivial, ?_⟩; gi_at_call 35; refine (misreadings_in _ s _).mono ?_; rintro e w' ⟨rfl, rfl⟩)
    have bO := Boxed.new w1 30 (.slice none 0 0)
    have bN := Boxed.new (w1.alloc (.cells #[.slice none 0 0] 30)) 9 (.string s)
    rw [World.size_alloc] at bN
    have hB0 : Below w1.heap.size w1 ((w1.alloc (.cells #[.slice none 0 0] 30)).alloc (.cells #[.string s] 9)) := ((Below.refl _ w1).alloc (Nat.le_refl _) _).alloc (by simp) _
    have HT := hid (mis_stops 8 (by omega) (w1.heap.size + 1) s H13.out ((w1.alloc (.cells #[.slice none 0 0] 30)).alloc (.cells #[.string s] 9)) (by simp) bN.cell)
    refine wpIn_rangeFunc_ownG rfl (by omega) (gf := 49) (lb := #[.pointer (some ⟨w1.heap.size + 1, 0, none⟩)]) rfl trivial (enters_of Tryd.func49 (by kernel_rfl) rfl)
      HT.out (fun {A B C} (h : KpB _ A B) (k : KpB _ B C) => (Eq.trans k h : KpB _ A C)) (kpB_put _ (by simp)) (Below.refl _ _) (fun _ => rfl)
      (fun pre W => (∃ v, Boxed W w1.heap.size 30 v ∧ W.ownsRow (w1.heap.size + 2) 9 1 v (fil pre).length ((fil pre).map encStr) ∧ (v = .slice none 0 0 ↔ fil pre = [])) ∧ (Below w1.heap.size w1 W ∧ Boxed W (w1.heap.size + 1) 9 (.string s)))
      (fun _ _ _ => False)
      (OwnFrom.and (Own.from (holdsRow_own (w1.heap.size + 2) w1.heap.size 30 9 1 (fun pre => (fil pre).length) (fun pre => (fil pre).map encStr) (fun pre v => v = .slice none 0 0 ↔ fil pre = [])) _) (OwnFrom.and (ownFrom_below (Nat.le_refl _) (by simp; omega)) (Own.from (boxed_own (w1.heap.size + 1) 9 (fun _ => .string s)) _)))
      (fun _ _ _ _ _ hs _ _ => hs)
      ⟨⟨_, bO.alloc _, World.ownsRow_nil _ _ _ _, by simp [fil, vals]⟩, hB0, bN⟩
      (fun x => { tmps := #[.string s, undef, .slice none 0 0, .pointer (some ⟨w1.heap.size, 0, none⟩), .string x.1, .string s, .bool true, .bool false, .string s, .func (.func 49) #[] #[.pointer (some ⟨w1.heap.size + 1, 0, none⟩)], .string x.1, undef, undef, undef, undef, undef, undef, undef, undef, undef], defers := [] }) ?assign ?body ?done ?stop
    case assign =>
      intro l x W K hK
      gi_wp2
      exact hK
    case body =>
      rintro l pre x W ⟨⟨v, hv, hrow, hnil⟩, hB, hN⟩ hlt
      have hpl := fil_len pre
      have CV := hid (valid_any x.1 W (by have := x.2; unfold maxLen; omega) ((hw.below hb1).below (by exact hB)))
      have HNIL := hid hnil
      clear hnil
      by_cases hx : validB x.1.data.toList = true
      · rw [hx] at CV
        have HF1 := hid (fil_hit pre hx)
        clear hx
        gi_wp2_with fail
        refine ⟨trivial, ?_⟩
        refine (CallsIn.inRound l (callsIn_wide.2 CV.out)).mono ?_
        rintro e w2 ⟨rfl, hb2⟩
        have hv2 := hv.kept (grownBy_of_below hb2) (by simp)
        have hN2 := hN.kept (grownBy_of_below hb2) (by simp)
        have hrow2 := hrow.kept (grownBy_of_below hb2) (Classical.em _)
        have hB2 := hB.trans (hb2.mono hB.size)
        have hk0 := hid (fun B => keeps_of_below B hb2)
        have hc := hv2.cell
        have hb2k : KpB (w1.heap.size + 1) W w2 := hN2.cell.trans hN.cell.symm
        clear hv hrow hN hB hb2 CV C1 HM H13 HT bO bN hB0 hb1
        gi_wp2_with (gi_at_builtin; refine wpListIn_append_own _ rfl _ _ 30 rfl (w1.heap.size + 2) 9 i0 (.string ⟨#[]⟩) 1 16 Tryd.underlying30 hi hz0 hz1 hz2 rfl (by decide) _ _ _ rfl (hrow2.alloc _) ⟨w2.heap.size, 0, none⟩ 1 1 [.string x.1] rfl rfl (cell_one_new _ _ _) (by simp [Value.oneCell']) (by unfold maxLen; omega) (by omega) (by have := hN2.lt; simp; omega) ?_; intro v' w3 hown' hgrow _; obtain ⟨g', cap', rfl⟩ := ownsRow_succ hown'; obtain ⟨hv1, hv3, hN3, hr3, hk3, hb3⟩ := appended2 hv2 hN2 hrow2 hown' hgrow; have hc1 := hv1.cell; have hf1 := hv1.frozen)
        refine ⟨(hk0.out _).trans (hk3.from _), (hN3.cell.trans hN2.cell.symm).trans hb2k, ⟨_, hv3, ?_, ?_⟩, hB2.trans hb3, hN3⟩
        · rw [HF1.out, List.length_append, List.map_append, List.map_singleton, encStr_bytes]
          exact hr3
        · rw [HF1.out]; simp
      · have hx' : validB x.1.data.toList = false := by simpa using hx
        rw [hx'] at CV
        have HF1 := hid (fil_miss pre hx')
        clear hx hx'
        gi_wp2_with fail
        refine ⟨trivial, ?_⟩
        refine (CallsIn.inRound l (callsIn_wide.2 CV.out)).mono ?_
        rintro e w2 ⟨rfl, hb2⟩
        have hv2 := hv.kept (grownBy_of_below hb2) (by simp)
        have hN2 := hN.kept (grownBy_of_below hb2) (by simp)
        have hrow2 := hrow.kept (grownBy_of_below hb2) (Classical.em _)
        have hB2 := hB.trans (hb2.mono hB.size)
        have hk0 := hid (fun B => keeps_of_below B hb2)
        have hb2k : KpB (w1.heap.size + 1) W w2 := hN2.cell.trans hN.cell.symm
        clear hv hrow hN hB hb2 CV C1 HM H13 HT bO bN hB0 hb1
        gi_wp2
        exact ⟨hk0.out _, hb2k, ⟨v, hv2, by rw [HF1.out]; exact hrow2, by rw [HF1.out]; exact HNIL.out⟩, hB2, hN2⟩
    case done =>
      rintro D ys W hD hys ⟨⟨v, hv, hrow, hnil⟩, hB, hN⟩ hK
      have hmis : misL s.data.toList = (fil ys).mergeSort (fun x y => decide (x ≤ y)) := by rw [HM.out, fil, hys]
      have hflen : (fil ys).length ≤ 90 := by
        have e1 := fil_len ys
        have e2 := vals_len ys
        have e3 := candTo_len s.data.toList 9
        rw [hys] at e2
        unfold cand at e2
        omega
      have hB' := hb1.trans (hB.mono hb1.size)
      have hbs := hb1.size
      have HMM := hid hmis
      have HN := hid hnil
      have hD' : w.heap.size ≤ D := by simp at hD; omega
      have hc := hv.cell
      clear hmis hys hnil HM HT C1 H13 bO bN hB0 hb1 hB hN hw
      rcases hrow.2 with ⟨rfl, h0⟩ | ⟨g, cap, cur, rfl, hbase, hb, h1, h2, h3, h4⟩
      · have hfe : fil ys = [] := List.length_eq_zero_iff.1 h0
        have HE := hid hfe
        have CS := hid (Any.slices_Sort_string_none Tryd.lays190 none 0 W)
        clear hfe h0 hrow
        gi_wp2_with fail
        refine ⟨trivial, ?_⟩
        refine (callsIn_wide.2 CS.out).mono ?_
        rintro e w3 ⟨rfl, rfl⟩
        gi_wp2
        refine ⟨by simp, .inl ⟨_, _, rfl, run_takeDeferred hK, ?_⟩⟩
        refine ⟨_, results_tmp rfl _ _ _, _, rfl, ?_, hB'.trans (belowK_b (w := w) (Nat.le_refl _) _ D _ _ hD' hK rfl rfl)⟩
        rw [HMM.out, HE.out, List.mergeSort_nil]
        exact ownsRow_putObj (World.ownsRow_nil _ _ _ _) _ hK rfl
      · have hgl := (Array.getElem?_eq_some_iff.1 hb).1
        have hgB : some w1.heap.size ≠ (Value.slice (some ⟨g, 0, none⟩) (fil ys).length cap).ownBlock := hv.not_row (by decide) hrow
        have hgB' : some w1.heap.size ≠ some g := hgB
        have hDg : some D ≠ some g := by
          intro e
          have e' : D = g := Option.some.inj e
          subst e'
          rw [hb] at hK
          cases hK
        have CS := hid (Tryd.slices_Sort_string g 0 cap (fil ys) W (holds_of_block hb (by simpa using h4)) hgl (by omega))
        have HB := hid hb
        have H3 := hid h3
        have HDg := hid hDg
        have HgB := hid hgB'
        clear hb h3 h4 hrow hgB hgB' hDg
        gi_wp2_with fail
        refine ⟨trivial, ?_⟩
        refine (callsIn_wide.2 CS.out).mono ?_
        rintro e w3 ⟨rfl, nn, os, rfl⟩
        obtain ⟨W3, hW3⟩ : ∃ W3, W3 = grow (putRow encStr (Sort.ahead W nn) g 0 ((fil ys).mergeSort fun x y => decide (x ≤ y)).toArray) os := ⟨_, rfl⟩
        have hgrow : W.grownBy W3 (some g) := by rw [hW3]; exact grownBy_sorted _
        have hown3 : W3.ownsRow (w1.heap.size + 2) 9 1 (.slice (some ⟨g, 0, none⟩) (fil ys).length cap) (fil ys).length (((fil ys).mergeSort fun x y => decide (x ≤ y)).map encStr) := by
          rw [hW3]; exact ownsRow_sorted (by simp) hbase HB.out h1 h2 H3.out
        rw [← hW3]
        clear hW3
        have hv3 := hv.kept hgrow HgB.out
        have hc3 := hv3.cell
        have hK3 : W3.heap[D]? = some (.deferred (some [])) := (hgrow.block D (Array.getElem?_eq_some_iff.1 hK).1 HDg.out).trans hK
        have hB3 := hB'.grown hgrow (by have := hv.lt; omega) (fun k e => by cases e; omega)
        clear hK hv hc hB' hgrow hv3
        gi_wp2
        refine ⟨by simp, .inl ⟨_, _, rfl, run_takeDeferred hK3, ?_⟩⟩
        refine ⟨_, results_tmp rfl _ _ _, _, rfl, ?_, hB3.trans (belowK_b (w := w) (Nat.le_refl _) _ D _ _ hD' hK3 rfl rfl)⟩
        rw [HMM.out, List.length_mergeSort]
        exact ownsRow_putObj (ownsRow_base hown3 (by omega)) _ hK3 rfl
    case stop =>
      rintro D c pre W _ _ h _
      exact h.elim
  · have hf : shapeB s.data.toList = false := by simpa using hsh
    rw [hf] at C1
    have hmis : misL s.data.toList = [] := by unfold misL; rw [if_neg hsh]
    rw [hmis]
    clear hmis hf hsh hs hw
    go_enter Tryd.func19, Tryd.ntmps19
    go_wp2_with fail
    refine (C1.out _).mono ?_
    rintro e w1 ⟨rfl, hb1⟩
    go_wp2
    go_ret
    exact ⟨_, rfl, World.ownsRow_nil _ _ _ _, hb1⟩

end Id1
end Go.Proofs.YtbgniplhlnipoaaDoor
