/-
  The rows' frame; arguments opened.
-/
import Derived.Test.YtaeljmiklalpnaaGreatDoorCards
import Derived.Test.YtaeljmiklalpnaaGreatDoorTie
import Derived.Test.YtaeljmiklalpnaaGreatDoorLe
import Derived.ProofKit
import Derived.OpenShut
import Derived.Deep.DeepHandedRow
import Derived.Lib.LaidU8T
import Derived.PinnedBridge
import Derived.Shelf.Vars
import Derived.Carry
import Derived.Lay
import Derived.Test.YtaeljmiklalpnaaGreatDoorFv
import Derived.Lib.SmallJoins
namespace Go.Proofs.YtaeljmiklalpnaaGreatDoor
open Go.ChangeShapes Go.WideShapes Go.ChangeAt Go.RowKit Gn
open Go.ChangeMaps (open_string shut_string)
namespace Rg

theorem own : ownKnob Tryz.prog.godebug = none := by kernel_rfl
theorem laidOut : laidOutB Tryz.prog = true := by kernel_rfl
/-- The list of all rows. -/
abbrev laidL : List (String × DataW Unit) := Rows.registerOnePointRow.laid
theorem acceptIs : (Rows.laid_unicode_utf8_acceptRanges : DataW Unit) = Lib.acceptData := by kernel_rfl
/-- THE TABLES, OUT OF A ROW's LIST AND THE WORLD's SHAPE. -/
theorem tb_of_laid {W : World} (h : laidMetH Tryz.prog laidL W) (hsh : W.ShapedOpen Tryz.prog) : Tb W := by
  have hm : laidMet Tryz.prog laidL W := h
  refine ⟨utf8Tabs_of_readsT (P := Tryz.prog) (ρ := Tryz.lays160_ren) ⟨by kernel_rfl, by kernel_rfl, by kernel_rfl, by kernel_rfl⟩ ⟨by kernel_rfl, by kernel_rfl, by kernel_rfl, by kernel_rfl, by kernel_rfl, by kernel_rfl, by kernel_rfl⟩ ?_ ?_, ?_⟩
  · rw [← Pinned.utf8First_eq]
    exact Lib.laidMet.reads hm (.tail _ (.head _))
  · rw [← acceptIs]
    exact Lib.laidMet.reads hm (.head _)
  · exact cell_of_shapedOpen_int (zero := #[.int .i64 0]) (t := 3) hsh (of_decide_eq_true (by kernel_rfl)) (by kernel_rfl) rfl (by kernel_rfl) (by kernel_rfl) Tryz.underlying3

/-- A WORLD FOR THE WITNESS. -/
noncomputable def laidWorld (os : Os) : World := World.laidAll Tryz.prog os laidL
theorem laidWorld_os (os : Os) : (laidWorld os).os = os := World.laidAll_os _ _ _
set_option maxRecDepth 100000 in
theorem laid_met (os : Os) (args : Array Value) : laidMet Tryz.prog laidL ((laidWorld os).forCall (fun _ _ => 0) ⟨#[], args, []⟩).memory := laidMet_laidAll args (by kernel_rfl) (by kernel_rfl)
set_option maxRecDepth 100000 in
theorem shaped (os : Os) (args : Array Value) : ((laidWorld os).forCall (fun _ _ => 0) ⟨#[], args, []⟩).Shaped Tryz.prog := World.shaped_of_ZipB (by kernel_rfl) (by kernel_rfl)
/-- A row's witness, its world's shape shown. -/
theorem witness_row_sh {H : Type} {enc : TypeId × Value → H} {C : Checked} {os : Os} {f : FuncId} {fn : Func} {s : OpenSpec} {conds : List PathCond} {apart : Bool} {laid : List (String × DataW Unit)} (modest : Bool) (w0 : World) (args : Array Value) (hos : w0.os = os)
    (hsh : (w0.forCall (fun _ _ => 0) ⟨#[], args, []⟩).Shaped C.prog)
    (hok : Input.okWideB C.prog (w0.forCall (fun _ _ => 0) ⟨#[], args, []⟩) f ⟨#[], args, []⟩ = true)
    (hrow : s.preRow enc C.prog fn conds apart laid (w0.forCall (fun _ _ => 0) ⟨#[], args, []⟩).memory args) :
    ∃ (w : World) (tape : Tape) (i : Input), w.os = os ∧ (w.forCall tape i).Shaped C.prog ∧ i.vars = [] ∧ Input.okWide C.prog (w.forCall tape i) .any w.heap.size f i ∧
      s.preRow enc C.prog fn conds apart laid (w.forCall tape i).memory i.args ∧ ({ modest := modest } : Assume).holds C.prog (lone (Frame.enter C.prog f i.args .normal) [] (w.forCall tape i)) :=
  ⟨w0, fun _ _ => 0, ⟨#[], args, []⟩, hos, hsh, (Input.okWide_of_okWideB (base := 0) hok).1, (Input.okWide_of_okWideB hok).2, hrow, by
    simp only [Assume.holds]
    exact ⟨by simp, by simp, fun _ => Modest.zero, by simp, by simp⟩⟩

end Rg
end Go.Proofs.YtaeljmiklalpnaaGreatDoor

namespace Go.Proofs.YtaeljmiklalpnaaGreatDoor
open Go.Joins Go.ChangeShapes Go.WideShapes Go.ChangeAt Go.RowKit Go.Deep Gn
namespace Rg

theorem cellsStr : Tryz.prog.cellsOf 9 = 1 := by kernel_rfl
theorem cellsInt : Tryz.prog.cellsOf 3 = 1 := by kernel_rfl
theorem cellsChange : Tryz.prog.cellsOf 29 = 9 := by kernel_rfl
theorem cellsPoint : Tryz.prog.cellsOf 35 = 2 := by kernel_rfl
theorem cellsAddr : Tryz.prog.cellsOf 37 = 5 := by kernel_rfl
theorem plain_at {w : World} {a : Addr} {v : Value} (h : w.cell? a = some v) : a = ⟨a.block, a.off, none⟩ := by
  obtain ⟨b, o, e⟩ := a
  cases e with
  | none => rfl
  | some x => simp [World.cell?] at h; split at h <;> cases h
/-- A slice of cells that are there reads as a list. -/
theorem slR_of {w : World} {a : Addr} {n cap size : Nat} {xs : List Value} (hl : xs.length = n * size) (hc : n ≤ cap) (h : ∀ (j : Nat) u, xs[j]? = some u → w.cell? (a.add j) = some u) (hs : 0 < size) : SlR w (some a) n cap size xs := by
  refine ⟨hl, hc, fun h0 => ?_⟩
  have hpos : 0 < xs.length := by rw [hl]; exact Nat.mul_pos h0 hs
  have hx0 : xs[0]? = some xs[0] := List.getElem?_eq_getElem hpos
  have h1 := h 0 _ hx0
  have e0 : a.add 0 = a := by simp [Addr.add]
  rw [e0] at h1
  have e1 := plain_at h1
  refine ⟨a.block, a.off, congrArg some e1, ?_, fun j u hj => ?_⟩
  · rw [e1] at h1
    exact cell_lt h1
  · have h2 := h j u hj
    rw [e1, addr_add] at h2
    exact h2
theorem collect {α : Type} {Q : Nat → α → Prop} (n : Nat) (h : ∀ i, i < n → ∃ u, Q i u) : ∃ (us : List α), us.length = n ∧ ∀ (i : Nat) (u : α), us[i]? = some u → Q i u := by
  induction n with
  | zero => exact ⟨[], rfl, fun i u hu => by simp at hu⟩
  | succ n ih =>
    obtain ⟨us, h1, h3⟩ := ih fun i hi => h i (by omega)
    obtain ⟨u, hq⟩ := h n (by omega)
    refine ⟨us ++ [u], by simp [h1], fun i a ha => ?_⟩
    by_cases hi : i < n
    · rw [List.getElem?_append_left (by omega)] at ha
      exact h3 i a ha
    · have hi2 : i = n := by have := (List.getElem?_eq_some_iff.1 ha).1; simp [h1] at this; omega
      subst hi2
      rw [List.getElem?_append_right (by omega), h1, Nat.sub_self] at ha
      simp at ha
      subst ha
      exact hq
theorem add_add (a : Addr) (i j : Nat) : (a.add i).add j = a.add (i + j) := by
  unfold Addr.add
  by_cases h1 : i = 0
  · subst h1; simp
  · by_cases h2 : j = 0
    · subst h2; simp [h1]
    · rw [if_neg h1, if_neg h2, if_neg (by omega)]; simp [Nat.add_assoc]
section
variable {H : Type} {enc : TypeId × Value → H} {Wd : World} {base : Nat} {sp : Nat → Bool} {held : Bool}
set_option maxRecDepth 100000 in
theorem change_cells {n : Nat} {cs : List Value} {x : DataW H × List MemPlace} (h : DataW.trod enc Tryz.prog Wd base sp held n 29 cs = some x) : ∃ c : Ch, cs = chV c := by
  obtain ⟨xs, m, rfl, hx, hl, hxl, hall⟩ := DataW.trod_struct Tryz.underlying29 h
  rw [cellsChange] at hl
  match cs, hl with
  | [c0, c1, c2, c3, c4, c5, c6, c7, c8], _ =>
    match xs, hxl with
    | [x0, x1, x2, x3, x4, x5, x6, x7, x8], _ =>
      have f0 := hall 0 _ rfl
      change DataW.trod _ _ _ _ _ _ _ 3 (([c0, c1, c2, c3, c4, c5, c6, c7, c8].drop 0).take (Tryz.prog.cellsOf 3)) = some x0 at f0
      rw [cellsInt] at f0
      have f1 := hall 1 _ rfl
      change DataW.trod _ _ _ _ _ _ _ 3 (([c0, c1, c2, c3, c4, c5, c6, c7, c8].drop 1).take (Tryz.prog.cellsOf 3)) = some x1 at f1
      rw [cellsInt] at f1
      have f2 := hall 2 _ rfl
      change DataW.trod _ _ _ _ _ _ _ 3 (([c0, c1, c2, c3, c4, c5, c6, c7, c8].drop 2).take (Tryz.prog.cellsOf 3)) = some x2 at f2
      rw [cellsInt] at f2
      have f3 := hall 3 _ rfl
      change DataW.trod _ _ _ _ _ _ _ 9 (([c0, c1, c2, c3, c4, c5, c6, c7, c8].drop 3).take (Tryz.prog.cellsOf 9)) = some x3 at f3
      rw [cellsStr] at f3
      have f4 := hall 4 _ rfl
      change DataW.trod _ _ _ _ _ _ _ 9 (([c0, c1, c2, c3, c4, c5, c6, c7, c8].drop 4).take (Tryz.prog.cellsOf 9)) = some x4 at f4
      rw [cellsStr] at f4
      have f5 := hall 5 _ rfl
      change DataW.trod _ _ _ _ _ _ _ 9 (([c0, c1, c2, c3, c4, c5, c6, c7, c8].drop 5).take (Tryz.prog.cellsOf 9)) = some x5 at f5
      rw [cellsStr] at f5
      have f6 := hall 6 _ rfl
      change DataW.trod _ _ _ _ _ _ _ 3 (([c0, c1, c2, c3, c4, c5, c6, c7, c8].drop 6).take (Tryz.prog.cellsOf 3)) = some x6 at f6
      rw [cellsInt] at f6
      have f7 := hall 7 _ rfl
      change DataW.trod _ _ _ _ _ _ _ 3 (([c0, c1, c2, c3, c4, c5, c6, c7, c8].drop 7).take (Tryz.prog.cellsOf 3)) = some x7 at f7
      rw [cellsInt] at f7
      have f8 := hall 8 _ rfl
      change DataW.trod _ _ _ _ _ _ _ 3 (([c0, c1, c2, c3, c4, c5, c6, c7, c8].drop 8).take (Tryz.prog.cellsOf 3)) = some x8 at f8
      rw [cellsInt] at f8
      obtain ⟨z0, e0, _⟩ := DataW.trod_int Tryz.underlying3 f0
      obtain ⟨z1, e1, _⟩ := DataW.trod_int Tryz.underlying3 f1
      obtain ⟨z2, e2, _⟩ := DataW.trod_int Tryz.underlying3 f2
      obtain ⟨z3, e3, _⟩ := DataW.trod_string Tryz.underlying9 f3
      obtain ⟨z4, e4, _⟩ := DataW.trod_string Tryz.underlying9 f4
      obtain ⟨z5, e5, _⟩ := DataW.trod_string Tryz.underlying9 f5
      obtain ⟨z6, e6, _⟩ := DataW.trod_int Tryz.underlying3 f6
      obtain ⟨z7, e7, _⟩ := DataW.trod_int Tryz.underlying3 f7
      obtain ⟨z8, e8, _⟩ := DataW.trod_int Tryz.underlying3 f8
      simp at e0 e1 e2 e3 e4 e5 e6 e7 e8
      refine ⟨⟨z0, z1, z2, z3.data.toList, z4.data.toList, z5.data.toList, z6, z7, z8⟩, ?_⟩
      rw [e0, e1, e2, e3, e4, e5, e6, e7, e8]
      unfold chV
      simp only [← sB_of]
set_option maxRecDepth 100000 in
/-- A slice of changes. -/
theorem chs_of_trod {n : Nat} {cs : List Value} {x : DataW H × List MemPlace} (h : DataW.trod enc Tryz.prog Wd base sp held n 22 cs = some x) : ∃ (u : Value) (r : List Ch), cs = [u] ∧ IsChs Wd u r := by
  rcases DataW.trod_slice Tryz.underlying22 h with ⟨rfl, -⟩ | ⟨a, len, cap, elems, rest, m, _, rfl, _, hb, hl, hm, hlen, hel, _, _⟩
  · exact ⟨_, [], rfl, none, 0, rfl, SlR.nil _ _⟩
  · have hQ : ∀ i, i < len → ∃ c : Ch, ∀ (j : Nat) (u : Value), (chV c)[j]? = some u → Wd.cell? (a.add (i * 9 + j)) = some u := by
      intro i hi
      have he := hel i hi
      rw [cellsChange] at he
      rw [List.getElem?_eq_getElem (by omega)] at he
      obtain ⟨cs', hcs, hy⟩ := Option.bind_eq_some_iff.1 he
      obtain ⟨c, rfl⟩ := change_cells hy
      obtain ⟨_, _, hat⟩ := World.cells?_some hcs
      refine ⟨c, fun j u hj => ?_⟩
      have hjl : j < 9 := (List.getElem?_eq_some_iff.1 hj).1
      have h0 := hat j hjl
      rw [add_add] at h0
      rw [h0]
      exact hj
    obtain ⟨r, hr, hall⟩ := collect len hQ
    refine ⟨_, r, rfl, some a, cap, by rw [hr], ?_⟩
    rw [hr]
    refine slR_of (by rw [cellsC_len, hr]) hl (fun j u hj => ?_) (by decide)
    have hjl : j < r.length * 9 := by rw [← cellsC_len]; exact (List.getElem?_eq_some_iff.1 hj).1
    have hi : j / 9 < r.length := by omega
    have hc : r[j / 9]? = some r[j / 9] := List.getElem?_eq_getElem hi
    have e : j = j / 9 * 9 + j % 9 := by omega
    have hjm : j % 9 < 9 := Nat.mod_lt _ (by decide)
    have h2 := cellsC_at hc (j % 9) hjm
    rw [← e, hj] at h2
    have h3 := hall (j / 9) _ hc (j % 9) u h2.symm
    rw [← e] at h3
    exact h3
end
set_option maxRecDepth 100000 in
/-- CHANGES THAT CAME IN. -/
theorem chs_in {H : Type} {enc : TypeId × Value → H} {Wd : World} {base : Nat} {v : Value} {d : DataW H} {ps : List MemPlace} (hv : Value.okWide Tryz.prog Wd .any base 22 v)
    (h : DataW.Trod enc Tryz.prog Wd 0 (fun _ => true) true 22 v d ps) : ∃ r : List Ch, IsChs Wd v r := by
  obtain ⟨a0, len, cap, rfl⟩ := Go.WideShapes.okWide_slice Tryz.underlying22 hv
  obtain ⟨fuel, hf⟩ := h
  obtain ⟨u, r, e, hu⟩ := chs_of_trod hf
  have e2 : Value.slice a0 len cap = u := by simpa [Value.cells] using e
  subst e2
  exact ⟨r, hu⟩
set_option maxRecDepth 100000 in
/-- A POINT THAT CAME IN. -/
theorem point_of {H : Type} {enc : TypeId × Value → H} {Wd : World} {base : Nat} {v : Value} {d : DataW H} {ps : List MemPlace} (hv : Value.okWide Tryz.prog Wd .any base 35 v)
    (h : DataW.Trod enc Tryz.prog Wd 0 (fun _ => true) true 35 v d ps) : ∃ k n : Int, v = .agg #[.int .i64 k, .int .i64 n] ∧ -9223372036854775808 ≤ n ∧ n ≤ 9223372036854775807 := by
  obtain ⟨cs, rfl, hsz⟩ := okWide_struct Tryz.underlying35 hv
  rw [cellsPoint] at hsz
  obtain ⟨l⟩ := cs
  match l, hsz with
  | [c0, c1], _ =>
    obtain ⟨fuel, hf⟩ := h
    obtain ⟨xs, n, _, hx, _, hlen, hall⟩ := DataW.trod_struct Tryz.underlying35 hf
    match xs, hlen with
    | [y0, y1], _ =>
      have f0 := hall 0 _ rfl
      have f1 := hall 1 _ rfl
      change DataW.trod _ _ _ _ _ _ _ 3 (([c0, c1].drop 0).take (Tryz.prog.cellsOf 3)) = some y0 at f0
      change DataW.trod _ _ _ _ _ _ _ 3 (([c0, c1].drop 1).take (Tryz.prog.cellsOf 3)) = some y1 at f1
      rw [cellsInt] at f0 f1
      obtain ⟨z0, e0, _, _⟩ := DataW.trod_int Tryz.underlying3 f0
      obtain ⟨z1, e1, _, hwf⟩ := DataW.trod_int Tryz.underlying3 f1
      simp at e0 e1
      have hb := bounds_i64 hwf
      exact ⟨z0, z1, by rw [e0, e1], hb.1, hb.2⟩
set_option maxRecDepth 100000 in
/-- AN ADDRESS THAT CAME IN. -/
theorem address_of {H : Type} {enc : TypeId × Value → H} {Wd : World} {base : Nat} {v : Value} {d : DataW H} {ps : List MemPlace} (hv : Value.okWide Tryz.prog Wd .any base 37 v)
    (h : DataW.Trod enc Tryz.prog Wd 0 (fun _ => true) true 37 v d ps) : ∃ (pe st : W) (num : Int) (co to' : W), v = .agg #[.string (sB pe), .string (sB st), .int .i64 num, .string (sB co), .string (sB to')] := by
  obtain ⟨cs, rfl, hsz⟩ := okWide_struct Tryz.underlying37 hv
  rw [cellsAddr] at hsz
  obtain ⟨l⟩ := cs
  match l, hsz with
  | [c0, c1, c2, c3, c4], _ =>
    obtain ⟨fuel, hf⟩ := h
    obtain ⟨xs, n, _, hx, _, hlen, hall⟩ := DataW.trod_struct Tryz.underlying37 hf
    match xs, hlen with
    | [y0, y1, y2, y3, y4], _ =>
      have f0 := hall 0 _ rfl
      change DataW.trod _ _ _ _ _ _ _ 9 (([c0, c1, c2, c3, c4].drop 0).take (Tryz.prog.cellsOf 9)) = some y0 at f0
      rw [cellsStr] at f0
      have f1 := hall 1 _ rfl
      change DataW.trod _ _ _ _ _ _ _ 9 (([c0, c1, c2, c3, c4].drop 1).take (Tryz.prog.cellsOf 9)) = some y1 at f1
      rw [cellsStr] at f1
      have f2 := hall 2 _ rfl
      change DataW.trod _ _ _ _ _ _ _ 3 (([c0, c1, c2, c3, c4].drop 2).take (Tryz.prog.cellsOf 3)) = some y2 at f2
      rw [cellsInt] at f2
      have f3 := hall 3 _ rfl
      change DataW.trod _ _ _ _ _ _ _ 9 (([c0, c1, c2, c3, c4].drop 3).take (Tryz.prog.cellsOf 9)) = some y3 at f3
      rw [cellsStr] at f3
      have f4 := hall 4 _ rfl
      change DataW.trod _ _ _ _ _ _ _ 9 (([c0, c1, c2, c3, c4].drop 4).take (Tryz.prog.cellsOf 9)) = some y4 at f4
      rw [cellsStr] at f4
      obtain ⟨z0, e0, _⟩ := DataW.trod_string Tryz.underlying9 f0
      obtain ⟨z1, e1, _⟩ := DataW.trod_string Tryz.underlying9 f1
      obtain ⟨z2, e2, _⟩ := DataW.trod_int Tryz.underlying3 f2
      obtain ⟨z3, e3, _⟩ := DataW.trod_string Tryz.underlying9 f3
      obtain ⟨z4, e4, _⟩ := DataW.trod_string Tryz.underlying9 f4
      simp at e0 e1 e2 e3 e4
      exact ⟨z0.data.toList, z1.data.toList, z2, z3.data.toList, z4.data.toList, by rw [e0, e1, e2, e3, e4]; simp only [← sB_of]⟩
/-- A TEXT THAT CAME IN. -/
theorem text_of {s : ByteArray} : ∃ x : W, (.string s : Value) = .string (sB x) := ⟨s.data.toList, by rw [← sB_of]⟩

end Rg
end Go.Proofs.YtaeljmiklalpnaaGreatDoor
