/-
  Words for memory: texts, slices that read as lists, blocks that stay, the map of the kinds.
-/
import Derived.Test.YtcaiejbnhjiflaaGreatDoorW1
import Derived.Test.YtcaiejbnhjiflaaGreatDoorShelf
import Derived.Deep.RegionHeld3
import Derived.StillTactics
import Derived.Laws.EntriesVeiled
import Derived.Laws.OwnMore
import Derived.Laws.AppendOwn
import Derived.Maps.AppendAt
import Derived.Maps.Own
import Derived.Maps.OwnOps
import Derived.Deep.LoopGhost
import Derived.Deep.QuietTactic
import Derived.IntWalk
import Derived.Lib.Hide
import Derived.KernelRfl
namespace Go.Proofs.YtcaiejbnhjiflaaGreatDoor
open Go.RowKit
namespace Fm

theorem heap_new (w : World) (o : Obj) : (w.alloc o).heap[w.heap.size]? = some o := by simp [World.alloc, -World.alloc_eq]
theorem b0 (w : World) (o : Obj) : Below w.heap.size w (w.alloc o) := (Below.refl _ _).alloc (Nat.le_refl _) o
theorem bt {w0 w1 w2 : World} (h : Below w0.heap.size w0 w1) (h2 : Below w1.heap.size w1 w2) : Below w0.heap.size w0 w2 := h.trans (h2.mono h.size)
theorem bcell {W w1 : World} (hb : Below W.heap.size W w1) : (∀ b o, b < W.heap.size → w1.cell? ⟨b, o, none⟩ = W.cell? ⟨b, o, none⟩) ∧ (∀ b o, b < W.heap.size → w1.frozen? ⟨b, o, none⟩ = W.frozen? ⟨b, o, none⟩) :=
  ⟨fun b o h => hb.cell (p := ⟨b, o, none⟩) h, fun b o h => hb.frozen (p := ⟨b, o, none⟩) h⟩
theorem ba_of {x : ByteArray} {l : List UInt8} (h : x.data.toList = l) : x = ⟨l.toArray⟩ := by
  subst h
  cases x; rfl
theorem heap_lt {w : World} {b : Nat} {o : Obj} (h : w.heap[b]? = some o) : b < w.heap.size := (Array.getElem?_eq_some_iff.1 h).1

/-- A text; texts as values. -/
def sB (l : W) : ByteArray := ⟨l.toArray⟩
def sV (l : W) : Value := .string (sB l)
theorem sB_list (l : W) : (sB l).data.toList = l := rfl
theorem sB_size (l : W) : (sB l).size = l.length := rfl
theorem sB_of (s : ByteArray) : s = sB s.data.toList := ba_of rfl
theorem sV_of (s : ByteArray) : Value.string s = sV s.data.toList := congrArg Value.string (sB_of s)

/-- A slice that reads as a list of cells, so many an element. -/
def SlR (w : World) (A : Option Addr) (n cap size : Nat) (xs : List Value) : Prop :=
  xs.length = n * size ∧ n ≤ cap ∧ (0 < n → ∃ g o, A = some ⟨g, o, none⟩ ∧ g < w.heap.size ∧ ∀ j u, xs[j]? = some u → w.cell? ⟨g, o + j, none⟩ = some u)
theorem SlR.nil (w : World) (size : Nat) : SlR w none 0 0 size [] := ⟨by simp, Nat.le_refl _, fun h => absurd h (by omega)⟩
theorem SlR.on {w w' : World} {A : Option Addr} {n cap size : Nat} {xs : List Value} (h : SlR w A n cap size xs) (hb : Below w.heap.size w w') : SlR w' A n cap size xs :=
  ⟨h.1, h.2.1, fun hn => by
    obtain ⟨g, o, e, hg, hc⟩ := h.2.2 hn
    exact ⟨g, o, e, Nat.lt_of_lt_of_le hg hb.size, fun j u hu => (hb.cell (p := (⟨g, o + j, none⟩ : Addr)) hg).trans (hc j u hu)⟩⟩
theorem SlR.at {w : World} {A : Option Addr} {n cap : Nat} {xs : List Value} (h : SlR w A n cap 1 xs) {k : Nat} {u : Value} (hk : xs[k]? = some u) : ∃ g o, A = some ⟨g, o, none⟩ ∧ g < w.heap.size ∧ w.cell? ⟨g, o + k, none⟩ = some u := by
  have hl := (List.getElem?_eq_some_iff.1 hk).1
  obtain ⟨g, o, e, hg, hc⟩ := h.2.2 (by have := h.1; omega)
  exact ⟨g, o, e, hg, hc k u hk⟩
theorem SlR.take {w : World} {A : Option Addr} {n cap size : Nat} {xs : List Value} (h : SlR w A n cap size xs) {m : Nat} (hm : m ≤ n) : SlR w A m cap size (xs.take (m * size)) := by
  have hx := h.1
  have hms : m * size ≤ n * size := Nat.mul_le_mul_right _ hm
  refine ⟨by rw [List.length_take]; omega, by have := h.2.1; omega, fun h0 => ?_⟩
  obtain ⟨g, o, e, hg, hc⟩ := h.2.2 (by omega)
  refine ⟨g, o, e, hg, fun j u hu => hc j u ?_⟩
  rw [List.getElem?_take] at hu
  split at hu
  · exact hu
  · cases hu
theorem SlR.drop {w : World} {A : Option Addr} {n cap size : Nat} {xs : List Value} (h : SlR w A n cap size xs) {k : Nat} (hk : k ≤ n) :
    SlR w (if cap = k then A else A.map (·.add (k * size))) (n - k) (cap - k) size (xs.drop (k * size)) := by
  have hc0 := h.2.1
  refine ⟨by rw [List.length_drop, h.1, Nat.sub_mul], by omega, fun hn => ?_⟩
  obtain ⟨g, o, rfl, hg, hc⟩ := h.2.2 (by omega)
  rw [if_neg (by omega)]
  refine ⟨g, o + k * size, by simp [Addr.add], hg, fun j u hu => ?_⟩
  rw [Nat.add_assoc]
  exact hc _ u (by rw [← hu, List.getElem?_drop])
theorem SlR.of_own {w : World} {base : Nat} {e : TypeId} {size n : Nat} {v : Value} {xs : List Value} (h : w.ownsRow base e size v n xs) : ∃ A cap, v = .slice A n cap ∧ SlR w A n cap size xs := by
  rcases h.2 with ⟨rfl, rfl⟩ | ⟨g, cap, cur, rfl, hb, hg, hnc, -, hs, hx⟩
  · have : xs = [] := List.length_eq_zero_iff.1 (by have := h.1; simpa using this)
    subst this
    exact ⟨none, 0, rfl, SlR.nil _ _⟩
  · refine ⟨_, cap, rfl, h.1, hnc, fun _ => ⟨g, 0, rfl, heap_lt hg, fun j u hu => ?_⟩⟩
    have hj := (List.getElem?_eq_some_iff.1 hu).1
    rw [Nat.zero_add, h.cellAt _ (by have := h.1; omega)]; exact hu

/-- A slice of texts; of parts; of such slices. -/
abbrev RdW (w : World) (A : Option Addr) (ws : List W) (cap : Nat) : Prop := SlR w A ws.length cap 1 (ws.map sV)
def ptV (p : Pt) : List Value := [.int .i64 p.k, sV p.t]
abbrev RdP (w : World) (A : Option Addr) (ps : List Pt) (cap : Nat) : Prop := SlR w A ps.length cap 2 (ps.flatMap ptV)
/-- A value is a slice of texts, of parts. -/
def IsW (w : World) (v : Value) (ws : List W) : Prop := ∃ A cap, v = .slice A ws.length cap ∧ RdW w A ws cap
def IsP (w : World) (v : Value) (ps : List Pt) : Prop := ∃ A cap, v = .slice A ps.length cap ∧ RdP w A ps cap
def IsPs (w : World) (v : Value) (fs : List (List Pt)) : Prop := ∃ A cap vs, v = .slice A fs.length cap ∧ SlR w A fs.length cap 1 vs ∧ ∀ (i : Nat) (ps : List Pt), fs[i]? = some ps → ∃ u, vs[i]? = some u ∧ IsP w u ps
def IsWs (w : World) (v : Value) (ls : List (List W)) : Prop := ∃ A cap vs, v = .slice A ls.length cap ∧ SlR w A ls.length cap 1 vs ∧ ∀ (i : Nat) (ws : List W), ls[i]? = some ws → ∃ u, vs[i]? = some u ∧ IsW w u ws
theorem IsW.on {w w' : World} {v : Value} {ws : List W} (h : IsW w v ws) (hb : Below w.heap.size w w') : IsW w' v ws := by
  obtain ⟨A, cap, e, h⟩ := h; exact ⟨A, cap, e, h.on hb⟩
theorem IsP.on {w w' : World} {v : Value} {ps : List Pt} (h : IsP w v ps) (hb : Below w.heap.size w w') : IsP w' v ps := by
  obtain ⟨A, cap, e, h⟩ := h; exact ⟨A, cap, e, h.on hb⟩
theorem IsPs.on {w w' : World} {v : Value} {fs : List (List Pt)} (h : IsPs w v fs) (hb : Below w.heap.size w w') : IsPs w' v fs := by
  obtain ⟨A, cap, vs, e, h, k⟩ := h
  exact ⟨A, cap, vs, e, h.on hb, fun i ps hi => by obtain ⟨u, hu, hp⟩ := k i ps hi; exact ⟨u, hu, hp.on hb⟩⟩
theorem IsWs.on {w w' : World} {v : Value} {ls : List (List W)} (h : IsWs w v ls) (hb : Below w.heap.size w w') : IsWs w' v ls := by
  obtain ⟨A, cap, vs, e, h, k⟩ := h
  exact ⟨A, cap, vs, e, h.on hb, fun i ws hi => by obtain ⟨u, hu, hp⟩ := k i ws hi; exact ⟨u, hu, hp.on hb⟩⟩
theorem flat_len (ps : List Pt) : (ps.flatMap ptV).length = ps.length * 2 := by
  induction ps with
  | nil => rfl
  | cons p ps ih => rw [List.flatMap_cons, List.length_append, ih, List.length_cons]; simp [ptV]; omega
theorem flat_drop (ps : List Pt) (k : Nat) : (ps.flatMap ptV).drop (k * 2) = (ps.drop k).flatMap ptV := by
  induction k generalizing ps with
  | zero => simp
  | succ k ih =>
    match ps with
    | [] => simp
    | p :: ps =>
      rw [List.flatMap_cons, List.drop_succ_cons, ← ih, show (k + 1) * 2 = 2 + k * 2 by omega, ← List.drop_drop]
      rfl
theorem flat_at (ps : List Pt) (i : Nat) (p : Pt) (h : ps[i]? = some p) : (ps.flatMap ptV)[i * 2]? = some (.int .i64 p.k) ∧ (ps.flatMap ptV)[i * 2 + 1]? = some (sV p.t) := by
  have e : ps.drop i = p :: ps.drop (i + 1) := by
    have hi := (List.getElem?_eq_some_iff.1 h)
    rw [List.drop_eq_getElem_cons hi.1, hi.2]
  have h1 := flat_drop ps i
  rw [e, List.flatMap_cons] at h1
  constructor
  · have : ((ps.flatMap ptV).drop (i * 2))[0]? = some (.int .i64 p.k) := by rw [h1]; rfl
    rwa [List.getElem?_drop, Nat.add_zero] at this
  · have : ((ps.flatMap ptV).drop (i * 2))[1]? = some (sV p.t) := by rw [h1]; rfl
    rwa [List.getElem?_drop] at this
theorem RdP.at {w : World} {A : Option Addr} {ps : List Pt} {cap : Nat} (h : RdP w A ps cap) {i : Nat} {p : Pt} (hi : ps[i]? = some p) :
    ∃ g o, A = some ⟨g, o, none⟩ ∧ g < w.heap.size ∧ w.cell? ⟨g, o + i * 2, none⟩ = some (.int .i64 p.k) ∧ w.cell? ⟨g, o + i * 2 + 1, none⟩ = some (sV p.t) := by
  have hl := (List.getElem?_eq_some_iff.1 hi).1
  obtain ⟨g, o, e, hg, hc⟩ := h.2.2 (by omega)
  obtain ⟨h1, h2⟩ := flat_at ps i p hi
  exact ⟨g, o, e, hg, hc _ _ h1, by rw [Nat.add_assoc]; exact hc _ _ h2⟩
theorem RdP.tail {w : World} {A : Option Addr} {p : Pt} {ps : List Pt} {cap : Nat} (h : RdP w A (p :: ps) cap) : RdP w (if cap = 1 then A else A.map (·.add (1 * 2))) ps (cap - 1) := by
  have := h.drop (k := 1) (by simp)
  simpa [ptV] using this
theorem RdW.cut {w : World} {A : Option Addr} {ws : List W} {cap : Nat} (h : RdW w A ws cap) {k : Nat} (hk : k ≤ ws.length) : RdW w (if cap = k then A else A.map (·.add (k * 1))) (ws.drop k) (cap - k) := by
  have := h.drop (k := k) hk
  rw [Nat.mul_one, ← List.map_drop] at this
  unfold RdW
  rw [List.length_drop, Nat.mul_one]; exact this
theorem RdW.upto {w : World} {A : Option Addr} {ws : List W} {cap : Nat} (h : RdW w A ws cap) {k : Nat} (hk : k ≤ ws.length) : RdW w A (ws.take k) cap := by
  have := h.take (m := k) hk
  rw [Nat.mul_one, ← List.map_take] at this
  unfold RdW
  rw [List.length_take, Nat.min_eq_left hk]; exact this

/-- ALL BLOCKS BELOW A NUMBER STAY, BUT FOR ONE. -/
structure Kept (B S : Nat) (w w' : World) : Prop where
  os : w'.os = w.os
  tape : w'.tape = w.tape
  output : w'.output = w.output
  size : w.heap.size ≤ w'.heap.size
  block : ∀ k, k < B → k ≠ S → w'.heap[k]? = w.heap[k]?
theorem Kept.refl (B S : Nat) (w : World) : Kept B S w w := ⟨rfl, rfl, rfl, Nat.le_refl _, fun _ _ _ => rfl⟩
theorem Kept.trans {B S : Nat} {a b c : World} (h : Kept B S a b) (k : Kept B S b c) : Kept B S a c :=
  ⟨k.os.trans h.os, k.tape.trans h.tape, k.output.trans h.output, Nat.le_trans h.size k.size, fun i hi hs => (k.block i hi hs).trans (h.block i hi hs)⟩
theorem Kept.mono {B B' S : Nat} {w w' : World} (h : Kept B S w w') (hB : B' ≤ B) : Kept B' S w w' := ⟨h.os, h.tape, h.output, h.size, fun k hk hs => h.block k (Nat.lt_of_lt_of_le hk hB) hs⟩
theorem Kept.of {B S : Nat} {w w' : World} (h : Below B w w') : Kept B S w w' := ⟨h.os, h.tape, h.output, h.size, fun k hk _ => h.block k hk⟩
theorem Kept.below {B S B' : Nat} {w w' : World} (h : Kept B S w w') (hS : B' ≤ S) (hB : B' ≤ B) : Below B' w w' := ⟨h.os, h.tape, h.output, h.size, fun k hk => h.block k (by omega) (by omega)⟩
theorem Kept.alloc {B S : Nat} {a w : World} (h : Kept B S a w) (hB : B ≤ w.heap.size) (o : Obj) : Kept B S a (w.alloc o) := h.trans (Kept.of ((Below.refl B w).alloc hB o))
theorem Kept.set {B S : Nat} {a w : World} (h : Kept B S a w) (o : Nat) (u : Value) : Kept B S a (w.setCell ⟨S, o, none⟩ u) :=
  h.trans ⟨rfl, rfl, rfl, by simp [World.setCell], fun k _ hs => Below.heap_setCell w ⟨S, o, none⟩ u k hs⟩
theorem Kept.drewN {B S : Nat} {a w : World} (h : Kept B S a w) (n : Nat) : Kept B S a (w.drewN n) := h.trans (Kept.of (below_drewN (Below.refl _ _) n))

/-! ### The map of the kinds -/
def fnV (f : Nat) : Value := .func (.func f) #[] #[]
def clV (f F : Nat) : Value := .func (.func f) #[] #[.pointer (some ⟨F, 0, none⟩)]
/-- The kind of a number; F: the boxes of the three fields. -/
def kdV (F : Int → Nat) (k : Int) : Value :=
  if k = 1 then .agg #[.int .i64 1, fnV 48, fnV 49, fnV 50]
  else if k = 2 then .agg #[.int .i64 1, fnV 51, fnV 52, fnV 53]
  else if k = 3 then .agg #[.int .i64 1, fnV 55, fnV 56, fnV 57]
  else .agg #[.int .i64 4, fnV 51, clV 81 (F k), clV 82 (F k)]
def fldF (k : Int) : Nat := if k = 4 then 59 else if k = 5 then 60 else 61
def entV (F : Int → Nat) (k : Int) : MapEntry := ⟨.int .i64 k, kdV F k, k.toNat - 1⟩
/-- A map that holds the kinds of some numbers. -/
structure Kinds (w : World) (M : Nat) (F : Int → Nat) (L : List Int) : Prop where
  map : w.heap[M]? = some (.map (L.map (entV F)).toArray 6)
  box : ∀ k, 4 ≤ k → k ≤ 6 → w.heap[F k]? = some (.cells #[fnV (fldF k)] 80 (0, 0))
theorem Kinds.on {w w' : World} {M : Nat} {F : Int → Nat} {L : List Int} (h : Kinds w M F L) (hb : Below w.heap.size w w') : Kinds w' M F L :=
  ⟨(hb.block _ (heap_lt h.map)).trans h.map, fun k h4 h6 => (hb.block _ (heap_lt (h.box k h4 h6))).trans (h.box k h4 h6)⟩

theorem find_now (F : Int → Nat) (k : Int) (L : List Int) : ∀ i, Instr.findNow (.int .i64) (.int .i64 k) (L.map (entV F)) i = some (if k ∈ L then some (i + L.idxOf k, kdV F k) else none) := by
  induction L with
  | nil => intro i; rfl
  | cons a L ih =>
    intro i
    rw [List.map_cons]
    show (match Instr.sameNow (.int .i64) (.int .i64 k) (.int .i64 a) with | some true => some (some (i, kdV F a)) | some false => Instr.findNow (.int .i64) (.int .i64 k) (L.map (entV F)) (i + 1) | none => none) = _
    have : Instr.sameNow (.int .i64) (.int .i64 k) (.int .i64 a) = some (k == a) := by simp [Instr.sameNow]
    rw [this]
    by_cases e : k = a
    · subst e; simp
    · have e' : (k == a) = false := by simpa using e
      rw [e']
      simp only
      rw [ih (i + 1)]
      have e2 : (a == k) = false := by simpa using fun x => e x.symm
      by_cases hm : k ∈ L
      · rw [if_pos hm, if_pos (List.mem_cons_of_mem _ hm), List.idxOf_cons, e2]
        simp; omega
      · rw [if_neg hm, if_neg (fun x => (List.mem_cons.1 x).elim e hm)]

end Fm
end Go.Proofs.YtcaiejbnhjiflaaGreatDoor
