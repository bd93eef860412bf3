/-
  Words for memory that serve at every seat: texts, slices that read as lists of cells, rows of the call's own, appends, slices of slices, structs in blocks. No type of a program is named here.
-/
import Derived.Tactics
import Derived.Tactics2
import Derived.WalkKit
import Derived.Deep.RegionHeld3
import Derived.Deep.AppendLies
import Derived.StillTactics
import Derived.Laws.OwnMore
import Derived.Laws.AppendOwn
import Derived.Laws.Rows
import Derived.Maps.AppendAt
import Derived.Maps.Own
import Derived.Maps.OwnOps
import Derived.OwnWalk
import Derived.Deep.LoopGhost
import Derived.Deep.QuietTactic
import Derived.IntWalk
import Derived.Lib.Hide
import Derived.Lib.ItoaNum
import Derived.Lib.Strings
import Derived.KernelRfl
namespace Go.Proofs.YtaeljmiklalpnaaGreatDoor
open Go.RowKit Go.ChangeMaps
namespace Gn

abbrev W := List UInt8
theorem hid {p : Prop} (h : p) : Hid p := h
theorem heap_new (w : World) (o : Obj) : (w.alloc o).heap[w.heap.size]? = some o := by simp [World.alloc, -World.alloc_eq]
theorem heap_new' (w : World) (o : Obj) (n : Nat) (h : n = w.heap.size) : (w.alloc o).heap[n]? = some o := by subst h; exact heap_new w o
theorem below_drewN' {B : Nat} {w w' : World} (h : Below B w w') (n : Nat) : Below B w (w'.drewN n) := ⟨h.os, h.tape, h.output, h.size, h.block⟩
theorem hpk (w : World) (o : Obj) (k : Nat) : (w.alloc o).heap[k]? = if k = w.heap.size then some o else w.heap[k]? := by
  simp [World.alloc, -World.alloc_eq, Array.getElem?_push]
theorem b0 (w : World) (o : Obj) : Below w.heap.size w (w.alloc o) := (Below.refl _ _).alloc (Nat.le_refl _) o
theorem bt {w0 w1 w2 : World} (h : Below w0.heap.size w0 w1) (h2 : Below w1.heap.size w1 w2) : Below w0.heap.size w0 w2 := h.trans (h2.mono h.size)
theorem bcell {W w1 : World} (hb : Below W.heap.size W w1) : (∀ b o, b < W.heap.size → w1.cell? ⟨b, o, none⟩ = W.cell? ⟨b, o, none⟩) ∧ (∀ b o, b < W.heap.size → w1.frozen? ⟨b, o, none⟩ = W.frozen? ⟨b, o, none⟩) :=
  ⟨fun b o h => hb.cell (p := ⟨b, o, none⟩) h, fun b o h => hb.frozen (p := ⟨b, o, none⟩) h⟩
theorem ba_of {x : ByteArray} {l : List UInt8} (h : x.data.toList = l) : x = ⟨l.toArray⟩ := by
  subst h
  cases x; rfl
theorem heap_lt {w : World} {b : Nat} {o : Obj} (h : w.heap[b]? = some o) : b < w.heap.size := (Array.getElem?_eq_some_iff.1 h).1

/-- A text; texts as values. -/
def sB (l : W) : ByteArray := ⟨l.toArray⟩
def sV (l : W) : Value := .string (sB l)
theorem sB_list (l : W) : (sB l).data.toList = l := rfl
theorem sB_size (l : W) : (sB l).size = l.length := rfl
theorem sB_of (s : ByteArray) : s = sB s.data.toList := ba_of rfl
theorem sV_of (s : ByteArray) : Value.string s = sV s.data.toList := congrArg Value.string (sB_of s)

/-- A slice that reads as a list of cells, so many an element. -/
def SlR (w : World) (A : Option Addr) (n cap size : Nat) (xs : List Value) : Prop :=
  xs.length = n * size ∧ n ≤ cap ∧ (0 < n → ∃ g o, A = some ⟨g, o, none⟩ ∧ g < w.heap.size ∧ ∀ j u, xs[j]? = some u → w.cell? ⟨g, o + j, none⟩ = some u)
theorem SlR.nil (w : World) (size : Nat) : SlR w none 0 0 size [] := ⟨by simp, Nat.le_refl _, fun h => absurd h (by omega)⟩
theorem SlR.on {w w' : World} {A : Option Addr} {n cap size : Nat} {xs : List Value} (h : SlR w A n cap size xs) (hb : Below w.heap.size w w') : SlR w' A n cap size xs :=
  ⟨h.1, h.2.1, fun hn => by
    obtain ⟨g, o, e, hg, hc⟩ := h.2.2 hn
    exact ⟨g, o, e, Nat.lt_of_lt_of_le hg hb.size, fun j u hu => (hb.cell (p := (⟨g, o + j, none⟩ : Addr)) hg).trans (hc j u hu)⟩⟩
theorem SlR.at {w : World} {A : Option Addr} {n cap : Nat} {xs : List Value} (h : SlR w A n cap 1 xs) {k : Nat} {u : Value} (hk : xs[k]? = some u) : ∃ g o, A = some ⟨g, o, none⟩ ∧ g < w.heap.size ∧ w.cell? ⟨g, o + k, none⟩ = some u := by
  have hl := (List.getElem?_eq_some_iff.1 hk).1
  obtain ⟨g, o, e, hg, hc⟩ := h.2.2 (by have := h.1; omega)
  exact ⟨g, o, e, hg, hc k u hk⟩
theorem SlR.take {w : World} {A : Option Addr} {n cap size : Nat} {xs : List Value} (h : SlR w A n cap size xs) {m : Nat} (hm : m ≤ n) : SlR w A m cap size (xs.take (m * size)) := by
  have hx := h.1
  have hms : m * size ≤ n * size := Nat.mul_le_mul_right _ hm
  refine ⟨by rw [List.length_take]; omega, by have := h.2.1; omega, fun h0 => ?_⟩
  obtain ⟨g, o, e, hg, hc⟩ := h.2.2 (by omega)
  refine ⟨g, o, e, hg, fun j u hu => hc j u ?_⟩
  rw [List.getElem?_take] at hu
  split at hu
  · exact hu
  · cases hu
theorem SlR.drop {w : World} {A : Option Addr} {n cap size : Nat} {xs : List Value} (h : SlR w A n cap size xs) {k : Nat} (hk : k ≤ n) :
    SlR w (if cap = k then A else A.map (·.add (k * size))) (n - k) (cap - k) size (xs.drop (k * size)) := by
  have hc0 := h.2.1
  refine ⟨by rw [List.length_drop, h.1, Nat.sub_mul], by omega, fun hn => ?_⟩
  obtain ⟨g, o, rfl, hg, hc⟩ := h.2.2 (by omega)
  rw [if_neg (by omega)]
  refine ⟨g, o + k * size, by simp [Addr.add], hg, fun j u hu => ?_⟩
  rw [Nat.add_assoc]
  exact hc _ u (by rw [← hu, List.getElem?_drop])
theorem SlR.of_own {w : World} {base : Nat} {e : TypeId} {size n : Nat} {v : Value} {xs : List Value} (h : w.ownsRow base e size v n xs) : ∃ A cap, v = .slice A n cap ∧ SlR w A n cap size xs := by
  rcases h.2 with ⟨rfl, rfl⟩ | ⟨g, cap, cur, rfl, hb, hg, hnc, -, hs, hx⟩
  · have : xs = [] := List.length_eq_zero_iff.1 (by have := h.1; simpa using this)
    subst this
    exact ⟨none, 0, rfl, SlR.nil _ _⟩
  · refine ⟨_, cap, rfl, h.1, hnc, fun _ => ⟨g, 0, rfl, heap_lt hg, fun j u hu => ?_⟩⟩
    have hj := (List.getElem?_eq_some_iff.1 hu).1
    rw [Nat.zero_add, h.cellAt _ (by have := h.1; omega)]; exact hu

/-- A slice of texts. -/
abbrev RdW (w : World) (A : Option Addr) (ws : List W) (cap : Nat) : Prop := SlR w A ws.length cap 1 (ws.map sV)
def IsW (w : World) (v : Value) (ws : List W) : Prop := ∃ A cap, v = .slice A ws.length cap ∧ RdW w A ws cap
theorem IsW.on {w w' : World} {v : Value} {ws : List W} (h : IsW w v ws) (hb : Below w.heap.size w w') : IsW w' v ws := by
  obtain ⟨A, cap, e, h⟩ := h; exact ⟨A, cap, e, h.on hb⟩
theorem IsW.nil (w : World) : IsW w (.slice none 0 0) [] := ⟨none, 0, rfl, SlR.nil w 1⟩
theorem IsW.of_own {w : World} {B : Nat} {e : TypeId} {v : Value} {ws : List W} (h : w.ownsRow B e 1 v ws.length (ws.map sV)) : IsW w v ws := by
  obtain ⟨A, cap, rfl, h2⟩ := SlR.of_own h; exact ⟨A, cap, rfl, h2⟩
theorem RdW.cut {w : World} {A : Option Addr} {ws : List W} {cap : Nat} (h : RdW w A ws cap) {k : Nat} (hk : k ≤ ws.length) : RdW w (if cap = k then A else A.map (·.add (k * 1))) (ws.drop k) (cap - k) := by
  have := h.drop (k := k) hk
  rw [Nat.mul_one, ← List.map_drop] at this
  unfold RdW
  rw [List.length_drop, Nat.mul_one]; exact this
theorem RdW.upto {w : World} {A : Option Addr} {ws : List W} {cap : Nat} (h : RdW w A ws cap) {k : Nat} (hk : k ≤ ws.length) : RdW w A (ws.take k) cap := by
  have := h.take (m := k) hk
  rw [Nat.mul_one, ← List.map_take] at this
  unfold RdW
  rw [List.length_take, Nat.min_eq_left hk]; exact this

/-- ALL BLOCKS BELOW A NUMBER STAY, BUT FOR ONE. -/
structure Kept (B S : Nat) (w w' : World) : Prop where
  os : w'.os = w.os
  tape : w'.tape = w.tape
  output : w'.output = w.output
  size : w.heap.size ≤ w'.heap.size
  block : ∀ k, k < B → k ≠ S → w'.heap[k]? = w.heap[k]?
theorem Kept.refl (B S : Nat) (w : World) : Kept B S w w := ⟨rfl, rfl, rfl, Nat.le_refl _, fun _ _ _ => rfl⟩
theorem Kept.trans {B S : Nat} {a b c : World} (h : Kept B S a b) (k : Kept B S b c) : Kept B S a c :=
  ⟨k.os.trans h.os, k.tape.trans h.tape, k.output.trans h.output, Nat.le_trans h.size k.size, fun i hi hs => (k.block i hi hs).trans (h.block i hi hs)⟩
theorem Kept.mono {B B' S : Nat} {w w' : World} (h : Kept B S w w') (hB : B' ≤ B) : Kept B' S w w' := ⟨h.os, h.tape, h.output, h.size, fun k hk hs => h.block k (Nat.lt_of_lt_of_le hk hB) hs⟩
theorem Kept.of {B S : Nat} {w w' : World} (h : Below B w w') : Kept B S w w' := ⟨h.os, h.tape, h.output, h.size, fun k hk _ => h.block k hk⟩
theorem Kept.below {B S B' : Nat} {w w' : World} (h : Kept B S w w') (hS : B' ≤ S) (hB : B' ≤ B) : Below B' w w' := ⟨h.os, h.tape, h.output, h.size, fun k hk => h.block k (by omega) (by omega)⟩
theorem Kept.alloc {B S : Nat} {a w : World} (h : Kept B S a w) (hB : B ≤ w.heap.size) (o : Obj) : Kept B S a (w.alloc o) := h.trans (Kept.of ((Below.refl B w).alloc hB o))
theorem Kept.set {B S : Nat} {a w : World} (h : Kept B S a w) (o : Nat) (u : Value) : Kept B S a (w.setCell ⟨S, o, none⟩ u) :=
  h.trans ⟨rfl, rfl, rfl, by simp [World.setCell], fun k _ hs => Below.heap_setCell w ⟨S, o, none⟩ u k hs⟩
theorem Kept.drewN {B S : Nat} {a w : World} (h : Kept B S a w) (n : Nat) : Kept B S a (w.drewN n) := h.trans (Kept.of (below_drewN' (Below.refl _ _) n))

theorem own_below {w w' : World} {B : Nat} {e : TypeId} {sz n : Nat} {v : Value} {xs : List Value} (h : w.ownsRow B e sz v n xs) (hb : Below w.heap.size w w') : w'.ownsRow B e sz v n xs := by
  refine ⟨h.1, ?_⟩
  rcases h.2 with h0 | ⟨g, cap, cur, hv, hB, hg, rest⟩
  · exact .inl h0
  · exact .inr ⟨g, cap, cur, hv, hB, (hb.block g (heap_lt hg)).trans hg, rest⟩
theorem grow_below {w w1 : World} {B : Nat} {v : Value} {n : Nat} {e : TypeId} {sz : Nat} {xs : List Value} {o : Obj} {b0 : Nat} {wx : World} (hB : Below b0 wx w) (h0 : b0 ≤ B) (hs : b0 ≤ w.heap.size) (hrow : w.ownsRow B e sz v n xs) (hg : (w.alloc o).grownBy w1 v.ownBlock) : Below b0 wx w1 :=
  (hB.alloc hs o).grown hg (by simp; omega) (fun k e => by have := (hrow.lt k e).1; omega)
theorem own_empty2 (w : World) (B N sz : Nat) (hB : B ≤ N) (hN : N = w.heap.size) (e : TypeId) : (w.alloc (.cells #[] e)).ownsRow B e sz (.slice (some ⟨N, 0, none⟩) 0 0) 0 [] := by
  subst hN; exact World.ownsRow_made w #[] 0 hB (Nat.zero_le _) (by simp)
theorem addr_add (b o j : Nat) : (⟨b, o, none⟩ : Addr).add j = ⟨b, o + j, none⟩ := by unfold Addr.add; split <;> simp_all
theorem sB_beq {a b : W} : ((sB a).toList == (sB b).toList) = decide (a = b) := by
  rw [Lib.toList_data, Lib.toList_data, sB_list, sB_list]
  rw [Bool.eq_iff_iff]; simp
theorem sB_neq {a b : W} : ((sB a).toList != (sB b).toList) = !decide (a = b) := by rw [bne, sB_beq]
theorem sB_eq {a b : W} : ((sB a).toList = (sB b).toList) ↔ a = b := by
  rw [Lib.toList_data, Lib.toList_data, sB_list, sB_list]
theorem sB_nil {a : W} : (a = [] → (sB a).toList = [] ∧ (sB a).toList.isEmpty = true) ∧ (¬ a = [] → ¬ (sB a).toList = [] ∧ (sB a).toList.isEmpty = false) :=
  ⟨fun h => by rw [h, Lib.toList_data]; exact ⟨rfl, rfl⟩, fun h => by rw [Lib.toList_data, sB_list]; exact ⟨h, by simp [h]⟩⟩
theorem size_len (s : ByteArray) : s.data.toList.length = s.size := by simp
theorem at_get {s : ByteArray} {l : W} (h : s.data.toList = l) {k : Nat} (hk : k < s.size) : l[k]? = some s[k] := by
  subst h
  rw [List.getElem?_eq_getElem (by rw [size_len]; exact hk)]
  rfl
theorem cell_at {u : World} {g i : Nat} {cs : Array Value} {T : TypeId} (h : u.heap[g]? = some (.cells cs T (0, 0))) : u.cell? ⟨g, i, none⟩ = cs[i]? := by simp [World.cell?, h]
theorem free_at {u : World} {g i : Nat} {cs : Array Value} {T : TypeId} {v : Value} (h : u.heap[g]? = some (.cells cs T (0, 0))) (_hi : cs[i]? = some v) : u.frozen? ⟨g, i, none⟩ = false := by simp [World.frozen?, h]
theorem one_strs (ws : List W) : ∀ u ∈ ws.map sV, u.oneCell' = true := fun u hu => by
  obtain ⟨x, _, rfl⟩ := List.mem_map.1 hu; rfl
theorem one_news {w : World} {X : Nat} {v : Value} (h : w.cell? ⟨X, 0, none⟩ = some v) : ∀ j u, [v][j]? = some u → w.cell? ((⟨X, 0, none⟩ : Addr).add j) = some u := by
  intro j u hu
  match j with
  | 0 => rw [addr_add]; simp at hu; rw [← hu]; exact h
  | j + 1 => simp at hu
theorem cell_new (w : World) (v : Value) (T : TypeId) : ∀ j u, [v][j]? = some u → (w.alloc (.cells #[v] T)).cell? ((⟨w.heap.size, 0, none⟩ : Addr).add j) = some u := one_news (by rw [cell_at (heap_new w _)]; rfl)
/-- A block that was just made, read as the news of an append. -/
theorem block_news (w : World) (cs : Array Value) (T : TypeId) (N : Nat) (hN : N = w.heap.size) : ∀ j u, cs.toList[j]? = some u → (w.alloc (.cells cs T)).cell? ((⟨N, 0, none⟩ : Addr).add j) = some u := fun j u hu => by
  rw [addr_add, Nat.zero_add, cell_at (heap_new' w _ N hN)]; simpa using hu
/-- Elements appended to a row of the call's own: none at all, too. -/
theorem run_app_gen {P : Program} {w : World} (t ty e : TypeId) (i : TypeInfo) (z : Value) (size bytes : Nat) (ht : P.underlying t = some (.slice e)) (hi : P.info? e = some i) (hz : i.zero = some z) (hsize : i.size = size) (hby : i.bytes = bytes) (hzs : z.cells.size = size) (hsz : 0 < size)
    {B n : Nat} {v : Value} {xs : List Value} (hown : w.ownsRow B e size v n xs) (hB : B ≤ w.heap.size) {A : Option Addr} {m c : Nat} {ys : List Value} (hS : SlR w A m c size ys) (h1 : ∀ u ∈ ys, u.oneCell' = true) (hn : n + m ≤ 100000) (hb : bytes ≤ 1000) :
    ∃ v' w1, (Builtin.append_ #[t, t] ty #[v, .slice A m c]).run P w = .ok v' w1 ∧ w1.ownsRow B e size v' (n + m) (xs ++ ys) ∧ w.grownBy w1 v.ownBlock := by
  by_cases h0 : m = 0
  · subst h0
    have hx : ys = [] := List.length_eq_zero_iff.1 (by have := hS.1; simpa using this)
    subst hx
    refine ⟨v, w, ?_, by simpa using hown, World.grownBy.refl _ _⟩
    rcases hown.2 with ⟨rfl, rfl⟩ | ⟨g, cap, cur, rfl, _, _, hnc, _⟩
    · cases A <;> simp [Builtin.append_, run_underlying ht, sizeOf, typeInfo, hi, Builtin.lenOf, Builtin.firstCells, loadCells, loadCellsFrom]
    · cases A <;> simp [Builtin.append_, run_underlying ht, sizeOf, typeInfo, hi, Builtin.lenOf, Builtin.firstCells, hnc, storeCells, loadCells, loadCellsFrom]
  · obtain ⟨g', o, rfl, hg, hc⟩ := hS.2.2 (by omega)
    obtain ⟨g, cap, w1, hr, h2, h3, h4, h5⟩ := run_append_lies (P := P) w t ty B e i z size bytes ht hi hz hsize hby hzs hsz v n xs hown ⟨g', o, none⟩ m c ys hS.1 (fun j u hu => by rw [addr_add]; exact hc j u hu) h1 (by omega) (by unfold maxLen; omega) (by have := Nat.mul_le_mul hn hb; omega) hB _ rfl
    exact ⟨_, w1, hr, h2, h3⟩
theorem step_app_gen {P : Program} {w : World} {ops : Array Oper} {o : Oper} {a : Act} {K : Act → World → Prop} {Q : Exit → Act → World → Prop} {E : Prop} (hgd : o.guard = none) (s x : Operand) (t : TypeId)
    (ho : o.op = .call { callee := .builtin .append, args := #[s, x], argTypes := #[t, t] }) (e : TypeId) (i : TypeInfo) (z : Value) (size bytes : Nat) (ht : P.underlying t = some (.slice e)) (hi : P.info? e = some i) (hz : i.zero = some z) (hsize : i.size = size) (hby : i.bytes = bytes) (hzs : z.cells.size = size) (hsz : 0 < size)
    (B n : Nat) (v : Value) (xs : List Value) (hs : a.eval s = v) (hown : w.ownsRow B e size v n xs) (hB : B ≤ w.heap.size) (A : Option Addr) (m c : Nat) (ys : List Value) (hx : a.eval x = .slice A m c) (hS : SlR w A m c size ys) (h1 : ∀ u ∈ ys, u.oneCell' = true) (hn : n + m ≤ 100000) (hb : bytes ≤ 1000)
    (h : ∀ v' w1, w1.ownsRow B e size v' (n + m) (xs ++ ys) → w.grownBy w1 v.ownBlock → K (a.put o.dst v') w1) :
    if Region.wanted o (yielded ops a.tmps) = true then Oper.wp P o a w K Q else E := by
  have hw : Region.wanted o (yielded ops a.tmps) = true := by simp [Region.wanted, hgd]
  rw [if_pos hw]
  obtain ⟨v', w1, hr, h2, h3⟩ := run_app_gen (P := P) t o.type e i z size bytes ht hi hz hsize hby hzs hsz hown hB hS h1 hn hb
  unfold Oper.wp execOp
  simp only [ho, resolve, invoke, builtin, Sem.run_bind, Sem.run_pure, Result.andThen_ok, List.map_toArray, List.map_cons, List.map_nil, hs, hx, hr]
  exact h v' w1 h2 h3
/-- The same at the list of a plain region's operations. -/
theorem list_app_gen {P : Program} {w : World} {ops : Array Oper} {rest : List Oper} {o : Oper} {a : Act} {Q : Exit → Act → World → Prop} (hgd : o.guard = none) (s x : Operand) (t : TypeId)
    (ho : o.op = .call { callee := .builtin .append, args := #[s, x], argTypes := #[t, t] }) (e : TypeId) (i : TypeInfo) (z : Value) (size bytes : Nat) (ht : P.underlying t = some (.slice e)) (hi : P.info? e = some i) (hz : i.zero = some z) (hsize : i.size = size) (hby : i.bytes = bytes) (hzs : z.cells.size = size) (hsz : 0 < size)
    (B n : Nat) (v : Value) (xs : List Value) (hs : a.eval s = v) (hown : w.ownsRow B e size v n xs) (hB : B ≤ w.heap.size) (A : Option Addr) (m c : Nat) (ys : List Value) (hx : a.eval x = .slice A m c) (hS : SlR w A m c size ys) (h1 : ∀ u ∈ ys, u.oneCell' = true) (hn : n + m ≤ 100000) (hb : bytes ≤ 1000)
    (h : ∀ v' w1, w1.ownsRow B e size v' (n + m) (xs ++ ys) → w.grownBy w1 v.ownBlock → wpList P ops Q rest (a.put o.dst v') w1) : wpList P ops Q (o :: rest) a w := by
  refine wpList_plain hgd fun K hK => ?_
  obtain ⟨v', w1, hr, h2, h3⟩ := run_app_gen (P := P) t o.type e i z size bytes ht hi hz hsize hby hzs hsz hown hB hS h1 hn hb
  unfold Oper.wp execOp
  simp only [ho, resolve, invoke, builtin, Sem.run_bind, Sem.run_pure, Result.andThen_ok, List.map_toArray, List.map_cons, List.map_nil, hs, hx, hr]
  exact hK _ _ (h v' w1 h2 h3)
theorem run_from {P : Program} (T : TypeId) (ht : P.underlying T = some (.slice (P.elem T))) (size : Nat) (hsz : ∀ w, (sizeOf (P.elem T)).run P w = .ok size w) (A : Option Addr) (n c k : Nat) (hk : k ≤ n) (w : World) :
    (Instr.slice T (.slice A n c) (some (.int .i64 (k : Int))) none none).run P w = .ok (.slice (if c = k then A else A.map (·.add (k * size))) (n - k) (c - k)) w := by
  rw [run_slice_l w T A n c ht .i64 (k : Int) (by omega) (by omega), hsz]
  simp [Result.andThen, sliced]
theorem run_upto {P : Program} (T : TypeId) (ht : P.underlying T = some (.slice (P.elem T))) (size : Nat) (hsz : ∀ w, (sizeOf (P.elem T)).run P w = .ok size w) (A : Option Addr) (n c k : Nat) (hk : k ≤ c) (w : World) :
    (Instr.slice T (.slice A n c) none (some (.int .i64 (k : Int))) none).run P w = .ok (.slice (if c = 0 then A else A.map (·.add (0 * size))) k c) w := by
  rw [run_slice_h w T A n c ht .i64 (k : Int) (by omega) (by omega), hsz]
  simp [Result.andThen, sliced]
theorem upto_same (A : Option Addr) (c s : Nat) : (if c = 0 then A else A.map (·.add (0 * s))) = A := by
  split
  · rfl
  · cases A with
    | none => rfl
    | some a => rw [Nat.zero_mul]; simp [Addr.add]
/-- Cells written one after the other into a block. -/
def setN (u : World) (B : Nat) : Nat → List Value → World
  | _, [] => u
  | i, v :: vs => setN (u.setCell ⟨B, i, none⟩ v) B (i + 1) vs
theorem setN_nil (u : World) (B i : Nat) : setN u B i [] = u := rfl
theorem setN_cons (u : World) (B i : Nat) (v : Value) (vs : List Value) : setN u B i (v :: vs) = setN (u.setCell ⟨B, i, none⟩ v) B (i + 1) vs := rfl
theorem setN_far {B : Nat} {vs : List Value} {q : Addr} (hq : B ≠ q.block) : ∀ (u : World) (i : Nat), (setN u B i vs).cell? q = u.cell? q := by
  induction vs with
  | nil => intro u i; rfl
  | cons v vs ih => intro u i; rw [setN_cons, ih, World.cell?_setCell_far _ _ _ _ hq]
theorem setN_below {w0 : World} {B : Nat} {vs : List Value} (hB : w0.heap.size ≤ B) : ∀ (u : World) (i : Nat), Below w0.heap.size w0 u → Below w0.heap.size w0 (setN u B i vs) := by
  induction vs with
  | nil => intro u i h; exact h
  | cons v vs ih => intro u i h; rw [setN_cons]; exact ih _ _ (h.setCell (p := ⟨B, i, none⟩) hB v)
theorem setN_row {B : Nat} {T : TypeId} {vs : List Value} : ∀ (u : World) (i : Nat) (cs : Array Value), u.heap[B]? = some (.cells cs T (0, 0)) → i + vs.length = cs.size → (setN u B i vs).heap[B]? = some (.cells (cs.toList.take i ++ vs).toArray T (0, 0)) := by
  induction vs with
  | nil =>
    intro u i cs h hl
    rw [setN_nil, h, List.append_nil, List.take_of_length_le (by simp at hl ⊢; omega)]
  | cons v vs ih =>
    intro u i cs h hl
    rw [List.length_cons] at hl
    rw [setN_cons, ih _ (i + 1) (cs.setIfInBounds i v) (heap_setCell_same _ B i _ _ v h) (by rw [Array.size_setIfInBounds]; omega)]
    congr 3
    rw [Array.toList_setIfInBounds, List.take_add_one, List.take_set_of_le (Nat.le_refl _)]
    rw [List.getElem?_set_self (by rw [Array.length_toList]; omega)]
    simp

end Gn
end Go.Proofs.YtaeljmiklalpnaaGreatDoor
