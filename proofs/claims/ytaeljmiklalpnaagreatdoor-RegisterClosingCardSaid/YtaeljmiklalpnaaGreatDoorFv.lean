/-
  The program's fits at every change that is formed; changes in memory.
-/
import Derived.Test.YtaeljmiklalpnaaGreatDoorFu
import Derived.Test.YtaeljmiklalpnaaGreatDoorCo
import Derived.Test.YtaeljmiklalpnaaGreatDoorCs
import Derived.Test.YtaeljmiklalpnaaGreatDoorCa
namespace Go.Proofs.YtaeljmiklalpnaaGreatDoor
open Go.RowKit Go.ChangeMaps Gn
namespace Rg

theorem empty_law (x : W) : EmptyLaw (sB x) (decide (x = [])) := by
  unfold EmptyLaw
  by_cases h : x = []
  · rw [decide_eq_true h]; exact ((sB_nil (a := x)).1 h).2
  · rw [decide_eq_false h]; exact ((sB_nil (a := x)).2 h).2
theorem field_zero {u f : Int} {g : Bool} (h : bits BinOp.and IntKind.i64 u f = 0) : FieldOk u f true g := ⟨0, h, .inl ⟨rfl, rfl⟩⟩
theorem field_good {u f a : Int} {z : Bool} (h : bits BinOp.and IntKind.i64 u f = a) (ha : a ≠ 0) : FieldOk u f z true := ⟨a, h, .inr ⟨by simpa using ha, ha, rfl⟩⟩
/-- The texts of a change that is formed are short. -/
structure ShC (c : Ch) : Prop where
  code : c.code.length ≤ 104
  town : c.town.length ≤ 104
  name : c.name.length ≤ 104
theorem FmC.short {c : Ch} (h : FmC c) : ShC c := by
  refine ⟨?_, ?_, ?_⟩
  · by_cases k : c.kind = 1 ∨ c.kind = 3
    · have := code_len (h.code k); omega
    · rw [h.nocode k]; simp
  · by_cases k : c.kind = 1
    · exact name_len (h.new k).1
    · rw [(h.nonew k).1]; simp
  · by_cases k : c.kind = 1 ∨ c.kind = 2 ∨ c.kind = 5
    · exact name_len (h.name k)
    · rw [h.noname k]; simp
theorem pfits_formed (c : Ch) (w : World) (ht : Tb w) (h : FmC c) :
    Calls Tryz.prog 35 #[.int .i64 (usesK c.kind), chA c] w fun e w' => e = .returned (.bool true) ∧ Below w.heap.size w w' := by
  have hs := h.short
  have hc : c.code.length ≤ 1000 := by have := hs.code; omega
  have ht2 : c.town.length ≤ 1000 := by have := hs.town; omega
  have hn : c.name.length ≤ 1000 := by have := hs.name; omega
  have hk := h.kind
  rcases (show c.kind = 1 ∨ c.kind = 2 ∨ c.kind = 3 ∨ c.kind = 4 ∨ c.kind = 5 ∨ c.kind = 6 by omega) with k | k | k | k | k | k
  · obtain ⟨a, b, d, e, f⟩ := h.new k
    rw [show usesK c.kind = 30 by rw [k]; rfl]
    exact pfits_open 30 c _ _ _ _ _ _ _ _ w ht b d e hc ht2 hn rfl rfl (empty_law _) (empty_law _) (empty_law _) (good_code (h.code (.inl k))) (pname_good a) (pname_good (h.name (.inl k)))
      (by rw [f]; exact field_zero (by kernel_rfl)) (field_good (a := 2) (by kernel_rfl) (by decide)) (field_good (a := 4) (by kernel_rfl) (by decide)) (field_good (a := 8) (by kernel_rfl) (by decide)) (field_good (a := 16) (by kernel_rfl) (by decide))
      (by rw [h.shift (by omega)]; exact field_zero (by kernel_rfl))
  · obtain ⟨a, b, d⟩ := h.nonew (by omega)
    have q := h.nocode (by omega)
    rw [show usesK c.kind = 9 by rw [k]; rfl]
    exact pfits_not 9 c _ _ _ _ _ _ _ _ w ht b d hc ht2 hn rfl rfl (empty_law _) (empty_law _) (empty_law _) rfl rfl (pname_good (h.name (.inr (.inl k))))
      (field_good (a := 1) (by kernel_rfl) (by decide)) (by rw [decide_eq_true q]; exact field_zero (by kernel_rfl)) (by rw [decide_eq_true a]; exact field_zero (by kernel_rfl)) (field_good (a := 8) (by kernel_rfl) (by decide)) (field_zero (by kernel_rfl))
      (by rw [h.shift (by omega)]; exact field_zero (by kernel_rfl))
  · obtain ⟨a, b, d⟩ := h.nonew (by omega)
    have q := h.noname (by omega)
    rw [show usesK c.kind = 3 by rw [k]; rfl]
    exact pfits_not 3 c _ _ _ _ _ _ _ _ w ht b d hc ht2 hn rfl rfl (empty_law _) (empty_law _) (empty_law _) (good_code (h.code (.inr k))) rfl rfl
      (field_good (a := 1) (by kernel_rfl) (by decide)) (field_good (a := 2) (by kernel_rfl) (by decide)) (by rw [decide_eq_true a]; exact field_zero (by kernel_rfl)) (by rw [decide_eq_true q]; exact field_zero (by kernel_rfl)) (field_zero (by kernel_rfl))
      (by rw [h.shift (by omega)]; exact field_zero (by kernel_rfl))
  · obtain ⟨a, b, d⟩ := h.nonew (by omega)
    have q := h.nocode (by omega)
    have q2 := h.noname (by omega)
    rw [show usesK c.kind = 33 by rw [k]; rfl]
    exact pfits_not 33 c _ _ _ _ _ _ _ _ w ht b d hc ht2 hn rfl rfl (empty_law _) (empty_law _) (empty_law _) rfl rfl rfl
      (field_good (a := 1) (by kernel_rfl) (by decide)) (by rw [decide_eq_true q]; exact field_zero (by kernel_rfl)) (by rw [decide_eq_true a]; exact field_zero (by kernel_rfl)) (by rw [decide_eq_true q2]; exact field_zero (by kernel_rfl)) (field_zero (by kernel_rfl))
      (field_good (a := 32) (by kernel_rfl) (by decide))
  · obtain ⟨a, b, d⟩ := h.nonew (by omega)
    have q := h.nocode (by omega)
    rw [show usesK c.kind = 9 by rw [k]; rfl]
    exact pfits_not 9 c _ _ _ _ _ _ _ _ w ht b d hc ht2 hn rfl rfl (empty_law _) (empty_law _) (empty_law _) rfl rfl (pname_good (h.name (.inr (.inr k))))
      (field_good (a := 1) (by kernel_rfl) (by decide)) (by rw [decide_eq_true q]; exact field_zero (by kernel_rfl)) (by rw [decide_eq_true a]; exact field_zero (by kernel_rfl)) (field_good (a := 8) (by kernel_rfl) (by decide)) (field_zero (by kernel_rfl))
      (by rw [h.shift (by omega)]; exact field_zero (by kernel_rfl))
  · obtain ⟨a, b, d⟩ := h.nonew (by omega)
    have q := h.nocode (by omega)
    have q2 := h.noname (by omega)
    rw [show usesK c.kind = 1 by rw [k]; rfl]
    exact pfits_not 1 c _ _ _ _ _ _ _ _ w ht b d hc ht2 hn rfl rfl (empty_law _) (empty_law _) (empty_law _) rfl rfl rfl
      (field_good (a := 1) (by kernel_rfl) (by decide)) (by rw [decide_eq_true q]; exact field_zero (by kernel_rfl)) (by rw [decide_eq_true a]; exact field_zero (by kernel_rfl)) (by rw [decide_eq_true q2]; exact field_zero (by kernel_rfl)) (field_zero (by kernel_rfl))
      (by rw [h.shift (by omega)]; exact field_zero (by kernel_rfl))

/-! Changes in memory. -/
def chV (c : Ch) : List Value := [.int .i64 c.day, .int .i64 c.kind, .int .i64 c.street, .string (sB c.code), .string (sB c.town), .string (sB c.name), .int .i64 c.low, .int .i64 c.high, .int .i64 c.shift]
def cellsC (r : List Ch) : List Value := r.flatMap chV
theorem cellsC_len (r : List Ch) : (cellsC r).length = r.length * 9 := by
  induction r with
  | nil => rfl
  | cons c r ih => unfold cellsC at ih ⊢; rw [List.flatMap_cons, List.length_append, ih, List.length_cons]; simp [chV]; omega
theorem cellsC_at {r : List Ch} {i : Nat} {c : Ch} (hc : r[i]? = some c) (j : Nat) (hj : j < 9) : (cellsC r)[i * 9 + j]? = (chV c)[j]? := by
  induction r generalizing i with
  | nil => simp at hc
  | cons a r ih =>
    unfold cellsC at ih ⊢
    rw [List.flatMap_cons]
    match i with
    | 0 =>
      simp only [List.getElem?_cons_zero, Option.some.injEq] at hc
      subst hc
      rw [Nat.zero_mul, Nat.zero_add, List.getElem?_append_left (by simp [chV]; omega)]
    | i + 1 =>
      rw [List.getElem?_cons_succ] at hc
      rw [List.getElem?_append_right (by simp [chV]; omega)]
      have e : (i + 1) * 9 + j - (chV a).length = i * 9 + j := by simp [chV]; omega
      rw [e]; exact ih hc
theorem cellsC_take (r : List Ch) (m : Nat) : (cellsC r).take (m * 9) = cellsC (r.take m) := by
  induction r generalizing m with
  | nil => simp [cellsC]
  | cons a r ih =>
    match m with
    | 0 => simp [cellsC]
    | m + 1 =>
      unfold cellsC at ih ⊢
      rw [List.take_succ_cons, List.flatMap_cons, List.flatMap_cons, List.take_append, List.take_of_length_le (by simp [chV]; omega), ← ih m]
      congr 2
      simp [chV]; omega
/-- A value is a slice of changes. -/
def IsChs (w : World) (v : Value) (r : List Ch) : Prop := ∃ A cap, v = .slice A r.length cap ∧ SlR w A r.length cap 9 (cellsC r)
theorem IsChs.on {w w' : World} {v : Value} {r : List Ch} (h : IsChs w v r) (hb : Below w.heap.size w w') : IsChs w' v r := by
  obtain ⟨A, cap, e, h⟩ := h; exact ⟨A, cap, e, h.on hb⟩
/-- The cells of a change. -/
structure ChAt (w : World) (g o : Nat) (c : Ch) : Prop where
  c0 : w.cell? ⟨g, o, none⟩ = some (.int .i64 c.day)
  c1 : w.cell? ⟨g, o + 1, none⟩ = some (.int .i64 c.kind)
  c2 : w.cell? ⟨g, o + 2, none⟩ = some (.int .i64 c.street)
  c3 : w.cell? ⟨g, o + 3, none⟩ = some (.string (sB c.code))
  c4 : w.cell? ⟨g, o + 4, none⟩ = some (.string (sB c.town))
  c5 : w.cell? ⟨g, o + 5, none⟩ = some (.string (sB c.name))
  c6 : w.cell? ⟨g, o + 6, none⟩ = some (.int .i64 c.low)
  c7 : w.cell? ⟨g, o + 7, none⟩ = some (.int .i64 c.high)
  c8 : w.cell? ⟨g, o + 8, none⟩ = some (.int .i64 c.shift)
theorem slr_ch {w : World} {A : Option Addr} {cap : Nat} {r : List Ch} (h : SlR w A r.length cap 9 (cellsC r)) {i : Nat} {c : Ch} (hc : r[i]? = some c) :
    ∃ g o, A = some ⟨g, o, none⟩ ∧ g < w.heap.size ∧ ChAt w g (o + i * 9) c := by
  have hil := (List.getElem?_eq_some_iff.1 hc).1
  obtain ⟨g, o, rfl, hg, hcc⟩ := h.2.2 (by omega)
  refine ⟨g, o, rfl, hg, ?_⟩
  have q := fun j (hj : j < 9) (z : Value) (hz : (chV c)[j]? = some z) => hcc (i * 9 + j) z ((cellsC_at hc j hj).trans hz)
  have p := fun j (hj : j < 9) (z : Value) (hz : (chV c)[j]? = some z) => (by rw [Nat.add_assoc]; exact q j hj z hz : w.cell? ⟨g, o + i * 9 + j, none⟩ = some z)
  exact ⟨by simpa using p 0 (by omega) _ rfl, p 1 (by omega) _ rfl, p 2 (by omega) _ rfl, p 3 (by omega) _ rfl, p 4 (by omega) _ rfl, p 5 (by omega) _ rfl, p 6 (by omega) _ rfl, p 7 (by omega) _ rfl, p 8 (by omega) _ rfl⟩
theorem slr_upto {w : World} {A : Option Addr} {cap : Nat} {r : List Ch} (h : SlR w A r.length cap 9 (cellsC r)) {m : Nat} (hm : m ≤ r.length) : SlR w A (r.take m).length cap 9 (cellsC (r.take m)) := by
  have := h.take (m := m) hm
  rw [cellsC_take] at this
  rw [List.length_take, Nat.min_eq_left hm]; exact this

/-! The functions in the map, by one contract. -/
theorem kind_call {base : Nat} {l : List St} {vs : List Value} {g cap n : Nat} {s : St} {c : Ch} {w : World} (hS : Strs base w (.slice (some ⟨g, 0, none⟩) l.length cap) l vs) (hs : l[n]? = some s) (hok : OkC l c) (hk : c.kind ≠ 1) (hn : c.street.toNat = n) (gs : GoodS s) (hsm : SmS s) (hasc : ∀ y ∈ namesS s, AscW y) (ht : Tb w) (hb : base ≤ w.heap.size) :
    Calls Tryz.prog (funK c.kind) #[.pointer (some ⟨g, n * 8, none⟩), chA c] w (ChgPost base w (.slice (some ⟨g, 0, none⟩) l.length cap) l n (chg c s)) := by
  have h := (formed_iff c).1 hok.formed
  have hkk := h.kind
  rcases (show c.kind = 2 ∨ c.kind = 3 ∨ c.kind = 4 ∨ c.kind = 5 ∨ c.kind = 6 by omega) with k | k | k | k | k
  · rw [show funK c.kind = 47 by rw [k]; rfl, show chg c s = { s with name := c.name } by unfold chg; rw [if_pos k]]
    exact pren_any base l vs g cap n s c w hS hs
  · rw [show funK c.kind = 48 by rw [k]; rfl, show chg c s = { s with code := c.code } by unfold chg; rw [if_neg (by omega), if_pos k]]
    exact pcode_any base l vs g cap n s c w hS hs
  · rw [show funK c.kind = 49 by rw [k]; rfl, show chg c s = { s with low := s.low + c.shift, high := s.high + c.shift, shift := s.shift + c.shift } by unfold chg; rw [if_neg (by omega), if_neg (by omega), if_pos k]]
    obtain ⟨r1, r2⟩ := hok.room k s (by rw [hn]; exact hs)
    have e1 := gs.lo; have e2 := gs.le; have e3 := gs.hi; have e4 := gs.o1; have e5 := gs.o2
    exact pshift_any base l vs g cap n s c w hS hs r1 r2 ⟨by omega, by omega⟩ ⟨by omega, by omega⟩
  · rw [show funK c.kind = 50 by rw [k]; rfl, show chg c s = { s with al := s.al ++ [c.name] } by unfold chg; rw [if_neg (by omega), if_neg (by omega), if_neg (by omega), if_pos k]]
    have h104 := h.short.name
    exact palias_any base l vs g cap n s c w hS hs hsm (by omega) (by rw [called_named hasc]; exact hok.twice k s (by rw [hn]; exact hs)) ht hb
  · rw [show funK c.kind = 51 by rw [k]; rfl, show chg c s = { s with isOpen := false } by unfold chg; rw [if_neg (by omega), if_neg (by omega), if_neg (by omega), if_neg (by omega)]]
    exact pclose_any base l vs g cap n s c w hS hs

end Rg
end Go.Proofs.YtaeljmiklalpnaaGreatDoor
