/-
  Plain lemmas for the walk of Lex: what a round knows, and what it hands on.
-/
import Derived.Test.YtdhemkcbaoebcaaDoorW4
import Derived.Maps.AppendAt
import Derived.Laws.AppendOwn
import Derived.Laws.OwnMore
import Derived.Deep.LoopGhost
import Derived.BigQuiet
import Derived.Deep.QuietTactic
namespace Go.Proofs.YtdhemkcbaoebcaaDoor
open Go.RowKit
namespace Lx

theorem quiet_sym {P : Program} {f : FuncId} {args : Array Value} {w : World} {n : Nat} {v : Value} (h : Calls P f args (w.drewN n) fun e w' => e = .returned v ∧ w.drewN n = w') :
    Calls P f args (w.drewN n) fun e w'' => e = .returned v ∧ ∃ m, w'' = w.drewN m := h.mono fun _ _ ⟨he, hm⟩ => ⟨he, n, hm.symm⟩
def encT (t : Tk) : List Value := [.int .i64 (t.k : Int), .string ⟨t.t.toArray⟩, .int .i64 (t.p : Int)]
def encTs (ts : List Tk) : List Value := ts.flatMap encT
theorem encTs_snoc (ts : List Tk) (t : Tk) : encTs (ts ++ [t]) = encTs ts ++ encT t := by simp [encTs, List.flatMap_append]
theorem encTs_len (ts : List Tk) : (encTs ts).length = ts.length * 3 := by
  induction ts with
  | nil => rfl
  | cons t ts ih => rw [show encTs (t :: ts) = encT t ++ encTs ts from rfl, List.length_append, ih, List.length_cons]; simp [encT]; omega
theorem encTs_at (ts : List Tk) (i : Nat) (h : i < ts.length) : (encTs ts)[i * 3]? = some (.int .i64 (ts[i].k : Int)) ∧ (encTs ts)[i * 3 + 1]? = some (.string ⟨ts[i].t.toArray⟩) ∧ (encTs ts)[i * 3 + 2]? = some (.int .i64 (ts[i].p : Int)) := by
  induction ts generalizing i with
  | nil => simp at h
  | cons t ts ih =>
    have e : encTs (t :: ts) = encT t ++ encTs ts := rfl
    match i with
    | 0 => rw [e]; simp [encT]
    | i + 1 =>
      have := ih i (by simpa using h)
      rw [e]
      simp only [List.getElem_cons_succ]
      rw [List.getElem?_append_right (by simp [encT]; omega), List.getElem?_append_right (by simp [encT]; omega), List.getElem?_append_right (by simp [encT]; omega)]
      simp only [encT, List.length_cons, List.length_nil]
      rw [show (i + 1) * 3 - (0 + 1 + 1 + 1) = i * 3 by omega, show (i + 1) * 3 + 1 - (0 + 1 + 1 + 1) = i * 3 + 1 by omega, show (i + 1) * 3 + 2 - (0 + 1 + 1 + 1) = i * 3 + 2 by omega]
      exact this
theorem ba_of {x : ByteArray} {l : List UInt8} (h : x.data.toList = l) : x = ⟨l.toArray⟩ := by
  subst h
  cases x; rfl
theorem infoTokZ : (Tryd.prog.info? 31).map (fun i => (i.zero, i.size, i.bytes)) = some (some (.agg #[.int .i64 0, .string ⟨#[]⟩, .int .i64 0]), 3, 32) := by kernel_rfl
theorem cell_three_new (w : World) (x y z : Value) (t : TypeId) : ∀ j u, [x, y, z][j]? = some u → (w.alloc (.cells #[x, y, z] t)).cell? ((⟨w.heap.size, 0, none⟩ : Addr).add j) = some u := by
  intro j u hj
  match j, hj with
  | 0, hj | 1, hj | 2, hj =>
    simp at hj
    subst hj
    simp [Addr.add]

/-- At the head of a round: what has been found, and where it goes on. -/
def At (l : List UInt8) (k : Nat) (ts : List Tk) : Prop := lexL l 0 0 = catR ts (lexL (l.drop k) k ts.length) ∧ gl (l.drop k) = 0
theorem gl_idem (l : List UInt8) : gl (l.drop (gl l)) = 0 := by
  rcases Nat.lt_or_ge (gl l) l.length with h | h
  · obtain ⟨h1, h2⟩ := gap_end false h
    rw [drop_cons h]
    exact gap_zero h1 h2 _
  · rw [List.drop_of_length_le h]; rfl
theorem At.start (l : List UInt8) : At l (0 + gl (l.drop 0)) [] := by
  rw [List.drop_zero, Nat.zero_add]
  refine ⟨?_, gl_idem l⟩
  have := lex_skip (l := l) (k := gl l) (gl_le l) (by rw [gl_idem]; rfl) 0 0
  rw [this, Nat.zero_add]
  rfl
theorem At.fin {l : List UInt8} {k : Nat} {ts : List Tk} (h : At l k ts) (hk : l.length ≤ k) : lexL l 0 0 = (ts, 0, -1) := by
  rw [h.1, List.drop_of_length_le hk, lex_end (by exact Nat.le_refl _)]
  unfold catR; rw [List.append_nil]
theorem At.many {l : List UInt8} {k : Nat} {ts : List Tk} (h : At l k ts) (hk : k < l.length) (h3 : ts.length = 3000) : (lexL l 0 0).2 = (2, (k : Int)) := by
  rw [h.1, h3, lex_many (by rw [h.2, List.length_drop]; omega), h.2]; rfl
theorem rl_self {l : List UInt8} {k : Nat} (h : gl (l.drop k) = 0) : rl (l.drop k) = l.drop k := by unfold rl; rw [h, List.drop_zero]
theorem At.wrong {l : List UInt8} {k : Nat} {ts : List Tk} (h : At l k ts) (hk : k < l.length) (h3 : ts.length ≠ 3000) (h0 : tokL (l.drop k) = (0, 0)) : (lexL l 0 0).2 = (30, (k : Int)) := by
  rw [h.1, lex_wrong (by rw [h.2, List.length_drop]; omega) h3 (by unfold nl; rw [rl_self h.2, h0]), h.2]; rfl
theorem At.next {l : List UInt8} {k : Nat} {ts : List Tk} (h : At l k ts) (_hk : k < l.length) (h3 : ts.length ≠ 3000) {c n : Nat} (h0 : tokL (l.drop k) = (c, n)) (hn : 0 < n) :
    At l (k + n + gl (l.drop (k + n))) (ts ++ [⟨c, txt c ((l.drop k).take n), k⟩]) := by
  have hnl : nl (l.drop k) = n := by unfold nl; rw [rl_self h.2, h0]
  have htk : tk (l.drop k) k = ⟨c, txt c ((l.drop k).take n), k⟩ := by unfold tk; rw [hnl, rl_self h.2, h0, h.2]; rfl
  have hle : n ≤ l.length - k := by
    have := tok_len (l.drop k)
    rw [h0, List.length_drop] at this; exact this
  refine ⟨?_, by rw [← List.drop_drop]; exact gl_idem _⟩
  rw [h.1, lex_cons (by rw [h.2, List.length_drop]; omega) h3 (by omega), htk, h.2, hnl, List.drop_drop, Nat.zero_add]
  have hg := gl_le (l.drop (k + n))
  have := lex_skip (l := l.drop (k + n)) (k := gl (l.drop (k + n))) hg (by rw [gl_idem]; rfl) (k + n) (ts.length + 1)
  rw [Nat.add_zero, this, List.drop_drop, List.length_append]
  unfold catR consR
  simp
theorem At.count {l : List UInt8} {k : Nat} {ts : List Tk} (h : At l k ts) : ts.length ≤ 3000 := by
  have := (lex_count l 0 0).1 (by omega)
  rw [h.1] at this
  unfold catR at this
  simp only [List.length_append] at this
  omega
theorem txt_ex (s : ByteArray) (k n c m : Nat) (hm : m = if c = 4 then 1 else 0) (hn : 2 * m ≤ n) (hk : k + n ≤ s.size) : (s.extract (k + m) (k + n - m)).data.toList = txt c ((s.data.toList.drop k).take n) := by
  rw [Lib.extract_data]
  unfold txt
  have hl : ((s.data.toList.drop k).take n).length = n := by rw [List.length_take, List.length_drop, s_len]; omega
  split
  · rename_i h4
    rw [if_pos h4] at hm
    subst hm
    rw [hl, List.drop_take, List.drop_drop, List.take_take]
    congr 1; omega
  · rename_i h4
    rw [if_neg h4] at hm
    subst hm
    rw [Nat.add_zero]
    congr 1; omega

end Lx
end Go.Proofs.YtdhemkcbaoebcaaDoor
