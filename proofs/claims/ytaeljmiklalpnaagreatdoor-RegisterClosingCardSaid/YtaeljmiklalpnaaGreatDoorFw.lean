/-
  Contract of the program's follow.
-/
import Derived.Test.YtaeljmiklalpnaaGreatDoorFv
import Derived.Test.YtaeljmiklalpnaaGreatDoorFd
import Derived.Test.YtaeljmiklalpnaaGreatDoorKd
import Derived.StillTailTactics
import Derived.Outline
namespace Go.Proofs.YtaeljmiklalpnaaGreatDoor
open Go.RowKit Go.ChangeMaps Gn
namespace Rg

/-- What follow answers. -/
def FPost (r : List Ch) (E at' : Int) (w : World) (e : Ending) (w' : World) : Prop := ∃ v vs, e = .returned (.tuple #[v, .int .i64 E, .int .i64 at']) ∧ (E = 0 → Strs w.heap.size w' v (runL r) vs) ∧ Below w.heap.size w w'
/-- What holds of follow's memory at the head of round k. -/
structure FInv (r : List Ch) (w : World) (k : Nat) (v : Value) (vs : List Value) (wr : World) : Prop where
  b2 : wr.heap[w.heap.size]? = some (.cells #[v] 30 (0, 0))
  b3 : wr.heap[w.heap.size + 1]? = some (.cells #[.int .i64 0] 25 (0, 0))
  mp : wr.heap[w.heap.size + 1 + 1]? = some (.map entK.toArray 6)
  st : Strs w.heap.size wr v (runL (r.take k)) vs
  below : Below w.heap.size w wr
theorem FInv.on {r : List Ch} {w : World} {k : Nat} {v : Value} {vs : List Value} {wr w' : World} (h : FInv r w k v vs wr) (hb : Below wr.heap.size wr w') : FInv r w k v vs w' :=
  ⟨(hb.block _ (heap_lt h.b2)).trans h.b2, (hb.block _ (heap_lt h.b3)).trans h.b3, (hb.block _ (heap_lt h.mp)).trans h.mp, h.st.on hb, bt h.below hb⟩
theorem FInv.start (r : List Ch) (w w2 : World) (hmap : w2.heap[((w.alloc (.cells #[.slice none 0 0] 30)).alloc (.cells #[.int .i64 0] 25)).heap.size]? = some (.map entK.toArray 6))
    (hb : Below ((w.alloc (.cells #[.slice none 0 0] 30)).alloc (.cells #[.int .i64 0] 25)).heap.size ((w.alloc (.cells #[.slice none 0 0] 30)).alloc (.cells #[.int .i64 0] 25)) w2) : FInv r w 0 nilV [] w2 := by
  have e1 : ((w.alloc (.cells #[.slice none 0 0] 30)).alloc (.cells #[.int .i64 0] 25)).heap[w.heap.size]? = some (.cells #[.slice none 0 0] 30 (0, 0)) := by
    rw [hpk, if_neg (by simp), hpk, if_pos rfl]
  have e2 : ((w.alloc (.cells #[.slice none 0 0] 30)).alloc (.cells #[.int .i64 0] 25)).heap[w.heap.size + 1]? = some (.cells #[.int .i64 0] 25 (0, 0)) := by
    rw [hpk, if_pos (by simp)]
  refine ⟨(hb.block _ (by simp; omega)).trans e1, (hb.block _ (by simp)).trans e2, by simpa using hmap, ?_, ((b0 _ _).alloc (by simp) _).trans (hb.mono (by simp; omega))⟩
  rw [List.take_zero]; exact Strs.nil _ _
theorem setCell_self {w : World} {g i : Nat} {cs : Array Value} {T : TypeId} {x : Value} (h : w.heap[g]? = some (.cells cs T (0, 0))) (hx : cs[i]? = some x) : w.setCell ⟨g, i, none⟩ x = w := by
  have e : (w.setCell ⟨g, i, none⟩ x).heap = w.heap := by
    apply Array.ext_getElem?
    intro k
    by_cases hk : k = g
    · subst hk
      rw [heap_setCell_same _ _ _ _ _ _ h, h]
      congr 2
      apply Array.ext_getElem?
      intro j
      rw [Array.getElem?_setIfInBounds]
      split
      · rename_i hj
        subst hj
        split
        · exact hx.symm
        · rename_i hl
          rw [Array.getElem?_eq_none (by omega)]
      · rfl
    · exact Below.heap_setCell w ⟨g, i, none⟩ x k hk
  have e2 : w.setCell ⟨g, i, none⟩ x = { w with heap := (w.setCell ⟨g, i, none⟩ x).heap } := rfl
  rw [e2, e]
theorem al_len : ∀ (r : List Ch) (l : List St) (m : Nat), (∀ s ∈ l, s.al.length ≤ m) → ∀ s ∈ r.foldl stp l, s.al.length ≤ m + r.length := by
  intro r
  induction r with
  | nil => intro l m h s hs; exact h s hs
  | cons c r ih =>
    intro l m h s hs
    rw [List.foldl_cons] at hs
    have := ih (stp l c) (m + 1) (fun t ht => ?_) s hs
    · rw [List.length_cons]; omega
    · unfold stp at ht
      split at ht
      · rcases List.mem_append.1 ht with ht | ht
        · have := h t ht; omega
        · simp at ht; rw [ht]; simp [newS]
      · split at ht
        · rename_i s0 hs0
          rcases List.mem_or_eq_of_mem_set ht with ht | ht
          · have := h t ht; omega
          · have := h s0 (List.mem_of_getElem? hs0)
            rw [ht]; unfold chg
            split
            · simpa using Nat.le_succ_of_le this
            split
            · simpa using Nat.le_succ_of_le this
            split
            · simpa using Nat.le_succ_of_le this
            split
            · simp; omega
            · simpa using Nat.le_succ_of_le this
        · have := h t ht; omega
theorem run_al {r : List Ch} {s : St} (h : s ∈ runL r) : s.al.length ≤ r.length := by
  have := al_len r [] 0 (by intro s h; cases h) s h; omega
theorem run_few (r : List Ch) : (runL r).length ≤ r.length := by rw [run_len]; exact List.length_filter_le _ _
theorem GoodS.sm {s : St} (h : GoodS s) {m : Nat} (ha : s.al.length ≤ m) (hm : m ≤ 1000) : SmS s :=
  ⟨by have := code_len h.code; omega, by have := name_len h.town; omega, by have := name_len h.name; omega, fun y hy => by have := name_len (h.al y hy); omega, by omega⟩
theorem GoodS.asc {s : St} (h : GoodS s) : ∀ y ∈ namesS s, AscW y := fun y hy => by
  rcases List.mem_cons.1 hy with rfl | hy
  · exact name_asc h.name
  · exact name_asc (h.al y hy)
theorem ok_streets {r : List Ch} (h : Inv (runL r)) (hr : r.length ≤ 1000) : OkS (runL r) :=
  ⟨fun s hs => (h.good s hs).sm (run_al hs) hr, fun s hs => (h.good s hs).asc⟩
theorem Strs.form {base : Nat} {w : World} {v : Value} {l : List St} {vs : List Value} {n : Nat} {s : St} (h : Strs base w v l vs) (hs : l[n]? = some s) : ∃ g cap, v = .slice (some ⟨g, 0, none⟩) l.length cap := by
  have hl := (List.getElem?_eq_some_iff.1 hs).1
  rcases h.row.2 with ⟨_, h0⟩ | ⟨g, cap, cur, e, _⟩
  · omega
  · exact ⟨g, cap, e⟩
theorem Strs.formA {base : Nat} {w : World} {v : Value} {l : List St} {vs : List Value} (h : Strs base w v l vs) : ∃ A cap, v = .slice A l.length cap := by
  rcases h.row.2 with ⟨e, h0⟩ | ⟨g, cap, cur, e, _⟩
  · exact ⟨none, 0, by rw [e, h0]⟩
  · exact ⟨_, cap, e⟩
/-- The register up to the end, or to the first error that these proofs ask for. -/
structure Fol (r : List Ch) (st : Nat) (E at' : Int) : Prop where
  le : st ≤ r.length
  few : st ≤ 60
  days : ∀ (i : Nat) (a b : Ch), i + 1 ≤ st → r[i]? = some a → r[i + 1]? = some b → a.day ≤ b.day
  fm : ∀ (i : Nat) (c : Ch), i ≤ st → r[i]? = some c → FmC c
  ok : ∀ (i : Nat) (c : Ch), i < st → r[i]? = some c → OkC (runL (r.take i)) c
  out : (st = r.length ∧ E = 0 ∧ at' = -1) ∨ (st < r.length ∧ st < 60 ∧ at' = st ∧ ∃ c, r[st]? = some c ∧ ((E = 3 ∧ c.kind ≠ 1 ∧ hasB (runL (r.take st)) c.street = false) ∨ (E = 51 ∧ c.kind = 1 ∧ clashAt (stp (runL (r.take st)) c) (trg (runL (r.take st)) c) = true)))
theorem Fol.sound {r : List Ch} {st : Nat} {E at' : Int} (h : Fol r st E at') : Sound (r.take st) := by
  refine ⟨by rw [List.length_take]; have := h.few; omega, fun i a b ha hb => ?_, fun i c hc => ?_⟩
  · rw [List.getElem?_take] at ha hb
    split at hb
    · rw [if_pos (by omega)] at ha
      exact h.days i a b (by omega) ha hb
    · cases hb
  · rw [List.getElem?_take] at hc
    split at hc
    · rw [List.take_take, Nat.min_eq_left (by omega)]
      exact h.ok i c (by omega) hc
    · cases hc
theorem Sound.fol {r : List Ch} (h : Sound r) : Fol r r.length 0 (-1) :=
  ⟨Nat.le_refl _, h.few, fun i a b _ ha hb => h.days i a b ha hb, fun i c _ hc => (formed_iff c).1 (h.ok i c hc).formed, fun i c _ hc => h.ok i c hc, .inl ⟨rfl, rfl, rfl⟩⟩
/-- The street that is opened, before its fields are laid. -/
def zeroS : St := ⟨[], [], [], [], 0, 0, 0, true⟩
theorem infoSt : (Tryz.prog.info? 44).map (fun i => (i.zero, i.size, i.bytes)) = some (some (.agg #[.string ⟨#[]⟩, .string ⟨#[]⟩, .string ⟨#[]⟩, .slice none 0 0, .int .i64 0, .int .i64 0, .int .i64 0, .bool false]), 8, 104) := by kernel_rfl

end Rg
end Go.Proofs.YtaeljmiklalpnaaGreatDoor
