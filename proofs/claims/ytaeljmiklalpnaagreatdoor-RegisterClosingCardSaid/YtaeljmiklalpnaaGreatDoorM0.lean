/-
  A new block as a row; sizes.
-/
import Derived.Test.YtaeljmiklalpnaaGreatDoorMk
import Derived.Test.YtaeljmiklalpnaaGreatDoorFy
import Derived.Test.YtaeljmiklalpnaaGreatDoorBs
namespace Go.Proofs.YtaeljmiklalpnaaGreatDoor
open Go.RowKit Go.ChangeMaps Gn
namespace Rg

theorem sz1 (w : World) (o : Obj) : (w.alloc o).heap.size = w.heap.size + 1 := by simp [World.alloc, -World.alloc_eq]
theorem SlR.new (w : World) (xs : Array Value) (T : TypeId) (size : Nat) (h : xs.size = size) : SlR (w.alloc (.cells xs T)) (some ⟨w.heap.size, 0, none⟩) 1 1 size xs.toList := by
  refine ⟨by simp [h], Nat.le_refl _, fun _ => ⟨_, 0, rfl, heap_lt (heap_new _ _), fun j u hu => ?_⟩⟩
  rw [cell_at (heap_new _ _), Nat.zero_add]
  simpa using hu
theorem SlR.new8 (w : World) (a b c d e f g h : Value) (T : TypeId) : SlR (w.alloc (.cells #[a, b, c, d, e, f, g, h] T)) (some ⟨w.heap.size, 0, none⟩) 1 1 8 [a, b, c, d, e, f, g, h] := SlR.new w #[a, b, c, d, e, f, g, h] T 8 rfl

theorem own_cut {w : World} {B : Nat} {e : TypeId} {sz n : Nat} {v : Value} {xs : List Value} (h : w.ownsRow B e sz v n xs) (hn : 0 < n) : ∃ g c, v = .slice (some ⟨g, 0, none⟩) n c ∧ B ≤ g ∧ g < w.heap.size ∧ (∀ j u, xs[j]? = some u → w.cell? ⟨g, j, none⟩ = some u) ∧ (∀ o, w.frozen? ⟨g, o, none⟩ = false) := by
  rcases h.2 with ⟨e, h0⟩ | ⟨g, cap, cur, e, hB, hg, _, _, _, hc⟩
  · omega
  · refine ⟨g, cap, e, hB, heap_lt hg, fun j u hu => ?_, fun o => by simp [World.frozen?, hg]⟩
    rw [cell_at hg]
    rw [← hc] at hu
    have h2 : cur.toList[j]? = some u := by
      rw [List.getElem?_take] at hu
      split at hu
      · exact hu
      · cases hu
    simpa using h2
theorem snoc_at (xs ys : List Value) (n j : Nat) (h : xs.length = n * 8) : (xs ++ ys)[n * 8 + j]? = ys[j]? := by
  rw [List.getElem?_append_right (by omega)]
  congr 1
  omega
theorem cellsS_snoc (l : List St) (vs : List Value) (h : vs.length = l.length) (s : St) (u : Value) : cellsS (l ++ [s]) (vs ++ [u]) = cellsS l vs ++ stV s u := by
  induction l generalizing vs with
  | nil =>
    cases vs with
    | nil => rw [List.nil_append, List.nil_append, cellsS_cons, cellsS_nil]; simp
    | cons a b => simp at h
  | cons a l ih =>
    cases vs with
    | nil => simp at h
    | cons b vs => rw [List.cons_append, List.cons_append, cellsS_cons, cellsS_cons, ih vs (by simpa using h), List.append_assoc]

/-- The document's clash, as its contract says. -/
def ClashOk : Prop := ∀ (l : List St) (vs : List Value) (v : Value) (n : Nat) (w : World), IsSts w v l vs → l.length ≤ 1000 → n < l.length → (∀ s ∈ l, SmS s) →
    Calls Tryz.prog 64 #[v, .int .i64 (n : Int)] w fun e w' => e = .returned (.bool (clashAt l n)) ∧ Below w.heap.size w w'
theorem make_sts {w w5 W : World} {L : List St} {us : List Value} {g c5 n : Nat} {s s' : St} {u u' : Value} (hown : w5.ownsRow (w.heap.size + 1) 44 8 (.slice (some ⟨g, 0, none⟩) L.length c5) L.length (cellsS L us)) (hg : w.heap.size < g) (hlen : us.length = L.length) (hs : L[n]? = some s) (hu : us[n]? = some u)
    (hW : W = (((((((w5.setCell ⟨g, n * 8, none⟩ (.string (sB s'.code))).setCell ⟨g, n * 8 + 1, none⟩ (.string (sB s'.town))).setCell ⟨g, n * 8 + 2, none⟩ (.string (sB s'.name))).setCell ⟨g, n * 8 + 3, none⟩ u').setCell ⟨g, n * 8 + 4, none⟩ (.int .i64 s'.low)).setCell ⟨g, n * 8 + 5, none⟩ (.int .i64 s'.high)).setCell ⟨g, n * 8 + 6, none⟩ (.int .i64 s'.shift)).setCell ⟨g, n * 8 + 7, none⟩ (.bool s'.isOpen))
    (hb5 : Below w.heap.size w w5) (hal : ∀ (i : Nat) (s : St) (u : Value), i ≠ n → L[i]? = some s → us[i]? = some u → IsW w u s.al) (hu' : Below w.heap.size w W → w5.grownBy W (some g) → IsW W u' s'.al) :
    IsSts W (.slice (some ⟨g, 0, none⟩) L.length c5) (L.set n s') (us.set n u') ∧ Below w.heap.size w W := by
  obtain ⟨q1, q2⟩ := own_put8 hown hs hu hW
  have hbW : Below w.heap.size w W := hb5.grown q2 hb5.size (fun k e => by cases e; omega)
  exact ⟨made_sts q1 hlen hbW hal (hu' hbW q2) (List.getElem?_eq_some_iff.1 hs).1, hbW⟩
theorem set_same {α : Type} {l : List α} {n : Nat} {a : α} (h : l[n]? = some a) : l.set n a = l := by
  apply List.ext_getElem?
  intro i
  rw [List.getElem?_set]
  split
  · rename_i e
    subst e
    rw [h, if_pos (List.getElem?_eq_some_iff.1 h).1]
  · rfl
theorem sm_of {l : List St} (h : Inv l) (hal : ∀ s ∈ l, s.al.length ≤ 900) : ∀ s ∈ l, SmS s := fun s hs => (h.good s hs).sm (hal s hs) (by omega)
theorem sm_name {c : Ch} (h : FmC c) : c.name.length ≤ 1000 := by
  by_cases k : c.kind = 1 ∨ c.kind = 2 ∨ c.kind = 5
  · have := name_len (h.name k); omega
  · rw [h.noname k]; simp
theorem sm_code {c : Ch} (h : FmC c) : c.code.length ≤ 1000 := by
  by_cases k : c.kind = 1 ∨ c.kind = 3
  · have := code_len (h.code k); omega
  · rw [h.nocode k]; simp
theorem sm_chg {c : Ch} {s : St} (h : FmC c) (hs : SmS s) (hal : s.al.length ≤ 900) : SmS (chg c s) := by
  have a := sm_name h
  have b := sm_code h
  unfold chg
  split
  · exact ⟨hs.code, hs.town, a, hs.al, hs.few⟩
  split
  · exact ⟨b, hs.town, hs.name, hs.al, hs.few⟩
  split
  · exact ⟨hs.code, hs.town, hs.name, hs.al, hs.few⟩
  split
  · refine ⟨hs.code, hs.town, hs.name, fun y hy => ?_, by simp; omega⟩
    rcases List.mem_append.1 hy with q | q
    · exact hs.al y q
    · rw [List.mem_singleton.1 q]; exact a
  · exact ⟨hs.code, hs.town, hs.name, hs.al, hs.few⟩
theorem sm_set {l : List St} {n : Nat} {s' : St} (h : ∀ s ∈ l, SmS s) (h' : SmS s') : ∀ s ∈ l.set n s', SmS s := fun s hs => by
  rcases List.mem_or_eq_of_mem_set hs with q | q
  · exact h s q
  · rw [q]; exact h'
theorem sm_snoc {l : List St} {s' : St} (h : ∀ s ∈ l, SmS s) (h' : SmS s') : ∀ s ∈ l ++ [s'], SmS s := fun s hs => by
  rcases List.mem_append.1 hs with q | q
  · exact h s q
  · rw [List.mem_singleton.1 q]; exact h'

end Rg
end Go.Proofs.YtaeljmiklalpnaaGreatDoor
