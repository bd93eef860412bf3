/-
  Follow's memory: what each step of a round makes of it.
-/
import Derived.Test.YtaeljmiklalpnaaGreatDoorFw
namespace Go.Proofs.YtaeljmiklalpnaaGreatDoor
open Go.RowKit Go.ChangeMaps Gn
namespace Rg

structure GInv (w : World) (l : List St) (v : Value) (vs : List Value) (wr : World) : Prop where
  b2 : wr.heap[w.heap.size]? = some (.cells #[v] 30 (0, 0))
  b3 : wr.heap[w.heap.size + 1]? = some (.cells #[.int .i64 0] 25 (0, 0))
  mp : wr.heap[w.heap.size + 1 + 1]? = some (.map entK.toArray 6)
  st : Strs w.heap.size wr v l vs
  below : Below w.heap.size w wr
theorem FInv.g {r : List Ch} {w : World} {k : Nat} {v : Value} {vs : List Value} {wr : World} (h : FInv r w k v vs wr) : GInv w (runL (r.take k)) v vs wr := ⟨h.b2, h.b3, h.mp, h.st, h.below⟩
theorem GInv.f {r : List Ch} {w : World} {k : Nat} {v : Value} {vs : List Value} {wr : World} {l : List St} (h : GInv w l v vs wr) (hl : l = runL (r.take k)) : FInv r w k v vs wr := ⟨h.b2, h.b3, h.mp, hl ▸ h.st, h.below⟩
theorem GInv.on {w : World} {l : List St} {v : Value} {vs : List Value} {wr w' : World} (h : GInv w l v vs wr) (hb : Below wr.heap.size wr w') : GInv w l v vs w' :=
  ⟨(hb.block _ (heap_lt h.b2)).trans h.b2, (hb.block _ (heap_lt h.b3)).trans h.b3, (hb.block _ (heap_lt h.mp)).trans h.mp, h.st.on hb, bt h.below hb⟩
theorem GInv.frm {w : World} {l l' : List St} {v : Value} {vs vs' : List Value} {wr w' : World} (h : GInv w l v vs wr) (hf : Frm w.heap.size wr w') (hs : Strs w.heap.size w' v l' vs') : GInv w l' v vs' w' :=
  ⟨hf.keep h.b2 (by decide), hf.keep h.b3 (by decide), hf.map h.mp, hs, h.below.trans (hf.below h.below.size)⟩
/-- Other blocks may be written. -/
theorem Strs.far {base : Nat} {w w' : World} {v : Value} {l : List St} {vs : List Value} {C : Nat} {cs : Array Value} {T : TypeId} (h : Strs base w v l vs) (hC : w.heap[C]? = some (.cells cs T (0, 0))) (hT : T ≠ 44 ∧ T ≠ 9)
    (hg : w.grownBy w' (some C)) : Strs base w' v l vs := by
  have key : ∀ (e : TypeId) (sz n : Nat) (u : Value) (xs : List Value), (e = 44 ∨ e = 9) → w.ownsRow base e sz u n xs → w'.ownsRow base e sz u n xs := fun e sz n u xs he hr => by
    refine hr.kept hg ?_
    rcases hr.2 with ⟨rfl, _⟩ | ⟨g, cap, cur, rfl, _, hgg, _⟩
    · exact .inl rfl
    · right
      intro q
      simp only [Value.ownBlock, Option.some.injEq] at q
      subst q
      rw [hC] at hgg
      cases hgg
      rcases he with he | he
      · exact hT.1 he
      · exact hT.2 he
  exact ⟨key _ _ _ _ _ (.inl rfl) h.row, h.len, fun i s u hs hu => key _ _ _ _ _ (.inr rfl) (h.als i s u hs hu), h.sep⟩
theorem poke_grown {w : World} {C i : Nat} {x : Value} : w.grownBy (w.setCell ⟨C, i, none⟩ x) (some C) :=
  ⟨rfl, rfl, rfl, by simp [World.setCell], fun k _ hk => Below.heap_setCell w ⟨C, i, none⟩ x k fun e => hk (by rw [e])⟩
theorem GInv.poke {w : World} {l : List St} {v : Value} {vs : List Value} {wr : World} {C i : Nat} {cs : Array Value} {x : Value} (h : GInv w l v vs wr) (hC : wr.heap[C]? = some (.cells cs 29 (0, 0))) (hw : w.heap.size ≤ C) : GInv w l v vs (wr.setCell ⟨C, i, none⟩ x) := by
  have hg : wr.grownBy (wr.setCell ⟨C, i, none⟩ x) (some C) := poke_grown
  have far : ∀ {b : Nat} {o : Obj}, wr.heap[b]? = some o → (∀ cs', o ≠ .cells cs' 29 (0, 0)) → (wr.setCell ⟨C, i, none⟩ x).heap[b]? = some o := fun {b o} hb hne => by
    refine (Below.heap_setCell wr ⟨C, i, none⟩ x b ?_).trans hb
    intro e
    have e : b = C := e
    subst e
    rw [hC] at hb
    cases hb
    exact hne _ rfl
  refine ⟨far h.b2 (by intro c q; cases q), far h.b3 (by intro c q; cases q), far h.mp (by intro c q; cases q), h.st.far hC (by decide) hg, h.below.setCell (p := ⟨C, i, none⟩) hw x⟩
/-- The variable that holds the streets is written. -/
theorem GInv.setv {w : World} {l l' : List St} {v v' : Value} {vs vs' : List Value} {wr w6 : World} (h : GInv w l v vs wr) (hf : Frm w.heap.size wr w6) (hs : Strs w.heap.size w6 v' l' vs') : GInv w l' v' vs' (w6.setCell ⟨w.heap.size, 0, none⟩ v') := by
  have e2 := hf.keep h.b2 (by decide)
  have e3 := hf.keep h.b3 (by decide)
  have em := hf.map h.mp
  have hg : w6.grownBy (w6.setCell ⟨w.heap.size, 0, none⟩ v') (some w.heap.size) := poke_grown
  refine ⟨heap_setCell_same _ _ _ _ _ _ e2, (Below.heap_setCell w6 ⟨w.heap.size, 0, none⟩ v' _ (by show _ ≠ w.heap.size; omega)).trans e3, (Below.heap_setCell w6 ⟨w.heap.size, 0, none⟩ v' _ (by show _ ≠ w.heap.size; omega)).trans em, hs.far e2 (by decide) hg, ?_⟩
  exact (h.below.trans (hf.below h.below.size)).setCell (p := ⟨w.heap.size, 0, none⟩) (Nat.le_refl _) v'
set_option maxRecDepth 100000 in
theorem funK_enter (k : Int) (h1 : 1 ≤ k) (h6 : k ≤ 6) : ∀ args w, (callFunc (funK k) args).run Tryz.prog w = .ok (.enter (funK k) args) w := by
  rcases (show k = 1 ∨ k = 2 ∨ k = 3 ∨ k = 4 ∨ k = 5 ∨ k = 6 by omega) with rfl | rfl | rfl | rfl | rfl | rfl
  · exact fun _ _ => by kernel_rfl
  · exact fun _ _ => by kernel_rfl
  · exact fun _ _ => by kernel_rfl
  · exact fun _ _ => by kernel_rfl
  · exact fun _ _ => by kernel_rfl
  · exact fun _ _ => by kernel_rfl
theorem set_snoc (l : List St) (a b : St) : (l ++ [a]).set l.length b = l ++ [b] := by simp
/-- The cells of a block with a change. -/
theorem ch_cells {u : World} {g : Nat} {c0 c1 c2 c3 c4 c5 c6 c7 c8 : Value} {T : TypeId} (h : u.heap[g]? = some (.cells #[c0, c1, c2, c3, c4, c5, c6, c7, c8] T (0, 0))) :
    u.cell? ⟨g, 0, none⟩ = some c0 ∧ u.cell? ⟨g, 1, none⟩ = some c1 ∧ u.cell? ⟨g, 2, none⟩ = some c2 ∧ u.cell? ⟨g, 3, none⟩ = some c3 ∧ u.cell? ⟨g, 4, none⟩ = some c4 ∧ u.cell? ⟨g, 5, none⟩ = some c5 ∧ u.cell? ⟨g, 6, none⟩ = some c6 ∧ u.cell? ⟨g, 7, none⟩ = some c7 ∧ u.cell? ⟨g, 8, none⟩ = some c8 := by
  refine ⟨?_, ?_, ?_, ?_, ?_, ?_, ?_, ?_, ?_⟩ <;> (rw [cell_at h]; rfl)
/-- The results behind a panic that was recovered. -/
theorem GInv.fin {w : World} {l : List St} {v : Value} {vs : List Value} {wr : World} (h : GInv w l v vs wr) (k : Int) :
    ((wr.setCell ⟨w.heap.size, 0, none⟩ (.slice none 0 0)).setCell ⟨w.heap.size + 1, 0, none⟩ (.int .i64 k)).cell? ⟨w.heap.size, 0, none⟩ = some (.slice none 0 0) ∧
    ((wr.setCell ⟨w.heap.size, 0, none⟩ (.slice none 0 0)).setCell ⟨w.heap.size + 1, 0, none⟩ (.int .i64 k)).cell? ⟨w.heap.size + 1, 0, none⟩ = some (.int .i64 k) ∧
    Below w.heap.size w ((wr.setCell ⟨w.heap.size, 0, none⟩ (.slice none 0 0)).setCell ⟨w.heap.size + 1, 0, none⟩ (.int .i64 k)) := by
  have e2 := heap_setCell_same _ _ 0 _ _ (.slice none 0 0) h.b2
  have e3 : (wr.setCell ⟨w.heap.size, 0, none⟩ (.slice none 0 0)).heap[w.heap.size + 1]? = some (.cells #[.int .i64 0] 25 (0, 0)) := (Below.heap_setCell wr ⟨w.heap.size, 0, none⟩ (.slice none 0 0) _ (by show _ ≠ w.heap.size; omega)).trans h.b3
  refine ⟨?_, ?_, (h.below.setCell (p := ⟨w.heap.size, 0, none⟩) (Nat.le_refl _) _).setCell (p := ⟨w.heap.size + 1, 0, none⟩) (by show _ ≤ _ + 1; omega) _⟩
  · rw [World.cell?_setCell_far _ _ _ _ (by show w.heap.size + 1 ≠ w.heap.size; omega), cell_at e2]; rfl
  · rw [cell_at (heap_setCell_same _ _ 0 _ _ (.int .i64 k) e3)]; rfl
theorem GInv.same {w : World} {l : List St} {v : Value} {vs : List Value} {wr : World} (h : GInv w l v vs wr) : (wr.setCell ⟨w.heap.size, 0, none⟩ v).setCell ⟨w.heap.size + 1, 0, none⟩ (.int .i64 0) = wr := by
  rw [setCell_self h.b2 rfl, setCell_self h.b3 rfl]

end Rg
end Go.Proofs.YtaeljmiklalpnaaGreatDoor
