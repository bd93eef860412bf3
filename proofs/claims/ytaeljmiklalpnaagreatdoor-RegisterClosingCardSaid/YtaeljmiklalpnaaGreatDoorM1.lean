/-
  Contract of the document's Make: opening.
-/
import Derived.Test.YtaeljmiklalpnaaGreatDoorM0
namespace Go.Proofs.YtaeljmiklalpnaaGreatDoor
open Go.RowKit Go.ChangeMaps Gn
namespace Rg

set_option maxRecDepth 100000 in
set_option maxHeartbeats 16000000 in
theorem rmake_1 (l : List St) (vs : List Value) (v : Value) (day street : Int) (code town name : W) (low high shift : Int) (w : World) (hl : IsSts w v l vs) (hln : l.length ≤ 900) (hinv : Inv l) (hal : ∀ s ∈ l, s.al.length ≤ 900) (hf : FmC (⟨day, 1, street, code, town, name, low, high, shift⟩ : Ch)) (CL : ClashOk) :
    Calls Tryz.prog 45 #[v, chA (⟨day, 1, street, code, town, name, low, high, shift⟩ : Ch)] w (MPost l (⟨day, 1, street, code, town, name, low, high, shift⟩ : Ch) w) := by
  obtain ⟨A, cap, rfl, hL⟩ := hl.parts
  have hL2 := hL
  obtain ⟨A', cap', e', hvl, hS, hA⟩ := hL2
  cases e'
  obtain ⟨i0, hi0, hz0, hz1, hz2⟩ := info_parts infoSt
  have h1c := one_sts l vs (fun i s u hs hu => by obtain ⟨A, c, e, _⟩ := hA i s u hs hu; exact ⟨A, _, c, e⟩)
  have HS0 := hid hS
  have HA0 := hid hA
  have HL := hid hL
  have HVL := hid hvl
  have HINV := hid hinv
  have HAL := hid hal
  have HF := hid hf
  obtain ⟨sc, hsc⟩ : ∃ x, x = sB code := ⟨_, rfl⟩
  obtain ⟨st, hst⟩ : ∃ x, x = sB town := ⟨_, rfl⟩
  obtain ⟨sn, hsn⟩ : ∃ x, x = sB name := ⟨_, rfl⟩
  have HSC := hid hsc
  have HST := hid hst
  have HSN := hid hsn
  unfold chA
  simp only [← hsc, ← hst, ← hsn]
  obtain ⟨N, hN⟩ : ∃ N, N = w.heap.size := ⟨_, rfl⟩
  have hb1 : Below w.heap.size w (w.alloc (.cells #[.int .i64 day, .int .i64 1, .int .i64 street, .string sc, .string st, .string sn, .int .i64 low, .int .i64 high, .int .i64 shift] 29)) := b0 _ _
  have hx1 : (w.alloc (.cells #[.int .i64 day, .int .i64 1, .int .i64 street, .string sc, .string st, .string sn, .int .i64 low, .int .i64 high, .int .i64 shift] 29)).heap[w.heap.size]? = some (.cells #[.int .i64 day, .int .i64 1, .int .i64 street, .string sc, .string st, .string sn, .int .i64 low, .int .i64 high, .int .i64 shift] 29 (0, 0)) := heap_new _ _
  have hb2 : Below w.heap.size w ((w.alloc (.cells #[.int .i64 day, .int .i64 1, .int .i64 street, .string sc, .string st, .string sn, .int .i64 low, .int .i64 high, .int .i64 shift] 29)).alloc (.cells #[] 44)) := hb1.alloc hb1.size _
  have hx2 : ((w.alloc (.cells #[.int .i64 day, .int .i64 1, .int .i64 street, .string sc, .string st, .string sn, .int .i64 low, .int .i64 high, .int .i64 shift] 29)).alloc (.cells #[] 44)).heap[w.heap.size]? = some (.cells #[.int .i64 day, .int .i64 1, .int .i64 street, .string sc, .string st, .string sn, .int .i64 low, .int .i64 high, .int .i64 shift] 29 (0, 0)) := by
    rw [(b0 (w.alloc (.cells #[.int .i64 day, .int .i64 1, .int .i64 street, .string sc, .string st, .string sn, .int .i64 low, .int .i64 high, .int .i64 shift] 29)) (.cells #[] 44)).block _ (heap_lt hx1)]; exact hx1
  have hown2 := own_empty2 (w.alloc (.cells #[.int .i64 day, .int .i64 1, .int .i64 street, .string sc, .string st, .string sn, .int .i64 low, .int .i64 high, .int .i64 shift] 29)) (w.heap.size + 1) (w.heap.size + 1) 8 (Nat.le_refl _) (sz1 _ _).symm 44
  have hS2 := hS.on hb2
  have hsz2 : w.heap.size + 1 ≤ ((w.alloc (.cells #[.int .i64 day, .int .i64 1, .int .i64 street, .string sc, .string st, .string sn, .int .i64 low, .int .i64 high, .int .i64 shift] 29)).alloc (.cells #[] 44)).heap.size := by rw [sz1, sz1]; omega
  obtain ⟨ln, hlnn⟩ : ∃ x, x = l.length := ⟨_, rfl⟩
  rw [← hlnn] at hS2 hln ⊢
  have HLN := hid hlnn
  have HEX : Hid (∀ w3, ((w.alloc (.cells #[.int .i64 day, .int .i64 1, .int .i64 street, .string sc, .string st, .string sn, .int .i64 low, .int .i64 high, .int .i64 shift] 29)).alloc (.cells #[] 44)).grownBy w3 (Value.slice (some ⟨w.heap.size + 1, 0, none⟩) 0 0).ownBlock → Below w.heap.size w w3 ∧ w3.heap[w.heap.size]? = some (.cells #[.int .i64 day, .int .i64 1, .int .i64 street, .string sc, .string st, .string sn, .int .i64 low, .int .i64 high, .int .i64 shift] 29 (0, 0))) := fun w3 hg => by
    refine ⟨hb2.grown hg hb2.size (fun k e => ?_), (hg.block _ (heap_lt hx2) (fun e => ?_)).trans hx2⟩
    · simp [Value.ownBlock] at e; omega
    · simp [Value.ownBlock] at e
  clear hl hL hvl hS hA hinv hal hf hsc hst hsn hb1 hx1 hb2 hx2 hlnn hN N
  go_enter Tryz.func45, Tryz.ntmps45
  go_wp2_with (at_builtin; first | (refine list_app_gen rfl (.tmp 9) (.tmp 10) 30 rfl 44 i0 _ 8 104 Tryz.underlying30 hi0 hz0 hz1 hz2 rfl (by decide) (w.heap.size + 1) 0 _ [] (by rfl) hown2 hsz2 A ln cap (cellsS l vs) rfl hS2 h1c (by omega) (by omega) ?_; intro v1 w3 hown hgrow; rw [Nat.zero_add, List.nil_append] at hown; obtain ⟨A1, c1, rfl⟩ := own_shape hown; have hbx := HEX.out w3 hgrow; have hcx := ch_cells hbx.2; have HB3 := hid hbx.1; have HOWN := hid hown; have HBX3 := hid hbx.2; clear hbx) | (refine list_app_gen rfl (.tmp 19) (.tmp 31) 30 rfl 44 i0 _ 8 104 Tryz.underlying30 hi0 hz0 hz1 hz2 rfl (by decide) (w.heap.size + 1) ln _ (cellsS l vs) (by rfl) (HOWN.out.alloc _) (by have := HB3.out.size; rw [sz1]; omega) (some ⟨w3.heap.size, 0, none⟩) 1 1 [.string sc, .string st, .string sn, .slice none 0 0, .int .i64 low, .int .i64 high, .int .i64 0, .bool true] rfl (SlR.new8 w3 _ _ _ _ _ _ _ _ _) (by simp [Value.oneCell']) (by omega) (by omega) ?_; intro v4 w5 hown2 hgrow2; obtain ⟨g, c5, rfl, hgB, hgl, hgc, hgz⟩ := own_cut hown2 (by omega); have HOWN2 := hid hown2; have HGB := hid hgB; have HB5 : Hid (Below w.heap.size w w5) := grow_below HB3.out (by omega) HB3.out.size HOWN.out hgrow2; have hbx5 := (hgrow2.block w.heap.size (by have := heap_lt HBX3.out; rw [sz1]; omega) (fun e => by have := (HOWN.out.lt _ e.symm).1; omega)).trans (((b0 w3 _).block w.heap.size (heap_lt HBX3.out)).trans HBX3.out); have hbx6 := ((b0 w5 (.cells #[.string sc, .string st, .string sn, .slice none 0 0, .int .i64 low, .int .i64 high, .int .i64 0, .bool true] 44)).block w.heap.size (heap_lt hbx5)).trans hbx5; have hcx6 := ch_cells hbx6; have hb6 := b0 w5 (.cells #[.string sc, .string st, .string sn, .slice none 0 0, .int .i64 low, .int .i64 high, .int .i64 0, .bool true] 44); clear hown2 hgrow2 hbx6; have d0 := hgc (ln * 8 + 0) _ ((snoc_at _ _ _ 0 HOWN.out.1).trans rfl); have d1 := hgc (ln * 8 + 1) _ ((snoc_at _ _ _ 1 HOWN.out.1).trans rfl); have d2 := hgc (ln * 8 + 2) _ ((snoc_at _ _ _ 2 HOWN.out.1).trans rfl); have d3 := hgc (ln * 8 + 3) _ ((snoc_at _ _ _ 3 HOWN.out.1).trans rfl); have d4 := hgc (ln * 8 + 4) _ ((snoc_at _ _ _ 4 HOWN.out.1).trans rfl); have d5 := hgc (ln * 8 + 5) _ ((snoc_at _ _ _ 5 HOWN.out.1).trans rfl); have d6 := hgc (ln * 8 + 6) _ ((snoc_at _ _ _ 6 HOWN.out.1).trans rfl); have d7 := hgc (ln * 8 + 7) _ ((snoc_at _ _ _ 7 HOWN.out.1).trans rfl); have e0 := (hb6.cell (p := (⟨g, ln * 8 + 0, none⟩ : Addr)) hgl).trans d0; have z0 := (hb6.frozen (p := (⟨g, ln * 8 + 0, none⟩ : Addr)) hgl).trans (hgz (ln * 8 + 0)); have e1 := (hb6.cell (p := (⟨g, ln * 8 + 1, none⟩ : Addr)) hgl).trans d1; have z1 := (hb6.frozen (p := (⟨g, ln * 8 + 1, none⟩ : Addr)) hgl).trans (hgz (ln * 8 + 1)); have e2 := (hb6.cell (p := (⟨g, ln * 8 + 2, none⟩ : Addr)) hgl).trans d2; have z2 := (hb6.frozen (p := (⟨g, ln * 8 + 2, none⟩ : Addr)) hgl).trans (hgz (ln * 8 + 2)); have e3 := (hb6.cell (p := (⟨g, ln * 8 + 3, none⟩ : Addr)) hgl).trans d3; have z3 := (hb6.frozen (p := (⟨g, ln * 8 + 3, none⟩ : Addr)) hgl).trans (hgz (ln * 8 + 3)); have e4 := (hb6.cell (p := (⟨g, ln * 8 + 4, none⟩ : Addr)) hgl).trans d4; have z4 := (hb6.frozen (p := (⟨g, ln * 8 + 4, none⟩ : Addr)) hgl).trans (hgz (ln * 8 + 4)); have e5 := (hb6.cell (p := (⟨g, ln * 8 + 5, none⟩ : Addr)) hgl).trans d5; have z5 := (hb6.frozen (p := (⟨g, ln * 8 + 5, none⟩ : Addr)) hgl).trans (hgz (ln * 8 + 5)); have e6 := (hb6.cell (p := (⟨g, ln * 8 + 6, none⟩ : Addr)) hgl).trans d6; have z6 := (hb6.frozen (p := (⟨g, ln * 8 + 6, none⟩ : Addr)) hgl).trans (hgz (ln * 8 + 6)); have e7 := (hb6.cell (p := (⟨g, ln * 8 + 7, none⟩ : Addr)) hgl).trans d7; have z7 := (hb6.frozen (p := (⟨g, ln * 8 + 7, none⟩ : Addr)) hgl).trans (hgz (ln * 8 + 7)); rw [Nat.add_zero] at d0 e0 z0; clear hb6))
  have hsc := HSC.out
  have hst := HST.out
  have hsn := HSN.out
  subst hsc hst hsn
  obtain ⟨W, hW⟩ : ∃ W, W = (((((((w5.setCell ⟨g, ln * 8, none⟩ (.string (sB code))).setCell ⟨g, ln * 8 + 1, none⟩ (.string (sB town))).setCell ⟨g, ln * 8 + 2, none⟩ (.string (sB name))).setCell ⟨g, ln * 8 + 3, none⟩ (.slice none 0 0)).setCell ⟨g, ln * 8 + 4, none⟩ (.int .i64 low)).setCell ⟨g, ln * 8 + 5, none⟩ (.int .i64 high)).setCell ⟨g, ln * 8 + 6, none⟩ (.int .i64 0)).setCell ⟨g, ln * 8 + 7, none⟩ (.bool true) := ⟨_, rfl⟩
  rw [← hW]
  have hLl : (l ++ [newS (⟨day, 1, street, code, town, name, low, high, shift⟩ : Ch)]).length = ln + 1 := by rw [HLN.out]; simp
  have hUl : (vs ++ [nilV]).length = (l ++ [newS (⟨day, 1, street, code, town, name, low, high, shift⟩ : Ch)]).length := by rw [List.length_append, List.length_append, HVL.out]; rfl
  have hLn : (l ++ [newS (⟨day, 1, street, code, town, name, low, high, shift⟩ : Ch)])[ln]? = some (newS (⟨day, 1, street, code, town, name, low, high, shift⟩ : Ch)) := by rw [HLN.out]; simp
  have hUn : (vs ++ [nilV])[ln]? = some nilV := by rw [HLN.out, ← HVL.out]; simp
  have hown : w5.ownsRow (w.heap.size + 1) 44 8 (.slice (some ⟨g, 0, none⟩) (l ++ [newS (⟨day, 1, street, code, town, name, low, high, shift⟩ : Ch)]).length c5) (l ++ [newS (⟨day, 1, street, code, town, name, low, high, shift⟩ : Ch)]).length (cellsS (l ++ [newS (⟨day, 1, street, code, town, name, low, high, shift⟩ : Ch)]) (vs ++ [nilV])) := by
    rw [hLl, cellsS_snoc l vs HVL.out]
    exact HOWN2.out
  obtain ⟨hsts, hbW⟩ := make_sts (s' := newS (⟨day, 1, street, code, town, name, low, high, shift⟩ : Ch)) (u' := nilV) hown (by omega) hUl hLn hUn hW HB5.out (fun i s u hi hs hu => by
    have hil : i < l.length := by have := (List.getElem?_eq_some_iff.1 hs).1; rw [hLl] at this; rw [← HLN.out]; omega
    rw [List.getElem?_append_left hil] at hs
    rw [List.getElem?_append_left (by rw [HVL.out]; exact hil)] at hu
    exact HA0.out i s u hs hu) (fun _ _ => IsW.nil _)
  have hset : (l ++ [newS (⟨day, 1, street, code, town, name, low, high, shift⟩ : Ch)]).set ln (newS (⟨day, 1, street, code, town, name, low, high, shift⟩ : Ch)) = l ++ [newS (⟨day, 1, street, code, town, name, low, high, shift⟩ : Ch)] := set_same hLn
  have hset2 : (vs ++ [nilV]).set ln nilV = vs ++ [nilV] := set_same hUn
  rw [hset, hset2, hLl] at hsts
  have hstp : stp l (⟨day, 1, street, code, town, name, low, high, shift⟩ : Ch) = l ++ [newS (⟨day, 1, street, code, town, name, low, high, shift⟩ : Ch)] := rfl
  have htrg : trg l (⟨day, 1, street, code, town, name, low, high, shift⟩ : Ch) = ln := HLN.out.symm
  clear hW
  have hbA : Below W.heap.size W (W.alloc (.cells #[.string (sB code), .string (sB town), .string (sB name), .slice none 0 0, .int .i64 low, .int .i64 high, .int .i64 0, .bool true] 44)) := b0 _ _
  refine (CL (l ++ [newS (⟨day, 1, street, code, town, name, low, high, shift⟩ : Ch)]) (vs ++ [nilV]) _ ln _ (hsts.on hbA) (by omega) (by omega) ?_).mono ?_
  · exact sm_snoc (sm_of HINV.out HAL.out) ((good_new HF.out rfl).sm (m := 900) (Nat.zero_le _) (by omega))
  rintro e w8 ⟨rfl, hb8⟩
  obtain ⟨r, hr⟩ : ∃ r, r = clashAt (l ++ [newS (⟨day, 1, street, code, town, name, low, high, shift⟩ : Ch)]) ln := ⟨_, rfl⟩
  rw [← hr]
  have hb9 := bt (bt hbW hbA) hb8
  have HP : Hid (MPost l (⟨day, 1, street, code, town, name, low, high, shift⟩ : Ch) w (.returned (.tuple #[.slice (some ⟨g, 0, none⟩) (ln + 1) c5, .int .i64 0])) w8 ∨ r = true) := by
    show _ ∨ _
    cases r with
    | true => exact Or.inr rfl
    | false => exact Or.inl ⟨_, _, rfl, hb9, fun _ => ⟨⟨(formed_iff _).2 HF.out, fun q => absurd rfl q, (fun q => absurd q (by show ¬ (1 : Int) = 4; decide)), (fun q => absurd q (by show ¬ (1 : Int) = 5; decide)), by rw [hstp, htrg]; exact hr.symm⟩, _, by rw [hstp]; exact (hsts.on hbA).on hb8⟩⟩
  have HB9 := hid hb9
  clear hr hsts hbA hb8 hb9
  cases r
  · go_wp2
    go_ret2
    rcases HP.out with q | q
    · exact q
    · cases q
  · go_wp2
    go_ret2
    exact ⟨_, _, rfl, HB9.out, fun q => absurd q (by decide)⟩

end Rg
end Go.Proofs.YtaeljmiklalpnaaGreatDoor
