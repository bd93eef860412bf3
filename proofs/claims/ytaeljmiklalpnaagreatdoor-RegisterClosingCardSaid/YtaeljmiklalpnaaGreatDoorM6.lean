/-
  Contract of the document's Make: changes of kind 6.
-/
import Derived.Test.YtaeljmiklalpnaaGreatDoorM0
namespace Go.Proofs.YtaeljmiklalpnaaGreatDoor
open Go.RowKit Go.ChangeMaps Gn
namespace Rg

set_option maxRecDepth 100000 in
set_option maxHeartbeats 16000000 in
theorem rmake_6 (l : List St) (vs : List Value) (v : Value) (day : Int) (k : Nat) (code town name : W) (low high shift : Int) (w : World) (hl : IsSts w v l vs) (hln : l.length ≤ 900) (hinv : Inv l) (hal : ∀ s ∈ l, s.al.length ≤ 900) (hf : FmC (⟨day, 6, (k : Int), code, town, name, low, high, shift⟩ : Ch)) (CL : ClashOk) (s : St) (hsk : l[k]? = some s) (hso : s.isOpen = true) :
    Calls Tryz.prog 45 #[v, chA (⟨day, 6, (k : Int), code, town, name, low, high, shift⟩ : Ch)] w (MPost l (⟨day, 6, (k : Int), code, town, name, low, high, shift⟩ : Ch) w) := by
  obtain ⟨A, cap, rfl, hL⟩ := hl.parts
  have hL2 := hL
  obtain ⟨A', cap', e', hvl, hS, hA⟩ := hL2
  cases e'
  obtain ⟨i0, hi0, hz0, hz1, hz2⟩ := info_parts infoSt
  have h1c := one_sts l vs (fun i s u hs hu => by obtain ⟨A, c, e, _⟩ := hA i s u hs hu; exact ⟨A, _, c, e⟩)
  have HS0 := hid hS
  have HA0 := hid hA
  have HL := hid hL
  have HVL := hid hvl
  have HINV := hid hinv
  have HAL := hid hal
  have HF := hid hf
  obtain ⟨sc, hsc⟩ : ∃ x, x = sB code := ⟨_, rfl⟩
  obtain ⟨st, hst⟩ : ∃ x, x = sB town := ⟨_, rfl⟩
  obtain ⟨sn, hsn⟩ : ∃ x, x = sB name := ⟨_, rfl⟩
  have HSC := hid hsc
  have HST := hid hst
  have HSN := hid hsn
  unfold chA
  simp only [← hsc, ← hst, ← hsn]
  obtain ⟨N, hN⟩ : ∃ N, N = w.heap.size := ⟨_, rfl⟩
  have hb1 : Below w.heap.size w (w.alloc (.cells #[.int .i64 day, .int .i64 6, .int .i64 (k : Int), .string sc, .string st, .string sn, .int .i64 low, .int .i64 high, .int .i64 shift] 29)) := b0 _ _
  have hx1 : (w.alloc (.cells #[.int .i64 day, .int .i64 6, .int .i64 (k : Int), .string sc, .string st, .string sn, .int .i64 low, .int .i64 high, .int .i64 shift] 29)).heap[w.heap.size]? = some (.cells #[.int .i64 day, .int .i64 6, .int .i64 (k : Int), .string sc, .string st, .string sn, .int .i64 low, .int .i64 high, .int .i64 shift] 29 (0, 0)) := heap_new _ _
  have hb2 : Below w.heap.size w ((w.alloc (.cells #[.int .i64 day, .int .i64 6, .int .i64 (k : Int), .string sc, .string st, .string sn, .int .i64 low, .int .i64 high, .int .i64 shift] 29)).alloc (.cells #[] 44)) := hb1.alloc hb1.size _
  have hx2 : ((w.alloc (.cells #[.int .i64 day, .int .i64 6, .int .i64 (k : Int), .string sc, .string st, .string sn, .int .i64 low, .int .i64 high, .int .i64 shift] 29)).alloc (.cells #[] 44)).heap[w.heap.size]? = some (.cells #[.int .i64 day, .int .i64 6, .int .i64 (k : Int), .string sc, .string st, .string sn, .int .i64 low, .int .i64 high, .int .i64 shift] 29 (0, 0)) := by
    rw [(b0 (w.alloc (.cells #[.int .i64 day, .int .i64 6, .int .i64 (k : Int), .string sc, .string st, .string sn, .int .i64 low, .int .i64 high, .int .i64 shift] 29)) (.cells #[] 44)).block _ (heap_lt hx1)]; exact hx1
  have hown2 := own_empty2 (w.alloc (.cells #[.int .i64 day, .int .i64 6, .int .i64 (k : Int), .string sc, .string st, .string sn, .int .i64 low, .int .i64 high, .int .i64 shift] 29)) (w.heap.size + 1) (w.heap.size + 1) 8 (Nat.le_refl _) (sz1 _ _).symm 44
  have hS2 := hS.on hb2
  have hsz2 : w.heap.size + 1 ≤ ((w.alloc (.cells #[.int .i64 day, .int .i64 6, .int .i64 (k : Int), .string sc, .string st, .string sn, .int .i64 low, .int .i64 high, .int .i64 shift] 29)).alloc (.cells #[] 44)).heap.size := by rw [sz1, sz1]; omega
  obtain ⟨ln, hlnn⟩ : ∃ x, x = l.length := ⟨_, rfl⟩
  rw [← hlnn] at hS2 hln ⊢
  have HLN := hid hlnn
  have HEX : Hid (∀ w3, ((w.alloc (.cells #[.int .i64 day, .int .i64 6, .int .i64 (k : Int), .string sc, .string st, .string sn, .int .i64 low, .int .i64 high, .int .i64 shift] 29)).alloc (.cells #[] 44)).grownBy w3 (Value.slice (some ⟨w.heap.size + 1, 0, none⟩) 0 0).ownBlock → Below w.heap.size w w3 ∧ w3.heap[w.heap.size]? = some (.cells #[.int .i64 day, .int .i64 6, .int .i64 (k : Int), .string sc, .string st, .string sn, .int .i64 low, .int .i64 high, .int .i64 shift] 29 (0, 0))) := fun w3 hg => by
    refine ⟨hb2.grown hg hb2.size (fun k e => ?_), (hg.block _ (heap_lt hx2) (fun e => ?_)).trans hx2⟩
    · simp [Value.ownBlock] at e; omega
    · simp [Value.ownBlock] at e
  have hkl : k < l.length := (List.getElem?_eq_some_iff.1 hsk).1
  obtain ⟨u0, hu0⟩ : ∃ u, vs[k]? = some u := ⟨_, List.getElem?_eq_getElem (by rw [hvl]; exact hkl)⟩
  obtain ⟨Au, cu, rfl, hAu⟩ := hA k s u0 hsk hu0
  rw [← hlnn] at hkl
  have hk0 : 0 ≤ (k : Int) := by omega
  have hk1 : (k : Int) < (ln : Int) := by omega
  have HSK := hid hsk
  have HUK := hid hu0
  have HSO := hid hso
  have HAU := hid hAu
  clear hsk hu0 hso hAu hl hL hvl hS hA hinv hal hf hsc hst hsn hb1 hx1 hb2 hx2 hlnn hN N
  go_enter Tryz.func45, Tryz.ntmps45
  go_wp2_with (at_builtin; refine list_app_gen rfl (.tmp 9) (.tmp 10) 30 rfl 44 i0 _ 8 104 Tryz.underlying30 hi0 hz0 hz1 hz2 rfl (by decide) (w.heap.size + 1) 0 _ [] (by rfl) hown2 hsz2 A ln cap (cellsS l vs) rfl hS2 h1c (by omega) (by omega) ?_; intro v1 w3 hown hgrow; rw [Nat.zero_add, List.nil_append] at hown; obtain ⟨g, c1, rfl, hgB, hgl, hgc, hgz⟩ := own_cut hown (by omega); have hbx := HEX.out w3 hgrow; have hcx := ch_cells hbx.2; have HB3 := hid hbx.1; have HOWN := hid hown; have HBX3 := hid hbx.2; have HGB := hid hgB; have d0 := hgc (k * 8 + 0) _ ((cellsS_at HSK.out HUK.out 0 (by omega)).trans rfl); have d1 := hgc (k * 8 + 1) _ ((cellsS_at HSK.out HUK.out 1 (by omega)).trans rfl); have d2 := hgc (k * 8 + 2) _ ((cellsS_at HSK.out HUK.out 2 (by omega)).trans rfl); have d3 := hgc (k * 8 + 3) _ ((cellsS_at HSK.out HUK.out 3 (by omega)).trans rfl); have d4 := hgc (k * 8 + 4) _ ((cellsS_at HSK.out HUK.out 4 (by omega)).trans rfl); have d5 := hgc (k * 8 + 5) _ ((cellsS_at HSK.out HUK.out 5 (by omega)).trans rfl); have d6 := hgc (k * 8 + 6) _ ((cellsS_at HSK.out HUK.out 6 (by omega)).trans rfl); have d7 := hgc (k * 8 + 7) _ ((cellsS_at HSK.out HUK.out 7 (by omega)).trans rfl); rw [HSO.out] at d7; have y0 := hgz (k * 8 + 0); have y1 := hgz (k * 8 + 1); have y2 := hgz (k * 8 + 2); have y3 := hgz (k * 8 + 3); have y4 := hgz (k * 8 + 4); have y5 := hgz (k * 8 + 5); have y6 := hgz (k * 8 + 6); have y7 := hgz (k * 8 + 7); have hb6 := b0 w3 (.cells #[(.string (sB s.code)), (.string (sB s.town)), (.string (sB s.name)), (.slice Au s.al.length cu), (.int .i64 s.low), (.int .i64 s.high), (.int .i64 s.shift), (.bool true)] 44); have hcx0 := ch_cells ((hb6.block w.heap.size (heap_lt HBX3.out)).trans HBX3.out); have e0_0 := (hb6.cell (p := (⟨g, k * 8 + 0, none⟩ : Addr)) hgl).trans d0; have z0_0 := (hb6.frozen (p := (⟨g, k * 8 + 0, none⟩ : Addr)) hgl).trans (hgz (k * 8 + 0)); have e1_0 := (hb6.cell (p := (⟨g, k * 8 + 1, none⟩ : Addr)) hgl).trans d1; have z1_0 := (hb6.frozen (p := (⟨g, k * 8 + 1, none⟩ : Addr)) hgl).trans (hgz (k * 8 + 1)); have e2_0 := (hb6.cell (p := (⟨g, k * 8 + 2, none⟩ : Addr)) hgl).trans d2; have z2_0 := (hb6.frozen (p := (⟨g, k * 8 + 2, none⟩ : Addr)) hgl).trans (hgz (k * 8 + 2)); have e3_0 := (hb6.cell (p := (⟨g, k * 8 + 3, none⟩ : Addr)) hgl).trans d3; have z3_0 := (hb6.frozen (p := (⟨g, k * 8 + 3, none⟩ : Addr)) hgl).trans (hgz (k * 8 + 3)); have e4_0 := (hb6.cell (p := (⟨g, k * 8 + 4, none⟩ : Addr)) hgl).trans d4; have z4_0 := (hb6.frozen (p := (⟨g, k * 8 + 4, none⟩ : Addr)) hgl).trans (hgz (k * 8 + 4)); have e5_0 := (hb6.cell (p := (⟨g, k * 8 + 5, none⟩ : Addr)) hgl).trans d5; have z5_0 := (hb6.frozen (p := (⟨g, k * 8 + 5, none⟩ : Addr)) hgl).trans (hgz (k * 8 + 5)); have e6_0 := (hb6.cell (p := (⟨g, k * 8 + 6, none⟩ : Addr)) hgl).trans d6; have z6_0 := (hb6.frozen (p := (⟨g, k * 8 + 6, none⟩ : Addr)) hgl).trans (hgz (k * 8 + 6)); have e7_0 := (hb6.cell (p := (⟨g, k * 8 + 7, none⟩ : Addr)) hgl).trans d7; have z7_0 := (hb6.frozen (p := (⟨g, k * 8 + 7, none⟩ : Addr)) hgl).trans (hgz (k * 8 + 7)); rw [Nat.add_zero] at e0_0 z0_0; clear hb6; have hb6 := b0 w3 (.cells #[(.string (sB s.code)), (.string (sB s.town)), (.string (sB s.name)), (.slice Au s.al.length cu), (.int .i64 s.low), (.int .i64 s.high), (.int .i64 s.shift), (.bool false)] 44); have hcx1 := ch_cells ((hb6.block w.heap.size (heap_lt HBX3.out)).trans HBX3.out); have e0_1 := (hb6.cell (p := (⟨g, k * 8 + 0, none⟩ : Addr)) hgl).trans d0; have z0_1 := (hb6.frozen (p := (⟨g, k * 8 + 0, none⟩ : Addr)) hgl).trans (hgz (k * 8 + 0)); have e1_1 := (hb6.cell (p := (⟨g, k * 8 + 1, none⟩ : Addr)) hgl).trans d1; have z1_1 := (hb6.frozen (p := (⟨g, k * 8 + 1, none⟩ : Addr)) hgl).trans (hgz (k * 8 + 1)); have e2_1 := (hb6.cell (p := (⟨g, k * 8 + 2, none⟩ : Addr)) hgl).trans d2; have z2_1 := (hb6.frozen (p := (⟨g, k * 8 + 2, none⟩ : Addr)) hgl).trans (hgz (k * 8 + 2)); have e3_1 := (hb6.cell (p := (⟨g, k * 8 + 3, none⟩ : Addr)) hgl).trans d3; have z3_1 := (hb6.frozen (p := (⟨g, k * 8 + 3, none⟩ : Addr)) hgl).trans (hgz (k * 8 + 3)); have e4_1 := (hb6.cell (p := (⟨g, k * 8 + 4, none⟩ : Addr)) hgl).trans d4; have z4_1 := (hb6.frozen (p := (⟨g, k * 8 + 4, none⟩ : Addr)) hgl).trans (hgz (k * 8 + 4)); have e5_1 := (hb6.cell (p := (⟨g, k * 8 + 5, none⟩ : Addr)) hgl).trans d5; have z5_1 := (hb6.frozen (p := (⟨g, k * 8 + 5, none⟩ : Addr)) hgl).trans (hgz (k * 8 + 5)); have e6_1 := (hb6.cell (p := (⟨g, k * 8 + 6, none⟩ : Addr)) hgl).trans d6; have z6_1 := (hb6.frozen (p := (⟨g, k * 8 + 6, none⟩ : Addr)) hgl).trans (hgz (k * 8 + 6)); have e7_1 := (hb6.cell (p := (⟨g, k * 8 + 7, none⟩ : Addr)) hgl).trans d7; have z7_1 := (hb6.frozen (p := (⟨g, k * 8 + 7, none⟩ : Addr)) hgl).trans (hgz (k * 8 + 7)); rw [Nat.add_zero] at e0_1 z0_1; clear hb6; rw [Nat.add_zero] at d0 y0; clear hgc hgz hown hbx)
  have hsc := HSC.out
  have hst := HST.out
  have hsn := HSN.out
  subst hsc hst hsn
  obtain ⟨W, hW⟩ : ∃ W, W = (((((((w3.setCell ⟨g, k * 8, none⟩ (.string (sB s.code))).setCell ⟨g, k * 8 + 1, none⟩ (.string (sB s.town))).setCell ⟨g, k * 8 + 2, none⟩ (.string (sB s.name))).setCell ⟨g, k * 8 + 3, none⟩ (.slice Au s.al.length cu)).setCell ⟨g, k * 8 + 4, none⟩ (.int .i64 s.low)).setCell ⟨g, k * 8 + 5, none⟩ (.int .i64 s.high)).setCell ⟨g, k * 8 + 6, none⟩ (.int .i64 s.shift)).setCell ⟨g, k * 8 + 7, none⟩ (.bool false) := ⟨_, rfl⟩
  rw [← hW]
  have hown : w3.ownsRow (w.heap.size + 1) 44 8 (.slice (some ⟨g, 0, none⟩) l.length c1) l.length (cellsS l vs) := by
    rw [← HLN.out]
    exact HOWN.out
  obtain ⟨hsts, hbW⟩ := make_sts (s' := (⟨s.code, s.town, s.name, s.al, s.low, s.high, s.shift, false⟩ : St)) (u' := .slice Au s.al.length cu) hown (by have := HGB.out; omega) HVL.out HSK.out HUK.out hW HB3.out (fun i s u _ hs hu => HA0.out i s u hs hu) (fun hb _ => IsW.on (HA0.out k s _ HSK.out HUK.out) hb)
  have hchg : chg (⟨day, 6, (k : Int), code, town, name, low, high, shift⟩ : Ch) s = (⟨s.code, s.town, s.name, s.al, s.low, s.high, s.shift, false⟩ : St) := by
    show (⟨s.code, s.town, s.name, s.al, s.low, s.high, s.shift, false⟩ : St) = (⟨s.code, s.town, s.name, s.al, s.low, s.high, s.shift, false⟩ : St)
    first | rfl | rw [HSO.out]
  have hstp : stp l (⟨day, 6, (k : Int), code, town, name, low, high, shift⟩ : Ch) = l.set k (⟨s.code, s.town, s.name, s.al, s.low, s.high, s.shift, false⟩ : St) := by
    unfold stp
    rw [if_neg (by show ¬ (6 : Int) = 1; decide)]
    show (match l[(k : Int).toNat]? with | some s => l.set (k : Int).toNat (chg (⟨day, 6, (k : Int), code, town, name, low, high, shift⟩ : Ch) s) | none => l) = _
    rw [show (k : Int).toNat = k from rfl, HSK.out]
    show l.set k (chg (⟨day, 6, (k : Int), code, town, name, low, high, shift⟩ : Ch) s) = _
    rw [hchg]
  have htrg : trg l (⟨day, 6, (k : Int), code, town, name, low, high, shift⟩ : Ch) = k := rfl
  clear hW
  rw [← HLN.out] at hsts
  have hbA : Below W.heap.size W (W.alloc (.cells #[(.string (sB s.code)), (.string (sB s.town)), (.string (sB s.name)), (.slice Au s.al.length cu), (.int .i64 s.low), (.int .i64 s.high), (.int .i64 s.shift), (.bool false)] 44)) := b0 _ _
  have hsn2 : SmS (⟨s.code, s.town, s.name, s.al, s.low, s.high, s.shift, false⟩ : St) := by
    rw [← hchg]
    exact sm_chg HF.out (sm_of HINV.out HAL.out s (List.mem_of_getElem? HSK.out)) (HAL.out s (List.mem_of_getElem? HSK.out))
  have hsm : ∀ x ∈ l.set k (⟨s.code, s.town, s.name, s.al, s.low, s.high, s.shift, false⟩ : St), SmS x := sm_set (n := k) (sm_of HINV.out HAL.out) hsn2
  refine (CL (l.set k (⟨s.code, s.town, s.name, s.al, s.low, s.high, s.shift, false⟩ : St)) _ _ k _ (hsts.on hbA) (by rw [List.length_set, ← HLN.out]; omega) (by rw [List.length_set, ← HLN.out]; exact hkl) hsm).mono ?_
  rintro e w8 ⟨rfl, hb8⟩
  obtain ⟨r, hr⟩ : ∃ r, r = clashAt (l.set k (⟨s.code, s.town, s.name, s.al, s.low, s.high, s.shift, false⟩ : St)) k := ⟨_, rfl⟩
  rw [← hr]
  have hb9 := bt (bt hbW hbA) hb8
  have HP : Hid (MPost l (⟨day, 6, (k : Int), code, town, name, low, high, shift⟩ : Ch) w (.returned (.tuple #[.slice (some ⟨g, 0, none⟩) ln c1, .int .i64 0])) w8 ∨ r = true) := by
    show _ ∨ _
    cases r with
    | true => exact Or.inr rfl
    | false => exact Or.inl ⟨_, _, rfl, hb9, fun _ => ⟨⟨(formed_iff _).2 HF.out, fun _ => ⟨hk0, s, HSK.out, HSO.out⟩, (fun q => absurd q (by show ¬ (6 : Int) = 4; decide)), (fun q => absurd q (by show ¬ (6 : Int) = 5; decide)), by rw [hstp, htrg]; exact hr.symm⟩, _, by rw [hstp]; exact (hsts.on hbA).on hb8⟩⟩
  have HB9 := hid hb9
  clear hr hsts hbA hb8 hb9 hsm hsn2
  cases r
  · go_wp2
    go_ret2
    rcases HP.out with q | q
    · exact q
    · cases q
  · go_wp2
    go_ret2
    exact ⟨_, _, rfl, HB9.out, fun q => absurd q (by decide)⟩

end Rg
end Go.Proofs.YtaeljmiklalpnaaGreatDoor
