/-
  Contract of the document's Make: a second name.
-/
import Derived.Test.YtaeljmiklalpnaaGreatDoorM7
import Derived.Outline
import Derived.Deep.RegionHeld3
namespace Go.Proofs.YtaeljmiklalpnaaGreatDoor
open Go.RowKit Go.ChangeMaps Gn
namespace Rg

set_option maxRecDepth 100000 in
set_option maxHeartbeats 16000000 in
theorem rmake_5 (l : List St) (vs : List Value) (v : Value) (day : Int) (k : Nat) (code town name : W) (low high shift : Int) (w : World) (hl : IsSts w v l vs) (hln : l.length ≤ 900) (hinv : Inv l) (hal : ∀ s ∈ l, s.al.length ≤ 900) (hf : FmC (⟨day, 5, (k : Int), code, town, name, low, high, shift⟩ : Ch)) (CL : ClashOk) (s : St) (hsk : l[k]? = some s) (hso : s.isOpen = true) :
    Calls Tryz.prog 45 #[v, chA (⟨day, 5, (k : Int), code, town, name, low, high, shift⟩ : Ch)] w (MPost l (⟨day, 5, (k : Int), code, town, name, low, high, shift⟩ : Ch) w) := by
  obtain ⟨A, cap, rfl, hL⟩ := hl.parts
  have hL2 := hL
  obtain ⟨A', cap', e', hvl, hS, hA⟩ := hL2
  cases e'
  obtain ⟨i0, hi0, hz0, hz1, hz2⟩ := info_parts infoSt
  have h1c := one_sts l vs (fun i s u hs hu => by obtain ⟨A, c, e, _⟩ := hA i s u hs hu; exact ⟨A, _, c, e⟩)
  have HS0 := hid hS
  have HA0 := hid hA
  have HL := hid hL
  have HVL := hid hvl
  have HINV := hid hinv
  have HAL := hid hal
  have HF := hid hf
  obtain ⟨sc, hsc⟩ : ∃ x, x = sB code := ⟨_, rfl⟩
  obtain ⟨st, hst⟩ : ∃ x, x = sB town := ⟨_, rfl⟩
  obtain ⟨sn, hsn⟩ : ∃ x, x = sB name := ⟨_, rfl⟩
  have HSC := hid hsc
  have HST := hid hst
  have HSN := hid hsn
  unfold chA
  simp only [← hsc, ← hst, ← hsn]
  obtain ⟨N, hN⟩ : ∃ N, N = w.heap.size := ⟨_, rfl⟩
  have hb1 : Below w.heap.size w (w.alloc (.cells #[.int .i64 day, .int .i64 5, .int .i64 (k : Int), .string sc, .string st, .string sn, .int .i64 low, .int .i64 high, .int .i64 shift] 29)) := b0 _ _
  have hx1 : (w.alloc (.cells #[.int .i64 day, .int .i64 5, .int .i64 (k : Int), .string sc, .string st, .string sn, .int .i64 low, .int .i64 high, .int .i64 shift] 29)).heap[w.heap.size]? = some (.cells #[.int .i64 day, .int .i64 5, .int .i64 (k : Int), .string sc, .string st, .string sn, .int .i64 low, .int .i64 high, .int .i64 shift] 29 (0, 0)) := heap_new _ _
  have hb2 : Below w.heap.size w ((w.alloc (.cells #[.int .i64 day, .int .i64 5, .int .i64 (k : Int), .string sc, .string st, .string sn, .int .i64 low, .int .i64 high, .int .i64 shift] 29)).alloc (.cells #[] 44)) := hb1.alloc hb1.size _
  have hx2 : ((w.alloc (.cells #[.int .i64 day, .int .i64 5, .int .i64 (k : Int), .string sc, .string st, .string sn, .int .i64 low, .int .i64 high, .int .i64 shift] 29)).alloc (.cells #[] 44)).heap[w.heap.size]? = some (.cells #[.int .i64 day, .int .i64 5, .int .i64 (k : Int), .string sc, .string st, .string sn, .int .i64 low, .int .i64 high, .int .i64 shift] 29 (0, 0)) := by
    rw [(b0 (w.alloc (.cells #[.int .i64 day, .int .i64 5, .int .i64 (k : Int), .string sc, .string st, .string sn, .int .i64 low, .int .i64 high, .int .i64 shift] 29)) (.cells #[] 44)).block _ (heap_lt hx1)]; exact hx1
  have hown2 := own_empty2 (w.alloc (.cells #[.int .i64 day, .int .i64 5, .int .i64 (k : Int), .string sc, .string st, .string sn, .int .i64 low, .int .i64 high, .int .i64 shift] 29)) (w.heap.size + 1) (w.heap.size + 1) 8 (Nat.le_refl _) (sz1 _ _).symm 44
  have hS2 := hS.on hb2
  have hsz2 : w.heap.size + 1 ≤ ((w.alloc (.cells #[.int .i64 day, .int .i64 5, .int .i64 (k : Int), .string sc, .string st, .string sn, .int .i64 low, .int .i64 high, .int .i64 shift] 29)).alloc (.cells #[] 44)).heap.size := by rw [sz1, sz1]; omega
  obtain ⟨ln, hlnn⟩ : ∃ x, x = l.length := ⟨_, rfl⟩
  rw [← hlnn] at hS2 hln ⊢
  have HLN := hid hlnn
  have HEX : Hid (∀ w3, ((w.alloc (.cells #[.int .i64 day, .int .i64 5, .int .i64 (k : Int), .string sc, .string st, .string sn, .int .i64 low, .int .i64 high, .int .i64 shift] 29)).alloc (.cells #[] 44)).grownBy w3 (Value.slice (some ⟨w.heap.size + 1, 0, none⟩) 0 0).ownBlock → Below w.heap.size w w3 ∧ w3.heap[w.heap.size]? = some (.cells #[.int .i64 day, .int .i64 5, .int .i64 (k : Int), .string sc, .string st, .string sn, .int .i64 low, .int .i64 high, .int .i64 shift] 29 (0, 0))) := fun w3 hg => by
    refine ⟨hb2.grown hg hb2.size (fun k e => ?_), (hg.block _ (heap_lt hx2) (fun e => ?_)).trans hx2⟩
    · simp [Value.ownBlock] at e; omega
    · simp [Value.ownBlock] at e
  have hkl : k < l.length := (List.getElem?_eq_some_iff.1 hsk).1
  obtain ⟨u0, hu0⟩ : ∃ u, vs[k]? = some u := ⟨_, List.getElem?_eq_getElem (by rw [hvl]; exact hkl)⟩
  obtain ⟨Au, cu, rfl, hAu⟩ := hA k s u0 hsk hu0
  rw [← hlnn] at hkl
  have hk0 : 0 ≤ (k : Int) := by omega
  have hk1 : (k : Int) < (ln : Int) := by omega
  have HSK := hid hsk
  have HUK := hid hu0
  have HSO := hid hso
  have HAU := hid hAu
  obtain ⟨j0, hj0, hy0, hy1, hy2⟩ := info_parts infoStr
  have hal9 : s.al.length ≤ 900 := hal s (List.mem_of_getElem? hsk)
  clear hsk hu0 hso hAu hl hL hvl hS hA hinv hal hf hsc hst hsn hb1 hx1 hb2 hx2 hlnn hN N
  go_enter Tryz.func45, Tryz.ntmps45
  go_wp2_with (at_builtin; refine list_app_gen rfl (.tmp 9) (.tmp 10) 30 rfl 44 i0 _ 8 104 Tryz.underlying30 hi0 hz0 hz1 hz2 rfl (by decide) (w.heap.size + 1) 0 _ [] (by rfl) hown2 hsz2 A ln cap (cellsS l vs) rfl hS2 h1c (by omega) (by omega) ?_; intro v1 w3 hown hgrow; rw [Nat.zero_add, List.nil_append] at hown; obtain ⟨g, c1, rfl, hgB, hgl, hgc, hgz⟩ := own_cut hown (by omega); have hbx := HEX.out w3 hgrow; have hcx := ch_cells hbx.2; have HB3 := hid hbx.1; have HOWN := hid hown; have HBX3 := hid hbx.2; have HGB := hid hgB; have d0 := hgc (k * 8 + 0) _ ((cellsS_at HSK.out HUK.out 0 (by omega)).trans rfl); have d1 := hgc (k * 8 + 1) _ ((cellsS_at HSK.out HUK.out 1 (by omega)).trans rfl); have d2 := hgc (k * 8 + 2) _ ((cellsS_at HSK.out HUK.out 2 (by omega)).trans rfl); have d3 := hgc (k * 8 + 3) _ ((cellsS_at HSK.out HUK.out 3 (by omega)).trans rfl); have d4 := hgc (k * 8 + 4) _ ((cellsS_at HSK.out HUK.out 4 (by omega)).trans rfl); have d5 := hgc (k * 8 + 5) _ ((cellsS_at HSK.out HUK.out 5 (by omega)).trans rfl); have d6 := hgc (k * 8 + 6) _ ((cellsS_at HSK.out HUK.out 6 (by omega)).trans rfl); have d7 := hgc (k * 8 + 7) _ ((cellsS_at HSK.out HUK.out 7 (by omega)).trans rfl); rw [HSO.out] at d7; have y0 := hgz (k * 8 + 0); have y1 := hgz (k * 8 + 1); have y2 := hgz (k * 8 + 2); have y3 := hgz (k * 8 + 3); have y4 := hgz (k * 8 + 4); have y5 := hgz (k * 8 + 5); have y6 := hgz (k * 8 + 6); have y7 := hgz (k * 8 + 7); have hb6 := b0 w3 (.cells #[(.string (sB s.code)), (.string (sB s.town)), (.string (sB s.name)), (.slice Au s.al.length cu), (.int .i64 s.low), (.int .i64 s.high), (.int .i64 s.shift), (.bool true)] 44); have hcx0 := ch_cells ((hb6.block w.heap.size (heap_lt HBX3.out)).trans HBX3.out); have e0_0 := (hb6.cell (p := (⟨g, k * 8 + 0, none⟩ : Addr)) hgl).trans d0; have z0_0 := (hb6.frozen (p := (⟨g, k * 8 + 0, none⟩ : Addr)) hgl).trans (hgz (k * 8 + 0)); have e1_0 := (hb6.cell (p := (⟨g, k * 8 + 1, none⟩ : Addr)) hgl).trans d1; have z1_0 := (hb6.frozen (p := (⟨g, k * 8 + 1, none⟩ : Addr)) hgl).trans (hgz (k * 8 + 1)); have e2_0 := (hb6.cell (p := (⟨g, k * 8 + 2, none⟩ : Addr)) hgl).trans d2; have z2_0 := (hb6.frozen (p := (⟨g, k * 8 + 2, none⟩ : Addr)) hgl).trans (hgz (k * 8 + 2)); have e3_0 := (hb6.cell (p := (⟨g, k * 8 + 3, none⟩ : Addr)) hgl).trans d3; have z3_0 := (hb6.frozen (p := (⟨g, k * 8 + 3, none⟩ : Addr)) hgl).trans (hgz (k * 8 + 3)); have e4_0 := (hb6.cell (p := (⟨g, k * 8 + 4, none⟩ : Addr)) hgl).trans d4; have z4_0 := (hb6.frozen (p := (⟨g, k * 8 + 4, none⟩ : Addr)) hgl).trans (hgz (k * 8 + 4)); have e5_0 := (hb6.cell (p := (⟨g, k * 8 + 5, none⟩ : Addr)) hgl).trans d5; have z5_0 := (hb6.frozen (p := (⟨g, k * 8 + 5, none⟩ : Addr)) hgl).trans (hgz (k * 8 + 5)); have e6_0 := (hb6.cell (p := (⟨g, k * 8 + 6, none⟩ : Addr)) hgl).trans d6; have z6_0 := (hb6.frozen (p := (⟨g, k * 8 + 6, none⟩ : Addr)) hgl).trans (hgz (k * 8 + 6)); have e7_0 := (hb6.cell (p := (⟨g, k * 8 + 7, none⟩ : Addr)) hgl).trans d7; have z7_0 := (hb6.frozen (p := (⟨g, k * 8 + 7, none⟩ : Addr)) hgl).trans (hgz (k * 8 + 7)); rw [Nat.add_zero] at e0_0 z0_0; clear hb6; rw [Nat.add_zero] at d0 y0; clear hgc hgz hown hbx)
  have HNM := hid (fun u hu => rnamed_any s (.slice Au s.al.length cu) name u hu (sm_of HINV.out HAL.out s (List.mem_of_getElem? HSK.out)) (sm_name HF.out))
  unfold stA at HNM
  rw [← HSN.out, HSO.out] at HNM
  have hb4 : Below w3.heap.size w3 (w3.alloc (.cells #[(.string (sB s.code)), (.string (sB s.town)), (.string (sB s.name)), (.slice Au s.al.length cu), (.int .i64 s.low), (.int .i64 s.high), (.int .i64 s.shift), (.bool true)] 44)) := b0 _ _
  refine (HNM.out _ ((IsW.on ⟨_, _, rfl, HAU.out⟩ HB3.out).on hb4)).mono ?_
  rintro e w8 ⟨rfl, hb8⟩
  obtain ⟨nm, hnm⟩ : ∃ b, b = named s name := ⟨_, rfl⟩
  rw [← hnm]
  have HNM2 := hid hnm
  have hb38 : Below w3.heap.size w3 w8 := bt hb4 hb8
  have HB38 := hid hb38
  have HB8 := hid hb8
  have h3 : w.heap.size < w3.heap.size := heap_lt HBX3.out
  have hb83 : (⟨w3.heap.size, 3, none⟩ : Addr).block ≠ (⟨w.heap.size, 5, none⟩ : Addr).block := by show w3.heap.size ≠ w.heap.size; omega
  have hx8 : w8.heap[w3.heap.size]? = some (.cells #[(.string (sB s.code)), (.string (sB s.town)), (.string (sB s.name)), (.slice Au s.al.length cu), (.int .i64 s.low), (.int .i64 s.high), (.int .i64 s.shift), (.bool true)] 44 (0, 0)) := (hb8.block _ (by rw [sz1]; omega)).trans (heap_new _ _)
  have hlt8 : w3.heap.size < w8.heap.size := heap_lt hx8
  have SK : Hid (∀ u, Below w8.heap.size w8 u → u.cell? ⟨w3.heap.size, 3, none⟩ = some (.slice Au s.al.length cu) ∧ u.cell? ⟨w.heap.size, 5, none⟩ = some (.string sn) ∧ u.frozen? ⟨w3.heap.size, 3, none⟩ = false ∧ u.heap[w3.heap.size]? = some (.cells #[(.string (sB s.code)), (.string (sB s.town)), (.string (sB s.name)), (.slice Au s.al.length cu), (.int .i64 s.low), (.int .i64 s.high), (.int .i64 s.shift), (.bool true)] 44 (0, 0))) := fun u hu => by
    have h1 := (hu.block _ hlt8).trans hx8
    have h2 := ((bt hb38 hu).block _ h3).trans HBX3.out
    refine ⟨by rw [cell_at h1]; rfl, by rw [cell_at h2]; rfl, free_at (i := 3) h1 rfl, h1⟩
  have HR8 : Hid (SlR w8 Au s.al.length cu 1 (s.al.map sV)) := (SlR.on HAU.out HB3.out).on hb38
  have HF7 : Hid (∀ w6 w7 A7 c7, w7 = w6.setCell ⟨w3.heap.size, 3, none⟩ (.slice A7 (s.al.length + 1) c7) → Below w8.heap.size w8 w6 → w6.ownsRow w8.heap.size 9 1 (.slice A7 (s.al.length + 1) c7) (s.al.length + 1) (s.al.map sV ++ [.string sn]) →
      (w7.cell? ⟨w3.heap.size, 0, none⟩ = some (.string (sB s.code)) ∧ w7.cell? ⟨w3.heap.size, 1, none⟩ = some (.string (sB s.town)) ∧ w7.cell? ⟨w3.heap.size, 2, none⟩ = some (.string (sB s.name)) ∧ w7.cell? ⟨w3.heap.size, 3, none⟩ = some (.slice A7 (s.al.length + 1) c7) ∧ w7.cell? ⟨w3.heap.size, 4, none⟩ = some (.int .i64 s.low) ∧ w7.cell? ⟨w3.heap.size, 5, none⟩ = some (.int .i64 s.high) ∧ w7.cell? ⟨w3.heap.size, 6, none⟩ = some (.int .i64 s.shift) ∧ w7.cell? ⟨w3.heap.size, 7, none⟩ = some (.bool true)) ∧
      (w7.cell? ⟨g, k * 8, none⟩ = some (.string (sB s.code)) ∧ w7.cell? ⟨g, k * 8 + 1, none⟩ = some (.string (sB s.town)) ∧ w7.cell? ⟨g, k * 8 + 2, none⟩ = some (.string (sB s.name)) ∧ w7.cell? ⟨g, k * 8 + 3, none⟩ = some (.slice Au s.al.length cu) ∧ w7.cell? ⟨g, k * 8 + 4, none⟩ = some (.int .i64 s.low) ∧ w7.cell? ⟨g, k * 8 + 5, none⟩ = some (.int .i64 s.high) ∧ w7.cell? ⟨g, k * 8 + 6, none⟩ = some (.int .i64 s.shift) ∧ w7.cell? ⟨g, k * 8 + 7, none⟩ = some (.bool true)) ∧
      (w7.frozen? ⟨g, k * 8, none⟩ = false ∧ w7.frozen? ⟨g, k * 8 + 1, none⟩ = false ∧ w7.frozen? ⟨g, k * 8 + 2, none⟩ = false ∧ w7.frozen? ⟨g, k * 8 + 3, none⟩ = false ∧ w7.frozen? ⟨g, k * 8 + 4, none⟩ = false ∧ w7.frozen? ⟨g, k * 8 + 5, none⟩ = false ∧ w7.frozen? ⟨g, k * 8 + 6, none⟩ = false ∧ w7.frozen? ⟨g, k * 8 + 7, none⟩ = false) ∧
      (Below w3.heap.size w3 w7 ∧ w7.ownsRow w8.heap.size 9 1 (.slice A7 (s.al.length + 1) c7) (s.al.length + 1) (s.al.map sV ++ [.string sn]))) := fun w6 w7 A7 c7 hw7 b6 hl6 => by
    have h1 := (SK.out _ b6).2.2.2
    have b7 : Below w3.heap.size w3 w7 := by rw [hw7]; exact (bt hb38 b6).setCell (Nat.le_refl _) _
    have hc : ∀ j v, w3.cell? ⟨g, k * 8 + j, none⟩ = some v → w7.cell? ⟨g, k * 8 + j, none⟩ = some v := fun j v h => (b7.cell (p := (⟨g, k * 8 + j, none⟩ : Addr)) hgl).trans h
    have hz : ∀ j, w3.frozen? ⟨g, k * 8 + j, none⟩ = false → w7.frozen? ⟨g, k * 8 + j, none⟩ = false := fun j h => (b7.frozen (p := (⟨g, k * 8 + j, none⟩ : Addr)) hgl).trans h
    refine ⟨?_, ⟨hc 0 _ d0, hc 1 _ d1, hc 2 _ d2, hc 3 _ d3, hc 4 _ d4, hc 5 _ d5, hc 6 _ d6, hc 7 _ d7⟩, ⟨hz 0 y0, hz 1 y1, hz 2 y2, hz 3 y3, hz 4 y4, hz 5 y5, hz 6 y6, hz 7 y7⟩, b7, ?_⟩
    · have h7 : w7.heap[w3.heap.size]? = some (.cells #[(.string (sB s.code)), (.string (sB s.town)), (.string (sB s.name)), (.slice A7 (s.al.length + 1) c7), (.int .i64 s.low), (.int .i64 s.high), (.int .i64 s.shift), (.bool true)] 44 (0, 0)) := by rw [hw7]; exact set_blk h1 3 _
      refine ⟨?_, ?_, ?_, ?_, ?_, ?_, ?_, ?_⟩ <;> (rw [cell_at h7]; rfl)
    · refine own_same hl6 fun q hq => ?_
      have := (hl6.lt q hq).1
      rw [hw7, Below.heap_setCell _ _ _ _ (by show q ≠ w3.heap.size; omega)]
  obtain ⟨rr, hrr⟩ : ∃ r, r = clashAt (l.set k (⟨s.code, s.town, s.name, s.al ++ [name], s.low, s.high, s.shift, true⟩ : St)) k := ⟨_, rfl⟩
  have HRR := hid hrr
  have HTL : Hid (∀ w7 A7 c7 W, W = (((((((w7.setCell ⟨g, k * 8, none⟩ (.string (sB s.code))).setCell ⟨g, k * 8 + 1, none⟩ (.string (sB s.town))).setCell ⟨g, k * 8 + 2, none⟩ (.string (sB s.name))).setCell ⟨g, k * 8 + 3, none⟩ (.slice A7 (s.al.length + 1) c7)).setCell ⟨g, k * 8 + 4, none⟩ (.int .i64 s.low)).setCell ⟨g, k * 8 + 5, none⟩ (.int .i64 s.high)).setCell ⟨g, k * 8 + 6, none⟩ (.int .i64 s.shift)).setCell ⟨g, k * 8 + 7, none⟩ (.bool true) → Below w3.heap.size w3 w7 ∧ w7.ownsRow w8.heap.size 9 1 (.slice A7 (s.al.length + 1) c7) (s.al.length + 1) (s.al.map sV ++ [.string sn]) →
      Calls Tryz.prog 64 #[.slice (some ⟨g, 0, none⟩) ln c1, .int .i64 (k : Int)] W fun e w9 => e = .returned (.bool rr) ∧ Below w.heap.size w w9 ∧ (rr = false → named s name = false → MPost l (⟨day, 5, (k : Int), code, town, name, low, high, shift⟩ : Ch) w (.returned (.tuple #[.slice (some ⟨g, 0, none⟩) ln c1, .int .i64 0])) w9)) := fun w7 A7 c7 W hW hq => by
    have hown : w7.ownsRow (w.heap.size + 1) 44 8 (.slice (some ⟨g, 0, none⟩) l.length c1) l.length (cellsS l vs) := by
      rw [← HLN.out]
      exact own_same HOWN.out fun q hq2 => hq.1.block _ ((HOWN.out.lt q hq2).2)
    have hbw7 : Below w.heap.size w w7 := bt HB3.out hq.1
    obtain ⟨hsts, hbW⟩ := make_sts (s' := (⟨s.code, s.town, s.name, s.al ++ [name], s.low, s.high, s.shift, true⟩ : St)) (u' := .slice A7 (s.al.length + 1) c7) hown (by have := HGB.out; omega) HVL.out HSK.out HUK.out hW hbw7 (fun i s u _ hs hu => HA0.out i s u hs hu) (fun _ hg => by
      have h := own_same hq.2 (w' := W) fun q hq2 => hg.block q ((hq.2.lt q hq2).2) (fun e => by have e2 := Option.some.inj e; have := (hq.2.lt q hq2).1; omega)
      refine IsW.of_own (B := w8.heap.size) (e := 9) ?_
      rw [List.length_append, List.map_append]
      rw [HSN.out] at h
      exact h)
    rw [← HLN.out] at hsts
    have hchg : chg (⟨day, 5, (k : Int), code, town, name, low, high, shift⟩ : Ch) s = (⟨s.code, s.town, s.name, s.al ++ [name], s.low, s.high, s.shift, true⟩ : St) := by
      show (⟨s.code, s.town, s.name, s.al ++ [name], s.low, s.high, s.shift, s.isOpen⟩ : St) = _
      rw [HSO.out]
    have hstp : stp l (⟨day, 5, (k : Int), code, town, name, low, high, shift⟩ : Ch) = l.set k (⟨s.code, s.town, s.name, s.al ++ [name], s.low, s.high, s.shift, true⟩ : St) := by
      unfold stp
      rw [if_neg (by show ¬ (5 : Int) = 1; decide)]
      show (match l[(k : Int).toNat]? with | some s => l.set (k : Int).toNat (chg (⟨day, 5, (k : Int), code, town, name, low, high, shift⟩ : Ch) s) | none => l) = _
      rw [show (k : Int).toNat = k from rfl, HSK.out]
      show l.set k (chg (⟨day, 5, (k : Int), code, town, name, low, high, shift⟩ : Ch) s) = _
      rw [hchg]
    have htrg : trg l (⟨day, 5, (k : Int), code, town, name, low, high, shift⟩ : Ch) = k := rfl
    have hsn2 : SmS (⟨s.code, s.town, s.name, s.al ++ [name], s.low, s.high, s.shift, true⟩ : St) := by
      rw [← hchg]
      exact sm_chg HF.out (sm_of HINV.out HAL.out s (List.mem_of_getElem? HSK.out)) hal9
    refine (CL (l.set k (⟨s.code, s.town, s.name, s.al ++ [name], s.low, s.high, s.shift, true⟩ : St)) _ _ k _ hsts (by rw [List.length_set, ← HLN.out]; omega) (by rw [List.length_set, ← HLN.out]; exact hkl) (sm_set (n := k) (sm_of HINV.out HAL.out) hsn2)).mono ?_
    rintro e w9 ⟨rfl, hb9⟩
    have hb10 := bt hbW hb9
    exact ⟨by rw [HRR.out], hb10, fun hr0 hn0 => ⟨_, _, rfl, hb10, fun _ => ⟨⟨(formed_iff _).2 HF.out, fun _ => ⟨hk0, s, HSK.out, HSO.out⟩, (fun q => absurd q (by show ¬ (5 : Int) = 4; decide)), (fun _ s2 hs2 => by cases (HSK.out.symm.trans hs2); exact hn0), by rw [hstp, htrg, ← HRR.out]; exact hr0⟩, _, by rw [hstp]; exact hsts.on hb9⟩⟩⟩
  clear hnm hrr hb4 hb8 hb38 hx8 HNM d0 d1 d2 d3 d4 d5 d6 d7 y0 y1 y2 y3 y4 y5 y6 y7 hcx hcx0 e0_0 e1_0 e2_0 e3_0 e4_0 e5_0 e6_0 e7_0 z0_0 z1_0 z2_0 z3_0 z4_0 z5_0 z6_0 z7_0
  cases nm
  case true =>
    go_wp2
    go_ret2
    exact ⟨_, _, rfl, bt HB3.out HB38.out, fun q => absurd q (by decide)⟩
  have HN0 : Hid (named s name = false) := HNM2.out.symm
  go_wp2_with fail
  refine wp_region_held_drew (S := fun w' => w'.cell? ⟨w.heap.size, 5, none⟩ = some (.string sn)) (by kernel_rfl) (SK.out _ (Below.refl _ _).drew).2.1 (fun hHeld => ?_)
  obtain ⟨wd, hwd⟩ : ∃ u, u = w8.drew := ⟨_, rfl⟩
  have bd : Below w8.heap.size w8 wd := by rw [hwd]; exact (Below.refl _ _).drew
  rw [← hwd] at hHeld ⊢
  clear hwd
  refine wpAnyH_take (i := 1) (oi := ⟨some 118, _, _, _, _, _⟩) (v := .pointer (some ⟨w3.heap.size, 3, none⟩)) rfl (by kernel_rfl) (by kernel_rfl) (by kernel_rfl) (fun _ _ _ h => h) (Or.inl ⟨by rfl, ?_⟩) hHeld ?_
  · intro u hu
    go_simp
  try simp only [Act.put, List.setIfInBounds_toArray, List.set_cons_zero, List.set_cons_succ]
  refine wpAnyH_take (i := 4) (oi := ⟨some 121, _, _, _, _, _⟩) (v := .pointer (some ⟨w.heap.size, 5, none⟩)) rfl (by kernel_rfl) (by kernel_rfl) (by kernel_rfl) (fun _ _ _ h => h) (Or.inl ⟨by rfl, ?_⟩) hHeld ?_
  · intro u hu
    go_simp
  try simp only [Act.put, List.setIfInBounds_toArray, List.set_cons_zero, List.set_cons_succ]
  refine wpAnyH_take (i := 5) (oi := ⟨some 122, _, _, _, _, _⟩) (v := .string sn) rfl (by kernel_rfl) (by kernel_rfl) (by kernel_rfl) (fun _ _ _ h => h) (Or.inl ⟨by rfl, ?_⟩) hHeld ?_
  · intro u hu
    go_simp
  try simp only [Act.put, List.setIfInBounds_toArray, List.set_cons_zero, List.set_cons_succ]
  refine wpAnyH_ready (rs := [0, 2, 6]) (by kernel_rfl) (by simp) ?_
  refine AllReadyH.cons (o := ⟨some 117, _, _, _, _, _⟩) rfl (fun K hK => ?_) ?_
  · obtain ⟨w_1, hw_1⟩ : ∃ u, u = wd.alloc (.cells #[] 9) := ⟨_, rfl⟩
    obtain ⟨N, hN⟩ : ∃ N, N = wd.heap.size := ⟨_, rfl⟩
    have b_1 : Below w8.heap.size w8 w_1 := by rw [hw_1]; exact bd.alloc bd.size _
    have HN : Hid (w_1.ownsRow w8.heap.size 9 1 (.slice (some ⟨N, 0, none⟩) 0 0) 0 []) := by show World.ownsRow _ _ _ _ _ _ _; rw [hw_1]; exact own_empty2 wd _ _ 1 (by rw [hN]; exact bd.size) hN _
    go_simp
    rw [← hw_1, ← hN]
    clear hw_1 hN
    refine hK.out _ _ (SK.out _ b_1).2.1 (fun hHeld => ?_)
    clear hK K
    try simp only [Act.put, List.setIfInBounds_toArray, List.set_cons_zero, List.set_cons_succ]
    refine wpAnyH_ready (rs := [2, 6]) (by kernel_rfl) (by simp) ?_
    refine AllReadyH.cons (o := ⟨some 119, _, _, _, _, _⟩) rfl (fun K hK => ?_) ?_
    · obtain ⟨c3, -⟩ := SK.out _ b_1
      go_simp
      clear c3
      refine hK.out _ _ (SK.out _ b_1).2.1 (fun hHeld => ?_)
      clear hK K
      try simp only [Act.put, List.setIfInBounds_toArray, List.set_cons_zero, List.set_cons_succ]
      refine wpAnyH_ready (rs := [3, 6]) (by kernel_rfl) (by simp) ?_
      refine AllReadyH.cons (o := ⟨some 120, _, _, _, _, _⟩) rfl (fun K hK => ?_) ?_
      · refine step_app_gen rfl (.tmp 117) (.tmp 119) 42 rfl 9 j0 _ 1 16 Tryz.underlying42 hj0 hy0 hy1 hy2 rfl (by decide) w8.heap.size 0 (.slice (some ⟨N, 0, none⟩) 0 0) [] rfl HN.out b_1.size Au s.al.length cu (s.al.map sV) rfl (HR8.out.on b_1) (one_strs _) (by omega) (by decide) ?_
        intro v9 w_3 HGo hgrow
        rw [Nat.zero_add, List.nil_append] at HGo
        obtain ⟨A9, c9, rfl⟩ := own_shape HGo
        have HG := hid HGo
        have b_3 : Below w8.heap.size w8 w_3 := Below.grown b_1 hgrow b_1.size (fun j e => by cases e; exact (HN.out.lt N rfl).1)
        clear HN hgrow HGo
        refine hK.out _ _ (SK.out _ b_3).2.1 (fun hHeld => ?_)
        clear hK K
        try simp only [Act.put, List.setIfInBounds_toArray, List.set_cons_zero, List.set_cons_succ]
        refine wpAnyH_ready (rs := [6]) (by kernel_rfl) (by simp) ?_
        refine AllReadyH.cons (o := ⟨some 123, _, _, _, _, _⟩) rfl (fun K hK => ?_) AllReadyH.nil
        obtain ⟨w_4, hw_4⟩ : ∃ u, u = w_3.alloc (.cells #[.string sn] 9) := ⟨_, rfl⟩
        obtain ⟨X, hX⟩ : ∃ X, X = w_3.heap.size := ⟨_, rfl⟩
        have b_4 : Below w8.heap.size w8 w_4 := by rw [hw_4]; exact b_3.alloc b_3.size _
        have HX : Hid (w_4.cell? ⟨X, 0, none⟩ = some (.string sn)) := by show _ = _; rw [hw_4, hX]; exact cell_of_row _ _ 0 _ _ _ (heap_new w_3 _)
        have hXs : X < w_4.heap.size := by rw [hw_4, hX, sz1]; omega
        have HG := hid (by have := HG.out.alloc (.cells #[.string sn] 9); rwa [← hw_4] at this : w_4.ownsRow w8.heap.size 9 1 (.slice A9 s.al.length c9) s.al.length (s.al.map sV))
        go_simp
        rw [← hw_4, ← hX]
        clear hw_4 hX
        refine hK.out _ _ (SK.out _ b_4).2.1 (fun hHeld => ?_)
        clear hK K
        try simp only [Act.put, List.setIfInBounds_toArray, List.set_cons_zero, List.set_cons_succ]
        refine wpAnyH_ready (rs := [7]) (by kernel_rfl) (by simp) ?_
        refine AllReadyH.cons (o := ⟨some 124, _, _, _, _, _⟩) rfl (fun K hK => ?_) AllReadyH.nil
        refine step_app_gen rfl (.tmp 120) (.tmp 123) 42 rfl 9 j0 _ 1 16 Tryz.underlying42 hj0 hy0 hy1 hy2 rfl (by decide) w8.heap.size s.al.length (.slice A9 s.al.length c9) (s.al.map sV) rfl HG.out b_4.size (some ⟨X, 0, none⟩) 1 1 [.string sn] rfl (slr_one HX.out hXs) (by simp [Value.oneCell']) (by omega) (by decide) ?_
        intro v6 w6 hown6 hgrow6
        obtain ⟨A7, c7, rfl⟩ := own_shape hown6
        have b6 : Below w8.heap.size w8 w6 := Below.grown b_4 hgrow6 b_4.size (fun j e => (HG.out.lt j e).1)
        have HL6 := hid hown6
        clear hown6 hgrow6
        refine hK.out _ _ (SK.out _ b6).2.1 (fun hHeld => ?_)
        clear hK K
        try simp only [Act.put, List.setIfInBounds_toArray, List.set_cons_zero, List.set_cons_succ]
        refine wpAnyH_take (i := 8) (oi := ⟨some 125, _, _, _, _, _⟩) (v := .pointer (some ⟨w3.heap.size, 3, none⟩)) rfl (by kernel_rfl) (by kernel_rfl) (by kernel_rfl) (fun _ _ _ h => h) (Or.inl ⟨by rfl, ?_⟩) hHeld ?_
        · intro u hu
          go_simp
        try simp only [Act.put, List.setIfInBounds_toArray, List.set_cons_zero, List.set_cons_succ]
        refine wpAnyH_ready (rs := [9]) (by kernel_rfl) (by simp) ?_
        refine AllReadyH.cons (o := ⟨none, _, _, _, _, _⟩) rfl (fun K hK => ?_) AllReadyH.nil
        obtain ⟨c3, c5, z3, -⟩ := SK.out _ b6
        go_simp
        refine hK.out _ _ (by rw [World.cell?_setCell_far _ _ _ _ hb83]; exact c5) (fun hHeld => ?_)
        clear hK K c3 c5 z3
        try simp only [Act.put, List.setIfInBounds_toArray, List.set_cons_zero, List.set_cons_succ]
        refine wpAnyH_done (by kernel_rfl) ?_ _
        clear hHeld
        obtain ⟨w7, hw7⟩ : ∃ u, u = w6.setCell ⟨w3.heap.size, 3, none⟩ (.slice A7 (s.al.length + 1) c7) := ⟨_, rfl⟩
        rw [← hw7]
        have FIN := hid (HF7.out w6 w7 A7 c7 hw7 b6 HL6.out)
        obtain ⟨f0, f1, f2, f3, f4, f5, f6, f7⟩ := FIN.out.1
        obtain ⟨d0, d1, d2, d3, d4, d5, d6, d7⟩ := FIN.out.2.1
        obtain ⟨y0, y1, y2, y3, y4, y5, y6, y7⟩ := FIN.out.2.2.1
        clear hw7
        go_wp2_with fail
        refine (HTL.out w7 A7 c7 _ rfl FIN.out.2.2.2).mono ?_
        rintro e w9 ⟨rfl, hb9, hp⟩
        have HB9 := hid hb9
        have HP := hid hp
        clear hb9 hp
        cases rr
        · have HQ := hid (HP.out rfl HN0.out)
          clear HP
          go_wp2
          go_ret2
          exact HQ.out
        · go_wp2
          go_ret2
          exact ⟨_, _, rfl, HB9.out, fun q => absurd q (by decide)⟩
      refine AllReadyH.cons (o := ⟨some 123, _, _, _, _, _⟩) rfl (fun K hK => ?_) AllReadyH.nil
      obtain ⟨w_5, hw_5⟩ : ∃ u, u = w_1.alloc (.cells #[.string sn] 9) := ⟨_, rfl⟩
      obtain ⟨X, hX⟩ : ∃ X, X = w_1.heap.size := ⟨_, rfl⟩
      have b_5 : Below w8.heap.size w8 w_5 := by rw [hw_5]; exact b_1.alloc b_1.size _
      have HX : Hid (w_5.cell? ⟨X, 0, none⟩ = some (.string sn)) := by show _ = _; rw [hw_5, hX]; exact cell_of_row _ _ 0 _ _ _ (heap_new w_1 _)
      have hXs : X < w_5.heap.size := by rw [hw_5, hX, sz1]; omega
      have hNX : X ≠ N := by have := (HN.out.lt N rfl).2; omega
      have HN := hid (by have := HN.out.alloc (.cells #[.string sn] 9); rwa [← hw_5] at this : w_5.ownsRow w8.heap.size 9 1 (.slice (some ⟨N, 0, none⟩) 0 0) 0 [])
      go_simp
      rw [← hw_5, ← hX]
      clear hw_5 hX
      refine hK.out _ _ (SK.out _ b_5).2.1 (fun hHeld => ?_)
      clear hK K
      try simp only [Act.put, List.setIfInBounds_toArray, List.set_cons_zero, List.set_cons_succ]
      refine wpAnyH_ready (rs := [3]) (by kernel_rfl) (by simp) ?_
      refine AllReadyH.cons (o := ⟨some 120, _, _, _, _, _⟩) rfl (fun K hK => ?_) AllReadyH.nil
      refine step_app_gen rfl (.tmp 117) (.tmp 119) 42 rfl 9 j0 _ 1 16 Tryz.underlying42 hj0 hy0 hy1 hy2 rfl (by decide) w8.heap.size 0 (.slice (some ⟨N, 0, none⟩) 0 0) [] rfl HN.out b_5.size Au s.al.length cu (s.al.map sV) rfl (HR8.out.on b_5) (one_strs _) (by omega) (by decide) ?_
      intro v9 w_6 HGo hgrow
      rw [Nat.zero_add, List.nil_append] at HGo
      obtain ⟨A9, c9, rfl⟩ := own_shape HGo
      have HG := hid HGo
      have b_6 : Below w8.heap.size w8 w_6 := Below.grown b_5 hgrow b_5.size (fun j e => by cases e; exact (HN.out.lt N rfl).1)
      have HX := hid ((hgrow.cell_far ⟨X, 0, none⟩ hXs (fun e => hNX (by cases e; rfl))).trans HX.out)
      have hXs : X < w_6.heap.size := Nat.lt_of_lt_of_le hXs hgrow.size
      clear hNX
      clear HN hgrow HGo
      refine hK.out _ _ (SK.out _ b_6).2.1 (fun hHeld => ?_)
      clear hK K
      try simp only [Act.put, List.setIfInBounds_toArray, List.set_cons_zero, List.set_cons_succ]
      refine wpAnyH_ready (rs := [7]) (by kernel_rfl) (by simp) ?_
      refine AllReadyH.cons (o := ⟨some 124, _, _, _, _, _⟩) rfl (fun K hK => ?_) AllReadyH.nil
      refine step_app_gen rfl (.tmp 120) (.tmp 123) 42 rfl 9 j0 _ 1 16 Tryz.underlying42 hj0 hy0 hy1 hy2 rfl (by decide) w8.heap.size s.al.length (.slice A9 s.al.length c9) (s.al.map sV) rfl HG.out b_6.size (some ⟨X, 0, none⟩) 1 1 [.string sn] rfl (slr_one HX.out hXs) (by simp [Value.oneCell']) (by omega) (by decide) ?_
      intro v6 w6 hown6 hgrow6
      obtain ⟨A7, c7, rfl⟩ := own_shape hown6
      have b6 : Below w8.heap.size w8 w6 := Below.grown b_6 hgrow6 b_6.size (fun j e => (HG.out.lt j e).1)
      have HL6 := hid hown6
      clear hown6 hgrow6
      refine hK.out _ _ (SK.out _ b6).2.1 (fun hHeld => ?_)
      clear hK K
      try simp only [Act.put, List.setIfInBounds_toArray, List.set_cons_zero, List.set_cons_succ]
      refine wpAnyH_take (i := 8) (oi := ⟨some 125, _, _, _, _, _⟩) (v := .pointer (some ⟨w3.heap.size, 3, none⟩)) rfl (by kernel_rfl) (by kernel_rfl) (by kernel_rfl) (fun _ _ _ h => h) (Or.inl ⟨by rfl, ?_⟩) hHeld ?_
      · intro u hu
        go_simp
      try simp only [Act.put, List.setIfInBounds_toArray, List.set_cons_zero, List.set_cons_succ]
      refine wpAnyH_ready (rs := [9]) (by kernel_rfl) (by simp) ?_
      refine AllReadyH.cons (o := ⟨none, _, _, _, _, _⟩) rfl (fun K hK => ?_) AllReadyH.nil
      obtain ⟨c3, c5, z3, -⟩ := SK.out _ b6
      go_simp
      refine hK.out _ _ (by rw [World.cell?_setCell_far _ _ _ _ hb83]; exact c5) (fun hHeld => ?_)
      clear hK K c3 c5 z3
      try simp only [Act.put, List.setIfInBounds_toArray, List.set_cons_zero, List.set_cons_succ]
      refine wpAnyH_done (by kernel_rfl) ?_ _
      clear hHeld
      obtain ⟨w7, hw7⟩ : ∃ u, u = w6.setCell ⟨w3.heap.size, 3, none⟩ (.slice A7 (s.al.length + 1) c7) := ⟨_, rfl⟩
      rw [← hw7]
      have FIN := hid (HF7.out w6 w7 A7 c7 hw7 b6 HL6.out)
      obtain ⟨f0, f1, f2, f3, f4, f5, f6, f7⟩ := FIN.out.1
      obtain ⟨d0, d1, d2, d3, d4, d5, d6, d7⟩ := FIN.out.2.1
      obtain ⟨y0, y1, y2, y3, y4, y5, y6, y7⟩ := FIN.out.2.2.1
      clear hw7
      go_wp2_with fail
      refine (HTL.out w7 A7 c7 _ rfl FIN.out.2.2.2).mono ?_
      rintro e w9 ⟨rfl, hb9, hp⟩
      have HB9 := hid hb9
      have HP := hid hp
      clear hb9 hp
      cases rr
      · have HQ := hid (HP.out rfl HN0.out)
        clear HP
        go_wp2
        go_ret2
        exact HQ.out
      · go_wp2
        go_ret2
        exact ⟨_, _, rfl, HB9.out, fun q => absurd q (by decide)⟩
    refine AllReadyH.cons (o := ⟨some 123, _, _, _, _, _⟩) rfl (fun K hK => ?_) AllReadyH.nil
    obtain ⟨w_7, hw_7⟩ : ∃ u, u = w_1.alloc (.cells #[.string sn] 9) := ⟨_, rfl⟩
    obtain ⟨X, hX⟩ : ∃ X, X = w_1.heap.size := ⟨_, rfl⟩
    have b_7 : Below w8.heap.size w8 w_7 := by rw [hw_7]; exact b_1.alloc b_1.size _
    have HX : Hid (w_7.cell? ⟨X, 0, none⟩ = some (.string sn)) := by show _ = _; rw [hw_7, hX]; exact cell_of_row _ _ 0 _ _ _ (heap_new w_1 _)
    have hXs : X < w_7.heap.size := by rw [hw_7, hX, sz1]; omega
    have hNX : X ≠ N := by have := (HN.out.lt N rfl).2; omega
    have HN := hid (by have := HN.out.alloc (.cells #[.string sn] 9); rwa [← hw_7] at this : w_7.ownsRow w8.heap.size 9 1 (.slice (some ⟨N, 0, none⟩) 0 0) 0 [])
    go_simp
    rw [← hw_7, ← hX]
    clear hw_7 hX
    refine hK.out _ _ (SK.out _ b_7).2.1 (fun hHeld => ?_)
    clear hK K
    try simp only [Act.put, List.setIfInBounds_toArray, List.set_cons_zero, List.set_cons_succ]
    refine wpAnyH_ready (rs := [2]) (by kernel_rfl) (by simp) ?_
    refine AllReadyH.cons (o := ⟨some 119, _, _, _, _, _⟩) rfl (fun K hK => ?_) AllReadyH.nil
    obtain ⟨c3, -⟩ := SK.out _ b_7
    go_simp
    clear c3
    refine hK.out _ _ (SK.out _ b_7).2.1 (fun hHeld => ?_)
    clear hK K
    try simp only [Act.put, List.setIfInBounds_toArray, List.set_cons_zero, List.set_cons_succ]
    refine wpAnyH_ready (rs := [3]) (by kernel_rfl) (by simp) ?_
    refine AllReadyH.cons (o := ⟨some 120, _, _, _, _, _⟩) rfl (fun K hK => ?_) AllReadyH.nil
    refine step_app_gen rfl (.tmp 117) (.tmp 119) 42 rfl 9 j0 _ 1 16 Tryz.underlying42 hj0 hy0 hy1 hy2 rfl (by decide) w8.heap.size 0 (.slice (some ⟨N, 0, none⟩) 0 0) [] rfl HN.out b_7.size Au s.al.length cu (s.al.map sV) rfl (HR8.out.on b_7) (one_strs _) (by omega) (by decide) ?_
    intro v9 w_9 HGo hgrow
    rw [Nat.zero_add, List.nil_append] at HGo
    obtain ⟨A9, c9, rfl⟩ := own_shape HGo
    have HG := hid HGo
    have b_9 : Below w8.heap.size w8 w_9 := Below.grown b_7 hgrow b_7.size (fun j e => by cases e; exact (HN.out.lt N rfl).1)
    have HX := hid ((hgrow.cell_far ⟨X, 0, none⟩ hXs (fun e => hNX (by cases e; rfl))).trans HX.out)
    have hXs : X < w_9.heap.size := Nat.lt_of_lt_of_le hXs hgrow.size
    clear hNX
    clear HN hgrow HGo
    refine hK.out _ _ (SK.out _ b_9).2.1 (fun hHeld => ?_)
    clear hK K
    try simp only [Act.put, List.setIfInBounds_toArray, List.set_cons_zero, List.set_cons_succ]
    refine wpAnyH_ready (rs := [7]) (by kernel_rfl) (by simp) ?_
    refine AllReadyH.cons (o := ⟨some 124, _, _, _, _, _⟩) rfl (fun K hK => ?_) AllReadyH.nil
    refine step_app_gen rfl (.tmp 120) (.tmp 123) 42 rfl 9 j0 _ 1 16 Tryz.underlying42 hj0 hy0 hy1 hy2 rfl (by decide) w8.heap.size s.al.length (.slice A9 s.al.length c9) (s.al.map sV) rfl HG.out b_9.size (some ⟨X, 0, none⟩) 1 1 [.string sn] rfl (slr_one HX.out hXs) (by simp [Value.oneCell']) (by omega) (by decide) ?_
    intro v6 w6 hown6 hgrow6
    obtain ⟨A7, c7, rfl⟩ := own_shape hown6
    have b6 : Below w8.heap.size w8 w6 := Below.grown b_9 hgrow6 b_9.size (fun j e => (HG.out.lt j e).1)
    have HL6 := hid hown6
    clear hown6 hgrow6
    refine hK.out _ _ (SK.out _ b6).2.1 (fun hHeld => ?_)
    clear hK K
    try simp only [Act.put, List.setIfInBounds_toArray, List.set_cons_zero, List.set_cons_succ]
    refine wpAnyH_take (i := 8) (oi := ⟨some 125, _, _, _, _, _⟩) (v := .pointer (some ⟨w3.heap.size, 3, none⟩)) rfl (by kernel_rfl) (by kernel_rfl) (by kernel_rfl) (fun _ _ _ h => h) (Or.inl ⟨by rfl, ?_⟩) hHeld ?_
    · intro u hu
      go_simp
    try simp only [Act.put, List.setIfInBounds_toArray, List.set_cons_zero, List.set_cons_succ]
    refine wpAnyH_ready (rs := [9]) (by kernel_rfl) (by simp) ?_
    refine AllReadyH.cons (o := ⟨none, _, _, _, _, _⟩) rfl (fun K hK => ?_) AllReadyH.nil
    obtain ⟨c3, c5, z3, -⟩ := SK.out _ b6
    go_simp
    refine hK.out _ _ (by rw [World.cell?_setCell_far _ _ _ _ hb83]; exact c5) (fun hHeld => ?_)
    clear hK K c3 c5 z3
    try simp only [Act.put, List.setIfInBounds_toArray, List.set_cons_zero, List.set_cons_succ]
    refine wpAnyH_done (by kernel_rfl) ?_ _
    clear hHeld
    obtain ⟨w7, hw7⟩ : ∃ u, u = w6.setCell ⟨w3.heap.size, 3, none⟩ (.slice A7 (s.al.length + 1) c7) := ⟨_, rfl⟩
    rw [← hw7]
    have FIN := hid (HF7.out w6 w7 A7 c7 hw7 b6 HL6.out)
    obtain ⟨f0, f1, f2, f3, f4, f5, f6, f7⟩ := FIN.out.1
    obtain ⟨d0, d1, d2, d3, d4, d5, d6, d7⟩ := FIN.out.2.1
    obtain ⟨y0, y1, y2, y3, y4, y5, y6, y7⟩ := FIN.out.2.2.1
    clear hw7
    go_wp2_with fail
    refine (HTL.out w7 A7 c7 _ rfl FIN.out.2.2.2).mono ?_
    rintro e w9 ⟨rfl, hb9, hp⟩
    have HB9 := hid hb9
    have HP := hid hp
    clear hb9 hp
    cases rr
    · have HQ := hid (HP.out rfl HN0.out)
      clear HP
      go_wp2
      go_ret2
      exact HQ.out
    · go_wp2
      go_ret2
      exact ⟨_, _, rfl, HB9.out, fun q => absurd q (by decide)⟩
  refine AllReadyH.cons (o := ⟨some 119, _, _, _, _, _⟩) rfl (fun K hK => ?_) ?_
  · obtain ⟨c3, -⟩ := SK.out _ bd
    go_simp
    clear c3
    refine hK.out _ _ (SK.out _ bd).2.1 (fun hHeld => ?_)
    clear hK K
    try simp only [Act.put, List.setIfInBounds_toArray, List.set_cons_zero, List.set_cons_succ]
    refine wpAnyH_ready (rs := [0, 6]) (by kernel_rfl) (by simp) ?_
    refine AllReadyH.cons (o := ⟨some 117, _, _, _, _, _⟩) rfl (fun K hK => ?_) ?_
    · obtain ⟨w_11, hw_11⟩ : ∃ u, u = wd.alloc (.cells #[] 9) := ⟨_, rfl⟩
      obtain ⟨N, hN⟩ : ∃ N, N = wd.heap.size := ⟨_, rfl⟩
      have b_11 : Below w8.heap.size w8 w_11 := by rw [hw_11]; exact bd.alloc bd.size _
      have HN : Hid (w_11.ownsRow w8.heap.size 9 1 (.slice (some ⟨N, 0, none⟩) 0 0) 0 []) := by show World.ownsRow _ _ _ _ _ _ _; rw [hw_11]; exact own_empty2 wd _ _ 1 (by rw [hN]; exact bd.size) hN _
      go_simp
      rw [← hw_11, ← hN]
      clear hw_11 hN
      refine hK.out _ _ (SK.out _ b_11).2.1 (fun hHeld => ?_)
      clear hK K
      try simp only [Act.put, List.setIfInBounds_toArray, List.set_cons_zero, List.set_cons_succ]
      refine wpAnyH_ready (rs := [3, 6]) (by kernel_rfl) (by simp) ?_
      refine AllReadyH.cons (o := ⟨some 120, _, _, _, _, _⟩) rfl (fun K hK => ?_) ?_
      · refine step_app_gen rfl (.tmp 117) (.tmp 119) 42 rfl 9 j0 _ 1 16 Tryz.underlying42 hj0 hy0 hy1 hy2 rfl (by decide) w8.heap.size 0 (.slice (some ⟨N, 0, none⟩) 0 0) [] rfl HN.out b_11.size Au s.al.length cu (s.al.map sV) rfl (HR8.out.on b_11) (one_strs _) (by omega) (by decide) ?_
        intro v9 w_12 HGo hgrow
        rw [Nat.zero_add, List.nil_append] at HGo
        obtain ⟨A9, c9, rfl⟩ := own_shape HGo
        have HG := hid HGo
        have b_12 : Below w8.heap.size w8 w_12 := Below.grown b_11 hgrow b_11.size (fun j e => by cases e; exact (HN.out.lt N rfl).1)
        clear HN hgrow HGo
        refine hK.out _ _ (SK.out _ b_12).2.1 (fun hHeld => ?_)
        clear hK K
        try simp only [Act.put, List.setIfInBounds_toArray, List.set_cons_zero, List.set_cons_succ]
        refine wpAnyH_ready (rs := [6]) (by kernel_rfl) (by simp) ?_
        refine AllReadyH.cons (o := ⟨some 123, _, _, _, _, _⟩) rfl (fun K hK => ?_) AllReadyH.nil
        obtain ⟨w_13, hw_13⟩ : ∃ u, u = w_12.alloc (.cells #[.string sn] 9) := ⟨_, rfl⟩
        obtain ⟨X, hX⟩ : ∃ X, X = w_12.heap.size := ⟨_, rfl⟩
        have b_13 : Below w8.heap.size w8 w_13 := by rw [hw_13]; exact b_12.alloc b_12.size _
        have HX : Hid (w_13.cell? ⟨X, 0, none⟩ = some (.string sn)) := by show _ = _; rw [hw_13, hX]; exact cell_of_row _ _ 0 _ _ _ (heap_new w_12 _)
        have hXs : X < w_13.heap.size := by rw [hw_13, hX, sz1]; omega
        have HG := hid (by have := HG.out.alloc (.cells #[.string sn] 9); rwa [← hw_13] at this : w_13.ownsRow w8.heap.size 9 1 (.slice A9 s.al.length c9) s.al.length (s.al.map sV))
        go_simp
        rw [← hw_13, ← hX]
        clear hw_13 hX
        refine hK.out _ _ (SK.out _ b_13).2.1 (fun hHeld => ?_)
        clear hK K
        try simp only [Act.put, List.setIfInBounds_toArray, List.set_cons_zero, List.set_cons_succ]
        refine wpAnyH_ready (rs := [7]) (by kernel_rfl) (by simp) ?_
        refine AllReadyH.cons (o := ⟨some 124, _, _, _, _, _⟩) rfl (fun K hK => ?_) AllReadyH.nil
        refine step_app_gen rfl (.tmp 120) (.tmp 123) 42 rfl 9 j0 _ 1 16 Tryz.underlying42 hj0 hy0 hy1 hy2 rfl (by decide) w8.heap.size s.al.length (.slice A9 s.al.length c9) (s.al.map sV) rfl HG.out b_13.size (some ⟨X, 0, none⟩) 1 1 [.string sn] rfl (slr_one HX.out hXs) (by simp [Value.oneCell']) (by omega) (by decide) ?_
        intro v6 w6 hown6 hgrow6
        obtain ⟨A7, c7, rfl⟩ := own_shape hown6
        have b6 : Below w8.heap.size w8 w6 := Below.grown b_13 hgrow6 b_13.size (fun j e => (HG.out.lt j e).1)
        have HL6 := hid hown6
        clear hown6 hgrow6
        refine hK.out _ _ (SK.out _ b6).2.1 (fun hHeld => ?_)
        clear hK K
        try simp only [Act.put, List.setIfInBounds_toArray, List.set_cons_zero, List.set_cons_succ]
        refine wpAnyH_take (i := 8) (oi := ⟨some 125, _, _, _, _, _⟩) (v := .pointer (some ⟨w3.heap.size, 3, none⟩)) rfl (by kernel_rfl) (by kernel_rfl) (by kernel_rfl) (fun _ _ _ h => h) (Or.inl ⟨by rfl, ?_⟩) hHeld ?_
        · intro u hu
          go_simp
        try simp only [Act.put, List.setIfInBounds_toArray, List.set_cons_zero, List.set_cons_succ]
        refine wpAnyH_ready (rs := [9]) (by kernel_rfl) (by simp) ?_
        refine AllReadyH.cons (o := ⟨none, _, _, _, _, _⟩) rfl (fun K hK => ?_) AllReadyH.nil
        obtain ⟨c3, c5, z3, -⟩ := SK.out _ b6
        go_simp
        refine hK.out _ _ (by rw [World.cell?_setCell_far _ _ _ _ hb83]; exact c5) (fun hHeld => ?_)
        clear hK K c3 c5 z3
        try simp only [Act.put, List.setIfInBounds_toArray, List.set_cons_zero, List.set_cons_succ]
        refine wpAnyH_done (by kernel_rfl) ?_ _
        clear hHeld
        obtain ⟨w7, hw7⟩ : ∃ u, u = w6.setCell ⟨w3.heap.size, 3, none⟩ (.slice A7 (s.al.length + 1) c7) := ⟨_, rfl⟩
        rw [← hw7]
        have FIN := hid (HF7.out w6 w7 A7 c7 hw7 b6 HL6.out)
        obtain ⟨f0, f1, f2, f3, f4, f5, f6, f7⟩ := FIN.out.1
        obtain ⟨d0, d1, d2, d3, d4, d5, d6, d7⟩ := FIN.out.2.1
        obtain ⟨y0, y1, y2, y3, y4, y5, y6, y7⟩ := FIN.out.2.2.1
        clear hw7
        go_wp2_with fail
        refine (HTL.out w7 A7 c7 _ rfl FIN.out.2.2.2).mono ?_
        rintro e w9 ⟨rfl, hb9, hp⟩
        have HB9 := hid hb9
        have HP := hid hp
        clear hb9 hp
        cases rr
        · have HQ := hid (HP.out rfl HN0.out)
          clear HP
          go_wp2
          go_ret2
          exact HQ.out
        · go_wp2
          go_ret2
          exact ⟨_, _, rfl, HB9.out, fun q => absurd q (by decide)⟩
      refine AllReadyH.cons (o := ⟨some 123, _, _, _, _, _⟩) rfl (fun K hK => ?_) AllReadyH.nil
      obtain ⟨w_14, hw_14⟩ : ∃ u, u = w_11.alloc (.cells #[.string sn] 9) := ⟨_, rfl⟩
      obtain ⟨X, hX⟩ : ∃ X, X = w_11.heap.size := ⟨_, rfl⟩
      have b_14 : Below w8.heap.size w8 w_14 := by rw [hw_14]; exact b_11.alloc b_11.size _
      have HX : Hid (w_14.cell? ⟨X, 0, none⟩ = some (.string sn)) := by show _ = _; rw [hw_14, hX]; exact cell_of_row _ _ 0 _ _ _ (heap_new w_11 _)
      have hXs : X < w_14.heap.size := by rw [hw_14, hX, sz1]; omega
      have hNX : X ≠ N := by have := (HN.out.lt N rfl).2; omega
      have HN := hid (by have := HN.out.alloc (.cells #[.string sn] 9); rwa [← hw_14] at this : w_14.ownsRow w8.heap.size 9 1 (.slice (some ⟨N, 0, none⟩) 0 0) 0 [])
      go_simp
      rw [← hw_14, ← hX]
      clear hw_14 hX
      refine hK.out _ _ (SK.out _ b_14).2.1 (fun hHeld => ?_)
      clear hK K
      try simp only [Act.put, List.setIfInBounds_toArray, List.set_cons_zero, List.set_cons_succ]
      refine wpAnyH_ready (rs := [3]) (by kernel_rfl) (by simp) ?_
      refine AllReadyH.cons (o := ⟨some 120, _, _, _, _, _⟩) rfl (fun K hK => ?_) AllReadyH.nil
      refine step_app_gen rfl (.tmp 117) (.tmp 119) 42 rfl 9 j0 _ 1 16 Tryz.underlying42 hj0 hy0 hy1 hy2 rfl (by decide) w8.heap.size 0 (.slice (some ⟨N, 0, none⟩) 0 0) [] rfl HN.out b_14.size Au s.al.length cu (s.al.map sV) rfl (HR8.out.on b_14) (one_strs _) (by omega) (by decide) ?_
      intro v9 w_15 HGo hgrow
      rw [Nat.zero_add, List.nil_append] at HGo
      obtain ⟨A9, c9, rfl⟩ := own_shape HGo
      have HG := hid HGo
      have b_15 : Below w8.heap.size w8 w_15 := Below.grown b_14 hgrow b_14.size (fun j e => by cases e; exact (HN.out.lt N rfl).1)
      have HX := hid ((hgrow.cell_far ⟨X, 0, none⟩ hXs (fun e => hNX (by cases e; rfl))).trans HX.out)
      have hXs : X < w_15.heap.size := Nat.lt_of_lt_of_le hXs hgrow.size
      clear hNX
      clear HN hgrow HGo
      refine hK.out _ _ (SK.out _ b_15).2.1 (fun hHeld => ?_)
      clear hK K
      try simp only [Act.put, List.setIfInBounds_toArray, List.set_cons_zero, List.set_cons_succ]
      refine wpAnyH_ready (rs := [7]) (by kernel_rfl) (by simp) ?_
      refine AllReadyH.cons (o := ⟨some 124, _, _, _, _, _⟩) rfl (fun K hK => ?_) AllReadyH.nil
      refine step_app_gen rfl (.tmp 120) (.tmp 123) 42 rfl 9 j0 _ 1 16 Tryz.underlying42 hj0 hy0 hy1 hy2 rfl (by decide) w8.heap.size s.al.length (.slice A9 s.al.length c9) (s.al.map sV) rfl HG.out b_15.size (some ⟨X, 0, none⟩) 1 1 [.string sn] rfl (slr_one HX.out hXs) (by simp [Value.oneCell']) (by omega) (by decide) ?_
      intro v6 w6 hown6 hgrow6
      obtain ⟨A7, c7, rfl⟩ := own_shape hown6
      have b6 : Below w8.heap.size w8 w6 := Below.grown b_15 hgrow6 b_15.size (fun j e => (HG.out.lt j e).1)
      have HL6 := hid hown6
      clear hown6 hgrow6
      refine hK.out _ _ (SK.out _ b6).2.1 (fun hHeld => ?_)
      clear hK K
      try simp only [Act.put, List.setIfInBounds_toArray, List.set_cons_zero, List.set_cons_succ]
      refine wpAnyH_take (i := 8) (oi := ⟨some 125, _, _, _, _, _⟩) (v := .pointer (some ⟨w3.heap.size, 3, none⟩)) rfl (by kernel_rfl) (by kernel_rfl) (by kernel_rfl) (fun _ _ _ h => h) (Or.inl ⟨by rfl, ?_⟩) hHeld ?_
      · intro u hu
        go_simp
      try simp only [Act.put, List.setIfInBounds_toArray, List.set_cons_zero, List.set_cons_succ]
      refine wpAnyH_ready (rs := [9]) (by kernel_rfl) (by simp) ?_
      refine AllReadyH.cons (o := ⟨none, _, _, _, _, _⟩) rfl (fun K hK => ?_) AllReadyH.nil
      obtain ⟨c3, c5, z3, -⟩ := SK.out _ b6
      go_simp
      refine hK.out _ _ (by rw [World.cell?_setCell_far _ _ _ _ hb83]; exact c5) (fun hHeld => ?_)
      clear hK K c3 c5 z3
      try simp only [Act.put, List.setIfInBounds_toArray, List.set_cons_zero, List.set_cons_succ]
      refine wpAnyH_done (by kernel_rfl) ?_ _
      clear hHeld
      obtain ⟨w7, hw7⟩ : ∃ u, u = w6.setCell ⟨w3.heap.size, 3, none⟩ (.slice A7 (s.al.length + 1) c7) := ⟨_, rfl⟩
      rw [← hw7]
      have FIN := hid (HF7.out w6 w7 A7 c7 hw7 b6 HL6.out)
      obtain ⟨f0, f1, f2, f3, f4, f5, f6, f7⟩ := FIN.out.1
      obtain ⟨d0, d1, d2, d3, d4, d5, d6, d7⟩ := FIN.out.2.1
      obtain ⟨y0, y1, y2, y3, y4, y5, y6, y7⟩ := FIN.out.2.2.1
      clear hw7
      go_wp2_with fail
      refine (HTL.out w7 A7 c7 _ rfl FIN.out.2.2.2).mono ?_
      rintro e w9 ⟨rfl, hb9, hp⟩
      have HB9 := hid hb9
      have HP := hid hp
      clear hb9 hp
      cases rr
      · have HQ := hid (HP.out rfl HN0.out)
        clear HP
        go_wp2
        go_ret2
        exact HQ.out
      · go_wp2
        go_ret2
        exact ⟨_, _, rfl, HB9.out, fun q => absurd q (by decide)⟩
    refine AllReadyH.cons (o := ⟨some 123, _, _, _, _, _⟩) rfl (fun K hK => ?_) AllReadyH.nil
    obtain ⟨w_16, hw_16⟩ : ∃ u, u = wd.alloc (.cells #[.string sn] 9) := ⟨_, rfl⟩
    obtain ⟨X, hX⟩ : ∃ X, X = wd.heap.size := ⟨_, rfl⟩
    have b_16 : Below w8.heap.size w8 w_16 := by rw [hw_16]; exact bd.alloc bd.size _
    have HX : Hid (w_16.cell? ⟨X, 0, none⟩ = some (.string sn)) := by show _ = _; rw [hw_16, hX]; exact cell_of_row _ _ 0 _ _ _ (heap_new wd _)
    have hXs : X < w_16.heap.size := by rw [hw_16, hX, sz1]; omega
    go_simp
    rw [← hw_16, ← hX]
    clear hw_16 hX
    refine hK.out _ _ (SK.out _ b_16).2.1 (fun hHeld => ?_)
    clear hK K
    try simp only [Act.put, List.setIfInBounds_toArray, List.set_cons_zero, List.set_cons_succ]
    refine wpAnyH_ready (rs := [0]) (by kernel_rfl) (by simp) ?_
    refine AllReadyH.cons (o := ⟨some 117, _, _, _, _, _⟩) rfl (fun K hK => ?_) AllReadyH.nil
    obtain ⟨w_17, hw_17⟩ : ∃ u, u = w_16.alloc (.cells #[] 9) := ⟨_, rfl⟩
    obtain ⟨N, hN⟩ : ∃ N, N = w_16.heap.size := ⟨_, rfl⟩
    have b_17 : Below w8.heap.size w8 w_17 := by rw [hw_17]; exact b_16.alloc b_16.size _
    have HN : Hid (w_17.ownsRow w8.heap.size 9 1 (.slice (some ⟨N, 0, none⟩) 0 0) 0 []) := by show World.ownsRow _ _ _ _ _ _ _; rw [hw_17]; exact own_empty2 w_16 _ _ 1 (by rw [hN]; exact b_16.size) hN _
    have HX := hid (by rw [hw_17, World.cell?_alloc_lt _ _ _ hXs]; exact HX.out : w_17.cell? ⟨X, 0, none⟩ = some (.string sn))
    have hNX : X ≠ N := by omega
    have hXs : X < w_17.heap.size := by rw [hw_17, sz1]; omega
    go_simp
    rw [← hw_17, ← hN]
    clear hw_17 hN
    refine hK.out _ _ (SK.out _ b_17).2.1 (fun hHeld => ?_)
    clear hK K
    try simp only [Act.put, List.setIfInBounds_toArray, List.set_cons_zero, List.set_cons_succ]
    refine wpAnyH_ready (rs := [3]) (by kernel_rfl) (by simp) ?_
    refine AllReadyH.cons (o := ⟨some 120, _, _, _, _, _⟩) rfl (fun K hK => ?_) AllReadyH.nil
    refine step_app_gen rfl (.tmp 117) (.tmp 119) 42 rfl 9 j0 _ 1 16 Tryz.underlying42 hj0 hy0 hy1 hy2 rfl (by decide) w8.heap.size 0 (.slice (some ⟨N, 0, none⟩) 0 0) [] rfl HN.out b_17.size Au s.al.length cu (s.al.map sV) rfl (HR8.out.on b_17) (one_strs _) (by omega) (by decide) ?_
    intro v9 w_18 HGo hgrow
    rw [Nat.zero_add, List.nil_append] at HGo
    obtain ⟨A9, c9, rfl⟩ := own_shape HGo
    have HG := hid HGo
    have b_18 : Below w8.heap.size w8 w_18 := Below.grown b_17 hgrow b_17.size (fun j e => by cases e; exact (HN.out.lt N rfl).1)
    have HX := hid ((hgrow.cell_far ⟨X, 0, none⟩ hXs (fun e => hNX (by cases e; rfl))).trans HX.out)
    have hXs : X < w_18.heap.size := Nat.lt_of_lt_of_le hXs hgrow.size
    clear hNX
    clear HN hgrow HGo
    refine hK.out _ _ (SK.out _ b_18).2.1 (fun hHeld => ?_)
    clear hK K
    try simp only [Act.put, List.setIfInBounds_toArray, List.set_cons_zero, List.set_cons_succ]
    refine wpAnyH_ready (rs := [7]) (by kernel_rfl) (by simp) ?_
    refine AllReadyH.cons (o := ⟨some 124, _, _, _, _, _⟩) rfl (fun K hK => ?_) AllReadyH.nil
    refine step_app_gen rfl (.tmp 120) (.tmp 123) 42 rfl 9 j0 _ 1 16 Tryz.underlying42 hj0 hy0 hy1 hy2 rfl (by decide) w8.heap.size s.al.length (.slice A9 s.al.length c9) (s.al.map sV) rfl HG.out b_18.size (some ⟨X, 0, none⟩) 1 1 [.string sn] rfl (slr_one HX.out hXs) (by simp [Value.oneCell']) (by omega) (by decide) ?_
    intro v6 w6 hown6 hgrow6
    obtain ⟨A7, c7, rfl⟩ := own_shape hown6
    have b6 : Below w8.heap.size w8 w6 := Below.grown b_18 hgrow6 b_18.size (fun j e => (HG.out.lt j e).1)
    have HL6 := hid hown6
    clear hown6 hgrow6
    refine hK.out _ _ (SK.out _ b6).2.1 (fun hHeld => ?_)
    clear hK K
    try simp only [Act.put, List.setIfInBounds_toArray, List.set_cons_zero, List.set_cons_succ]
    refine wpAnyH_take (i := 8) (oi := ⟨some 125, _, _, _, _, _⟩) (v := .pointer (some ⟨w3.heap.size, 3, none⟩)) rfl (by kernel_rfl) (by kernel_rfl) (by kernel_rfl) (fun _ _ _ h => h) (Or.inl ⟨by rfl, ?_⟩) hHeld ?_
    · intro u hu
      go_simp
    try simp only [Act.put, List.setIfInBounds_toArray, List.set_cons_zero, List.set_cons_succ]
    refine wpAnyH_ready (rs := [9]) (by kernel_rfl) (by simp) ?_
    refine AllReadyH.cons (o := ⟨none, _, _, _, _, _⟩) rfl (fun K hK => ?_) AllReadyH.nil
    obtain ⟨c3, c5, z3, -⟩ := SK.out _ b6
    go_simp
    refine hK.out _ _ (by rw [World.cell?_setCell_far _ _ _ _ hb83]; exact c5) (fun hHeld => ?_)
    clear hK K c3 c5 z3
    try simp only [Act.put, List.setIfInBounds_toArray, List.set_cons_zero, List.set_cons_succ]
    refine wpAnyH_done (by kernel_rfl) ?_ _
    clear hHeld
    obtain ⟨w7, hw7⟩ : ∃ u, u = w6.setCell ⟨w3.heap.size, 3, none⟩ (.slice A7 (s.al.length + 1) c7) := ⟨_, rfl⟩
    rw [← hw7]
    have FIN := hid (HF7.out w6 w7 A7 c7 hw7 b6 HL6.out)
    obtain ⟨f0, f1, f2, f3, f4, f5, f6, f7⟩ := FIN.out.1
    obtain ⟨d0, d1, d2, d3, d4, d5, d6, d7⟩ := FIN.out.2.1
    obtain ⟨y0, y1, y2, y3, y4, y5, y6, y7⟩ := FIN.out.2.2.1
    clear hw7
    go_wp2_with fail
    refine (HTL.out w7 A7 c7 _ rfl FIN.out.2.2.2).mono ?_
    rintro e w9 ⟨rfl, hb9, hp⟩
    have HB9 := hid hb9
    have HP := hid hp
    clear hb9 hp
    cases rr
    · have HQ := hid (HP.out rfl HN0.out)
      clear HP
      go_wp2
      go_ret2
      exact HQ.out
    · go_wp2
      go_ret2
      exact ⟨_, _, rfl, HB9.out, fun q => absurd q (by decide)⟩
  refine AllReadyH.cons (o := ⟨some 123, _, _, _, _, _⟩) rfl (fun K hK => ?_) AllReadyH.nil
  obtain ⟨w_19, hw_19⟩ : ∃ u, u = wd.alloc (.cells #[.string sn] 9) := ⟨_, rfl⟩
  obtain ⟨X, hX⟩ : ∃ X, X = wd.heap.size := ⟨_, rfl⟩
  have b_19 : Below w8.heap.size w8 w_19 := by rw [hw_19]; exact bd.alloc bd.size _
  have HX : Hid (w_19.cell? ⟨X, 0, none⟩ = some (.string sn)) := by show _ = _; rw [hw_19, hX]; exact cell_of_row _ _ 0 _ _ _ (heap_new wd _)
  have hXs : X < w_19.heap.size := by rw [hw_19, hX, sz1]; omega
  go_simp
  rw [← hw_19, ← hX]
  clear hw_19 hX
  refine hK.out _ _ (SK.out _ b_19).2.1 (fun hHeld => ?_)
  clear hK K
  try simp only [Act.put, List.setIfInBounds_toArray, List.set_cons_zero, List.set_cons_succ]
  refine wpAnyH_ready (rs := [0, 2]) (by kernel_rfl) (by simp) ?_
  refine AllReadyH.cons (o := ⟨some 117, _, _, _, _, _⟩) rfl (fun K hK => ?_) ?_
  · obtain ⟨w_20, hw_20⟩ : ∃ u, u = w_19.alloc (.cells #[] 9) := ⟨_, rfl⟩
    obtain ⟨N, hN⟩ : ∃ N, N = w_19.heap.size := ⟨_, rfl⟩
    have b_20 : Below w8.heap.size w8 w_20 := by rw [hw_20]; exact b_19.alloc b_19.size _
    have HN : Hid (w_20.ownsRow w8.heap.size 9 1 (.slice (some ⟨N, 0, none⟩) 0 0) 0 []) := by show World.ownsRow _ _ _ _ _ _ _; rw [hw_20]; exact own_empty2 w_19 _ _ 1 (by rw [hN]; exact b_19.size) hN _
    have HX := hid (by rw [hw_20, World.cell?_alloc_lt _ _ _ hXs]; exact HX.out : w_20.cell? ⟨X, 0, none⟩ = some (.string sn))
    have hNX : X ≠ N := by omega
    have hXs : X < w_20.heap.size := by rw [hw_20, sz1]; omega
    go_simp
    rw [← hw_20, ← hN]
    clear hw_20 hN
    refine hK.out _ _ (SK.out _ b_20).2.1 (fun hHeld => ?_)
    clear hK K
    try simp only [Act.put, List.setIfInBounds_toArray, List.set_cons_zero, List.set_cons_succ]
    refine wpAnyH_ready (rs := [2]) (by kernel_rfl) (by simp) ?_
    refine AllReadyH.cons (o := ⟨some 119, _, _, _, _, _⟩) rfl (fun K hK => ?_) AllReadyH.nil
    obtain ⟨c3, -⟩ := SK.out _ b_20
    go_simp
    clear c3
    refine hK.out _ _ (SK.out _ b_20).2.1 (fun hHeld => ?_)
    clear hK K
    try simp only [Act.put, List.setIfInBounds_toArray, List.set_cons_zero, List.set_cons_succ]
    refine wpAnyH_ready (rs := [3]) (by kernel_rfl) (by simp) ?_
    refine AllReadyH.cons (o := ⟨some 120, _, _, _, _, _⟩) rfl (fun K hK => ?_) AllReadyH.nil
    refine step_app_gen rfl (.tmp 117) (.tmp 119) 42 rfl 9 j0 _ 1 16 Tryz.underlying42 hj0 hy0 hy1 hy2 rfl (by decide) w8.heap.size 0 (.slice (some ⟨N, 0, none⟩) 0 0) [] rfl HN.out b_20.size Au s.al.length cu (s.al.map sV) rfl (HR8.out.on b_20) (one_strs _) (by omega) (by decide) ?_
    intro v9 w_22 HGo hgrow
    rw [Nat.zero_add, List.nil_append] at HGo
    obtain ⟨A9, c9, rfl⟩ := own_shape HGo
    have HG := hid HGo
    have b_22 : Below w8.heap.size w8 w_22 := Below.grown b_20 hgrow b_20.size (fun j e => by cases e; exact (HN.out.lt N rfl).1)
    have HX := hid ((hgrow.cell_far ⟨X, 0, none⟩ hXs (fun e => hNX (by cases e; rfl))).trans HX.out)
    have hXs : X < w_22.heap.size := Nat.lt_of_lt_of_le hXs hgrow.size
    clear hNX
    clear HN hgrow HGo
    refine hK.out _ _ (SK.out _ b_22).2.1 (fun hHeld => ?_)
    clear hK K
    try simp only [Act.put, List.setIfInBounds_toArray, List.set_cons_zero, List.set_cons_succ]
    refine wpAnyH_ready (rs := [7]) (by kernel_rfl) (by simp) ?_
    refine AllReadyH.cons (o := ⟨some 124, _, _, _, _, _⟩) rfl (fun K hK => ?_) AllReadyH.nil
    refine step_app_gen rfl (.tmp 120) (.tmp 123) 42 rfl 9 j0 _ 1 16 Tryz.underlying42 hj0 hy0 hy1 hy2 rfl (by decide) w8.heap.size s.al.length (.slice A9 s.al.length c9) (s.al.map sV) rfl HG.out b_22.size (some ⟨X, 0, none⟩) 1 1 [.string sn] rfl (slr_one HX.out hXs) (by simp [Value.oneCell']) (by omega) (by decide) ?_
    intro v6 w6 hown6 hgrow6
    obtain ⟨A7, c7, rfl⟩ := own_shape hown6
    have b6 : Below w8.heap.size w8 w6 := Below.grown b_22 hgrow6 b_22.size (fun j e => (HG.out.lt j e).1)
    have HL6 := hid hown6
    clear hown6 hgrow6
    refine hK.out _ _ (SK.out _ b6).2.1 (fun hHeld => ?_)
    clear hK K
    try simp only [Act.put, List.setIfInBounds_toArray, List.set_cons_zero, List.set_cons_succ]
    refine wpAnyH_take (i := 8) (oi := ⟨some 125, _, _, _, _, _⟩) (v := .pointer (some ⟨w3.heap.size, 3, none⟩)) rfl (by kernel_rfl) (by kernel_rfl) (by kernel_rfl) (fun _ _ _ h => h) (Or.inl ⟨by rfl, ?_⟩) hHeld ?_
    · intro u hu
      go_simp
    try simp only [Act.put, List.setIfInBounds_toArray, List.set_cons_zero, List.set_cons_succ]
    refine wpAnyH_ready (rs := [9]) (by kernel_rfl) (by simp) ?_
    refine AllReadyH.cons (o := ⟨none, _, _, _, _, _⟩) rfl (fun K hK => ?_) AllReadyH.nil
    obtain ⟨c3, c5, z3, -⟩ := SK.out _ b6
    go_simp
    refine hK.out _ _ (by rw [World.cell?_setCell_far _ _ _ _ hb83]; exact c5) (fun hHeld => ?_)
    clear hK K c3 c5 z3
    try simp only [Act.put, List.setIfInBounds_toArray, List.set_cons_zero, List.set_cons_succ]
    refine wpAnyH_done (by kernel_rfl) ?_ _
    clear hHeld
    obtain ⟨w7, hw7⟩ : ∃ u, u = w6.setCell ⟨w3.heap.size, 3, none⟩ (.slice A7 (s.al.length + 1) c7) := ⟨_, rfl⟩
    rw [← hw7]
    have FIN := hid (HF7.out w6 w7 A7 c7 hw7 b6 HL6.out)
    obtain ⟨f0, f1, f2, f3, f4, f5, f6, f7⟩ := FIN.out.1
    obtain ⟨d0, d1, d2, d3, d4, d5, d6, d7⟩ := FIN.out.2.1
    obtain ⟨y0, y1, y2, y3, y4, y5, y6, y7⟩ := FIN.out.2.2.1
    clear hw7
    go_wp2_with fail
    refine (HTL.out w7 A7 c7 _ rfl FIN.out.2.2.2).mono ?_
    rintro e w9 ⟨rfl, hb9, hp⟩
    have HB9 := hid hb9
    have HP := hid hp
    clear hb9 hp
    cases rr
    · have HQ := hid (HP.out rfl HN0.out)
      clear HP
      go_wp2
      go_ret2
      exact HQ.out
    · go_wp2
      go_ret2
      exact ⟨_, _, rfl, HB9.out, fun q => absurd q (by decide)⟩
  refine AllReadyH.cons (o := ⟨some 119, _, _, _, _, _⟩) rfl (fun K hK => ?_) AllReadyH.nil
  obtain ⟨c3, -⟩ := SK.out _ b_19
  go_simp
  clear c3
  refine hK.out _ _ (SK.out _ b_19).2.1 (fun hHeld => ?_)
  clear hK K
  try simp only [Act.put, List.setIfInBounds_toArray, List.set_cons_zero, List.set_cons_succ]
  refine wpAnyH_ready (rs := [0]) (by kernel_rfl) (by simp) ?_
  refine AllReadyH.cons (o := ⟨some 117, _, _, _, _, _⟩) rfl (fun K hK => ?_) AllReadyH.nil
  obtain ⟨w_24, hw_24⟩ : ∃ u, u = w_19.alloc (.cells #[] 9) := ⟨_, rfl⟩
  obtain ⟨N, hN⟩ : ∃ N, N = w_19.heap.size := ⟨_, rfl⟩
  have b_24 : Below w8.heap.size w8 w_24 := by rw [hw_24]; exact b_19.alloc b_19.size _
  have HN : Hid (w_24.ownsRow w8.heap.size 9 1 (.slice (some ⟨N, 0, none⟩) 0 0) 0 []) := by show World.ownsRow _ _ _ _ _ _ _; rw [hw_24]; exact own_empty2 w_19 _ _ 1 (by rw [hN]; exact b_19.size) hN _
  have HX := hid (by rw [hw_24, World.cell?_alloc_lt _ _ _ hXs]; exact HX.out : w_24.cell? ⟨X, 0, none⟩ = some (.string sn))
  have hNX : X ≠ N := by omega
  have hXs : X < w_24.heap.size := by rw [hw_24, sz1]; omega
  go_simp
  rw [← hw_24, ← hN]
  clear hw_24 hN
  refine hK.out _ _ (SK.out _ b_24).2.1 (fun hHeld => ?_)
  clear hK K
  try simp only [Act.put, List.setIfInBounds_toArray, List.set_cons_zero, List.set_cons_succ]
  refine wpAnyH_ready (rs := [3]) (by kernel_rfl) (by simp) ?_
  refine AllReadyH.cons (o := ⟨some 120, _, _, _, _, _⟩) rfl (fun K hK => ?_) AllReadyH.nil
  refine step_app_gen rfl (.tmp 117) (.tmp 119) 42 rfl 9 j0 _ 1 16 Tryz.underlying42 hj0 hy0 hy1 hy2 rfl (by decide) w8.heap.size 0 (.slice (some ⟨N, 0, none⟩) 0 0) [] rfl HN.out b_24.size Au s.al.length cu (s.al.map sV) rfl (HR8.out.on b_24) (one_strs _) (by omega) (by decide) ?_
  intro v9 w_25 HGo hgrow
  rw [Nat.zero_add, List.nil_append] at HGo
  obtain ⟨A9, c9, rfl⟩ := own_shape HGo
  have HG := hid HGo
  have b_25 : Below w8.heap.size w8 w_25 := Below.grown b_24 hgrow b_24.size (fun j e => by cases e; exact (HN.out.lt N rfl).1)
  have HX := hid ((hgrow.cell_far ⟨X, 0, none⟩ hXs (fun e => hNX (by cases e; rfl))).trans HX.out)
  have hXs : X < w_25.heap.size := Nat.lt_of_lt_of_le hXs hgrow.size
  clear hNX
  clear HN hgrow HGo
  refine hK.out _ _ (SK.out _ b_25).2.1 (fun hHeld => ?_)
  clear hK K
  try simp only [Act.put, List.setIfInBounds_toArray, List.set_cons_zero, List.set_cons_succ]
  refine wpAnyH_ready (rs := [7]) (by kernel_rfl) (by simp) ?_
  refine AllReadyH.cons (o := ⟨some 124, _, _, _, _, _⟩) rfl (fun K hK => ?_) AllReadyH.nil
  refine step_app_gen rfl (.tmp 120) (.tmp 123) 42 rfl 9 j0 _ 1 16 Tryz.underlying42 hj0 hy0 hy1 hy2 rfl (by decide) w8.heap.size s.al.length (.slice A9 s.al.length c9) (s.al.map sV) rfl HG.out b_25.size (some ⟨X, 0, none⟩) 1 1 [.string sn] rfl (slr_one HX.out hXs) (by simp [Value.oneCell']) (by omega) (by decide) ?_
  intro v6 w6 hown6 hgrow6
  obtain ⟨A7, c7, rfl⟩ := own_shape hown6
  have b6 : Below w8.heap.size w8 w6 := Below.grown b_25 hgrow6 b_25.size (fun j e => (HG.out.lt j e).1)
  have HL6 := hid hown6
  clear hown6 hgrow6
  refine hK.out _ _ (SK.out _ b6).2.1 (fun hHeld => ?_)
  clear hK K
  try simp only [Act.put, List.setIfInBounds_toArray, List.set_cons_zero, List.set_cons_succ]
  refine wpAnyH_take (i := 8) (oi := ⟨some 125, _, _, _, _, _⟩) (v := .pointer (some ⟨w3.heap.size, 3, none⟩)) rfl (by kernel_rfl) (by kernel_rfl) (by kernel_rfl) (fun _ _ _ h => h) (Or.inl ⟨by rfl, ?_⟩) hHeld ?_
  · intro u hu
    go_simp
  try simp only [Act.put, List.setIfInBounds_toArray, List.set_cons_zero, List.set_cons_succ]
  refine wpAnyH_ready (rs := [9]) (by kernel_rfl) (by simp) ?_
  refine AllReadyH.cons (o := ⟨none, _, _, _, _, _⟩) rfl (fun K hK => ?_) AllReadyH.nil
  obtain ⟨c3, c5, z3, -⟩ := SK.out _ b6
  go_simp
  refine hK.out _ _ (by rw [World.cell?_setCell_far _ _ _ _ hb83]; exact c5) (fun hHeld => ?_)
  clear hK K c3 c5 z3
  try simp only [Act.put, List.setIfInBounds_toArray, List.set_cons_zero, List.set_cons_succ]
  refine wpAnyH_done (by kernel_rfl) ?_ _
  clear hHeld
  obtain ⟨w7, hw7⟩ : ∃ u, u = w6.setCell ⟨w3.heap.size, 3, none⟩ (.slice A7 (s.al.length + 1) c7) := ⟨_, rfl⟩
  rw [← hw7]
  have FIN := hid (HF7.out w6 w7 A7 c7 hw7 b6 HL6.out)
  obtain ⟨f0, f1, f2, f3, f4, f5, f6, f7⟩ := FIN.out.1
  obtain ⟨d0, d1, d2, d3, d4, d5, d6, d7⟩ := FIN.out.2.1
  obtain ⟨y0, y1, y2, y3, y4, y5, y6, y7⟩ := FIN.out.2.2.1
  clear hw7
  go_wp2_with fail
  refine (HTL.out w7 A7 c7 _ rfl FIN.out.2.2.2).mono ?_
  rintro e w9 ⟨rfl, hb9, hp⟩
  have HB9 := hid hb9
  have HP := hid hp
  clear hb9 hp
  cases rr
  · have HQ := hid (HP.out rfl HN0.out)
    clear HP
    go_wp2
    go_ret2
    exact HQ.out
  · go_wp2
    go_ret2
    exact ⟨_, _, rfl, HB9.out, fun q => absurd q (by decide)⟩

end Rg
end Go.Proofs.YtaeljmiklalpnaaGreatDoor
