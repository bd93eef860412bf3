/-
  Contract of the document's Make: a change of no open street.
-/
import Derived.Test.YtaeljmiklalpnaaGreatDoorM0
namespace Go.Proofs.YtaeljmiklalpnaaGreatDoor
open Go.RowKit Go.ChangeMaps Gn
namespace Rg

set_option maxRecDepth 100000 in
set_option maxHeartbeats 16000000 in
theorem rmake_no_neg (l : List St) (vs : List Value) (v : Value) (day street kd : Int) (code town name : W) (low high shift : Int) (w : World) (hl : IsSts w v l vs) (hln : l.length ≤ 900) (hinv : Inv l) (hal : ∀ s ∈ l, s.al.length ≤ 900) (hf : FmC (⟨day, kd, street, code, town, name, low, high, shift⟩ : Ch)) (hkd : kd ≠ 1) (hno : street < 0) :
    Calls Tryz.prog 45 #[v, chA (⟨day, kd, street, code, town, name, low, high, shift⟩ : Ch)] w (MPost l (⟨day, kd, street, code, town, name, low, high, shift⟩ : Ch) w) := by
  obtain ⟨A, cap, rfl, hL⟩ := hl.parts
  have hL2 := hL
  obtain ⟨A', cap', e', hvl, hS, hA⟩ := hL2
  cases e'
  obtain ⟨i0, hi0, hz0, hz1, hz2⟩ := info_parts infoSt
  have h1c := one_sts l vs (fun i s u hs hu => by obtain ⟨A, c, e, _⟩ := hA i s u hs hu; exact ⟨A, _, c, e⟩)
  have HS0 := hid hS
  have HA0 := hid hA
  have HL := hid hL
  have HVL := hid hvl
  have HINV := hid hinv
  have HAL := hid hal
  have HF := hid hf
  obtain ⟨sc, hsc⟩ : ∃ x, x = sB code := ⟨_, rfl⟩
  obtain ⟨st, hst⟩ : ∃ x, x = sB town := ⟨_, rfl⟩
  obtain ⟨sn, hsn⟩ : ∃ x, x = sB name := ⟨_, rfl⟩
  have HSC := hid hsc
  have HST := hid hst
  have HSN := hid hsn
  unfold chA
  simp only [← hsc, ← hst, ← hsn]
  obtain ⟨N, hN⟩ : ∃ N, N = w.heap.size := ⟨_, rfl⟩
  have hb1 : Below w.heap.size w (w.alloc (.cells #[.int .i64 day, .int .i64 kd, .int .i64 street, .string sc, .string st, .string sn, .int .i64 low, .int .i64 high, .int .i64 shift] 29)) := b0 _ _
  have hx1 : (w.alloc (.cells #[.int .i64 day, .int .i64 kd, .int .i64 street, .string sc, .string st, .string sn, .int .i64 low, .int .i64 high, .int .i64 shift] 29)).heap[w.heap.size]? = some (.cells #[.int .i64 day, .int .i64 kd, .int .i64 street, .string sc, .string st, .string sn, .int .i64 low, .int .i64 high, .int .i64 shift] 29 (0, 0)) := heap_new _ _
  have hb2 : Below w.heap.size w ((w.alloc (.cells #[.int .i64 day, .int .i64 kd, .int .i64 street, .string sc, .string st, .string sn, .int .i64 low, .int .i64 high, .int .i64 shift] 29)).alloc (.cells #[] 44)) := hb1.alloc hb1.size _
  have hx2 : ((w.alloc (.cells #[.int .i64 day, .int .i64 kd, .int .i64 street, .string sc, .string st, .string sn, .int .i64 low, .int .i64 high, .int .i64 shift] 29)).alloc (.cells #[] 44)).heap[w.heap.size]? = some (.cells #[.int .i64 day, .int .i64 kd, .int .i64 street, .string sc, .string st, .string sn, .int .i64 low, .int .i64 high, .int .i64 shift] 29 (0, 0)) := by
    rw [(b0 (w.alloc (.cells #[.int .i64 day, .int .i64 kd, .int .i64 street, .string sc, .string st, .string sn, .int .i64 low, .int .i64 high, .int .i64 shift] 29)) (.cells #[] 44)).block _ (heap_lt hx1)]; exact hx1
  have hown2 := own_empty2 (w.alloc (.cells #[.int .i64 day, .int .i64 kd, .int .i64 street, .string sc, .string st, .string sn, .int .i64 low, .int .i64 high, .int .i64 shift] 29)) (w.heap.size + 1) (w.heap.size + 1) 8 (Nat.le_refl _) (sz1 _ _).symm 44
  have hS2 := hS.on hb2
  have hsz2 : w.heap.size + 1 ≤ ((w.alloc (.cells #[.int .i64 day, .int .i64 kd, .int .i64 street, .string sc, .string st, .string sn, .int .i64 low, .int .i64 high, .int .i64 shift] 29)).alloc (.cells #[] 44)).heap.size := by rw [sz1, sz1]; omega
  obtain ⟨ln, hlnn⟩ : ∃ x, x = l.length := ⟨_, rfl⟩
  rw [← hlnn] at hS2 hln ⊢
  have HLN := hid hlnn
  have HEX : Hid (∀ w3, ((w.alloc (.cells #[.int .i64 day, .int .i64 kd, .int .i64 street, .string sc, .string st, .string sn, .int .i64 low, .int .i64 high, .int .i64 shift] 29)).alloc (.cells #[] 44)).grownBy w3 (Value.slice (some ⟨w.heap.size + 1, 0, none⟩) 0 0).ownBlock → Below w.heap.size w w3 ∧ w3.heap[w.heap.size]? = some (.cells #[.int .i64 day, .int .i64 kd, .int .i64 street, .string sc, .string st, .string sn, .int .i64 low, .int .i64 high, .int .i64 shift] 29 (0, 0))) := fun w3 hg => by
    refine ⟨hb2.grown hg hb2.size (fun k e => ?_), (hg.block _ (heap_lt hx2) (fun e => ?_)).trans hx2⟩
    · simp [Value.ownBlock] at e; omega
    · simp [Value.ownBlock] at e
  have hq : ¬ kd = 1 := hkd
  have hq2 : (kd == 1) = false := by simpa using hkd
  have hn1 : decide (street < 0) = true := decide_eq_true hno
  clear hl hL hvl hS hA hinv hal hf hsc hst hsn hb1 hx1 hb2 hx2 hlnn hN N
  go_enter Tryz.func45, Tryz.ntmps45
  go_wp2_with (at_builtin; refine list_app_gen rfl (.tmp 9) (.tmp 10) 30 rfl 44 i0 _ 8 104 Tryz.underlying30 hi0 hz0 hz1 hz2 rfl (by decide) (w.heap.size + 1) 0 _ [] (by rfl) hown2 hsz2 A ln cap (cellsS l vs) rfl hS2 h1c (by omega) (by omega) ?_; intro v1 w3 hown hgrow; rw [Nat.zero_add, List.nil_append] at hown; obtain ⟨A1, c1, rfl⟩ := own_shape hown; have hbx := HEX.out w3 hgrow; have hcx := ch_cells hbx.2; have HB3 := hid hbx.1; have HOWN := hid hown; have HBX3 := hid hbx.2; clear hbx)
  go_ret2
  exact ⟨_, _, rfl, HB3.out, fun q => absurd q (by decide)⟩

set_option maxRecDepth 100000 in
set_option maxHeartbeats 16000000 in
theorem rmake_no_big (l : List St) (vs : List Value) (v : Value) (day street kd : Int) (code town name : W) (low high shift : Int) (w : World) (hl : IsSts w v l vs) (hln : l.length ≤ 900) (hinv : Inv l) (hal : ∀ s ∈ l, s.al.length ≤ 900) (hf : FmC (⟨day, kd, street, code, town, name, low, high, shift⟩ : Ch)) (hkd : kd ≠ 1) (hno : 0 ≤ street ∧ (l.length : Int) ≤ street) :
    Calls Tryz.prog 45 #[v, chA (⟨day, kd, street, code, town, name, low, high, shift⟩ : Ch)] w (MPost l (⟨day, kd, street, code, town, name, low, high, shift⟩ : Ch) w) := by
  obtain ⟨A, cap, rfl, hL⟩ := hl.parts
  have hL2 := hL
  obtain ⟨A', cap', e', hvl, hS, hA⟩ := hL2
  cases e'
  obtain ⟨i0, hi0, hz0, hz1, hz2⟩ := info_parts infoSt
  have h1c := one_sts l vs (fun i s u hs hu => by obtain ⟨A, c, e, _⟩ := hA i s u hs hu; exact ⟨A, _, c, e⟩)
  have HS0 := hid hS
  have HA0 := hid hA
  have HL := hid hL
  have HVL := hid hvl
  have HINV := hid hinv
  have HAL := hid hal
  have HF := hid hf
  obtain ⟨sc, hsc⟩ : ∃ x, x = sB code := ⟨_, rfl⟩
  obtain ⟨st, hst⟩ : ∃ x, x = sB town := ⟨_, rfl⟩
  obtain ⟨sn, hsn⟩ : ∃ x, x = sB name := ⟨_, rfl⟩
  have HSC := hid hsc
  have HST := hid hst
  have HSN := hid hsn
  unfold chA
  simp only [← hsc, ← hst, ← hsn]
  obtain ⟨N, hN⟩ : ∃ N, N = w.heap.size := ⟨_, rfl⟩
  have hb1 : Below w.heap.size w (w.alloc (.cells #[.int .i64 day, .int .i64 kd, .int .i64 street, .string sc, .string st, .string sn, .int .i64 low, .int .i64 high, .int .i64 shift] 29)) := b0 _ _
  have hx1 : (w.alloc (.cells #[.int .i64 day, .int .i64 kd, .int .i64 street, .string sc, .string st, .string sn, .int .i64 low, .int .i64 high, .int .i64 shift] 29)).heap[w.heap.size]? = some (.cells #[.int .i64 day, .int .i64 kd, .int .i64 street, .string sc, .string st, .string sn, .int .i64 low, .int .i64 high, .int .i64 shift] 29 (0, 0)) := heap_new _ _
  have hb2 : Below w.heap.size w ((w.alloc (.cells #[.int .i64 day, .int .i64 kd, .int .i64 street, .string sc, .string st, .string sn, .int .i64 low, .int .i64 high, .int .i64 shift] 29)).alloc (.cells #[] 44)) := hb1.alloc hb1.size _
  have hx2 : ((w.alloc (.cells #[.int .i64 day, .int .i64 kd, .int .i64 street, .string sc, .string st, .string sn, .int .i64 low, .int .i64 high, .int .i64 shift] 29)).alloc (.cells #[] 44)).heap[w.heap.size]? = some (.cells #[.int .i64 day, .int .i64 kd, .int .i64 street, .string sc, .string st, .string sn, .int .i64 low, .int .i64 high, .int .i64 shift] 29 (0, 0)) := by
    rw [(b0 (w.alloc (.cells #[.int .i64 day, .int .i64 kd, .int .i64 street, .string sc, .string st, .string sn, .int .i64 low, .int .i64 high, .int .i64 shift] 29)) (.cells #[] 44)).block _ (heap_lt hx1)]; exact hx1
  have hown2 := own_empty2 (w.alloc (.cells #[.int .i64 day, .int .i64 kd, .int .i64 street, .string sc, .string st, .string sn, .int .i64 low, .int .i64 high, .int .i64 shift] 29)) (w.heap.size + 1) (w.heap.size + 1) 8 (Nat.le_refl _) (sz1 _ _).symm 44
  have hS2 := hS.on hb2
  have hsz2 : w.heap.size + 1 ≤ ((w.alloc (.cells #[.int .i64 day, .int .i64 kd, .int .i64 street, .string sc, .string st, .string sn, .int .i64 low, .int .i64 high, .int .i64 shift] 29)).alloc (.cells #[] 44)).heap.size := by rw [sz1, sz1]; omega
  obtain ⟨ln, hlnn⟩ : ∃ x, x = l.length := ⟨_, rfl⟩
  rw [← hlnn] at hS2 hln hno ⊢
  have HLN := hid hlnn
  have HEX : Hid (∀ w3, ((w.alloc (.cells #[.int .i64 day, .int .i64 kd, .int .i64 street, .string sc, .string st, .string sn, .int .i64 low, .int .i64 high, .int .i64 shift] 29)).alloc (.cells #[] 44)).grownBy w3 (Value.slice (some ⟨w.heap.size + 1, 0, none⟩) 0 0).ownBlock → Below w.heap.size w w3 ∧ w3.heap[w.heap.size]? = some (.cells #[.int .i64 day, .int .i64 kd, .int .i64 street, .string sc, .string st, .string sn, .int .i64 low, .int .i64 high, .int .i64 shift] 29 (0, 0))) := fun w3 hg => by
    refine ⟨hb2.grown hg hb2.size (fun k e => ?_), (hg.block _ (heap_lt hx2) (fun e => ?_)).trans hx2⟩
    · simp [Value.ownBlock] at e; omega
    · simp [Value.ownBlock] at e
  have hq : ¬ kd = 1 := hkd
  have hq2 : (kd == 1) = false := by simpa using hkd
  obtain ⟨hno0, hno1⟩ := hno
  have hn1 : decide (street < 0) = false := decide_eq_false (by omega)
  have hn2 : decide (street ≥ (ln : Int)) = true := decide_eq_true hno1
  clear hl hL hvl hS hA hinv hal hf hsc hst hsn hb1 hx1 hb2 hx2 hlnn hN N
  go_enter Tryz.func45, Tryz.ntmps45
  go_wp2_with (at_builtin; refine list_app_gen rfl (.tmp 9) (.tmp 10) 30 rfl 44 i0 _ 8 104 Tryz.underlying30 hi0 hz0 hz1 hz2 rfl (by decide) (w.heap.size + 1) 0 _ [] (by rfl) hown2 hsz2 A ln cap (cellsS l vs) rfl hS2 h1c (by omega) (by omega) ?_; intro v1 w3 hown hgrow; rw [Nat.zero_add, List.nil_append] at hown; obtain ⟨A1, c1, rfl⟩ := own_shape hown; have hbx := HEX.out w3 hgrow; have hcx := ch_cells hbx.2; have HB3 := hid hbx.1; have HOWN := hid hown; have HBX3 := hid hbx.2; clear hbx)
  go_ret2
  exact ⟨_, _, rfl, HB3.out, fun q => absurd q (by decide)⟩

set_option maxRecDepth 100000 in
set_option maxHeartbeats 16000000 in
theorem rmake_no_shut (l : List St) (vs : List Value) (v : Value) (day kd : Int) (k : Nat) (code town name : W) (low high shift : Int) (w : World) (hl : IsSts w v l vs) (hln : l.length ≤ 900) (hinv : Inv l) (hal : ∀ s ∈ l, s.al.length ≤ 900) (hf : FmC (⟨day, kd, (k : Int), code, town, name, low, high, shift⟩ : Ch)) (s : St) (hsk : l[k]? = some s) (hso : s.isOpen = false) (hkd : kd ≠ 1) :
    Calls Tryz.prog 45 #[v, chA (⟨day, kd, (k : Int), code, town, name, low, high, shift⟩ : Ch)] w (MPost l (⟨day, kd, (k : Int), code, town, name, low, high, shift⟩ : Ch) w) := by
  obtain ⟨A, cap, rfl, hL⟩ := hl.parts
  have hL2 := hL
  obtain ⟨A', cap', e', hvl, hS, hA⟩ := hL2
  cases e'
  obtain ⟨i0, hi0, hz0, hz1, hz2⟩ := info_parts infoSt
  have h1c := one_sts l vs (fun i s u hs hu => by obtain ⟨A, c, e, _⟩ := hA i s u hs hu; exact ⟨A, _, c, e⟩)
  have HS0 := hid hS
  have HA0 := hid hA
  have HL := hid hL
  have HVL := hid hvl
  have HINV := hid hinv
  have HAL := hid hal
  have HF := hid hf
  obtain ⟨sc, hsc⟩ : ∃ x, x = sB code := ⟨_, rfl⟩
  obtain ⟨st, hst⟩ : ∃ x, x = sB town := ⟨_, rfl⟩
  obtain ⟨sn, hsn⟩ : ∃ x, x = sB name := ⟨_, rfl⟩
  have HSC := hid hsc
  have HST := hid hst
  have HSN := hid hsn
  unfold chA
  simp only [← hsc, ← hst, ← hsn]
  obtain ⟨N, hN⟩ : ∃ N, N = w.heap.size := ⟨_, rfl⟩
  have hb1 : Below w.heap.size w (w.alloc (.cells #[.int .i64 day, .int .i64 kd, .int .i64 (k : Int), .string sc, .string st, .string sn, .int .i64 low, .int .i64 high, .int .i64 shift] 29)) := b0 _ _
  have hx1 : (w.alloc (.cells #[.int .i64 day, .int .i64 kd, .int .i64 (k : Int), .string sc, .string st, .string sn, .int .i64 low, .int .i64 high, .int .i64 shift] 29)).heap[w.heap.size]? = some (.cells #[.int .i64 day, .int .i64 kd, .int .i64 (k : Int), .string sc, .string st, .string sn, .int .i64 low, .int .i64 high, .int .i64 shift] 29 (0, 0)) := heap_new _ _
  have hb2 : Below w.heap.size w ((w.alloc (.cells #[.int .i64 day, .int .i64 kd, .int .i64 (k : Int), .string sc, .string st, .string sn, .int .i64 low, .int .i64 high, .int .i64 shift] 29)).alloc (.cells #[] 44)) := hb1.alloc hb1.size _
  have hx2 : ((w.alloc (.cells #[.int .i64 day, .int .i64 kd, .int .i64 (k : Int), .string sc, .string st, .string sn, .int .i64 low, .int .i64 high, .int .i64 shift] 29)).alloc (.cells #[] 44)).heap[w.heap.size]? = some (.cells #[.int .i64 day, .int .i64 kd, .int .i64 (k : Int), .string sc, .string st, .string sn, .int .i64 low, .int .i64 high, .int .i64 shift] 29 (0, 0)) := by
    rw [(b0 (w.alloc (.cells #[.int .i64 day, .int .i64 kd, .int .i64 (k : Int), .string sc, .string st, .string sn, .int .i64 low, .int .i64 high, .int .i64 shift] 29)) (.cells #[] 44)).block _ (heap_lt hx1)]; exact hx1
  have hown2 := own_empty2 (w.alloc (.cells #[.int .i64 day, .int .i64 kd, .int .i64 (k : Int), .string sc, .string st, .string sn, .int .i64 low, .int .i64 high, .int .i64 shift] 29)) (w.heap.size + 1) (w.heap.size + 1) 8 (Nat.le_refl _) (sz1 _ _).symm 44
  have hS2 := hS.on hb2
  have hsz2 : w.heap.size + 1 ≤ ((w.alloc (.cells #[.int .i64 day, .int .i64 kd, .int .i64 (k : Int), .string sc, .string st, .string sn, .int .i64 low, .int .i64 high, .int .i64 shift] 29)).alloc (.cells #[] 44)).heap.size := by rw [sz1, sz1]; omega
  obtain ⟨ln, hlnn⟩ : ∃ x, x = l.length := ⟨_, rfl⟩
  rw [← hlnn] at hS2 hln ⊢
  have HLN := hid hlnn
  have HEX : Hid (∀ w3, ((w.alloc (.cells #[.int .i64 day, .int .i64 kd, .int .i64 (k : Int), .string sc, .string st, .string sn, .int .i64 low, .int .i64 high, .int .i64 shift] 29)).alloc (.cells #[] 44)).grownBy w3 (Value.slice (some ⟨w.heap.size + 1, 0, none⟩) 0 0).ownBlock → Below w.heap.size w w3 ∧ w3.heap[w.heap.size]? = some (.cells #[.int .i64 day, .int .i64 kd, .int .i64 (k : Int), .string sc, .string st, .string sn, .int .i64 low, .int .i64 high, .int .i64 shift] 29 (0, 0))) := fun w3 hg => by
    refine ⟨hb2.grown hg hb2.size (fun k e => ?_), (hg.block _ (heap_lt hx2) (fun e => ?_)).trans hx2⟩
    · simp [Value.ownBlock] at e; omega
    · simp [Value.ownBlock] at e
  have hkl : k < l.length := (List.getElem?_eq_some_iff.1 hsk).1
  obtain ⟨u0, hu0⟩ : ∃ u, vs[k]? = some u := ⟨_, List.getElem?_eq_getElem (by rw [hvl]; exact hkl)⟩
  obtain ⟨Au, cu, rfl, hAu⟩ := hA k s u0 hsk hu0
  rw [← hlnn] at hkl
  have hk0 : 0 ≤ (k : Int) := by omega
  have hk1 : (k : Int) < (ln : Int) := by omega
  have HSK := hid hsk
  have HUK := hid hu0
  have HSO := hid hso
  have HAU := hid hAu
  have hq : ¬ kd = 1 := hkd
  have hq2 : (kd == 1) = false := by simpa using hkd
  clear hsk hu0 hso hAu hl hL hvl hS hA hinv hal hf hsc hst hsn hb1 hx1 hb2 hx2 hlnn hN N
  go_enter Tryz.func45, Tryz.ntmps45
  go_wp2_with (at_builtin; refine list_app_gen rfl (.tmp 9) (.tmp 10) 30 rfl 44 i0 _ 8 104 Tryz.underlying30 hi0 hz0 hz1 hz2 rfl (by decide) (w.heap.size + 1) 0 _ [] (by rfl) hown2 hsz2 A ln cap (cellsS l vs) rfl hS2 h1c (by omega) (by omega) ?_; intro v1 w3 hown hgrow; rw [Nat.zero_add, List.nil_append] at hown; obtain ⟨g, c1, rfl, hgB, hgl, hgc, hgz⟩ := own_cut hown (by omega); have hbx := HEX.out w3 hgrow; have hcx := ch_cells hbx.2; have HB3 := hid hbx.1; have HOWN := hid hown; have HBX3 := hid hbx.2; have HGB := hid hgB; have d0 := hgc (k * 8 + 0) _ ((cellsS_at HSK.out HUK.out 0 (by omega)).trans rfl); have d1 := hgc (k * 8 + 1) _ ((cellsS_at HSK.out HUK.out 1 (by omega)).trans rfl); have d2 := hgc (k * 8 + 2) _ ((cellsS_at HSK.out HUK.out 2 (by omega)).trans rfl); have d3 := hgc (k * 8 + 3) _ ((cellsS_at HSK.out HUK.out 3 (by omega)).trans rfl); have d4 := hgc (k * 8 + 4) _ ((cellsS_at HSK.out HUK.out 4 (by omega)).trans rfl); have d5 := hgc (k * 8 + 5) _ ((cellsS_at HSK.out HUK.out 5 (by omega)).trans rfl); have d6 := hgc (k * 8 + 6) _ ((cellsS_at HSK.out HUK.out 6 (by omega)).trans rfl); have d7 := hgc (k * 8 + 7) _ ((cellsS_at HSK.out HUK.out 7 (by omega)).trans rfl); rw [HSO.out] at d7; have y0 := hgz (k * 8 + 0); have y1 := hgz (k * 8 + 1); have y2 := hgz (k * 8 + 2); have y3 := hgz (k * 8 + 3); have y4 := hgz (k * 8 + 4); have y5 := hgz (k * 8 + 5); have y6 := hgz (k * 8 + 6); have y7 := hgz (k * 8 + 7); rw [Nat.add_zero] at d0 y0; clear hgc hgz hown hbx)
  go_ret2
  exact ⟨_, _, rfl, HB3.out, fun q => absurd q (by decide)⟩

end Rg
end Go.Proofs.YtaeljmiklalpnaaGreatDoor
