/-
  Contract of the program's follow: the walk.
-/
import Derived.Test.YtaeljmiklalpnaaGreatDoorFy
import Derived.Laws.EntriesVeiled
import Derived.Laws.AppendOwn
import Derived.Outline
import Derived.Deep.RegionHeld3
namespace Go.Proofs.YtaeljmiklalpnaaGreatDoor
open Go.RowKit Go.ChangeMaps Gn
namespace Rg

set_option maxRecDepth 100000 in
set_option maxHeartbeats 32000000 in
theorem pfollow_any (r : List Ch) (st : Nat) (E at' : Int) (rv : Value) (w : World) (hr : IsChs w rv r) (hs : Fol r st E at') (ht : Tb w) :
    Calls Tryz.prog 23 #[rv] w (FPost r E at' w) := by
  obtain ⟨A, cap, rfl, hR⟩ := hr
  obtain ⟨i0, hi0, hz0, hz1, hz2⟩ := info_parts infoSt
  have hmf : ∀ (fn : Fn) (first cap : Array Value) (w : World), (Instr.makeFunc fn first cap).run Tryz.prog w = .ok (.func fn first cap) w := fun _ _ _ _ => rfl
  have CK := hid (fun u => pkinds_any u)
  have CRQ := hid (fun k u => preq_yes k u)
  have CRN := hid (fun k u => preq_no k u)
  have HS := hid hs
  have HR := hid hR
  have HT := hid ht
  obtain ⟨m, hm⟩ : ∃ m, m = r.length := ⟨_, rfl⟩
  have hst := hs.le
  have hst60 := hs.few
  rw [← hm] at hst ⊢
  have HM := hid hm
  obtain ⟨B, hB⟩ : ∃ B, B = w.heap.size := ⟨_, rfl⟩
  have HBB := hid hB
  clear hm hs hR ht
  go_enter_defers Tryz.func23, Tryz.ntmps23
  go_wp2_with fail
  refine (CK.out _).mono ?_
  rintro e w2 ⟨rfl, hmap, hb2⟩
  have HI0 : Hid (FInv r w 0 nilV [] w2) := FInv.start r w w2 hmap hb2
  clear hmap hb2
  go_wp2_with fail
  rw [← hB]
  clear hB
  go_loopw [14] (fun i wr => ∃ k : Nat, k ≤ st ∧ i = .int .i64 k ∧ Hid (∃ v vs, FInv r w k v vs wr)) (fun i _ => m - (intOf i).toNat)
  case atStart => exact ⟨0, Nat.zero_le _, rfl, ⟨_, _, HI0.out⟩⟩
  case round =>
    obtain ⟨k, hk, rfl, hI⟩ := hrel
    obtain ⟨v, vs, hI⟩ := hI.out
    by_cases hlt : k < m
    · obtain ⟨c, hc⟩ : ∃ c, r[k]? = some c := ⟨_, List.getElem?_eq_getElem (by have := HM.out; omega)⟩
      have hfm := HS.out.fm k c hk hc
      have hk60' : k < 60 := by
        rcases HS.out.out with ⟨e, _⟩ | ⟨_, h, _⟩
        · have := HM.out; omega
        · omega
      obtain ⟨g0, o0, rfl, hg0, hch⟩ := slr_ch (SlR.on HR.out hI.below) hc
      obtain ⟨c0, c1, c2, c3, c4, c5, c6, c7, c8⟩ := hch
      have hk0 : 0 ≤ (k : Int) := by omega
      have hk1 : (k : Int) < (m : Int) := by omega
      have hk60 : (k : Int) < 60 := by omega
      have HC := hid hc
      have HFM := hid hfm
      obtain ⟨tc, htc⟩ : ∃ x, x = sB c.code := ⟨_, rfl⟩
      obtain ⟨tt, htt⟩ : ∃ x, x = sB c.town := ⟨_, rfl⟩
      obtain ⟨tn, htn⟩ : ∃ x, x = sB c.name := ⟨_, rfl⟩
      rw [← htc] at c3
      rw [← htt] at c4
      rw [← htn] at c5
      have HTC := hid htc
      have HTT := hid htt
      have HTN := hid htn
      obtain ⟨wa, hwa⟩ : ∃ wa, wa = wr.alloc (.cells #[.int .i64 c.day, .int .i64 c.kind, .int .i64 c.street, .string tc, .string tt, .string tn, .int .i64 c.low, .int .i64 c.high, .int .i64 c.shift] 29) := ⟨_, rfl⟩
      have HWR : Hid (w.heap.size ≤ wr.heap.size) := hI.below.size
      have hba : Below wr.heap.size wr wa := by rw [hwa]; exact b0 _ _
      have hra : wa.heap[wr.heap.size]? = some (.cells #[.int .i64 c.day, .int .i64 c.kind, .int .i64 c.street, .string tc, .string tt, .string tn, .int .i64 c.low, .int .i64 c.high, .int .i64 c.shift] 29 (0, 0)) := by rw [hwa]; exact heap_new _ _
      have HRA := hid hra
      have HIA : Hid (FInv r w k v vs wa) := hI.on hba
      have SK : Hid (∀ u, Below wa.heap.size wa u → u.cell? ⟨wr.heap.size, 0, none⟩ = some (.int .i64 c.day) ∧ u.cell? ⟨wr.heap.size, 1, none⟩ = some (.int .i64 c.kind) ∧ u.cell? ⟨wr.heap.size, 2, none⟩ = some (.int .i64 c.street) ∧ u.cell? ⟨wr.heap.size, 3, none⟩ = some (.string tc) ∧ u.cell? ⟨wr.heap.size, 4, none⟩ = some (.string tt) ∧ u.cell? ⟨wr.heap.size, 5, none⟩ = some (.string tn) ∧ u.cell? ⟨wr.heap.size, 6, none⟩ = some (.int .i64 c.low) ∧ u.cell? ⟨wr.heap.size, 7, none⟩ = some (.int .i64 c.high) ∧ u.cell? ⟨wr.heap.size, 8, none⟩ = some (.int .i64 c.shift) ∧ u.cell? ⟨B, 0, none⟩ = some (v)) := fun u hu => by
        have h := (hu.block _ (heap_lt HRA.out)).trans HRA.out
        have h2 := (hu.block _ (heap_lt HIA.out.b2)).trans HIA.out.b2
        rw [← HBB.out] at h2
        refine ⟨?_, ?_, ?_, ?_, ?_, ?_, ?_, ?_, ?_, ?_⟩ <;> first | (rw [cell_at h]; rfl) | (rw [cell_at h2]; rfl)
      clear hc hfm hg0 htc htt htn hba hra hI
      go_wp2_with fail
      refine (CRQ.out 2 _).mono ?_
      rintro e y1 ⟨rfl, rfl⟩
      rw [← hwa]
      clear hwa c0 c1 c2 c3 c4 c5 c6 c7 c8
      obtain ⟨c0, c1, c2, c3, c4, c5, c6, c7, c8, cv⟩ := SK.out _ (Below.refl _ _)
      have hda : Below wa.heap.size wa wa.drew := (Below.refl _ _).drew
      have hkz : k = 0 ∨ 0 < k := by omega
      have hday : Hid (0 < k → ∃ p : Ch, r[k - 1]? = some p ∧ p.day ≤ c.day ∧ wa.cell? ⟨g0, o0 + (k - 1) * 9, none⟩ = some (.int .i64 p.day)) := fun h0 => by
        obtain ⟨p, hp⟩ : ∃ p, r[k - 1]? = some p := ⟨_, List.getElem?_eq_getElem (by have := HM.out; omega)⟩
        obtain ⟨g1, o1, e1, _, hch⟩ := slr_ch (SlR.on HR.out HIA.out.below) hp
        cases e1
        exact ⟨p, hp, HS.out.days (k - 1) p c (by omega) hp (by rw [show k - 1 + 1 = k by omega]; exact HC.out), hch.c0⟩
      have HDA := hid hda
      clear hda
      go_wp2_with fail
      rcases hkz with hkz | hkz
      · have q1 : ((k : Int) == 0) = true := by rw [hkz]; rfl
        have q1b : (k == 0) = true := by rw [hkz]; rfl
        clear hkz
        refine wp_region_noPanic ?_
        refine wp_region_held_drew (S := fun w' => w'.cell? ⟨wr.heap.size, 0, none⟩ = some (.int .i64 c.day)) (by kernel_rfl) (by simpa using c0) (fun hHeld => ?_)
        obtain ⟨wd, hwd⟩ : ∃ u, u = wa.drew := ⟨_, rfl⟩
        rw [← hwd] at HDA hHeld ⊢
        clear hwd
        refine wpAnyH_take (i := 0) (oi := ⟨some 23, _, _, _, _, _⟩) (v := .int .i64 (k : Int)) rfl (by kernel_rfl) (by kernel_rfl) (by kernel_rfl) (fun _ _ _ h => h) (Or.inl ⟨by rfl, ?_⟩) hHeld ?_
        · intro u hu
          go_simp
        try simp only [Act.put, List.setIfInBounds_toArray, List.set_cons_zero, List.set_cons_succ]
        refine wpAnyH_take (i := 1) (oi := ⟨some 24, _, _, _, _, _⟩) (v := .bool true) rfl (by kernel_rfl) (by kernel_rfl) (by kernel_rfl) (fun _ _ _ h => h) (Or.inl ⟨by rfl, ?_⟩) hHeld ?_
        · intro u hu
          go_simp
        try simp only [Act.put, List.setIfInBounds_toArray, List.set_cons_zero, List.set_cons_succ]
        refine wpAnyH_take (i := 2) (oi := ⟨some 25, _, _, _, _, _⟩) (v := .bool true) rfl (by kernel_rfl) (by kernel_rfl) (by kernel_rfl) (fun _ _ _ h => h) (Or.inl ⟨by rfl, ?_⟩) hHeld ?_
        · intro u hu
          go_simp
        try simp only [Act.put, List.setIfInBounds_toArray, List.set_cons_zero, List.set_cons_succ]
        refine wpAnyH_take (i := 3) (oi := ⟨some 26, _, _, _, _, _⟩) (v := undef) rfl (by kernel_rfl) (by kernel_rfl) (by kernel_rfl) (fun _ _ _ h => h) (Or.inr ⟨by rfl, rfl⟩) hHeld ?_
        try simp only [Act.put, List.setIfInBounds_toArray, List.set_cons_zero, List.set_cons_succ]
        refine wpAnyH_take (i := 4) (oi := ⟨some 27, _, _, _, _, _⟩) (v := undef) rfl (by kernel_rfl) (by kernel_rfl) (by kernel_rfl) (fun _ _ _ h => h) (Or.inr ⟨by rfl, rfl⟩) hHeld ?_
        try simp only [Act.put, List.setIfInBounds_toArray, List.set_cons_zero, List.set_cons_succ]
        refine wpAnyH_take (i := 5) (oi := ⟨some 28, _, _, _, _, _⟩) (v := undef) rfl (by kernel_rfl) (by kernel_rfl) (by kernel_rfl) (fun _ _ _ h => h) (Or.inr ⟨by rfl, rfl⟩) hHeld ?_
        try simp only [Act.put, List.setIfInBounds_toArray, List.set_cons_zero, List.set_cons_succ]
        refine wpAnyH_take (i := 6) (oi := ⟨some 29, _, _, _, _, _⟩) (v := undef) rfl (by kernel_rfl) (by kernel_rfl) (by kernel_rfl) (fun _ _ _ h => h) (Or.inr ⟨by rfl, rfl⟩) hHeld ?_
        try simp only [Act.put, List.setIfInBounds_toArray, List.set_cons_zero, List.set_cons_succ]
        refine wpAnyH_take (i := 7) (oi := ⟨some 30, _, _, _, _, _⟩) (v := undef) rfl (by kernel_rfl) (by kernel_rfl) (by kernel_rfl) (fun _ _ _ h => h) (Or.inr ⟨by rfl, rfl⟩) hHeld ?_
        try simp only [Act.put, List.setIfInBounds_toArray, List.set_cons_zero, List.set_cons_succ]
        refine wpAnyH_take (i := 8) (oi := ⟨some 31, _, _, _, _, _⟩) (v := undef) rfl (by kernel_rfl) (by kernel_rfl) (by kernel_rfl) (fun _ _ _ h => h) (Or.inr ⟨by rfl, rfl⟩) hHeld ?_
        try simp only [Act.put, List.setIfInBounds_toArray, List.set_cons_zero, List.set_cons_succ]
        refine wpAnyH_take (i := 9) (oi := ⟨some 32, _, _, _, _, _⟩) (v := undef) rfl (by kernel_rfl) (by kernel_rfl) (by kernel_rfl) (fun _ _ _ h => h) (Or.inr ⟨by rfl, rfl⟩) hHeld ?_
        try simp only [Act.put, List.setIfInBounds_toArray, List.set_cons_zero, List.set_cons_succ]
        refine wpAnyH_take (i := 10) (oi := ⟨some 33, _, _, _, _, _⟩) (v := undef) rfl (by kernel_rfl) (by kernel_rfl) (by kernel_rfl) (fun _ _ _ h => h) (Or.inr ⟨by rfl, rfl⟩) hHeld ?_
        try simp only [Act.put, List.setIfInBounds_toArray, List.set_cons_zero, List.set_cons_succ]
        refine wpAnyH_take (i := 11) (oi := ⟨some 34, _, _, _, _, _⟩) (v := undef) rfl (by kernel_rfl) (by kernel_rfl) (by kernel_rfl) (fun _ _ _ h => h) (Or.inr ⟨by rfl, rfl⟩) hHeld ?_
        try simp only [Act.put, List.setIfInBounds_toArray, List.set_cons_zero, List.set_cons_succ]
        refine wpAnyH_take (i := 12) (oi := ⟨some 35, _, _, _, _, _⟩) (v := .bool true) rfl (by kernel_rfl) (by kernel_rfl) (by kernel_rfl) (fun _ _ _ h => h) (Or.inl ⟨by rfl, ?_⟩) hHeld ?_
        · intro u hu
          go_simp
        try simp only [Act.put, List.setIfInBounds_toArray, List.set_cons_zero, List.set_cons_succ]
        refine wpAnyH_ready (rs := [13]) (by kernel_rfl) (by simp) ?_
        refine AllReadyH.cons (o := ⟨some 36, _, _, _, _, _⟩) rfl (fun K hK => ?_) AllReadyH.nil
        go_simp
        go_at_call 33
        refine (CRQ.out 50 _).mono ?_
        rintro e y1 ⟨rfl, rfl⟩
        refine hK.out _ _ hHeld (fun hHeld => ?_)
        clear hK K
        try simp only [Act.put, List.setIfInBounds_toArray, List.set_cons_zero, List.set_cons_succ]
        refine wpAnyH_done (by kernel_rfl) ?_ _
        clear hHeld
        refine NoPanic.normal ?_
        have hkind := HFM.out.kind
        obtain ⟨uk, huk⟩ : ∃ x, x = usesK c.kind := ⟨_, rfl⟩
        obtain ⟨fk, hfk⟩ : ∃ x, x = funK c.kind := ⟨_, rfl⟩
        have hlk : (Instr.lookup 68 (.map (some (B + 1 + 1))) (.int .i64 c.kind) true).run Tryz.prog wd = .ok (.tuple #[.agg #[.int .i64 uk, .func (.func fk) #[] #[]], .bool true]) wd := by
          have h := look_k ((HDA.out.block _ (heap_lt HIA.out.mp)).trans HIA.out.mp) c.kind hkind.1 hkind.2
          rw [HBB.out, huk, hfk]; exact h
        have HFK := hid hfk
        clear c0 c1 c2 c3 c4 c5 c6 c7 c8 cv
        obtain ⟨c0, c1, c2, c3, c4, c5, c6, c7, c8, cv⟩ := SK.out _ HDA.out
        obtain ⟨wb, hwb⟩ : ∃ u, u = wd.alloc (.cells #[.int .i64 uk, .func (.func fk) #[] #[]] 73) := ⟨_, rfl⟩
        have hbb : Below wd.heap.size wd wb := by rw [hwb]; exact b0 _ _
        have hrb : wb.heap[wd.heap.size]? = some (.cells #[.int .i64 uk, .func (.func fk) #[] #[]] 73 (0, 0)) := by rw [hwb]; exact heap_new _ _
        have HRB := hid hrb
        have HBW := hid (bt HDA.out hbb)
        have CD := hid (fun u => pday_yes c.day u HFM.out.day.1 HFM.out.day.2)
        have HTW : Hid (∀ u, Below w.heap.size w u → Tb u) := fun u hu => HT.out.on hu
        have CFT := hid (pfits_formed c wb (HTW.out _ (bt HIA.out.below HBW.out)) HFM.out)
        unfold chA at CFT
        rw [← HTC.out, ← HTT.out, ← HTN.out, ← huk] at CFT
        have cb0 : wb.cell? ⟨wd.heap.size, 0, none⟩ = some (.int .i64 uk) := by rw [cell_at hrb]; rfl
        have cb1 : wb.cell? ⟨wd.heap.size, 1, none⟩ = some (.func (.func fk) #[] #[]) := by rw [cell_at hrb]; rfl
        have d0 := (SK.out _ HBW.out).1
        rw [hwb] at d0
        clear huk hfk hbb hrb
        go_wp2_with fail
        refine (CD.out _).mono ?_
        rintro e y1 ⟨rfl, rfl⟩
        rw [← hwb]
        clear hwb hlk d0 c0 c1 c2 c3 c4 c5 c6 c7 c8 cv
        obtain ⟨c0, c1, c2, c3, c4, c5, c6, c7, c8, cv⟩ := SK.out _ HBW.out
        go_wp2_with fail
        refine CFT.out.mono ?_
        rintro e w5 ⟨rfl, hb5⟩
        have HB5 := hid (bt HBW.out hb5)
        have HK5 : Hid (w5.heap[wd.heap.size]? = some (.cells #[.int .i64 uk, .func (.func fk) #[] #[]] 73 (0, 0))) := (hb5.block _ (heap_lt HRB.out)).trans HRB.out
        clear hb5 cb0 cb1 c0 c1 c2 c3 c4 c5 c6 c7 c8 cv
        obtain ⟨c0, c1, c2, c3, c4, c5, c6, c7, c8, cv⟩ := SK.out _ HB5.out
        go_wp2_with fail
        refine (CRQ.out 1 _).mono ?_
        rintro e y1 ⟨rfl, rfl⟩
        have HC5 : Hid (w5.heap[wr.heap.size]? = some (.cells #[.int .i64 c.day, .int .i64 c.kind, .int .i64 c.street, .string tc, .string tt, .string tn, .int .i64 c.low, .int .i64 c.high, .int .i64 c.shift] 29 (0, 0))) := (HB5.out.block _ (heap_lt HRA.out)).trans HRA.out
        have CCL0 := hid (fun u => pclone_any c.code u (by have := HFM.out.short.code; omega))
        have CCL1 := hid (fun u => pclone_any c.town u (by have := HFM.out.short.town; omega))
        have CCL2 := hid (fun u => pclone_any c.name u (by have := HFM.out.short.name; omega))
        rw [← HTC.out] at CCL0
        rw [← HTT.out] at CCL1
        rw [← HTN.out] at CCL2
        have hsd := HS.out.sound
        have HG5 := hid ((HIA.out.on HB5.out).g)
        have HLK := hid (Nat.le_trans (run_few (r.take k)) (by rw [List.length_take]; omega : (r.take k).length ≤ k))
        obtain ⟨l, hl⟩ : ∃ l, l = runL (r.take k) := ⟨_, rfl⟩
        rw [← hl] at HG5 HLK
        have HL := hid hl
        have HNEXT : Hid (runL (r.take (k + 1)) = stp l c) := by show _ = _; rw [run_take HC.out, HL.out]
        clear hl hsd
        by_cases hk1' : c.kind = 1
        · have hkn : ((c.kind : Int) == 1) = true := by simpa using hk1'
          have HKN := hid hk1'
          clear hk1'
          obtain ⟨A1, cap1, rfl⟩ := HG5.out.st.formA
          obtain ⟨ln, hln⟩ : ∃ x, x = l.length := ⟨_, rfl⟩
          rw [← hln] at HG5 HLK cv SK
          have HLN := hid hln
          have hln2 : ln ≤ 1000 := by have := HLK.out; omega
          clear hln
          have zc2 : w5.frozen? ⟨wr.heap.size, 2, none⟩ = false := free_at (i := 2) HC5.out rfl
          go_upto_region 13 with (fail)
          clear zc2
          obtain ⟨wp, hwp⟩ : ∃ u, u = w5.setCell ⟨wr.heap.size, 2, none⟩ (.int .i64 (ln : Int)) := ⟨_, rfl⟩
          rw [← hwp]
          have hwC : w.heap.size ≤ wr.heap.size := by have := HIA.out.below.size; have h1 := heap_lt HRA.out; exact HWR.out
          have HGP : Hid (GInv w l (.slice A1 ln cap1) vs wp) := by show GInv _ _ _ _ _; rw [hwp]; exact HG5.out.poke HC5.out hwC
          have HCP : Hid (wp.heap[wr.heap.size]? = some (.cells #[.int .i64 c.day, .int .i64 c.kind, .int .i64 (ln : Int), .string tc, .string tt, .string tn, .int .i64 c.low, .int .i64 c.high, .int .i64 c.shift] 29 (0, 0))) := by show _ = _; rw [hwp]; exact heap_setCell_same _ _ 2 _ _ _ HC5.out
          have HKP : Hid (wp.heap[wd.heap.size]? = some (.cells #[.int .i64 uk, .func (.func fk) #[] #[]] 73 (0, 0))) := by
            show _ = _
            rw [hwp, Below.heap_setCell w5 ⟨wr.heap.size, 2, none⟩ _ wd.heap.size (by intro q; have q : wd.heap.size = wr.heap.size := q; have h := HK5.out; rw [q, HC5.out] at h; cases h)]; exact HK5.out
          clear hwp hwC c0 c1 c2 c3 c4 c5 c6 c7 c8 cv
          obtain ⟨c0, c1, c2, c3, c4, c5, c6, c7, c8⟩ := ch_cells HCP.out
          have cv : wp.cell? ⟨B, 0, none⟩ = some (.slice A1 ln cap1) := by rw [HBB.out, cell_at HGP.out.b2]; rfl
          have hrow : wp.ownsRow w.heap.size 44 8 (.slice A1 ln cap1) ln (cellsS l vs) := by have h := HGP.out.st.row; rw [← HLN.out] at h; exact h
          have hbase : w.heap.size ≤ wp.heap.size := HGP.out.below.size
          have cnew := block_news wp #[.string ⟨#[]⟩, .string ⟨#[]⟩, .string ⟨#[]⟩, .slice none 0 0, .int .i64 0, .int .i64 0, .int .i64 0, .bool true] 44 wp.heap.size rfl
          have HX : Hid (∀ g cap2 w6, w6.ownsRow w.heap.size 44 8 (.slice (some ⟨g, 0, none⟩) (ln + 1) cap2) (ln + 1) (cellsS l vs ++ ((#[.string ⟨#[]⟩, .string ⟨#[]⟩, .string ⟨#[]⟩, .slice none 0 0, .int .i64 0, .int .i64 0, .int .i64 0, .bool true] : Array Value).toList)) → (wp.alloc (.cells #[.string ⟨#[]⟩, .string ⟨#[]⟩, .string ⟨#[]⟩, .slice none 0 0, .int .i64 0, .int .i64 0, .int .i64 0, .bool true] 44)).grownBy w6 (Value.slice A1 ln cap1).ownBlock →
              Strs w.heap.size w6 (.slice (some ⟨g, 0, none⟩) (ln + 1) cap2) (l ++ [zeroS]) (vs ++ [nilV]) ∧ Frm w.heap.size wp w6 ∧ w6.cell? ⟨B, 0, none⟩ = some (.slice A1 ln cap1) ∧ w6.frozen? ⟨B, 0, none⟩ = false ∧ w6.heap[wr.heap.size]? = some (.cells #[.int .i64 c.day, .int .i64 c.kind, .int .i64 (ln : Int), .string tc, .string tt, .string tn, .int .i64 c.low, .int .i64 c.high, .int .i64 c.shift] 29 (0, 0)) ∧ w6.heap[wd.heap.size]? = some (.cells #[.int .i64 uk, .func (.func fk) #[] #[]] 73 (0, 0))) := fun g cap2 w6 h1 h2 => by
            obtain ⟨p1, p2⟩ := HGP.out.st.snoc (z := zeroS) rfl (by rw [← HLN.out]; exact h1) h2
            have hb2 := p2.keep HGP.out.b2 (by decide)
            exact ⟨p1, p2, by rw [HBB.out, cell_at hb2]; rfl, by rw [HBB.out]; exact free_at (i := 0) hb2 rfl, p2.keep HCP.out (by decide), p2.keep HKP.out (by decide)⟩
          go_wp2_with (at_builtin; refine wpList_append_lies _ rfl _ _ 30 rfl w.heap.size 44 i0 _ 8 104 Tryz.underlying30 hi0 hz0 hz1 hz2 rfl (by decide) _ _ _ rfl (hrow.alloc _) ⟨wp.heap.size, 0, none⟩ 1 1 ((#[.string ⟨#[]⟩, .string ⟨#[]⟩, .string ⟨#[]⟩, .slice none 0 0, .int .i64 0, .int .i64 0, .int .i64 0, .bool true] : Array Value).toList) rfl rfl cnew (by intro x hx; simp at hx; rcases hx with rfl | rfl | rfl | rfl | rfl | rfl | rfl | rfl <;> rfl) (by omega) (by unfold maxLen; omega) (by omega) (by simp; omega) (wp.heap.size + 1) (by simp) ?_; intro g cap2 w6 hown6 hgrow hat6 hlt6; obtain ⟨hs6, hf6, x6, z6, y6, k6⟩ := HX.out g cap2 w6 hown6 hgrow; obtain ⟨d0, d1, d2, d3, d4, d5, d6, d7, d8⟩ := ch_cells y6)
          obtain ⟨ln1, hln1⟩ : ∃ x, x = ln + 1 := ⟨_, rfl⟩
          rw [← hln1] at hs6 ⊢
          obtain ⟨w7, hw7⟩ : ∃ u, u = w6.setCell ⟨B, 0, none⟩ (.slice (some ⟨g, 0, none⟩) ln1 cap2) := ⟨_, rfl⟩
          rw [← hw7]
          have HG7 : Hid (GInv w (l ++ [zeroS]) (.slice (some ⟨g, 0, none⟩) ln1 cap2) (vs ++ [nilV]) w7) := by show GInv _ _ _ _ _; rw [hw7, HBB.out]; exact HGP.out.setv hf6 hs6
          have hCB : wr.heap.size ≠ B := by
            intro q; have h := HG5.out.b2; rw [← HBB.out, ← q, HC5.out] at h; cases h
          have hKB : wd.heap.size ≠ B := by
            intro q; have h := HG5.out.b2; rw [← HBB.out, ← q, HK5.out] at h; cases h
          have HCT : Hid (w7.heap[wr.heap.size]? = some (.cells #[.int .i64 c.day, .int .i64 c.kind, .int .i64 (ln : Int), .string tc, .string tt, .string tn, .int .i64 c.low, .int .i64 c.high, .int .i64 c.shift] 29 (0, 0))) := by show _ = _; rw [hw7, Below.heap_setCell w6 ⟨B, 0, none⟩ _ wr.heap.size hCB]; exact y6
          have HKT : Hid (w7.heap[wd.heap.size]? = some (.cells #[.int .i64 uk, .func (.func fk) #[] #[]] 73 (0, 0))) := by show _ = _; rw [hw7, Below.heap_setCell w6 ⟨B, 0, none⟩ _ wd.heap.size hKB]; exact k6
          have hln3 : ln < ln1 := by omega
          have hn1 : (ln : Int) < (ln1 : Int) := by omega
          have hn0 : 0 ≤ (ln : Int) := by omega
          have hlz : (l ++ [zeroS]).length = ln1 := by rw [List.length_append, ← HLN.out, hln1]; rfl
          have hzs : (l ++ [zeroS])[ln]? = some zeroS := by rw [HLN.out]; simp
          have hset : (l ++ [zeroS]).set ln (newS c) = stp l c := by rw [stp_open HKN.out, HLN.out, set_snoc]
          have htrg : trg l c = ln := by rw [trg_open HKN.out, HLN.out]
          have HHAS : Hid (hasB (l ++ [zeroS]) (ln : Int) = true) := (hasB_iff _ _).2 ⟨by omega, zeroS, by simpa using hzs, rfl⟩
          have HLE := hid (by rw [hlz]; have := HLK.out; omega : (l ++ [zeroS]).length ≤ 1000)
          have hsl : ((l ++ [zeroS]).set ln (newS c)).length = ln1 := by rw [List.length_set, hlz]
          have HLEN := hid (by rw [hsl]; have := HLK.out; omega : ((l ++ [zeroS]).set ln (newS c)).length ≤ 1000)
          have HNL := hid (by rw [hsl]; omega : ln < ((l ++ [zeroS]).set ln (newS c)).length)
          have hinv : Inv l := by
            have h := HS.out.sound.take k
            rw [List.take_take, Nat.min_eq_left (by omega)] at h
            rw [HL.out]; exact h.inv
          have HOKS : Hid (OkS ((l ++ [zeroS]).set ln (newS c))) := by
            show OkS _
            have h0 := ok_streets (r := r.take k) (by rw [← HL.out]; exact hinv) (by rw [List.length_take]; omega)
            rw [← HL.out] at h0
            have hgn := good_new HFM.out HKN.out
            rw [hset, stp_open HKN.out]
            refine ⟨fun x hx => ?_, fun x hx => ?_⟩
            · rcases List.mem_append.1 hx with hx | hx
              · exact h0.sm x hx
              · simp at hx; rw [hx]; exact hgn.sm (m := 0) (by simp [newS]) (by omega)
            · rcases List.mem_append.1 hx with hx | hx
              · exact h0.asc x hx
              · simp at hx; rw [hx]; exact hgn.asc
          have HNXT : Hid ((l ++ [zeroS]).set ln (newS c) = runL (r.take (k + 1))) := by show _ = _; rw [HNEXT.out, hset]
          obtain ⟨c', hc'⟩ : ∃ x : Ch, x = { c with street := (ln : Int) } := ⟨_, rfl⟩
          have CCH : Hid (∀ u, Below w7.heap.size w7 u → Calls Tryz.prog fk #[.pointer (some ⟨g, ln * 8, none⟩), .agg #[.int .i64 c.day, .int .i64 c.kind, .int .i64 (ln : Int), .string tc, .string tt, .string tn, .int .i64 c.low, .int .i64 c.high, .int .i64 c.shift]] u (ChgPost w.heap.size u (.slice (some ⟨g, 0, none⟩) ln1 cap2) (l ++ [zeroS]) ln (newS c))) := fun u hu => by
            have h := popenc_any w.heap.size (l ++ [zeroS]) (vs ++ [nilV]) g cap2 ln zeroS c' u (by rw [hlz]; exact HG7.out.st.on hu) hzs
            rw [hlz, hc'] at h
            unfold chA at h
            rw [HFK.out, show funK c.kind = 46 by rw [HKN.out]; rfl, HTC.out, HTT.out, HTN.out]
            exact h
          have heg := funK_enter c.kind hkind.1 hkind.2
          rw [← HFK.out] at heg
          clear c0 c1 c2 c3 c4 c5 c6 c7 c8 cv d0 d1 d2 d3 d4 d5 d6 d7 d8 x6 z6 y6 k6 hs6 hf6 hown6 hgrow hat6 hlt6 hw7 hCB hKB hrow hbase cnew hlz hzs hsl hinv hc' hln1
          rcases (show k < st ∨ k = st by omega) with hks | hks
          · have HKST := hid (by omega : k + 1 ≤ st)
            have HCLA : Hid (clashAt ((l ++ [zeroS]).set ln (newS c)) ln = false) := by have h := (HS.out.ok k c hks HC.out).clash; rw [← HL.out, ← hset, htrg] at h; exact h
            clear hks hset htrg
            have HGT := hid (HG7.out)
            obtain ⟨c0, c1, c2, c3, c4, c5, c6, c7, c8⟩ := ch_cells HCT.out
            have cv : w7.cell? ⟨B, 0, none⟩ = some (.slice (some ⟨g, 0, none⟩) ln1 cap2) := by rw [HBB.out, cell_at HGT.out.b2]; rfl
            have CO := hid (popen_any (l ++ [zeroS]) _ (.slice (some ⟨g, 0, none⟩) ln1 cap2) (ln : Int) w7 HGT.out.st.isSts HLE.out)
            rw [HHAS.out] at CO
            refine CO.out.mono ?_
            rintro e y1 ⟨rfl, rfl⟩
            go_wp2_with fail
            refine (CRQ.out 3 _).mono ?_
            rintro e y1 ⟨rfl, rfl⟩
            clear c0 c1 c2 c3 c4 c5 c6 c7 c8 cv
            go_wp2_with fail
            refine wp_region_noPanic ?_
            refine wp_region_held_drew (S := fun w' => w'.heap[wr.heap.size]? = some (.cells #[.int .i64 c.day, .int .i64 c.kind, .int .i64 (ln : Int), .string tc, .string tt, .string tn, .int .i64 c.low, .int .i64 c.high, .int .i64 c.shift] 29 (0, 0))) (by kernel_rfl) (by have := HCT.out; exact this : w7.drew.heap[wr.heap.size]? = some (.cells #[.int .i64 c.day, .int .i64 c.kind, .int .i64 (ln : Int), .string tc, .string tt, .string tn, .int .i64 c.low, .int .i64 c.high, .int .i64 c.shift] 29 (0, 0))) (fun hHeld => ?_)
            obtain ⟨wd1, hwd1⟩ : ∃ u, u = w7.drew := ⟨_, rfl⟩
            have bd1 : Below w7.heap.size w7 wd1 := by rw [hwd1]; exact (Below.refl _ _).drew
            rw [← hwd1] at hHeld ⊢
            clear hwd1
            refine wpAnyH_take (i := 0) (oi := ⟨some 72, _, _, _, _, _⟩) (v := .pointer (some ⟨wr.heap.size, 3, none⟩)) rfl (by kernel_rfl) (by kernel_rfl) (by kernel_rfl) (fun _ _ _ h => h) (Or.inl ⟨by rfl, ?_⟩) hHeld ?_
            · intro u hu
              go_simp
            try simp only [Act.put, List.setIfInBounds_toArray, List.set_cons_zero, List.set_cons_succ]
            refine wpAnyH_take (i := 1) (oi := ⟨some 73, _, _, _, _, _⟩) (v := .string tc) rfl (by kernel_rfl) (by kernel_rfl) (by kernel_rfl) (fun _ _ _ h => h) (Or.inl ⟨by rfl, ?_⟩) hHeld ?_
            · intro u hu
              have hx : u.cell? ⟨wr.heap.size, 3, none⟩ = some (.string tc) := by rw [cell_at hu]; rfl
              go_simp
            try simp only [Act.put, List.setIfInBounds_toArray, List.set_cons_zero, List.set_cons_succ]
            refine wpAnyH_take (i := 3) (oi := ⟨some 75, _, _, _, _, _⟩) (v := .pointer (some ⟨wr.heap.size, 4, none⟩)) rfl (by kernel_rfl) (by kernel_rfl) (by kernel_rfl) (fun _ _ _ h => h) (Or.inl ⟨by rfl, ?_⟩) hHeld ?_
            · intro u hu
              go_simp
            try simp only [Act.put, List.setIfInBounds_toArray, List.set_cons_zero, List.set_cons_succ]
            refine wpAnyH_take (i := 4) (oi := ⟨some 76, _, _, _, _, _⟩) (v := .string tt) rfl (by kernel_rfl) (by kernel_rfl) (by kernel_rfl) (fun _ _ _ h => h) (Or.inl ⟨by rfl, ?_⟩) hHeld ?_
            · intro u hu
              have hx : u.cell? ⟨wr.heap.size, 4, none⟩ = some (.string tt) := by rw [cell_at hu]; rfl
              go_simp
            try simp only [Act.put, List.setIfInBounds_toArray, List.set_cons_zero, List.set_cons_succ]
            refine wpAnyH_take (i := 6) (oi := ⟨some 78, _, _, _, _, _⟩) (v := .pointer (some ⟨wr.heap.size, 5, none⟩)) rfl (by kernel_rfl) (by kernel_rfl) (by kernel_rfl) (fun _ _ _ h => h) (Or.inl ⟨by rfl, ?_⟩) hHeld ?_
            · intro u hu
              go_simp
            try simp only [Act.put, List.setIfInBounds_toArray, List.set_cons_zero, List.set_cons_succ]
            refine wpAnyH_take (i := 7) (oi := ⟨some 79, _, _, _, _, _⟩) (v := .string tn) rfl (by kernel_rfl) (by kernel_rfl) (by kernel_rfl) (fun _ _ _ h => h) (Or.inl ⟨by rfl, ?_⟩) hHeld ?_
            · intro u hu
              have hx : u.cell? ⟨wr.heap.size, 5, none⟩ = some (.string tn) := by rw [cell_at hu]; rfl
              go_simp
            try simp only [Act.put, List.setIfInBounds_toArray, List.set_cons_zero, List.set_cons_succ]
            refine wpAnyH_ready (rs := [2]) (by kernel_rfl) (by simp) ?_
            refine AllReadyH.cons (o := ⟨some 74, _, _, _, _, _⟩) rfl (fun K hK => ?_) AllReadyH.nil
            go_simp
            go_at_call 36
            refine (CCL0.out _).mono ?_
            rintro e we0 ⟨rfl, hbq⟩
            have bwe0 : Below w7.heap.size w7 we0 := bt bd1 hbq
            clear hbq
            refine hK.out _ _ (by rw [bwe0.block _ (heap_lt HCT.out)]; exact HCT.out) (fun hHeld => ?_)
            clear hK K
            try simp only [Act.put, List.setIfInBounds_toArray, List.set_cons_zero, List.set_cons_succ]
            refine wpAnyH_take (i := 9) (oi := ⟨some 81, _, _, _, _, _⟩) (v := .pointer (some ⟨wr.heap.size, 3, none⟩)) rfl (by kernel_rfl) (by kernel_rfl) (by kernel_rfl) (fun _ _ _ h => h) (Or.inl ⟨by rfl, ?_⟩) hHeld ?_
            · intro u hu
              go_simp
            try simp only [Act.put, List.setIfInBounds_toArray, List.set_cons_zero, List.set_cons_succ]
            refine wpAnyH_ready (rs := [5]) (by kernel_rfl) (by simp) ?_
            refine AllReadyH.cons (o := ⟨some 77, _, _, _, _, _⟩) rfl (fun K hK => ?_) AllReadyH.nil
            go_simp
            go_at_call 36
            refine (CCL1.out _).mono ?_
            rintro e we1 ⟨rfl, hbq⟩
            have bwe1 : Below w7.heap.size w7 we1 := bt bwe0 hbq
            clear hbq
            refine hK.out _ _ (by rw [bwe1.block _ (heap_lt HCT.out)]; exact HCT.out) (fun hHeld => ?_)
            clear hK K
            try simp only [Act.put, List.setIfInBounds_toArray, List.set_cons_zero, List.set_cons_succ]
            refine wpAnyH_ready (rs := [8]) (by kernel_rfl) (by simp) ?_
            refine AllReadyH.cons (o := ⟨some 80, _, _, _, _, _⟩) rfl (fun K hK => ?_) AllReadyH.nil
            go_simp
            go_at_call 36
            refine (CCL2.out _).mono ?_
            rintro e we2 ⟨rfl, hbq⟩
            have bwe2 : Below w7.heap.size w7 we2 := bt bwe1 hbq
            clear hbq
            refine hK.out _ _ (by rw [bwe2.block _ (heap_lt HCT.out)]; exact HCT.out) (fun hHeld => ?_)
            clear hK K
            try simp only [Act.put, List.setIfInBounds_toArray, List.set_cons_zero, List.set_cons_succ]
            refine wpAnyH_ready (rs := [10]) (by kernel_rfl) (by simp) ?_
            refine AllReadyH.cons (o := ⟨none, _, _, _, _, _⟩) rfl (fun K hK => ?_) AllReadyH.nil
            have hx : we2.cell? ⟨wr.heap.size, 3, none⟩ = some (.string tc) := by rw [cell_at hHeld]; rfl
            have hz : we2.frozen? ⟨wr.heap.size, 3, none⟩ = false := free_at (v := .string tc) hHeld rfl
            go_simp
            rw [setCell_self hHeld (by rfl : (#[.int .i64 c.day, .int .i64 c.kind, .int .i64 (ln : Int), .string tc, .string tt, .string tn, .int .i64 c.low, .int .i64 c.high, .int .i64 c.shift] : Array Value)[3]? = some (.string tc))]
            refine hK.out _ _ hHeld (fun hHeld => ?_)
            clear hK K hx hz
            try simp only [Act.put, List.setIfInBounds_toArray, List.set_cons_zero, List.set_cons_succ]
            refine wpAnyH_take (i := 11) (oi := ⟨some 82, _, _, _, _, _⟩) (v := .pointer (some ⟨wr.heap.size, 4, none⟩)) rfl (by kernel_rfl) (by kernel_rfl) (by kernel_rfl) (fun _ _ _ h => h) (Or.inl ⟨by rfl, ?_⟩) hHeld ?_
            · intro u hu
              go_simp
            try simp only [Act.put, List.setIfInBounds_toArray, List.set_cons_zero, List.set_cons_succ]
            refine wpAnyH_ready (rs := [12]) (by kernel_rfl) (by simp) ?_
            refine AllReadyH.cons (o := ⟨none, _, _, _, _, _⟩) rfl (fun K hK => ?_) AllReadyH.nil
            have hx : we2.cell? ⟨wr.heap.size, 4, none⟩ = some (.string tt) := by rw [cell_at hHeld]; rfl
            have hz : we2.frozen? ⟨wr.heap.size, 4, none⟩ = false := free_at (v := .string tt) hHeld rfl
            go_simp
            rw [setCell_self hHeld (by rfl : (#[.int .i64 c.day, .int .i64 c.kind, .int .i64 (ln : Int), .string tc, .string tt, .string tn, .int .i64 c.low, .int .i64 c.high, .int .i64 c.shift] : Array Value)[4]? = some (.string tt))]
            refine hK.out _ _ hHeld (fun hHeld => ?_)
            clear hK K hx hz
            try simp only [Act.put, List.setIfInBounds_toArray, List.set_cons_zero, List.set_cons_succ]
            refine wpAnyH_take (i := 13) (oi := ⟨some 83, _, _, _, _, _⟩) (v := .pointer (some ⟨wr.heap.size, 5, none⟩)) rfl (by kernel_rfl) (by kernel_rfl) (by kernel_rfl) (fun _ _ _ h => h) (Or.inl ⟨by rfl, ?_⟩) hHeld ?_
            · intro u hu
              go_simp
            try simp only [Act.put, List.setIfInBounds_toArray, List.set_cons_zero, List.set_cons_succ]
            refine wpAnyH_ready (rs := [14]) (by kernel_rfl) (by simp) ?_
            refine AllReadyH.cons (o := ⟨none, _, _, _, _, _⟩) rfl (fun K hK => ?_) AllReadyH.nil
            have hx : we2.cell? ⟨wr.heap.size, 5, none⟩ = some (.string tn) := by rw [cell_at hHeld]; rfl
            have hz : we2.frozen? ⟨wr.heap.size, 5, none⟩ = false := free_at (v := .string tn) hHeld rfl
            go_simp
            rw [setCell_self hHeld (by rfl : (#[.int .i64 c.day, .int .i64 c.kind, .int .i64 (ln : Int), .string tc, .string tt, .string tn, .int .i64 c.low, .int .i64 c.high, .int .i64 c.shift] : Array Value)[5]? = some (.string tn))]
            refine hK.out _ _ hHeld (fun hHeld => ?_)
            clear hK K hx hz
            try simp only [Act.put, List.setIfInBounds_toArray, List.set_cons_zero, List.set_cons_succ]
            refine wpAnyH_done (by kernel_rfl) ?_ _
            clear hHeld
            refine NoPanic.normal ?_
            have HE := hid bwe2
            clear bd1 bwe0 bwe1 bwe2
            go_wp2_with fail
            refine wp_region_noPanic ?_
            have SG : Hid (∀ u, Below w7.heap.size w7 u → u.heap[wr.heap.size]? = some (.cells #[.int .i64 c.day, .int .i64 c.kind, .int .i64 (ln : Int), .string tc, .string tt, .string tn, .int .i64 c.low, .int .i64 c.high, .int .i64 c.shift] 29 (0, 0)) ∧ u.cell? ⟨B, 0, none⟩ = some (.slice (some ⟨g, 0, none⟩) ln1 cap2) ∧ u.cell? ⟨wd.heap.size, 1, none⟩ = some (.func (.func fk) #[] #[])) := fun u hu => by
              refine ⟨(hu.block _ (heap_lt HCT.out)).trans HCT.out, ?_, ?_⟩
              · rw [HBB.out, cell_at ((hu.block _ (heap_lt HGT.out.b2)).trans HGT.out.b2)]; rfl
              · rw [cell_at ((hu.block _ (heap_lt HKT.out)).trans HKT.out)]; rfl
            refine wp_region_held_drew (S := fun w' => w'.heap[wr.heap.size]? = some (.cells #[.int .i64 c.day, .int .i64 c.kind, .int .i64 (ln : Int), .string tc, .string tt, .string tn, .int .i64 c.low, .int .i64 c.high, .int .i64 c.shift] 29 (0, 0)) ∧ w'.cell? ⟨B, 0, none⟩ = some (.slice (some ⟨g, 0, none⟩) ln1 cap2) ∧ w'.cell? ⟨wd.heap.size, 1, none⟩ = some (.func (.func fk) #[] #[])) (by kernel_rfl) (SG.out _ (bt HE.out (Below.refl _ _).drew)) (fun hHeld => ?_)
            obtain ⟨wd2, hwd2⟩ : ∃ u, u = we2.drew := ⟨_, rfl⟩
            have HD2 : Hid (Below w7.heap.size w7 wd2) := by show Below _ _ _; rw [hwd2]; exact bt HE.out (Below.refl _ _).drew
            rw [← hwd2] at hHeld ⊢
            clear hwd2
            refine wpAnyH_take (i := 0) (oi := ⟨some 84, _, _, _, _, _⟩) (v := .pointer (some ⟨wd.heap.size, 1, none⟩)) rfl (by kernel_rfl) (by kernel_rfl) (by kernel_rfl) (fun _ _ _ h => h) (Or.inl ⟨by rfl, ?_⟩) hHeld ?_
            · intro u hu
              obtain ⟨_, _, _⟩ := hu
              go_simp
            try simp only [Act.put, List.setIfInBounds_toArray, List.set_cons_zero, List.set_cons_succ]
            refine wpAnyH_take (i := 1) (oi := ⟨some 85, _, _, _, _, _⟩) (v := .func (.func fk) #[] #[]) rfl (by kernel_rfl) (by kernel_rfl) (by kernel_rfl) (fun _ _ _ h => h) (Or.inl ⟨by rfl, ?_⟩) hHeld ?_
            · intro u hu
              obtain ⟨_, hu1, hu2⟩ := hu
              go_simp
            try simp only [Act.put, List.setIfInBounds_toArray, List.set_cons_zero, List.set_cons_succ]
            refine wpAnyH_take (i := 2) (oi := ⟨some 86, _, _, _, _, _⟩) (v := .slice (some ⟨g, 0, none⟩) ln1 cap2) rfl (by kernel_rfl) (by kernel_rfl) (by kernel_rfl) (fun _ _ _ h => h) (Or.inl ⟨by rfl, ?_⟩) hHeld ?_
            · intro u hu
              obtain ⟨_, hu1, hu2⟩ := hu
              go_simp
            try simp only [Act.put, List.setIfInBounds_toArray, List.set_cons_zero, List.set_cons_succ]
            refine wpAnyH_take (i := 3) (oi := ⟨some 87, _, _, _, _, _⟩) (v := .pointer (some ⟨wr.heap.size, 2, none⟩)) rfl (by kernel_rfl) (by kernel_rfl) (by kernel_rfl) (fun _ _ _ h => h) (Or.inl ⟨by rfl, ?_⟩) hHeld ?_
            · intro u hu
              go_simp
            try simp only [Act.put, List.setIfInBounds_toArray, List.set_cons_zero, List.set_cons_succ]
            refine wpAnyH_take (i := 4) (oi := ⟨some 88, _, _, _, _, _⟩) (v := .int .i64 (ln : Int)) rfl (by kernel_rfl) (by kernel_rfl) (by kernel_rfl) (fun _ _ _ h => h) (Or.inl ⟨by rfl, ?_⟩) hHeld ?_
            · intro u hu
              obtain ⟨hu0, _, _⟩ := hu
              obtain ⟨d0, d1, d2, d3, d4, d5, d6, d7, d8⟩ := ch_cells hu0
              go_simp
            try simp only [Act.put, List.setIfInBounds_toArray, List.set_cons_zero, List.set_cons_succ]
            refine wpAnyH_take (i := 5) (oi := ⟨some 89, _, _, _, _, _⟩) (v := .pointer (some ⟨g, ln * 8, none⟩)) rfl (by kernel_rfl) (by kernel_rfl) (by kernel_rfl) (fun _ _ _ h => h) (Or.inl ⟨by rfl, ?_⟩) hHeld ?_
            · intro u hu
              go_simp
            try simp only [Act.put, List.setIfInBounds_toArray, List.set_cons_zero, List.set_cons_succ]
            refine wpAnyH_take (i := 6) (oi := ⟨some 90, _, _, _, _, _⟩) (v := .agg #[.int .i64 c.day, .int .i64 c.kind, .int .i64 (ln : Int), .string tc, .string tt, .string tn, .int .i64 c.low, .int .i64 c.high, .int .i64 c.shift]) rfl (by kernel_rfl) (by kernel_rfl) (by kernel_rfl) (fun _ _ _ h => h) (Or.inl ⟨by rfl, ?_⟩) hHeld ?_
            · intro u hu
              obtain ⟨hu0, _, _⟩ := hu
              obtain ⟨d0, d1, d2, d3, d4, d5, d6, d7, d8⟩ := ch_cells hu0
              go_simp
            try simp only [Act.put, List.setIfInBounds_toArray, List.set_cons_zero, List.set_cons_succ]
            refine wpAnyH_ready (rs := [7]) (by kernel_rfl) (by simp) ?_
            refine AllReadyH.cons (o := ⟨some 91, _, _, _, _, _⟩) rfl (fun K hK => ?_) AllReadyH.nil
            go_simp
            refine (CCH.out _ HD2.out).mono ?_
            rintro e w9 ⟨vs9, rfl, hst9, hfr9⟩
            have HG9 := hid ((HGT.out.on HD2.out).frm hfr9 hst9)
            have HF9 := hid hfr9
            clear hst9 hfr9
            have h9 : w9.heap[wr.heap.size]? = some (.cells #[.int .i64 c.day, .int .i64 c.kind, .int .i64 (ln : Int), .string tc, .string tt, .string tn, .int .i64 c.low, .int .i64 c.high, .int .i64 c.shift] 29 (0, 0)) := HF9.out.keep (SG.out _ HD2.out).1 (by decide)
            have h9b : w9.cell? ⟨B, 0, none⟩ = some (.slice (some ⟨g, 0, none⟩) ln1 cap2) := by rw [HBB.out, cell_at HG9.out.b2]; rfl
            have h9c : w9.cell? ⟨wd.heap.size, 1, none⟩ = some (.func (.func fk) #[] #[]) := by rw [cell_at (HF9.out.keep ((HD2.out.block _ (heap_lt HKT.out)).trans HKT.out) (by decide))]; rfl
            refine hK.out _ _ ⟨h9, h9b, h9c⟩ (fun hHeld => ?_)
            clear hK K
            try simp only [Act.put, List.setIfInBounds_toArray, List.set_cons_zero, List.set_cons_succ]
            refine wpAnyH_done (by kernel_rfl) ?_ _
            clear hHeld
            refine NoPanic.normal ?_
            have e2 : w9.cell? ⟨wr.heap.size, 2, none⟩ = some (.int .i64 (ln : Int)) := by rw [cell_at h9]; rfl
            clear h9 h9c
            have CC := hid (pclashes_any _ _ (.slice (some ⟨g, 0, none⟩) ln1 cap2) ln w9 (by have q := HG9.out.st.isSts; exact q) HLEN.out HNL.out HOKS.out (HTW.out w9 HG9.out.below))
            go_wp2_with fail
            refine CC.out.mono ?_
            rintro e w10 ⟨rfl, hb10⟩
            have HGZ := hid (HG9.out.on hb10)
            clear hb10 h9b e2
            rw [HCLA.out]
            go_wp2_with fail
            refine (CRQ.out 51 _).mono ?_
            rintro e y1 ⟨rfl, rfl⟩
            go_wp2
            go_roundw
            case rel => exact ⟨k + 1, HKST.out, by go_num, ⟨_, _, HGZ.out.f HNXT.out⟩⟩
            case measure => simp [intOf]; omega
          · obtain ⟨hE, hat, hno⟩ : E = 51 ∧ at' = (k : Int) ∧ clashAt (stp l c) (trg l c) = true := by
              rcases HS.out.out with ⟨e, _⟩ | ⟨_, _, e, d, hd, h⟩
              · have := HM.out; omega
              · subst hks
                rw [HC.out] at hd; cases hd
                rcases h with ⟨_, h1, _⟩ | ⟨h1, _, h2⟩
                · exact absurd HKN.out h1
                · exact ⟨h1, e, by rw [HL.out]; exact h2⟩
            have HEA := hid (And.intro hE hat)
            have HCLA : Hid (clashAt ((l ++ [zeroS]).set ln (newS c)) ln = true) := by rw [← hset, htrg] at hno; exact hno
            clear hks hset htrg hE hat hno
            have HGT := hid (HG7.out)
            obtain ⟨c0, c1, c2, c3, c4, c5, c6, c7, c8⟩ := ch_cells HCT.out
            have cv : w7.cell? ⟨B, 0, none⟩ = some (.slice (some ⟨g, 0, none⟩) ln1 cap2) := by rw [HBB.out, cell_at HGT.out.b2]; rfl
            have CO := hid (popen_any (l ++ [zeroS]) _ (.slice (some ⟨g, 0, none⟩) ln1 cap2) (ln : Int) w7 HGT.out.st.isSts HLE.out)
            rw [HHAS.out] at CO
            refine CO.out.mono ?_
            rintro e y1 ⟨rfl, rfl⟩
            go_wp2_with fail
            refine (CRQ.out 3 _).mono ?_
            rintro e y1 ⟨rfl, rfl⟩
            clear c0 c1 c2 c3 c4 c5 c6 c7 c8 cv
            go_wp2_with fail
            refine wp_region_noPanic ?_
            refine wp_region_held_drew (S := fun w' => w'.heap[wr.heap.size]? = some (.cells #[.int .i64 c.day, .int .i64 c.kind, .int .i64 (ln : Int), .string tc, .string tt, .string tn, .int .i64 c.low, .int .i64 c.high, .int .i64 c.shift] 29 (0, 0))) (by kernel_rfl) (by have := HCT.out; exact this : w7.drew.heap[wr.heap.size]? = some (.cells #[.int .i64 c.day, .int .i64 c.kind, .int .i64 (ln : Int), .string tc, .string tt, .string tn, .int .i64 c.low, .int .i64 c.high, .int .i64 c.shift] 29 (0, 0))) (fun hHeld => ?_)
            obtain ⟨wd1, hwd1⟩ : ∃ u, u = w7.drew := ⟨_, rfl⟩
            have bd1 : Below w7.heap.size w7 wd1 := by rw [hwd1]; exact (Below.refl _ _).drew
            rw [← hwd1] at hHeld ⊢
            clear hwd1
            refine wpAnyH_take (i := 0) (oi := ⟨some 72, _, _, _, _, _⟩) (v := .pointer (some ⟨wr.heap.size, 3, none⟩)) rfl (by kernel_rfl) (by kernel_rfl) (by kernel_rfl) (fun _ _ _ h => h) (Or.inl ⟨by rfl, ?_⟩) hHeld ?_
            · intro u hu
              go_simp
            try simp only [Act.put, List.setIfInBounds_toArray, List.set_cons_zero, List.set_cons_succ]
            refine wpAnyH_take (i := 1) (oi := ⟨some 73, _, _, _, _, _⟩) (v := .string tc) rfl (by kernel_rfl) (by kernel_rfl) (by kernel_rfl) (fun _ _ _ h => h) (Or.inl ⟨by rfl, ?_⟩) hHeld ?_
            · intro u hu
              have hx : u.cell? ⟨wr.heap.size, 3, none⟩ = some (.string tc) := by rw [cell_at hu]; rfl
              go_simp
            try simp only [Act.put, List.setIfInBounds_toArray, List.set_cons_zero, List.set_cons_succ]
            refine wpAnyH_take (i := 3) (oi := ⟨some 75, _, _, _, _, _⟩) (v := .pointer (some ⟨wr.heap.size, 4, none⟩)) rfl (by kernel_rfl) (by kernel_rfl) (by kernel_rfl) (fun _ _ _ h => h) (Or.inl ⟨by rfl, ?_⟩) hHeld ?_
            · intro u hu
              go_simp
            try simp only [Act.put, List.setIfInBounds_toArray, List.set_cons_zero, List.set_cons_succ]
            refine wpAnyH_take (i := 4) (oi := ⟨some 76, _, _, _, _, _⟩) (v := .string tt) rfl (by kernel_rfl) (by kernel_rfl) (by kernel_rfl) (fun _ _ _ h => h) (Or.inl ⟨by rfl, ?_⟩) hHeld ?_
            · intro u hu
              have hx : u.cell? ⟨wr.heap.size, 4, none⟩ = some (.string tt) := by rw [cell_at hu]; rfl
              go_simp
            try simp only [Act.put, List.setIfInBounds_toArray, List.set_cons_zero, List.set_cons_succ]
            refine wpAnyH_take (i := 6) (oi := ⟨some 78, _, _, _, _, _⟩) (v := .pointer (some ⟨wr.heap.size, 5, none⟩)) rfl (by kernel_rfl) (by kernel_rfl) (by kernel_rfl) (fun _ _ _ h => h) (Or.inl ⟨by rfl, ?_⟩) hHeld ?_
            · intro u hu
              go_simp
            try simp only [Act.put, List.setIfInBounds_toArray, List.set_cons_zero, List.set_cons_succ]
            refine wpAnyH_take (i := 7) (oi := ⟨some 79, _, _, _, _, _⟩) (v := .string tn) rfl (by kernel_rfl) (by kernel_rfl) (by kernel_rfl) (fun _ _ _ h => h) (Or.inl ⟨by rfl, ?_⟩) hHeld ?_
            · intro u hu
              have hx : u.cell? ⟨wr.heap.size, 5, none⟩ = some (.string tn) := by rw [cell_at hu]; rfl
              go_simp
            try simp only [Act.put, List.setIfInBounds_toArray, List.set_cons_zero, List.set_cons_succ]
            refine wpAnyH_ready (rs := [2]) (by kernel_rfl) (by simp) ?_
            refine AllReadyH.cons (o := ⟨some 74, _, _, _, _, _⟩) rfl (fun K hK => ?_) AllReadyH.nil
            go_simp
            go_at_call 36
            refine (CCL0.out _).mono ?_
            rintro e we0 ⟨rfl, hbq⟩
            have bwe0 : Below w7.heap.size w7 we0 := bt bd1 hbq
            clear hbq
            refine hK.out _ _ (by rw [bwe0.block _ (heap_lt HCT.out)]; exact HCT.out) (fun hHeld => ?_)
            clear hK K
            try simp only [Act.put, List.setIfInBounds_toArray, List.set_cons_zero, List.set_cons_succ]
            refine wpAnyH_take (i := 9) (oi := ⟨some 81, _, _, _, _, _⟩) (v := .pointer (some ⟨wr.heap.size, 3, none⟩)) rfl (by kernel_rfl) (by kernel_rfl) (by kernel_rfl) (fun _ _ _ h => h) (Or.inl ⟨by rfl, ?_⟩) hHeld ?_
            · intro u hu
              go_simp
            try simp only [Act.put, List.setIfInBounds_toArray, List.set_cons_zero, List.set_cons_succ]
            refine wpAnyH_ready (rs := [5]) (by kernel_rfl) (by simp) ?_
            refine AllReadyH.cons (o := ⟨some 77, _, _, _, _, _⟩) rfl (fun K hK => ?_) AllReadyH.nil
            go_simp
            go_at_call 36
            refine (CCL1.out _).mono ?_
            rintro e we1 ⟨rfl, hbq⟩
            have bwe1 : Below w7.heap.size w7 we1 := bt bwe0 hbq
            clear hbq
            refine hK.out _ _ (by rw [bwe1.block _ (heap_lt HCT.out)]; exact HCT.out) (fun hHeld => ?_)
            clear hK K
            try simp only [Act.put, List.setIfInBounds_toArray, List.set_cons_zero, List.set_cons_succ]
            refine wpAnyH_ready (rs := [8]) (by kernel_rfl) (by simp) ?_
            refine AllReadyH.cons (o := ⟨some 80, _, _, _, _, _⟩) rfl (fun K hK => ?_) AllReadyH.nil
            go_simp
            go_at_call 36
            refine (CCL2.out _).mono ?_
            rintro e we2 ⟨rfl, hbq⟩
            have bwe2 : Below w7.heap.size w7 we2 := bt bwe1 hbq
            clear hbq
            refine hK.out _ _ (by rw [bwe2.block _ (heap_lt HCT.out)]; exact HCT.out) (fun hHeld => ?_)
            clear hK K
            try simp only [Act.put, List.setIfInBounds_toArray, List.set_cons_zero, List.set_cons_succ]
            refine wpAnyH_ready (rs := [10]) (by kernel_rfl) (by simp) ?_
            refine AllReadyH.cons (o := ⟨none, _, _, _, _, _⟩) rfl (fun K hK => ?_) AllReadyH.nil
            have hx : we2.cell? ⟨wr.heap.size, 3, none⟩ = some (.string tc) := by rw [cell_at hHeld]; rfl
            have hz : we2.frozen? ⟨wr.heap.size, 3, none⟩ = false := free_at (v := .string tc) hHeld rfl
            go_simp
            rw [setCell_self hHeld (by rfl : (#[.int .i64 c.day, .int .i64 c.kind, .int .i64 (ln : Int), .string tc, .string tt, .string tn, .int .i64 c.low, .int .i64 c.high, .int .i64 c.shift] : Array Value)[3]? = some (.string tc))]
            refine hK.out _ _ hHeld (fun hHeld => ?_)
            clear hK K hx hz
            try simp only [Act.put, List.setIfInBounds_toArray, List.set_cons_zero, List.set_cons_succ]
            refine wpAnyH_take (i := 11) (oi := ⟨some 82, _, _, _, _, _⟩) (v := .pointer (some ⟨wr.heap.size, 4, none⟩)) rfl (by kernel_rfl) (by kernel_rfl) (by kernel_rfl) (fun _ _ _ h => h) (Or.inl ⟨by rfl, ?_⟩) hHeld ?_
            · intro u hu
              go_simp
            try simp only [Act.put, List.setIfInBounds_toArray, List.set_cons_zero, List.set_cons_succ]
            refine wpAnyH_ready (rs := [12]) (by kernel_rfl) (by simp) ?_
            refine AllReadyH.cons (o := ⟨none, _, _, _, _, _⟩) rfl (fun K hK => ?_) AllReadyH.nil
            have hx : we2.cell? ⟨wr.heap.size, 4, none⟩ = some (.string tt) := by rw [cell_at hHeld]; rfl
            have hz : we2.frozen? ⟨wr.heap.size, 4, none⟩ = false := free_at (v := .string tt) hHeld rfl
            go_simp
            rw [setCell_self hHeld (by rfl : (#[.int .i64 c.day, .int .i64 c.kind, .int .i64 (ln : Int), .string tc, .string tt, .string tn, .int .i64 c.low, .int .i64 c.high, .int .i64 c.shift] : Array Value)[4]? = some (.string tt))]
            refine hK.out _ _ hHeld (fun hHeld => ?_)
            clear hK K hx hz
            try simp only [Act.put, List.setIfInBounds_toArray, List.set_cons_zero, List.set_cons_succ]
            refine wpAnyH_take (i := 13) (oi := ⟨some 83, _, _, _, _, _⟩) (v := .pointer (some ⟨wr.heap.size, 5, none⟩)) rfl (by kernel_rfl) (by kernel_rfl) (by kernel_rfl) (fun _ _ _ h => h) (Or.inl ⟨by rfl, ?_⟩) hHeld ?_
            · intro u hu
              go_simp
            try simp only [Act.put, List.setIfInBounds_toArray, List.set_cons_zero, List.set_cons_succ]
            refine wpAnyH_ready (rs := [14]) (by kernel_rfl) (by simp) ?_
            refine AllReadyH.cons (o := ⟨none, _, _, _, _, _⟩) rfl (fun K hK => ?_) AllReadyH.nil
            have hx : we2.cell? ⟨wr.heap.size, 5, none⟩ = some (.string tn) := by rw [cell_at hHeld]; rfl
            have hz : we2.frozen? ⟨wr.heap.size, 5, none⟩ = false := free_at (v := .string tn) hHeld rfl
            go_simp
            rw [setCell_self hHeld (by rfl : (#[.int .i64 c.day, .int .i64 c.kind, .int .i64 (ln : Int), .string tc, .string tt, .string tn, .int .i64 c.low, .int .i64 c.high, .int .i64 c.shift] : Array Value)[5]? = some (.string tn))]
            refine hK.out _ _ hHeld (fun hHeld => ?_)
            clear hK K hx hz
            try simp only [Act.put, List.setIfInBounds_toArray, List.set_cons_zero, List.set_cons_succ]
            refine wpAnyH_done (by kernel_rfl) ?_ _
            clear hHeld
            refine NoPanic.normal ?_
            have HE := hid bwe2
            clear bd1 bwe0 bwe1 bwe2
            go_wp2_with fail
            refine wp_region_noPanic ?_
            have SG : Hid (∀ u, Below w7.heap.size w7 u → u.heap[wr.heap.size]? = some (.cells #[.int .i64 c.day, .int .i64 c.kind, .int .i64 (ln : Int), .string tc, .string tt, .string tn, .int .i64 c.low, .int .i64 c.high, .int .i64 c.shift] 29 (0, 0)) ∧ u.cell? ⟨B, 0, none⟩ = some (.slice (some ⟨g, 0, none⟩) ln1 cap2) ∧ u.cell? ⟨wd.heap.size, 1, none⟩ = some (.func (.func fk) #[] #[])) := fun u hu => by
              refine ⟨(hu.block _ (heap_lt HCT.out)).trans HCT.out, ?_, ?_⟩
              · rw [HBB.out, cell_at ((hu.block _ (heap_lt HGT.out.b2)).trans HGT.out.b2)]; rfl
              · rw [cell_at ((hu.block _ (heap_lt HKT.out)).trans HKT.out)]; rfl
            refine wp_region_held_drew (S := fun w' => w'.heap[wr.heap.size]? = some (.cells #[.int .i64 c.day, .int .i64 c.kind, .int .i64 (ln : Int), .string tc, .string tt, .string tn, .int .i64 c.low, .int .i64 c.high, .int .i64 c.shift] 29 (0, 0)) ∧ w'.cell? ⟨B, 0, none⟩ = some (.slice (some ⟨g, 0, none⟩) ln1 cap2) ∧ w'.cell? ⟨wd.heap.size, 1, none⟩ = some (.func (.func fk) #[] #[])) (by kernel_rfl) (SG.out _ (bt HE.out (Below.refl _ _).drew)) (fun hHeld => ?_)
            obtain ⟨wd2, hwd2⟩ : ∃ u, u = we2.drew := ⟨_, rfl⟩
            have HD2 : Hid (Below w7.heap.size w7 wd2) := by show Below _ _ _; rw [hwd2]; exact bt HE.out (Below.refl _ _).drew
            rw [← hwd2] at hHeld ⊢
            clear hwd2
            refine wpAnyH_take (i := 0) (oi := ⟨some 84, _, _, _, _, _⟩) (v := .pointer (some ⟨wd.heap.size, 1, none⟩)) rfl (by kernel_rfl) (by kernel_rfl) (by kernel_rfl) (fun _ _ _ h => h) (Or.inl ⟨by rfl, ?_⟩) hHeld ?_
            · intro u hu
              obtain ⟨_, _, _⟩ := hu
              go_simp
            try simp only [Act.put, List.setIfInBounds_toArray, List.set_cons_zero, List.set_cons_succ]
            refine wpAnyH_take (i := 1) (oi := ⟨some 85, _, _, _, _, _⟩) (v := .func (.func fk) #[] #[]) rfl (by kernel_rfl) (by kernel_rfl) (by kernel_rfl) (fun _ _ _ h => h) (Or.inl ⟨by rfl, ?_⟩) hHeld ?_
            · intro u hu
              obtain ⟨_, hu1, hu2⟩ := hu
              go_simp
            try simp only [Act.put, List.setIfInBounds_toArray, List.set_cons_zero, List.set_cons_succ]
            refine wpAnyH_take (i := 2) (oi := ⟨some 86, _, _, _, _, _⟩) (v := .slice (some ⟨g, 0, none⟩) ln1 cap2) rfl (by kernel_rfl) (by kernel_rfl) (by kernel_rfl) (fun _ _ _ h => h) (Or.inl ⟨by rfl, ?_⟩) hHeld ?_
            · intro u hu
              obtain ⟨_, hu1, hu2⟩ := hu
              go_simp
            try simp only [Act.put, List.setIfInBounds_toArray, List.set_cons_zero, List.set_cons_succ]
            refine wpAnyH_take (i := 3) (oi := ⟨some 87, _, _, _, _, _⟩) (v := .pointer (some ⟨wr.heap.size, 2, none⟩)) rfl (by kernel_rfl) (by kernel_rfl) (by kernel_rfl) (fun _ _ _ h => h) (Or.inl ⟨by rfl, ?_⟩) hHeld ?_
            · intro u hu
              go_simp
            try simp only [Act.put, List.setIfInBounds_toArray, List.set_cons_zero, List.set_cons_succ]
            refine wpAnyH_take (i := 4) (oi := ⟨some 88, _, _, _, _, _⟩) (v := .int .i64 (ln : Int)) rfl (by kernel_rfl) (by kernel_rfl) (by kernel_rfl) (fun _ _ _ h => h) (Or.inl ⟨by rfl, ?_⟩) hHeld ?_
            · intro u hu
              obtain ⟨hu0, _, _⟩ := hu
              obtain ⟨d0, d1, d2, d3, d4, d5, d6, d7, d8⟩ := ch_cells hu0
              go_simp
            try simp only [Act.put, List.setIfInBounds_toArray, List.set_cons_zero, List.set_cons_succ]
            refine wpAnyH_take (i := 5) (oi := ⟨some 89, _, _, _, _, _⟩) (v := .pointer (some ⟨g, ln * 8, none⟩)) rfl (by kernel_rfl) (by kernel_rfl) (by kernel_rfl) (fun _ _ _ h => h) (Or.inl ⟨by rfl, ?_⟩) hHeld ?_
            · intro u hu
              go_simp
            try simp only [Act.put, List.setIfInBounds_toArray, List.set_cons_zero, List.set_cons_succ]
            refine wpAnyH_take (i := 6) (oi := ⟨some 90, _, _, _, _, _⟩) (v := .agg #[.int .i64 c.day, .int .i64 c.kind, .int .i64 (ln : Int), .string tc, .string tt, .string tn, .int .i64 c.low, .int .i64 c.high, .int .i64 c.shift]) rfl (by kernel_rfl) (by kernel_rfl) (by kernel_rfl) (fun _ _ _ h => h) (Or.inl ⟨by rfl, ?_⟩) hHeld ?_
            · intro u hu
              obtain ⟨hu0, _, _⟩ := hu
              obtain ⟨d0, d1, d2, d3, d4, d5, d6, d7, d8⟩ := ch_cells hu0
              go_simp
            try simp only [Act.put, List.setIfInBounds_toArray, List.set_cons_zero, List.set_cons_succ]
            refine wpAnyH_ready (rs := [7]) (by kernel_rfl) (by simp) ?_
            refine AllReadyH.cons (o := ⟨some 91, _, _, _, _, _⟩) rfl (fun K hK => ?_) AllReadyH.nil
            go_simp
            refine (CCH.out _ HD2.out).mono ?_
            rintro e w9 ⟨vs9, rfl, hst9, hfr9⟩
            have HG9 := hid ((HGT.out.on HD2.out).frm hfr9 hst9)
            have HF9 := hid hfr9
            clear hst9 hfr9
            have h9 : w9.heap[wr.heap.size]? = some (.cells #[.int .i64 c.day, .int .i64 c.kind, .int .i64 (ln : Int), .string tc, .string tt, .string tn, .int .i64 c.low, .int .i64 c.high, .int .i64 c.shift] 29 (0, 0)) := HF9.out.keep (SG.out _ HD2.out).1 (by decide)
            have h9b : w9.cell? ⟨B, 0, none⟩ = some (.slice (some ⟨g, 0, none⟩) ln1 cap2) := by rw [HBB.out, cell_at HG9.out.b2]; rfl
            have h9c : w9.cell? ⟨wd.heap.size, 1, none⟩ = some (.func (.func fk) #[] #[]) := by rw [cell_at (HF9.out.keep ((HD2.out.block _ (heap_lt HKT.out)).trans HKT.out) (by decide))]; rfl
            refine hK.out _ _ ⟨h9, h9b, h9c⟩ (fun hHeld => ?_)
            clear hK K
            try simp only [Act.put, List.setIfInBounds_toArray, List.set_cons_zero, List.set_cons_succ]
            refine wpAnyH_done (by kernel_rfl) ?_ _
            clear hHeld
            refine NoPanic.normal ?_
            have e2 : w9.cell? ⟨wr.heap.size, 2, none⟩ = some (.int .i64 (ln : Int)) := by rw [cell_at h9]; rfl
            clear h9 h9c
            have CC := hid (pclashes_any _ _ (.slice (some ⟨g, 0, none⟩) ln1 cap2) ln w9 (by have q := HG9.out.st.isSts; exact q) HLEN.out HNL.out HOKS.out (HTW.out w9 HG9.out.below))
            go_wp2_with fail
            refine CC.out.mono ?_
            rintro e w10 ⟨rfl, hb10⟩
            have HGZ := hid (HG9.out.on hb10)
            clear hb10 h9b e2
            rw [HCLA.out]
            go_wp2_with fail
            refine (CRN.out 51 _).mono ?_
            rintro e y1 ⟨rfl, rfl⟩
            go_wp2
            have p2 : w10.cell? ⟨B, 0, none⟩ = some (.slice (some ⟨g, 0, none⟩) ln1 cap2) := by rw [HBB.out, cell_at HGZ.out.b2]; rfl
            have z2 : w10.frozen? ⟨B, 0, none⟩ = false := by rw [HBB.out]; exact free_at (i := 0) HGZ.out.b2 rfl
            have p3 : w10.cell? ⟨B + 1, 0, none⟩ = some (.int .i64 0) := by rw [HBB.out, cell_at HGZ.out.b3]; rfl
            have z3 : w10.frozen? ⟨B + 1, 0, none⟩ = false := by rw [HBB.out]; exact free_at (i := 0) HGZ.out.b3 rfl
            obtain ⟨f2, f3, fb⟩ := HGZ.out.fin 51
            rw [← HBB.out] at f2 f3 fb
            refine leaves_cons (f := 31) (args := #[.pointer (some ⟨B, 0, none⟩), .pointer (some ⟨B + 1, 0, none⟩)]) (by simp) (by simp [go_sem]) ?_
            refine (catch_panic ⟨B, 0, none⟩ ⟨B + 1, 0, none⟩ 51 [] _ _ _ p2 z2 p3 z3 (by show B + 1 ≠ B; omega)).mono ?_
            rintro e u' w'' ⟨rfl, rfl, rfl⟩
            have FP : Hid (FPost r E at' w (.returned (.tuple #[.slice none 0 0, .int .i64 51, .int .i64 (k : Int)])) ((w10.setCell ⟨B, 0, none⟩ (.slice none 0 0)).setCell ⟨B + 1, 0, none⟩ (.int .i64 51))) := ⟨nilV, [], by rw [HEA.out.1, HEA.out.2]; rfl, (fun h => by rw [HEA.out.1] at h; cases h), by have q := fb; rw [HBB.out] at q ⊢; exact q⟩
            simp [Leaves, settle, results, Tryz.results23, go_sem, f2, f3]
            exact FP.out
        have hkn : ((c.kind : Int) == 1) = false := by simpa using hk1'
        have HKN := hid hk1'
        clear hk1'
        rcases (show k < st ∨ k = st by omega) with hks | hks
        · have HKST := hid (by omega : k + 1 ≤ st)
          have hok := HS.out.ok k c hks HC.out
          have HOK := hid hok
          rw [← HL.out] at HOK hok
          obtain ⟨hst0, s, hs, hso⟩ := hok.has HKN.out
          obtain ⟨n, hn⟩ : ∃ n : Nat, c.street = n := ⟨c.street.toNat, by omega⟩
          have hnn : c.street.toNat = n := by omega
          rw [hnn] at hs
          obtain ⟨g, cap1, rfl⟩ := HG5.out.st.form hs
          have hnl := (List.getElem?_eq_some_iff.1 hs).1
          have HSO := hid hso
          have HSS := hid hs
          have HNNN := hid hnn
          have HN := hid hn
          have hinv : Inv l := by
            have h := HS.out.sound.take k
            rw [List.take_take, Nat.min_eq_left (by omega)] at h
            rw [HL.out]; exact h.inv
          have hinv2 : Inv (stp l c) := hinv.step HOK.out
          have hstp : stp l c = l.set n (chg c s) := by rw [stp_set HKN.out (by rw [hnn]; exact hs), hnn]
          have htrg : trg l c = n := by rw [trg_set HKN.out, hnn]
          have HHAS : Hid (hasB l (n : Int) = true) := by show _ = _; rw [← hn]; exact (hasB_iff _ _).2 ⟨hst0, s, by rw [hnn]; exact hs, hso⟩
          have HLE := hid (by have := HLK.out; omega : l.length ≤ 1000)
          have HLEN : Hid ((l.set n (chg c s)).length ≤ 1000) := by show _ ≤ _; rw [List.length_set]; exact HLE.out
          have HNL : Hid (n < (l.set n (chg c s)).length) := by show _ < _; rw [List.length_set]; exact hnl
          have HOKS : Hid (OkS (l.set n (chg c s))) := by show OkS _; rw [← hstp, ← HNEXT.out]; exact ok_streets (by rw [HNEXT.out]; exact hinv2) (by rw [List.length_take]; omega)
          have HCLA : Hid (clashAt (l.set n (chg c s)) n = false) := by have h := HOK.out.clash; rw [hstp, htrg] at h; exact h
          have HNXT : Hid (l.set n (chg c s) = runL (r.take (k + 1))) := by show _ = _; rw [HNEXT.out, hstp]
          have hgs := hinv.good s (List.mem_of_getElem? hs)
          have hsm := ok_streets (r := r.take k) (by rw [← HL.out]; exact hinv) (by rw [List.length_take]; omega)
          rw [← HL.out] at hsm
          have hsm1 := hsm.sm s (List.mem_of_getElem? hs)
          have CCH := hid (fun u (hu : Below w5.heap.size w5 u) => kind_call (c := c) (HG5.out.st.on hu) hs HOK.out HKN.out hnn hgs hsm1 (hsm.asc s (List.mem_of_getElem? hs)) (HTW.out u (bt HG5.out.below hu)) (Nat.le_trans HG5.out.below.size hu.size))
          unfold chA at CCH
          rw [← HTC.out, ← HTT.out, ← HTN.out, hn, ← HFK.out] at CCH
          have heg := funK_enter c.kind hkind.1 hkind.2
          rw [← HFK.out] at heg
          obtain ⟨ln, hln⟩ : ∃ x, x = l.length := ⟨_, rfl⟩
          rw [hn] at c2 HC5
          have HCT := hid HC5.out
          have HKT := hid HK5.out
          have hnl2 : n < ln := by omega
          have hnl3 : (n : Int) < (ln : Int) := by omega
          have hn0 : 0 ≤ (n : Int) := by omega
          rw [← hln] at HG5 CCH cv SK
          have HLN := hid hln
          clear hln hst0 hs hso hnn hn hnl hinv hinv2 hstp htrg hgs hsm hsm1 hok hks
          have HGT := hid (HG5.out)
          obtain ⟨c0, c1, c2, c3, c4, c5, c6, c7, c8⟩ := ch_cells HCT.out
          have cv : w5.cell? ⟨B, 0, none⟩ = some (.slice (some ⟨g, 0, none⟩) ln cap1) := by rw [HBB.out, cell_at HGT.out.b2]; rfl
          have CO := hid (popen_any l _ (.slice (some ⟨g, 0, none⟩) ln cap1) (n : Int) w5 HGT.out.st.isSts HLE.out)
          rw [HHAS.out] at CO
          go_wp2_with fail
          refine CO.out.mono ?_
          rintro e y1 ⟨rfl, rfl⟩
          go_wp2_with fail
          refine (CRQ.out 3 _).mono ?_
          rintro e y1 ⟨rfl, rfl⟩
          clear c0 c1 c2 c3 c4 c5 c6 c7 c8 cv
          go_wp2_with fail
          refine wp_region_noPanic ?_
          refine wp_region_held_drew (S := fun w' => w'.heap[wr.heap.size]? = some (.cells #[.int .i64 c.day, .int .i64 c.kind, .int .i64 (n : Int), .string tc, .string tt, .string tn, .int .i64 c.low, .int .i64 c.high, .int .i64 c.shift] 29 (0, 0))) (by kernel_rfl) (by have := HCT.out; exact this : w5.drew.heap[wr.heap.size]? = some (.cells #[.int .i64 c.day, .int .i64 c.kind, .int .i64 (n : Int), .string tc, .string tt, .string tn, .int .i64 c.low, .int .i64 c.high, .int .i64 c.shift] 29 (0, 0))) (fun hHeld => ?_)
          obtain ⟨wd1, hwd1⟩ : ∃ u, u = w5.drew := ⟨_, rfl⟩
          have bd1 : Below w5.heap.size w5 wd1 := by rw [hwd1]; exact (Below.refl _ _).drew
          rw [← hwd1] at hHeld ⊢
          clear hwd1
          refine wpAnyH_take (i := 0) (oi := ⟨some 72, _, _, _, _, _⟩) (v := .pointer (some ⟨wr.heap.size, 3, none⟩)) rfl (by kernel_rfl) (by kernel_rfl) (by kernel_rfl) (fun _ _ _ h => h) (Or.inl ⟨by rfl, ?_⟩) hHeld ?_
          · intro u hu
            go_simp
          try simp only [Act.put, List.setIfInBounds_toArray, List.set_cons_zero, List.set_cons_succ]
          refine wpAnyH_take (i := 1) (oi := ⟨some 73, _, _, _, _, _⟩) (v := .string tc) rfl (by kernel_rfl) (by kernel_rfl) (by kernel_rfl) (fun _ _ _ h => h) (Or.inl ⟨by rfl, ?_⟩) hHeld ?_
          · intro u hu
            have hx : u.cell? ⟨wr.heap.size, 3, none⟩ = some (.string tc) := by rw [cell_at hu]; rfl
            go_simp
          try simp only [Act.put, List.setIfInBounds_toArray, List.set_cons_zero, List.set_cons_succ]
          refine wpAnyH_take (i := 3) (oi := ⟨some 75, _, _, _, _, _⟩) (v := .pointer (some ⟨wr.heap.size, 4, none⟩)) rfl (by kernel_rfl) (by kernel_rfl) (by kernel_rfl) (fun _ _ _ h => h) (Or.inl ⟨by rfl, ?_⟩) hHeld ?_
          · intro u hu
            go_simp
          try simp only [Act.put, List.setIfInBounds_toArray, List.set_cons_zero, List.set_cons_succ]
          refine wpAnyH_take (i := 4) (oi := ⟨some 76, _, _, _, _, _⟩) (v := .string tt) rfl (by kernel_rfl) (by kernel_rfl) (by kernel_rfl) (fun _ _ _ h => h) (Or.inl ⟨by rfl, ?_⟩) hHeld ?_
          · intro u hu
            have hx : u.cell? ⟨wr.heap.size, 4, none⟩ = some (.string tt) := by rw [cell_at hu]; rfl
            go_simp
          try simp only [Act.put, List.setIfInBounds_toArray, List.set_cons_zero, List.set_cons_succ]
          refine wpAnyH_take (i := 6) (oi := ⟨some 78, _, _, _, _, _⟩) (v := .pointer (some ⟨wr.heap.size, 5, none⟩)) rfl (by kernel_rfl) (by kernel_rfl) (by kernel_rfl) (fun _ _ _ h => h) (Or.inl ⟨by rfl, ?_⟩) hHeld ?_
          · intro u hu
            go_simp
          try simp only [Act.put, List.setIfInBounds_toArray, List.set_cons_zero, List.set_cons_succ]
          refine wpAnyH_take (i := 7) (oi := ⟨some 79, _, _, _, _, _⟩) (v := .string tn) rfl (by kernel_rfl) (by kernel_rfl) (by kernel_rfl) (fun _ _ _ h => h) (Or.inl ⟨by rfl, ?_⟩) hHeld ?_
          · intro u hu
            have hx : u.cell? ⟨wr.heap.size, 5, none⟩ = some (.string tn) := by rw [cell_at hu]; rfl
            go_simp
          try simp only [Act.put, List.setIfInBounds_toArray, List.set_cons_zero, List.set_cons_succ]
          refine wpAnyH_ready (rs := [2]) (by kernel_rfl) (by simp) ?_
          refine AllReadyH.cons (o := ⟨some 74, _, _, _, _, _⟩) rfl (fun K hK => ?_) AllReadyH.nil
          go_simp
          go_at_call 36
          refine (CCL0.out _).mono ?_
          rintro e we0 ⟨rfl, hbq⟩
          have bwe0 : Below w5.heap.size w5 we0 := bt bd1 hbq
          clear hbq
          refine hK.out _ _ (by rw [bwe0.block _ (heap_lt HCT.out)]; exact HCT.out) (fun hHeld => ?_)
          clear hK K
          try simp only [Act.put, List.setIfInBounds_toArray, List.set_cons_zero, List.set_cons_succ]
          refine wpAnyH_take (i := 9) (oi := ⟨some 81, _, _, _, _, _⟩) (v := .pointer (some ⟨wr.heap.size, 3, none⟩)) rfl (by kernel_rfl) (by kernel_rfl) (by kernel_rfl) (fun _ _ _ h => h) (Or.inl ⟨by rfl, ?_⟩) hHeld ?_
          · intro u hu
            go_simp
          try simp only [Act.put, List.setIfInBounds_toArray, List.set_cons_zero, List.set_cons_succ]
          refine wpAnyH_ready (rs := [5]) (by kernel_rfl) (by simp) ?_
          refine AllReadyH.cons (o := ⟨some 77, _, _, _, _, _⟩) rfl (fun K hK => ?_) AllReadyH.nil
          go_simp
          go_at_call 36
          refine (CCL1.out _).mono ?_
          rintro e we1 ⟨rfl, hbq⟩
          have bwe1 : Below w5.heap.size w5 we1 := bt bwe0 hbq
          clear hbq
          refine hK.out _ _ (by rw [bwe1.block _ (heap_lt HCT.out)]; exact HCT.out) (fun hHeld => ?_)
          clear hK K
          try simp only [Act.put, List.setIfInBounds_toArray, List.set_cons_zero, List.set_cons_succ]
          refine wpAnyH_ready (rs := [8]) (by kernel_rfl) (by simp) ?_
          refine AllReadyH.cons (o := ⟨some 80, _, _, _, _, _⟩) rfl (fun K hK => ?_) AllReadyH.nil
          go_simp
          go_at_call 36
          refine (CCL2.out _).mono ?_
          rintro e we2 ⟨rfl, hbq⟩
          have bwe2 : Below w5.heap.size w5 we2 := bt bwe1 hbq
          clear hbq
          refine hK.out _ _ (by rw [bwe2.block _ (heap_lt HCT.out)]; exact HCT.out) (fun hHeld => ?_)
          clear hK K
          try simp only [Act.put, List.setIfInBounds_toArray, List.set_cons_zero, List.set_cons_succ]
          refine wpAnyH_ready (rs := [10]) (by kernel_rfl) (by simp) ?_
          refine AllReadyH.cons (o := ⟨none, _, _, _, _, _⟩) rfl (fun K hK => ?_) AllReadyH.nil
          have hx : we2.cell? ⟨wr.heap.size, 3, none⟩ = some (.string tc) := by rw [cell_at hHeld]; rfl
          have hz : we2.frozen? ⟨wr.heap.size, 3, none⟩ = false := free_at (v := .string tc) hHeld rfl
          go_simp
          rw [setCell_self hHeld (by rfl : (#[.int .i64 c.day, .int .i64 c.kind, .int .i64 (n : Int), .string tc, .string tt, .string tn, .int .i64 c.low, .int .i64 c.high, .int .i64 c.shift] : Array Value)[3]? = some (.string tc))]
          refine hK.out _ _ hHeld (fun hHeld => ?_)
          clear hK K hx hz
          try simp only [Act.put, List.setIfInBounds_toArray, List.set_cons_zero, List.set_cons_succ]
          refine wpAnyH_take (i := 11) (oi := ⟨some 82, _, _, _, _, _⟩) (v := .pointer (some ⟨wr.heap.size, 4, none⟩)) rfl (by kernel_rfl) (by kernel_rfl) (by kernel_rfl) (fun _ _ _ h => h) (Or.inl ⟨by rfl, ?_⟩) hHeld ?_
          · intro u hu
            go_simp
          try simp only [Act.put, List.setIfInBounds_toArray, List.set_cons_zero, List.set_cons_succ]
          refine wpAnyH_ready (rs := [12]) (by kernel_rfl) (by simp) ?_
          refine AllReadyH.cons (o := ⟨none, _, _, _, _, _⟩) rfl (fun K hK => ?_) AllReadyH.nil
          have hx : we2.cell? ⟨wr.heap.size, 4, none⟩ = some (.string tt) := by rw [cell_at hHeld]; rfl
          have hz : we2.frozen? ⟨wr.heap.size, 4, none⟩ = false := free_at (v := .string tt) hHeld rfl
          go_simp
          rw [setCell_self hHeld (by rfl : (#[.int .i64 c.day, .int .i64 c.kind, .int .i64 (n : Int), .string tc, .string tt, .string tn, .int .i64 c.low, .int .i64 c.high, .int .i64 c.shift] : Array Value)[4]? = some (.string tt))]
          refine hK.out _ _ hHeld (fun hHeld => ?_)
          clear hK K hx hz
          try simp only [Act.put, List.setIfInBounds_toArray, List.set_cons_zero, List.set_cons_succ]
          refine wpAnyH_take (i := 13) (oi := ⟨some 83, _, _, _, _, _⟩) (v := .pointer (some ⟨wr.heap.size, 5, none⟩)) rfl (by kernel_rfl) (by kernel_rfl) (by kernel_rfl) (fun _ _ _ h => h) (Or.inl ⟨by rfl, ?_⟩) hHeld ?_
          · intro u hu
            go_simp
          try simp only [Act.put, List.setIfInBounds_toArray, List.set_cons_zero, List.set_cons_succ]
          refine wpAnyH_ready (rs := [14]) (by kernel_rfl) (by simp) ?_
          refine AllReadyH.cons (o := ⟨none, _, _, _, _, _⟩) rfl (fun K hK => ?_) AllReadyH.nil
          have hx : we2.cell? ⟨wr.heap.size, 5, none⟩ = some (.string tn) := by rw [cell_at hHeld]; rfl
          have hz : we2.frozen? ⟨wr.heap.size, 5, none⟩ = false := free_at (v := .string tn) hHeld rfl
          go_simp
          rw [setCell_self hHeld (by rfl : (#[.int .i64 c.day, .int .i64 c.kind, .int .i64 (n : Int), .string tc, .string tt, .string tn, .int .i64 c.low, .int .i64 c.high, .int .i64 c.shift] : Array Value)[5]? = some (.string tn))]
          refine hK.out _ _ hHeld (fun hHeld => ?_)
          clear hK K hx hz
          try simp only [Act.put, List.setIfInBounds_toArray, List.set_cons_zero, List.set_cons_succ]
          refine wpAnyH_done (by kernel_rfl) ?_ _
          clear hHeld
          refine NoPanic.normal ?_
          have HE := hid bwe2
          clear bd1 bwe0 bwe1 bwe2
          go_wp2_with fail
          refine wp_region_noPanic ?_
          have SG : Hid (∀ u, Below w5.heap.size w5 u → u.heap[wr.heap.size]? = some (.cells #[.int .i64 c.day, .int .i64 c.kind, .int .i64 (n : Int), .string tc, .string tt, .string tn, .int .i64 c.low, .int .i64 c.high, .int .i64 c.shift] 29 (0, 0)) ∧ u.cell? ⟨B, 0, none⟩ = some (.slice (some ⟨g, 0, none⟩) ln cap1) ∧ u.cell? ⟨wd.heap.size, 1, none⟩ = some (.func (.func fk) #[] #[])) := fun u hu => by
            refine ⟨(hu.block _ (heap_lt HCT.out)).trans HCT.out, ?_, ?_⟩
            · rw [HBB.out, cell_at ((hu.block _ (heap_lt HGT.out.b2)).trans HGT.out.b2)]; rfl
            · rw [cell_at ((hu.block _ (heap_lt HKT.out)).trans HKT.out)]; rfl
          refine wp_region_held_drew (S := fun w' => w'.heap[wr.heap.size]? = some (.cells #[.int .i64 c.day, .int .i64 c.kind, .int .i64 (n : Int), .string tc, .string tt, .string tn, .int .i64 c.low, .int .i64 c.high, .int .i64 c.shift] 29 (0, 0)) ∧ w'.cell? ⟨B, 0, none⟩ = some (.slice (some ⟨g, 0, none⟩) ln cap1) ∧ w'.cell? ⟨wd.heap.size, 1, none⟩ = some (.func (.func fk) #[] #[])) (by kernel_rfl) (SG.out _ (bt HE.out (Below.refl _ _).drew)) (fun hHeld => ?_)
          obtain ⟨wd2, hwd2⟩ : ∃ u, u = we2.drew := ⟨_, rfl⟩
          have HD2 : Hid (Below w5.heap.size w5 wd2) := by show Below _ _ _; rw [hwd2]; exact bt HE.out (Below.refl _ _).drew
          rw [← hwd2] at hHeld ⊢
          clear hwd2
          refine wpAnyH_take (i := 0) (oi := ⟨some 84, _, _, _, _, _⟩) (v := .pointer (some ⟨wd.heap.size, 1, none⟩)) rfl (by kernel_rfl) (by kernel_rfl) (by kernel_rfl) (fun _ _ _ h => h) (Or.inl ⟨by rfl, ?_⟩) hHeld ?_
          · intro u hu
            obtain ⟨_, _, _⟩ := hu
            go_simp
          try simp only [Act.put, List.setIfInBounds_toArray, List.set_cons_zero, List.set_cons_succ]
          refine wpAnyH_take (i := 1) (oi := ⟨some 85, _, _, _, _, _⟩) (v := .func (.func fk) #[] #[]) rfl (by kernel_rfl) (by kernel_rfl) (by kernel_rfl) (fun _ _ _ h => h) (Or.inl ⟨by rfl, ?_⟩) hHeld ?_
          · intro u hu
            obtain ⟨_, hu1, hu2⟩ := hu
            go_simp
          try simp only [Act.put, List.setIfInBounds_toArray, List.set_cons_zero, List.set_cons_succ]
          refine wpAnyH_take (i := 2) (oi := ⟨some 86, _, _, _, _, _⟩) (v := .slice (some ⟨g, 0, none⟩) ln cap1) rfl (by kernel_rfl) (by kernel_rfl) (by kernel_rfl) (fun _ _ _ h => h) (Or.inl ⟨by rfl, ?_⟩) hHeld ?_
          · intro u hu
            obtain ⟨_, hu1, hu2⟩ := hu
            go_simp
          try simp only [Act.put, List.setIfInBounds_toArray, List.set_cons_zero, List.set_cons_succ]
          refine wpAnyH_take (i := 3) (oi := ⟨some 87, _, _, _, _, _⟩) (v := .pointer (some ⟨wr.heap.size, 2, none⟩)) rfl (by kernel_rfl) (by kernel_rfl) (by kernel_rfl) (fun _ _ _ h => h) (Or.inl ⟨by rfl, ?_⟩) hHeld ?_
          · intro u hu
            go_simp
          try simp only [Act.put, List.setIfInBounds_toArray, List.set_cons_zero, List.set_cons_succ]
          refine wpAnyH_take (i := 4) (oi := ⟨some 88, _, _, _, _, _⟩) (v := .int .i64 (n : Int)) rfl (by kernel_rfl) (by kernel_rfl) (by kernel_rfl) (fun _ _ _ h => h) (Or.inl ⟨by rfl, ?_⟩) hHeld ?_
          · intro u hu
            obtain ⟨hu0, _, _⟩ := hu
            obtain ⟨d0, d1, d2, d3, d4, d5, d6, d7, d8⟩ := ch_cells hu0
            go_simp
          try simp only [Act.put, List.setIfInBounds_toArray, List.set_cons_zero, List.set_cons_succ]
          refine wpAnyH_take (i := 5) (oi := ⟨some 89, _, _, _, _, _⟩) (v := .pointer (some ⟨g, n * 8, none⟩)) rfl (by kernel_rfl) (by kernel_rfl) (by kernel_rfl) (fun _ _ _ h => h) (Or.inl ⟨by rfl, ?_⟩) hHeld ?_
          · intro u hu
            go_simp
          try simp only [Act.put, List.setIfInBounds_toArray, List.set_cons_zero, List.set_cons_succ]
          refine wpAnyH_take (i := 6) (oi := ⟨some 90, _, _, _, _, _⟩) (v := .agg #[.int .i64 c.day, .int .i64 c.kind, .int .i64 (n : Int), .string tc, .string tt, .string tn, .int .i64 c.low, .int .i64 c.high, .int .i64 c.shift]) rfl (by kernel_rfl) (by kernel_rfl) (by kernel_rfl) (fun _ _ _ h => h) (Or.inl ⟨by rfl, ?_⟩) hHeld ?_
          · intro u hu
            obtain ⟨hu0, _, _⟩ := hu
            obtain ⟨d0, d1, d2, d3, d4, d5, d6, d7, d8⟩ := ch_cells hu0
            go_simp
          try simp only [Act.put, List.setIfInBounds_toArray, List.set_cons_zero, List.set_cons_succ]
          refine wpAnyH_ready (rs := [7]) (by kernel_rfl) (by simp) ?_
          refine AllReadyH.cons (o := ⟨some 91, _, _, _, _, _⟩) rfl (fun K hK => ?_) AllReadyH.nil
          go_simp
          refine (CCH.out _ HD2.out).mono ?_
          rintro e w9 ⟨vs9, rfl, hst9, hfr9⟩
          have HG9 := hid ((HGT.out.on HD2.out).frm hfr9 hst9)
          have HF9 := hid hfr9
          clear hst9 hfr9
          have h9 : w9.heap[wr.heap.size]? = some (.cells #[.int .i64 c.day, .int .i64 c.kind, .int .i64 (n : Int), .string tc, .string tt, .string tn, .int .i64 c.low, .int .i64 c.high, .int .i64 c.shift] 29 (0, 0)) := HF9.out.keep (SG.out _ HD2.out).1 (by decide)
          have h9b : w9.cell? ⟨B, 0, none⟩ = some (.slice (some ⟨g, 0, none⟩) ln cap1) := by rw [HBB.out, cell_at HG9.out.b2]; rfl
          have h9c : w9.cell? ⟨wd.heap.size, 1, none⟩ = some (.func (.func fk) #[] #[]) := by rw [cell_at (HF9.out.keep ((HD2.out.block _ (heap_lt HKT.out)).trans HKT.out) (by decide))]; rfl
          refine hK.out _ _ ⟨h9, h9b, h9c⟩ (fun hHeld => ?_)
          clear hK K
          try simp only [Act.put, List.setIfInBounds_toArray, List.set_cons_zero, List.set_cons_succ]
          refine wpAnyH_done (by kernel_rfl) ?_ _
          clear hHeld
          refine NoPanic.normal ?_
          have e2 : w9.cell? ⟨wr.heap.size, 2, none⟩ = some (.int .i64 (n : Int)) := by rw [cell_at h9]; rfl
          clear h9 h9c
          have CC := hid (pclashes_any _ _ (.slice (some ⟨g, 0, none⟩) ln cap1) n w9 (by have q := HG9.out.st.isSts; exact q) HLEN.out HNL.out HOKS.out (HTW.out w9 HG9.out.below))
          go_wp2_with fail
          refine CC.out.mono ?_
          rintro e w10 ⟨rfl, hb10⟩
          have HGZ := hid (HG9.out.on hb10)
          clear hb10 h9b e2
          rw [HCLA.out]
          go_wp2_with fail
          refine (CRQ.out 51 _).mono ?_
          rintro e y1 ⟨rfl, rfl⟩
          go_wp2
          go_roundw
          case rel => exact ⟨k + 1, HKST.out, by go_num, ⟨_, _, HGZ.out.f HNXT.out⟩⟩
          case measure => simp [intOf]; omega
        · obtain ⟨hE, hat, hno⟩ : E = 3 ∧ at' = (k : Int) ∧ hasB l c.street = false := by
            rcases HS.out.out with ⟨e, _⟩ | ⟨_, _, e, d, hd, h⟩
            · have := HM.out; omega
            · subst hks
              rw [HC.out] at hd; cases hd
              rcases h with ⟨h1, _, h2⟩ | ⟨_, h1, _⟩
              · exact ⟨h1, e, by rw [HL.out]; exact h2⟩
              · exact absurd h1 HKN.out
          have HEA := hid (And.intro hE hat)
          have CO := hid (popen_any l vs v c.street w5 HG5.out.st.isSts (by have := HLK.out; omega))
          rw [hno] at CO
          clear hE hat hno hks
          go_wp2_with fail
          refine CO.out.mono ?_
          rintro e y1 ⟨rfl, rfl⟩
          go_wp2_with fail
          refine (CRN.out 3 _).mono ?_
          rintro e y1 ⟨rfl, rfl⟩
          clear c0 c1 c2 c3 c4 c5 c6 c7 c8 cv
          go_wp2
          have p2 : w5.cell? ⟨B, 0, none⟩ = some (v) := by rw [HBB.out, cell_at HG5.out.b2]; rfl
          have z2 : w5.frozen? ⟨B, 0, none⟩ = false := by rw [HBB.out]; exact free_at (i := 0) HG5.out.b2 rfl
          have p3 : w5.cell? ⟨B + 1, 0, none⟩ = some (.int .i64 0) := by rw [HBB.out, cell_at HG5.out.b3]; rfl
          have z3 : w5.frozen? ⟨B + 1, 0, none⟩ = false := by rw [HBB.out]; exact free_at (i := 0) HG5.out.b3 rfl
          obtain ⟨f2, f3, fb⟩ := HG5.out.fin 3
          rw [← HBB.out] at f2 f3 fb
          refine leaves_cons (f := 31) (args := #[.pointer (some ⟨B, 0, none⟩), .pointer (some ⟨B + 1, 0, none⟩)]) (by simp) (by simp [go_sem]) ?_
          refine (catch_panic ⟨B, 0, none⟩ ⟨B + 1, 0, none⟩ 3 [] _ _ _ p2 z2 p3 z3 (by show B + 1 ≠ B; omega)).mono ?_
          rintro e u' w'' ⟨rfl, rfl, rfl⟩
          have FP : Hid (FPost r E at' w (.returned (.tuple #[.slice none 0 0, .int .i64 3, .int .i64 (k : Int)])) ((w5.setCell ⟨B, 0, none⟩ (.slice none 0 0)).setCell ⟨B + 1, 0, none⟩ (.int .i64 3))) := ⟨nilV, [], by rw [HEA.out.1, HEA.out.2]; rfl, (fun h => by rw [HEA.out.1] at h; cases h), by have q := fb; rw [HBB.out] at q ⊢; exact q⟩
          simp [Leaves, settle, results, Tryz.results23, go_sem, f2, f3]
          exact FP.out
      · obtain ⟨p, hp, hpd, hpc⟩ := hday.out hkz
        have hd1 : decide (p.day ≤ c.day) = true := decide_eq_true hpd
        have q1 : ((k : Int) == 0) = false := by simp; omega
        have q1b : (k == 0) = false := by simp; omega
        have q1c : ¬ k = 0 := by omega
        have q2 : IntKind.i64.wrap ((k : Int) - 1) = (k : Int) - 1 := IntWalk.i64_in _ (by omega)
        have q3 : ((k : Int) - 1).toNat = k - 1 := by omega
        have q4 : (0 : Int) ≤ (k : Int) - 1 := by omega
        have q5 : (1 : Int) ≤ (k : Int) := by omega
        have q6 : (k : Int) - 1 < (m : Int) := by omega
        clear hp hkz
        refine wp_region_noPanic ?_
        refine wp_region_held_drew (S := fun w' => w'.cell? ⟨wr.heap.size, 0, none⟩ = some (.int .i64 c.day) ∧ w'.cell? ⟨g0, o0 + (k - 1) * 9, none⟩ = some (.int .i64 p.day)) (by kernel_rfl) (by exact ⟨by simpa using c0, by simpa using hpc⟩) (fun hHeld => ?_)
        obtain ⟨wd, hwd⟩ : ∃ u, u = wa.drew := ⟨_, rfl⟩
        rw [← hwd] at HDA hHeld ⊢
        clear hwd
        refine wpAnyH_take (i := 0) (oi := ⟨some 23, _, _, _, _, _⟩) (v := .int .i64 (k : Int)) rfl (by kernel_rfl) (by kernel_rfl) (by kernel_rfl) (fun _ _ _ h => h) (Or.inl ⟨by rfl, ?_⟩) hHeld ?_
        · intro u hu
          go_simp
        try simp only [Act.put, List.setIfInBounds_toArray, List.set_cons_zero, List.set_cons_succ]
        refine wpAnyH_take (i := 1) (oi := ⟨some 24, _, _, _, _, _⟩) (v := .bool false) rfl (by kernel_rfl) (by kernel_rfl) (by kernel_rfl) (fun _ _ _ h => h) (Or.inl ⟨by rfl, ?_⟩) hHeld ?_
        · intro u hu
          go_simp
        try simp only [Act.put, List.setIfInBounds_toArray, List.set_cons_zero, List.set_cons_succ]
        refine wpAnyH_take (i := 2) (oi := ⟨some 25, _, _, _, _, _⟩) (v := .bool false) rfl (by kernel_rfl) (by kernel_rfl) (by kernel_rfl) (fun _ _ _ h => h) (Or.inl ⟨by rfl, ?_⟩) hHeld ?_
        · intro u hu
          go_simp
        try simp only [Act.put, List.setIfInBounds_toArray, List.set_cons_zero, List.set_cons_succ]
        refine wpAnyH_take (i := 3) (oi := ⟨some 26, _, _, _, _, _⟩) (v := .pointer (some ⟨wr.heap.size, 0, none⟩)) rfl (by kernel_rfl) (by kernel_rfl) (by kernel_rfl) (fun _ _ _ h => h) (Or.inl ⟨by rfl, ?_⟩) hHeld ?_
        · intro u hu
          go_simp
        try simp only [Act.put, List.setIfInBounds_toArray, List.set_cons_zero, List.set_cons_succ]
        refine wpAnyH_take (i := 4) (oi := ⟨some 27, _, _, _, _, _⟩) (v := .int .i64 c.day) rfl (by kernel_rfl) (by kernel_rfl) (by kernel_rfl) (fun _ _ _ h => h) (Or.inl ⟨by rfl, ?_⟩) hHeld ?_
        · intro u hu
          go_simp
        try simp only [Act.put, List.setIfInBounds_toArray, List.set_cons_zero, List.set_cons_succ]
        refine wpAnyH_take (i := 5) (oi := ⟨some 28, _, _, _, _, _⟩) (v := .slice (some ⟨g0, o0, none⟩) m cap) rfl (by kernel_rfl) (by kernel_rfl) (by kernel_rfl) (fun _ _ _ h => h) (Or.inl ⟨by rfl, ?_⟩) hHeld ?_
        · intro u hu
          go_simp
        try simp only [Act.put, List.setIfInBounds_toArray, List.set_cons_zero, List.set_cons_succ]
        refine wpAnyH_take (i := 6) (oi := ⟨some 29, _, _, _, _, _⟩) (v := .int .i64 (k : Int)) rfl (by kernel_rfl) (by kernel_rfl) (by kernel_rfl) (fun _ _ _ h => h) (Or.inl ⟨by rfl, ?_⟩) hHeld ?_
        · intro u hu
          go_simp
        try simp only [Act.put, List.setIfInBounds_toArray, List.set_cons_zero, List.set_cons_succ]
        refine wpAnyH_take (i := 7) (oi := ⟨some 30, _, _, _, _, _⟩) (v := .int .i64 ((k : Int) - 1)) rfl (by kernel_rfl) (by kernel_rfl) (by kernel_rfl) (fun _ _ _ h => h) (Or.inl ⟨by rfl, ?_⟩) hHeld ?_
        · intro u hu
          go_simp
        try simp only [Act.put, List.setIfInBounds_toArray, List.set_cons_zero, List.set_cons_succ]
        refine wpAnyH_take (i := 8) (oi := ⟨some 31, _, _, _, _, _⟩) (v := .pointer (some ⟨g0, o0 + (k - 1) * 9, none⟩)) rfl (by kernel_rfl) (by kernel_rfl) (by kernel_rfl) (fun _ _ _ h => h) (Or.inl ⟨by rfl, ?_⟩) hHeld ?_
        · intro u hu
          go_simp
        try simp only [Act.put, List.setIfInBounds_toArray, List.set_cons_zero, List.set_cons_succ]
        refine wpAnyH_take (i := 9) (oi := ⟨some 32, _, _, _, _, _⟩) (v := .pointer (some ⟨g0, o0 + (k - 1) * 9, none⟩)) rfl (by kernel_rfl) (by kernel_rfl) (by kernel_rfl) (fun _ _ _ h => h) (Or.inl ⟨by rfl, ?_⟩) hHeld ?_
        · intro u hu
          go_simp
        try simp only [Act.put, List.setIfInBounds_toArray, List.set_cons_zero, List.set_cons_succ]
        refine wpAnyH_take (i := 10) (oi := ⟨some 33, _, _, _, _, _⟩) (v := .int .i64 p.day) rfl (by kernel_rfl) (by kernel_rfl) (by kernel_rfl) (fun _ _ _ h => h) (Or.inl ⟨by rfl, ?_⟩) hHeld ?_
        · intro u hu
          go_simp
        try simp only [Act.put, List.setIfInBounds_toArray, List.set_cons_zero, List.set_cons_succ]
        refine wpAnyH_take (i := 11) (oi := ⟨some 34, _, _, _, _, _⟩) (v := .bool true) rfl (by kernel_rfl) (by kernel_rfl) (by kernel_rfl) (fun _ _ _ h => h) (Or.inl ⟨by rfl, ?_⟩) hHeld ?_
        · intro u hu
          go_simp
        try simp only [Act.put, List.setIfInBounds_toArray, List.set_cons_zero, List.set_cons_succ]
        refine wpAnyH_take (i := 12) (oi := ⟨some 35, _, _, _, _, _⟩) (v := .bool true) rfl (by kernel_rfl) (by kernel_rfl) (by kernel_rfl) (fun _ _ _ h => h) (Or.inl ⟨by rfl, ?_⟩) hHeld ?_
        · intro u hu
          go_simp
        try simp only [Act.put, List.setIfInBounds_toArray, List.set_cons_zero, List.set_cons_succ]
        refine wpAnyH_ready (rs := [13]) (by kernel_rfl) (by simp) ?_
        refine AllReadyH.cons (o := ⟨some 36, _, _, _, _, _⟩) rfl (fun K hK => ?_) AllReadyH.nil
        go_simp
        go_at_call 33
        refine (CRQ.out 50 _).mono ?_
        rintro e y1 ⟨rfl, rfl⟩
        refine hK.out _ _ hHeld (fun hHeld => ?_)
        clear hK K
        try simp only [Act.put, List.setIfInBounds_toArray, List.set_cons_zero, List.set_cons_succ]
        refine wpAnyH_done (by kernel_rfl) ?_ _
        clear hHeld
        refine NoPanic.normal ?_
        clear hd1 q1 q1b q1c q2 q3 q4 q5 q6 hpd hpc
        have hkind := HFM.out.kind
        obtain ⟨uk, huk⟩ : ∃ x, x = usesK c.kind := ⟨_, rfl⟩
        obtain ⟨fk, hfk⟩ : ∃ x, x = funK c.kind := ⟨_, rfl⟩
        have hlk : (Instr.lookup 68 (.map (some (B + 1 + 1))) (.int .i64 c.kind) true).run Tryz.prog wd = .ok (.tuple #[.agg #[.int .i64 uk, .func (.func fk) #[] #[]], .bool true]) wd := by
          have h := look_k ((HDA.out.block _ (heap_lt HIA.out.mp)).trans HIA.out.mp) c.kind hkind.1 hkind.2
          rw [HBB.out, huk, hfk]; exact h
        have HFK := hid hfk
        clear c0 c1 c2 c3 c4 c5 c6 c7 c8 cv
        obtain ⟨c0, c1, c2, c3, c4, c5, c6, c7, c8, cv⟩ := SK.out _ HDA.out
        obtain ⟨wb, hwb⟩ : ∃ u, u = wd.alloc (.cells #[.int .i64 uk, .func (.func fk) #[] #[]] 73) := ⟨_, rfl⟩
        have hbb : Below wd.heap.size wd wb := by rw [hwb]; exact b0 _ _
        have hrb : wb.heap[wd.heap.size]? = some (.cells #[.int .i64 uk, .func (.func fk) #[] #[]] 73 (0, 0)) := by rw [hwb]; exact heap_new _ _
        have HRB := hid hrb
        have HBW := hid (bt HDA.out hbb)
        have CD := hid (fun u => pday_yes c.day u HFM.out.day.1 HFM.out.day.2)
        have HTW : Hid (∀ u, Below w.heap.size w u → Tb u) := fun u hu => HT.out.on hu
        have CFT := hid (pfits_formed c wb (HTW.out _ (bt HIA.out.below HBW.out)) HFM.out)
        unfold chA at CFT
        rw [← HTC.out, ← HTT.out, ← HTN.out, ← huk] at CFT
        have cb0 : wb.cell? ⟨wd.heap.size, 0, none⟩ = some (.int .i64 uk) := by rw [cell_at hrb]; rfl
        have cb1 : wb.cell? ⟨wd.heap.size, 1, none⟩ = some (.func (.func fk) #[] #[]) := by rw [cell_at hrb]; rfl
        have d0 := (SK.out _ HBW.out).1
        rw [hwb] at d0
        clear huk hfk hbb hrb
        go_wp2_with fail
        refine (CD.out _).mono ?_
        rintro e y1 ⟨rfl, rfl⟩
        rw [← hwb]
        clear hwb hlk d0 c0 c1 c2 c3 c4 c5 c6 c7 c8 cv
        obtain ⟨c0, c1, c2, c3, c4, c5, c6, c7, c8, cv⟩ := SK.out _ HBW.out
        go_wp2_with fail
        refine CFT.out.mono ?_
        rintro e w5 ⟨rfl, hb5⟩
        have HB5 := hid (bt HBW.out hb5)
        have HK5 : Hid (w5.heap[wd.heap.size]? = some (.cells #[.int .i64 uk, .func (.func fk) #[] #[]] 73 (0, 0))) := (hb5.block _ (heap_lt HRB.out)).trans HRB.out
        clear hb5 cb0 cb1 c0 c1 c2 c3 c4 c5 c6 c7 c8 cv
        obtain ⟨c0, c1, c2, c3, c4, c5, c6, c7, c8, cv⟩ := SK.out _ HB5.out
        go_wp2_with fail
        refine (CRQ.out 1 _).mono ?_
        rintro e y1 ⟨rfl, rfl⟩
        have HC5 : Hid (w5.heap[wr.heap.size]? = some (.cells #[.int .i64 c.day, .int .i64 c.kind, .int .i64 c.street, .string tc, .string tt, .string tn, .int .i64 c.low, .int .i64 c.high, .int .i64 c.shift] 29 (0, 0))) := (HB5.out.block _ (heap_lt HRA.out)).trans HRA.out
        have CCL0 := hid (fun u => pclone_any c.code u (by have := HFM.out.short.code; omega))
        have CCL1 := hid (fun u => pclone_any c.town u (by have := HFM.out.short.town; omega))
        have CCL2 := hid (fun u => pclone_any c.name u (by have := HFM.out.short.name; omega))
        rw [← HTC.out] at CCL0
        rw [← HTT.out] at CCL1
        rw [← HTN.out] at CCL2
        have hsd := HS.out.sound
        have HG5 := hid ((HIA.out.on HB5.out).g)
        have HLK := hid (Nat.le_trans (run_few (r.take k)) (by rw [List.length_take]; omega : (r.take k).length ≤ k))
        obtain ⟨l, hl⟩ : ∃ l, l = runL (r.take k) := ⟨_, rfl⟩
        rw [← hl] at HG5 HLK
        have HL := hid hl
        have HNEXT : Hid (runL (r.take (k + 1)) = stp l c) := by show _ = _; rw [run_take HC.out, HL.out]
        clear hl hsd
        by_cases hk1' : c.kind = 1
        · have hkn : ((c.kind : Int) == 1) = true := by simpa using hk1'
          have HKN := hid hk1'
          clear hk1'
          obtain ⟨A1, cap1, rfl⟩ := HG5.out.st.formA
          obtain ⟨ln, hln⟩ : ∃ x, x = l.length := ⟨_, rfl⟩
          rw [← hln] at HG5 HLK cv SK
          have HLN := hid hln
          have hln2 : ln ≤ 1000 := by have := HLK.out; omega
          clear hln
          have zc2 : w5.frozen? ⟨wr.heap.size, 2, none⟩ = false := free_at (i := 2) HC5.out rfl
          go_upto_region 13 with (fail)
          clear zc2
          obtain ⟨wp, hwp⟩ : ∃ u, u = w5.setCell ⟨wr.heap.size, 2, none⟩ (.int .i64 (ln : Int)) := ⟨_, rfl⟩
          rw [← hwp]
          have hwC : w.heap.size ≤ wr.heap.size := by have := HIA.out.below.size; have h1 := heap_lt HRA.out; exact HWR.out
          have HGP : Hid (GInv w l (.slice A1 ln cap1) vs wp) := by show GInv _ _ _ _ _; rw [hwp]; exact HG5.out.poke HC5.out hwC
          have HCP : Hid (wp.heap[wr.heap.size]? = some (.cells #[.int .i64 c.day, .int .i64 c.kind, .int .i64 (ln : Int), .string tc, .string tt, .string tn, .int .i64 c.low, .int .i64 c.high, .int .i64 c.shift] 29 (0, 0))) := by show _ = _; rw [hwp]; exact heap_setCell_same _ _ 2 _ _ _ HC5.out
          have HKP : Hid (wp.heap[wd.heap.size]? = some (.cells #[.int .i64 uk, .func (.func fk) #[] #[]] 73 (0, 0))) := by
            show _ = _
            rw [hwp, Below.heap_setCell w5 ⟨wr.heap.size, 2, none⟩ _ wd.heap.size (by intro q; have q : wd.heap.size = wr.heap.size := q; have h := HK5.out; rw [q, HC5.out] at h; cases h)]; exact HK5.out
          clear hwp hwC c0 c1 c2 c3 c4 c5 c6 c7 c8 cv
          obtain ⟨c0, c1, c2, c3, c4, c5, c6, c7, c8⟩ := ch_cells HCP.out
          have cv : wp.cell? ⟨B, 0, none⟩ = some (.slice A1 ln cap1) := by rw [HBB.out, cell_at HGP.out.b2]; rfl
          have hrow : wp.ownsRow w.heap.size 44 8 (.slice A1 ln cap1) ln (cellsS l vs) := by have h := HGP.out.st.row; rw [← HLN.out] at h; exact h
          have hbase : w.heap.size ≤ wp.heap.size := HGP.out.below.size
          have cnew := block_news wp #[.string ⟨#[]⟩, .string ⟨#[]⟩, .string ⟨#[]⟩, .slice none 0 0, .int .i64 0, .int .i64 0, .int .i64 0, .bool true] 44 wp.heap.size rfl
          have HX : Hid (∀ g cap2 w6, w6.ownsRow w.heap.size 44 8 (.slice (some ⟨g, 0, none⟩) (ln + 1) cap2) (ln + 1) (cellsS l vs ++ ((#[.string ⟨#[]⟩, .string ⟨#[]⟩, .string ⟨#[]⟩, .slice none 0 0, .int .i64 0, .int .i64 0, .int .i64 0, .bool true] : Array Value).toList)) → (wp.alloc (.cells #[.string ⟨#[]⟩, .string ⟨#[]⟩, .string ⟨#[]⟩, .slice none 0 0, .int .i64 0, .int .i64 0, .int .i64 0, .bool true] 44)).grownBy w6 (Value.slice A1 ln cap1).ownBlock →
              Strs w.heap.size w6 (.slice (some ⟨g, 0, none⟩) (ln + 1) cap2) (l ++ [zeroS]) (vs ++ [nilV]) ∧ Frm w.heap.size wp w6 ∧ w6.cell? ⟨B, 0, none⟩ = some (.slice A1 ln cap1) ∧ w6.frozen? ⟨B, 0, none⟩ = false ∧ w6.heap[wr.heap.size]? = some (.cells #[.int .i64 c.day, .int .i64 c.kind, .int .i64 (ln : Int), .string tc, .string tt, .string tn, .int .i64 c.low, .int .i64 c.high, .int .i64 c.shift] 29 (0, 0)) ∧ w6.heap[wd.heap.size]? = some (.cells #[.int .i64 uk, .func (.func fk) #[] #[]] 73 (0, 0))) := fun g cap2 w6 h1 h2 => by
            obtain ⟨p1, p2⟩ := HGP.out.st.snoc (z := zeroS) rfl (by rw [← HLN.out]; exact h1) h2
            have hb2 := p2.keep HGP.out.b2 (by decide)
            exact ⟨p1, p2, by rw [HBB.out, cell_at hb2]; rfl, by rw [HBB.out]; exact free_at (i := 0) hb2 rfl, p2.keep HCP.out (by decide), p2.keep HKP.out (by decide)⟩
          go_wp2_with (at_builtin; refine wpList_append_lies _ rfl _ _ 30 rfl w.heap.size 44 i0 _ 8 104 Tryz.underlying30 hi0 hz0 hz1 hz2 rfl (by decide) _ _ _ rfl (hrow.alloc _) ⟨wp.heap.size, 0, none⟩ 1 1 ((#[.string ⟨#[]⟩, .string ⟨#[]⟩, .string ⟨#[]⟩, .slice none 0 0, .int .i64 0, .int .i64 0, .int .i64 0, .bool true] : Array Value).toList) rfl rfl cnew (by intro x hx; simp at hx; rcases hx with rfl | rfl | rfl | rfl | rfl | rfl | rfl | rfl <;> rfl) (by omega) (by unfold maxLen; omega) (by omega) (by simp; omega) (wp.heap.size + 1) (by simp) ?_; intro g cap2 w6 hown6 hgrow hat6 hlt6; obtain ⟨hs6, hf6, x6, z6, y6, k6⟩ := HX.out g cap2 w6 hown6 hgrow; obtain ⟨d0, d1, d2, d3, d4, d5, d6, d7, d8⟩ := ch_cells y6)
          obtain ⟨ln1, hln1⟩ : ∃ x, x = ln + 1 := ⟨_, rfl⟩
          rw [← hln1] at hs6 ⊢
          obtain ⟨w7, hw7⟩ : ∃ u, u = w6.setCell ⟨B, 0, none⟩ (.slice (some ⟨g, 0, none⟩) ln1 cap2) := ⟨_, rfl⟩
          rw [← hw7]
          have HG7 : Hid (GInv w (l ++ [zeroS]) (.slice (some ⟨g, 0, none⟩) ln1 cap2) (vs ++ [nilV]) w7) := by show GInv _ _ _ _ _; rw [hw7, HBB.out]; exact HGP.out.setv hf6 hs6
          have hCB : wr.heap.size ≠ B := by
            intro q; have h := HG5.out.b2; rw [← HBB.out, ← q, HC5.out] at h; cases h
          have hKB : wd.heap.size ≠ B := by
            intro q; have h := HG5.out.b2; rw [← HBB.out, ← q, HK5.out] at h; cases h
          have HCT : Hid (w7.heap[wr.heap.size]? = some (.cells #[.int .i64 c.day, .int .i64 c.kind, .int .i64 (ln : Int), .string tc, .string tt, .string tn, .int .i64 c.low, .int .i64 c.high, .int .i64 c.shift] 29 (0, 0))) := by show _ = _; rw [hw7, Below.heap_setCell w6 ⟨B, 0, none⟩ _ wr.heap.size hCB]; exact y6
          have HKT : Hid (w7.heap[wd.heap.size]? = some (.cells #[.int .i64 uk, .func (.func fk) #[] #[]] 73 (0, 0))) := by show _ = _; rw [hw7, Below.heap_setCell w6 ⟨B, 0, none⟩ _ wd.heap.size hKB]; exact k6
          have hln3 : ln < ln1 := by omega
          have hn1 : (ln : Int) < (ln1 : Int) := by omega
          have hn0 : 0 ≤ (ln : Int) := by omega
          have hlz : (l ++ [zeroS]).length = ln1 := by rw [List.length_append, ← HLN.out, hln1]; rfl
          have hzs : (l ++ [zeroS])[ln]? = some zeroS := by rw [HLN.out]; simp
          have hset : (l ++ [zeroS]).set ln (newS c) = stp l c := by rw [stp_open HKN.out, HLN.out, set_snoc]
          have htrg : trg l c = ln := by rw [trg_open HKN.out, HLN.out]
          have HHAS : Hid (hasB (l ++ [zeroS]) (ln : Int) = true) := (hasB_iff _ _).2 ⟨by omega, zeroS, by simpa using hzs, rfl⟩
          have HLE := hid (by rw [hlz]; have := HLK.out; omega : (l ++ [zeroS]).length ≤ 1000)
          have hsl : ((l ++ [zeroS]).set ln (newS c)).length = ln1 := by rw [List.length_set, hlz]
          have HLEN := hid (by rw [hsl]; have := HLK.out; omega : ((l ++ [zeroS]).set ln (newS c)).length ≤ 1000)
          have HNL := hid (by rw [hsl]; omega : ln < ((l ++ [zeroS]).set ln (newS c)).length)
          have hinv : Inv l := by
            have h := HS.out.sound.take k
            rw [List.take_take, Nat.min_eq_left (by omega)] at h
            rw [HL.out]; exact h.inv
          have HOKS : Hid (OkS ((l ++ [zeroS]).set ln (newS c))) := by
            show OkS _
            have h0 := ok_streets (r := r.take k) (by rw [← HL.out]; exact hinv) (by rw [List.length_take]; omega)
            rw [← HL.out] at h0
            have hgn := good_new HFM.out HKN.out
            rw [hset, stp_open HKN.out]
            refine ⟨fun x hx => ?_, fun x hx => ?_⟩
            · rcases List.mem_append.1 hx with hx | hx
              · exact h0.sm x hx
              · simp at hx; rw [hx]; exact hgn.sm (m := 0) (by simp [newS]) (by omega)
            · rcases List.mem_append.1 hx with hx | hx
              · exact h0.asc x hx
              · simp at hx; rw [hx]; exact hgn.asc
          have HNXT : Hid ((l ++ [zeroS]).set ln (newS c) = runL (r.take (k + 1))) := by show _ = _; rw [HNEXT.out, hset]
          obtain ⟨c', hc'⟩ : ∃ x : Ch, x = { c with street := (ln : Int) } := ⟨_, rfl⟩
          have CCH : Hid (∀ u, Below w7.heap.size w7 u → Calls Tryz.prog fk #[.pointer (some ⟨g, ln * 8, none⟩), .agg #[.int .i64 c.day, .int .i64 c.kind, .int .i64 (ln : Int), .string tc, .string tt, .string tn, .int .i64 c.low, .int .i64 c.high, .int .i64 c.shift]] u (ChgPost w.heap.size u (.slice (some ⟨g, 0, none⟩) ln1 cap2) (l ++ [zeroS]) ln (newS c))) := fun u hu => by
            have h := popenc_any w.heap.size (l ++ [zeroS]) (vs ++ [nilV]) g cap2 ln zeroS c' u (by rw [hlz]; exact HG7.out.st.on hu) hzs
            rw [hlz, hc'] at h
            unfold chA at h
            rw [HFK.out, show funK c.kind = 46 by rw [HKN.out]; rfl, HTC.out, HTT.out, HTN.out]
            exact h
          have heg := funK_enter c.kind hkind.1 hkind.2
          rw [← HFK.out] at heg
          clear c0 c1 c2 c3 c4 c5 c6 c7 c8 cv d0 d1 d2 d3 d4 d5 d6 d7 d8 x6 z6 y6 k6 hs6 hf6 hown6 hgrow hat6 hlt6 hw7 hCB hKB hrow hbase cnew hlz hzs hsl hinv hc' hln1
          rcases (show k < st ∨ k = st by omega) with hks | hks
          · have HKST := hid (by omega : k + 1 ≤ st)
            have HCLA : Hid (clashAt ((l ++ [zeroS]).set ln (newS c)) ln = false) := by have h := (HS.out.ok k c hks HC.out).clash; rw [← HL.out, ← hset, htrg] at h; exact h
            clear hks hset htrg
            have HGT := hid (HG7.out)
            obtain ⟨c0, c1, c2, c3, c4, c5, c6, c7, c8⟩ := ch_cells HCT.out
            have cv : w7.cell? ⟨B, 0, none⟩ = some (.slice (some ⟨g, 0, none⟩) ln1 cap2) := by rw [HBB.out, cell_at HGT.out.b2]; rfl
            have CO := hid (popen_any (l ++ [zeroS]) _ (.slice (some ⟨g, 0, none⟩) ln1 cap2) (ln : Int) w7 HGT.out.st.isSts HLE.out)
            rw [HHAS.out] at CO
            refine CO.out.mono ?_
            rintro e y1 ⟨rfl, rfl⟩
            go_wp2_with fail
            refine (CRQ.out 3 _).mono ?_
            rintro e y1 ⟨rfl, rfl⟩
            clear c0 c1 c2 c3 c4 c5 c6 c7 c8 cv
            go_wp2_with fail
            refine wp_region_noPanic ?_
            refine wp_region_held_drew (S := fun w' => w'.heap[wr.heap.size]? = some (.cells #[.int .i64 c.day, .int .i64 c.kind, .int .i64 (ln : Int), .string tc, .string tt, .string tn, .int .i64 c.low, .int .i64 c.high, .int .i64 c.shift] 29 (0, 0))) (by kernel_rfl) (by have := HCT.out; exact this : w7.drew.heap[wr.heap.size]? = some (.cells #[.int .i64 c.day, .int .i64 c.kind, .int .i64 (ln : Int), .string tc, .string tt, .string tn, .int .i64 c.low, .int .i64 c.high, .int .i64 c.shift] 29 (0, 0))) (fun hHeld => ?_)
            obtain ⟨wd1, hwd1⟩ : ∃ u, u = w7.drew := ⟨_, rfl⟩
            have bd1 : Below w7.heap.size w7 wd1 := by rw [hwd1]; exact (Below.refl _ _).drew
            rw [← hwd1] at hHeld ⊢
            clear hwd1
            refine wpAnyH_take (i := 0) (oi := ⟨some 72, _, _, _, _, _⟩) (v := .pointer (some ⟨wr.heap.size, 3, none⟩)) rfl (by kernel_rfl) (by kernel_rfl) (by kernel_rfl) (fun _ _ _ h => h) (Or.inl ⟨by rfl, ?_⟩) hHeld ?_
            · intro u hu
              go_simp
            try simp only [Act.put, List.setIfInBounds_toArray, List.set_cons_zero, List.set_cons_succ]
            refine wpAnyH_take (i := 1) (oi := ⟨some 73, _, _, _, _, _⟩) (v := .string tc) rfl (by kernel_rfl) (by kernel_rfl) (by kernel_rfl) (fun _ _ _ h => h) (Or.inl ⟨by rfl, ?_⟩) hHeld ?_
            · intro u hu
              have hx : u.cell? ⟨wr.heap.size, 3, none⟩ = some (.string tc) := by rw [cell_at hu]; rfl
              go_simp
            try simp only [Act.put, List.setIfInBounds_toArray, List.set_cons_zero, List.set_cons_succ]
            refine wpAnyH_take (i := 3) (oi := ⟨some 75, _, _, _, _, _⟩) (v := .pointer (some ⟨wr.heap.size, 4, none⟩)) rfl (by kernel_rfl) (by kernel_rfl) (by kernel_rfl) (fun _ _ _ h => h) (Or.inl ⟨by rfl, ?_⟩) hHeld ?_
            · intro u hu
              go_simp
            try simp only [Act.put, List.setIfInBounds_toArray, List.set_cons_zero, List.set_cons_succ]
            refine wpAnyH_take (i := 4) (oi := ⟨some 76, _, _, _, _, _⟩) (v := .string tt) rfl (by kernel_rfl) (by kernel_rfl) (by kernel_rfl) (fun _ _ _ h => h) (Or.inl ⟨by rfl, ?_⟩) hHeld ?_
            · intro u hu
              have hx : u.cell? ⟨wr.heap.size, 4, none⟩ = some (.string tt) := by rw [cell_at hu]; rfl
              go_simp
            try simp only [Act.put, List.setIfInBounds_toArray, List.set_cons_zero, List.set_cons_succ]
            refine wpAnyH_take (i := 6) (oi := ⟨some 78, _, _, _, _, _⟩) (v := .pointer (some ⟨wr.heap.size, 5, none⟩)) rfl (by kernel_rfl) (by kernel_rfl) (by kernel_rfl) (fun _ _ _ h => h) (Or.inl ⟨by rfl, ?_⟩) hHeld ?_
            · intro u hu
              go_simp
            try simp only [Act.put, List.setIfInBounds_toArray, List.set_cons_zero, List.set_cons_succ]
            refine wpAnyH_take (i := 7) (oi := ⟨some 79, _, _, _, _, _⟩) (v := .string tn) rfl (by kernel_rfl) (by kernel_rfl) (by kernel_rfl) (fun _ _ _ h => h) (Or.inl ⟨by rfl, ?_⟩) hHeld ?_
            · intro u hu
              have hx : u.cell? ⟨wr.heap.size, 5, none⟩ = some (.string tn) := by rw [cell_at hu]; rfl
              go_simp
            try simp only [Act.put, List.setIfInBounds_toArray, List.set_cons_zero, List.set_cons_succ]
            refine wpAnyH_ready (rs := [2]) (by kernel_rfl) (by simp) ?_
            refine AllReadyH.cons (o := ⟨some 74, _, _, _, _, _⟩) rfl (fun K hK => ?_) AllReadyH.nil
            go_simp
            go_at_call 36
            refine (CCL0.out _).mono ?_
            rintro e we0 ⟨rfl, hbq⟩
            have bwe0 : Below w7.heap.size w7 we0 := bt bd1 hbq
            clear hbq
            refine hK.out _ _ (by rw [bwe0.block _ (heap_lt HCT.out)]; exact HCT.out) (fun hHeld => ?_)
            clear hK K
            try simp only [Act.put, List.setIfInBounds_toArray, List.set_cons_zero, List.set_cons_succ]
            refine wpAnyH_take (i := 9) (oi := ⟨some 81, _, _, _, _, _⟩) (v := .pointer (some ⟨wr.heap.size, 3, none⟩)) rfl (by kernel_rfl) (by kernel_rfl) (by kernel_rfl) (fun _ _ _ h => h) (Or.inl ⟨by rfl, ?_⟩) hHeld ?_
            · intro u hu
              go_simp
            try simp only [Act.put, List.setIfInBounds_toArray, List.set_cons_zero, List.set_cons_succ]
            refine wpAnyH_ready (rs := [5]) (by kernel_rfl) (by simp) ?_
            refine AllReadyH.cons (o := ⟨some 77, _, _, _, _, _⟩) rfl (fun K hK => ?_) AllReadyH.nil
            go_simp
            go_at_call 36
            refine (CCL1.out _).mono ?_
            rintro e we1 ⟨rfl, hbq⟩
            have bwe1 : Below w7.heap.size w7 we1 := bt bwe0 hbq
            clear hbq
            refine hK.out _ _ (by rw [bwe1.block _ (heap_lt HCT.out)]; exact HCT.out) (fun hHeld => ?_)
            clear hK K
            try simp only [Act.put, List.setIfInBounds_toArray, List.set_cons_zero, List.set_cons_succ]
            refine wpAnyH_ready (rs := [8]) (by kernel_rfl) (by simp) ?_
            refine AllReadyH.cons (o := ⟨some 80, _, _, _, _, _⟩) rfl (fun K hK => ?_) AllReadyH.nil
            go_simp
            go_at_call 36
            refine (CCL2.out _).mono ?_
            rintro e we2 ⟨rfl, hbq⟩
            have bwe2 : Below w7.heap.size w7 we2 := bt bwe1 hbq
            clear hbq
            refine hK.out _ _ (by rw [bwe2.block _ (heap_lt HCT.out)]; exact HCT.out) (fun hHeld => ?_)
            clear hK K
            try simp only [Act.put, List.setIfInBounds_toArray, List.set_cons_zero, List.set_cons_succ]
            refine wpAnyH_ready (rs := [10]) (by kernel_rfl) (by simp) ?_
            refine AllReadyH.cons (o := ⟨none, _, _, _, _, _⟩) rfl (fun K hK => ?_) AllReadyH.nil
            have hx : we2.cell? ⟨wr.heap.size, 3, none⟩ = some (.string tc) := by rw [cell_at hHeld]; rfl
            have hz : we2.frozen? ⟨wr.heap.size, 3, none⟩ = false := free_at (v := .string tc) hHeld rfl
            go_simp
            rw [setCell_self hHeld (by rfl : (#[.int .i64 c.day, .int .i64 c.kind, .int .i64 (ln : Int), .string tc, .string tt, .string tn, .int .i64 c.low, .int .i64 c.high, .int .i64 c.shift] : Array Value)[3]? = some (.string tc))]
            refine hK.out _ _ hHeld (fun hHeld => ?_)
            clear hK K hx hz
            try simp only [Act.put, List.setIfInBounds_toArray, List.set_cons_zero, List.set_cons_succ]
            refine wpAnyH_take (i := 11) (oi := ⟨some 82, _, _, _, _, _⟩) (v := .pointer (some ⟨wr.heap.size, 4, none⟩)) rfl (by kernel_rfl) (by kernel_rfl) (by kernel_rfl) (fun _ _ _ h => h) (Or.inl ⟨by rfl, ?_⟩) hHeld ?_
            · intro u hu
              go_simp
            try simp only [Act.put, List.setIfInBounds_toArray, List.set_cons_zero, List.set_cons_succ]
            refine wpAnyH_ready (rs := [12]) (by kernel_rfl) (by simp) ?_
            refine AllReadyH.cons (o := ⟨none, _, _, _, _, _⟩) rfl (fun K hK => ?_) AllReadyH.nil
            have hx : we2.cell? ⟨wr.heap.size, 4, none⟩ = some (.string tt) := by rw [cell_at hHeld]; rfl
            have hz : we2.frozen? ⟨wr.heap.size, 4, none⟩ = false := free_at (v := .string tt) hHeld rfl
            go_simp
            rw [setCell_self hHeld (by rfl : (#[.int .i64 c.day, .int .i64 c.kind, .int .i64 (ln : Int), .string tc, .string tt, .string tn, .int .i64 c.low, .int .i64 c.high, .int .i64 c.shift] : Array Value)[4]? = some (.string tt))]
            refine hK.out _ _ hHeld (fun hHeld => ?_)
            clear hK K hx hz
            try simp only [Act.put, List.setIfInBounds_toArray, List.set_cons_zero, List.set_cons_succ]
            refine wpAnyH_take (i := 13) (oi := ⟨some 83, _, _, _, _, _⟩) (v := .pointer (some ⟨wr.heap.size, 5, none⟩)) rfl (by kernel_rfl) (by kernel_rfl) (by kernel_rfl) (fun _ _ _ h => h) (Or.inl ⟨by rfl, ?_⟩) hHeld ?_
            · intro u hu
              go_simp
            try simp only [Act.put, List.setIfInBounds_toArray, List.set_cons_zero, List.set_cons_succ]
            refine wpAnyH_ready (rs := [14]) (by kernel_rfl) (by simp) ?_
            refine AllReadyH.cons (o := ⟨none, _, _, _, _, _⟩) rfl (fun K hK => ?_) AllReadyH.nil
            have hx : we2.cell? ⟨wr.heap.size, 5, none⟩ = some (.string tn) := by rw [cell_at hHeld]; rfl
            have hz : we2.frozen? ⟨wr.heap.size, 5, none⟩ = false := free_at (v := .string tn) hHeld rfl
            go_simp
            rw [setCell_self hHeld (by rfl : (#[.int .i64 c.day, .int .i64 c.kind, .int .i64 (ln : Int), .string tc, .string tt, .string tn, .int .i64 c.low, .int .i64 c.high, .int .i64 c.shift] : Array Value)[5]? = some (.string tn))]
            refine hK.out _ _ hHeld (fun hHeld => ?_)
            clear hK K hx hz
            try simp only [Act.put, List.setIfInBounds_toArray, List.set_cons_zero, List.set_cons_succ]
            refine wpAnyH_done (by kernel_rfl) ?_ _
            clear hHeld
            refine NoPanic.normal ?_
            have HE := hid bwe2
            clear bd1 bwe0 bwe1 bwe2
            go_wp2_with fail
            refine wp_region_noPanic ?_
            have SG : Hid (∀ u, Below w7.heap.size w7 u → u.heap[wr.heap.size]? = some (.cells #[.int .i64 c.day, .int .i64 c.kind, .int .i64 (ln : Int), .string tc, .string tt, .string tn, .int .i64 c.low, .int .i64 c.high, .int .i64 c.shift] 29 (0, 0)) ∧ u.cell? ⟨B, 0, none⟩ = some (.slice (some ⟨g, 0, none⟩) ln1 cap2) ∧ u.cell? ⟨wd.heap.size, 1, none⟩ = some (.func (.func fk) #[] #[])) := fun u hu => by
              refine ⟨(hu.block _ (heap_lt HCT.out)).trans HCT.out, ?_, ?_⟩
              · rw [HBB.out, cell_at ((hu.block _ (heap_lt HGT.out.b2)).trans HGT.out.b2)]; rfl
              · rw [cell_at ((hu.block _ (heap_lt HKT.out)).trans HKT.out)]; rfl
            refine wp_region_held_drew (S := fun w' => w'.heap[wr.heap.size]? = some (.cells #[.int .i64 c.day, .int .i64 c.kind, .int .i64 (ln : Int), .string tc, .string tt, .string tn, .int .i64 c.low, .int .i64 c.high, .int .i64 c.shift] 29 (0, 0)) ∧ w'.cell? ⟨B, 0, none⟩ = some (.slice (some ⟨g, 0, none⟩) ln1 cap2) ∧ w'.cell? ⟨wd.heap.size, 1, none⟩ = some (.func (.func fk) #[] #[])) (by kernel_rfl) (SG.out _ (bt HE.out (Below.refl _ _).drew)) (fun hHeld => ?_)
            obtain ⟨wd2, hwd2⟩ : ∃ u, u = we2.drew := ⟨_, rfl⟩
            have HD2 : Hid (Below w7.heap.size w7 wd2) := by show Below _ _ _; rw [hwd2]; exact bt HE.out (Below.refl _ _).drew
            rw [← hwd2] at hHeld ⊢
            clear hwd2
            refine wpAnyH_take (i := 0) (oi := ⟨some 84, _, _, _, _, _⟩) (v := .pointer (some ⟨wd.heap.size, 1, none⟩)) rfl (by kernel_rfl) (by kernel_rfl) (by kernel_rfl) (fun _ _ _ h => h) (Or.inl ⟨by rfl, ?_⟩) hHeld ?_
            · intro u hu
              obtain ⟨_, _, _⟩ := hu
              go_simp
            try simp only [Act.put, List.setIfInBounds_toArray, List.set_cons_zero, List.set_cons_succ]
            refine wpAnyH_take (i := 1) (oi := ⟨some 85, _, _, _, _, _⟩) (v := .func (.func fk) #[] #[]) rfl (by kernel_rfl) (by kernel_rfl) (by kernel_rfl) (fun _ _ _ h => h) (Or.inl ⟨by rfl, ?_⟩) hHeld ?_
            · intro u hu
              obtain ⟨_, hu1, hu2⟩ := hu
              go_simp
            try simp only [Act.put, List.setIfInBounds_toArray, List.set_cons_zero, List.set_cons_succ]
            refine wpAnyH_take (i := 2) (oi := ⟨some 86, _, _, _, _, _⟩) (v := .slice (some ⟨g, 0, none⟩) ln1 cap2) rfl (by kernel_rfl) (by kernel_rfl) (by kernel_rfl) (fun _ _ _ h => h) (Or.inl ⟨by rfl, ?_⟩) hHeld ?_
            · intro u hu
              obtain ⟨_, hu1, hu2⟩ := hu
              go_simp
            try simp only [Act.put, List.setIfInBounds_toArray, List.set_cons_zero, List.set_cons_succ]
            refine wpAnyH_take (i := 3) (oi := ⟨some 87, _, _, _, _, _⟩) (v := .pointer (some ⟨wr.heap.size, 2, none⟩)) rfl (by kernel_rfl) (by kernel_rfl) (by kernel_rfl) (fun _ _ _ h => h) (Or.inl ⟨by rfl, ?_⟩) hHeld ?_
            · intro u hu
              go_simp
            try simp only [Act.put, List.setIfInBounds_toArray, List.set_cons_zero, List.set_cons_succ]
            refine wpAnyH_take (i := 4) (oi := ⟨some 88, _, _, _, _, _⟩) (v := .int .i64 (ln : Int)) rfl (by kernel_rfl) (by kernel_rfl) (by kernel_rfl) (fun _ _ _ h => h) (Or.inl ⟨by rfl, ?_⟩) hHeld ?_
            · intro u hu
              obtain ⟨hu0, _, _⟩ := hu
              obtain ⟨d0, d1, d2, d3, d4, d5, d6, d7, d8⟩ := ch_cells hu0
              go_simp
            try simp only [Act.put, List.setIfInBounds_toArray, List.set_cons_zero, List.set_cons_succ]
            refine wpAnyH_take (i := 5) (oi := ⟨some 89, _, _, _, _, _⟩) (v := .pointer (some ⟨g, ln * 8, none⟩)) rfl (by kernel_rfl) (by kernel_rfl) (by kernel_rfl) (fun _ _ _ h => h) (Or.inl ⟨by rfl, ?_⟩) hHeld ?_
            · intro u hu
              go_simp
            try simp only [Act.put, List.setIfInBounds_toArray, List.set_cons_zero, List.set_cons_succ]
            refine wpAnyH_take (i := 6) (oi := ⟨some 90, _, _, _, _, _⟩) (v := .agg #[.int .i64 c.day, .int .i64 c.kind, .int .i64 (ln : Int), .string tc, .string tt, .string tn, .int .i64 c.low, .int .i64 c.high, .int .i64 c.shift]) rfl (by kernel_rfl) (by kernel_rfl) (by kernel_rfl) (fun _ _ _ h => h) (Or.inl ⟨by rfl, ?_⟩) hHeld ?_
            · intro u hu
              obtain ⟨hu0, _, _⟩ := hu
              obtain ⟨d0, d1, d2, d3, d4, d5, d6, d7, d8⟩ := ch_cells hu0
              go_simp
            try simp only [Act.put, List.setIfInBounds_toArray, List.set_cons_zero, List.set_cons_succ]
            refine wpAnyH_ready (rs := [7]) (by kernel_rfl) (by simp) ?_
            refine AllReadyH.cons (o := ⟨some 91, _, _, _, _, _⟩) rfl (fun K hK => ?_) AllReadyH.nil
            go_simp
            refine (CCH.out _ HD2.out).mono ?_
            rintro e w9 ⟨vs9, rfl, hst9, hfr9⟩
            have HG9 := hid ((HGT.out.on HD2.out).frm hfr9 hst9)
            have HF9 := hid hfr9
            clear hst9 hfr9
            have h9 : w9.heap[wr.heap.size]? = some (.cells #[.int .i64 c.day, .int .i64 c.kind, .int .i64 (ln : Int), .string tc, .string tt, .string tn, .int .i64 c.low, .int .i64 c.high, .int .i64 c.shift] 29 (0, 0)) := HF9.out.keep (SG.out _ HD2.out).1 (by decide)
            have h9b : w9.cell? ⟨B, 0, none⟩ = some (.slice (some ⟨g, 0, none⟩) ln1 cap2) := by rw [HBB.out, cell_at HG9.out.b2]; rfl
            have h9c : w9.cell? ⟨wd.heap.size, 1, none⟩ = some (.func (.func fk) #[] #[]) := by rw [cell_at (HF9.out.keep ((HD2.out.block _ (heap_lt HKT.out)).trans HKT.out) (by decide))]; rfl
            refine hK.out _ _ ⟨h9, h9b, h9c⟩ (fun hHeld => ?_)
            clear hK K
            try simp only [Act.put, List.setIfInBounds_toArray, List.set_cons_zero, List.set_cons_succ]
            refine wpAnyH_done (by kernel_rfl) ?_ _
            clear hHeld
            refine NoPanic.normal ?_
            have e2 : w9.cell? ⟨wr.heap.size, 2, none⟩ = some (.int .i64 (ln : Int)) := by rw [cell_at h9]; rfl
            clear h9 h9c
            have CC := hid (pclashes_any _ _ (.slice (some ⟨g, 0, none⟩) ln1 cap2) ln w9 (by have q := HG9.out.st.isSts; exact q) HLEN.out HNL.out HOKS.out (HTW.out w9 HG9.out.below))
            go_wp2_with fail
            refine CC.out.mono ?_
            rintro e w10 ⟨rfl, hb10⟩
            have HGZ := hid (HG9.out.on hb10)
            clear hb10 h9b e2
            rw [HCLA.out]
            go_wp2_with fail
            refine (CRQ.out 51 _).mono ?_
            rintro e y1 ⟨rfl, rfl⟩
            go_wp2
            go_roundw
            case rel => exact ⟨k + 1, HKST.out, by go_num, ⟨_, _, HGZ.out.f HNXT.out⟩⟩
            case measure => simp [intOf]; omega
          · obtain ⟨hE, hat, hno⟩ : E = 51 ∧ at' = (k : Int) ∧ clashAt (stp l c) (trg l c) = true := by
              rcases HS.out.out with ⟨e, _⟩ | ⟨_, _, e, d, hd, h⟩
              · have := HM.out; omega
              · subst hks
                rw [HC.out] at hd; cases hd
                rcases h with ⟨_, h1, _⟩ | ⟨h1, _, h2⟩
                · exact absurd HKN.out h1
                · exact ⟨h1, e, by rw [HL.out]; exact h2⟩
            have HEA := hid (And.intro hE hat)
            have HCLA : Hid (clashAt ((l ++ [zeroS]).set ln (newS c)) ln = true) := by rw [← hset, htrg] at hno; exact hno
            clear hks hset htrg hE hat hno
            have HGT := hid (HG7.out)
            obtain ⟨c0, c1, c2, c3, c4, c5, c6, c7, c8⟩ := ch_cells HCT.out
            have cv : w7.cell? ⟨B, 0, none⟩ = some (.slice (some ⟨g, 0, none⟩) ln1 cap2) := by rw [HBB.out, cell_at HGT.out.b2]; rfl
            have CO := hid (popen_any (l ++ [zeroS]) _ (.slice (some ⟨g, 0, none⟩) ln1 cap2) (ln : Int) w7 HGT.out.st.isSts HLE.out)
            rw [HHAS.out] at CO
            refine CO.out.mono ?_
            rintro e y1 ⟨rfl, rfl⟩
            go_wp2_with fail
            refine (CRQ.out 3 _).mono ?_
            rintro e y1 ⟨rfl, rfl⟩
            clear c0 c1 c2 c3 c4 c5 c6 c7 c8 cv
            go_wp2_with fail
            refine wp_region_noPanic ?_
            refine wp_region_held_drew (S := fun w' => w'.heap[wr.heap.size]? = some (.cells #[.int .i64 c.day, .int .i64 c.kind, .int .i64 (ln : Int), .string tc, .string tt, .string tn, .int .i64 c.low, .int .i64 c.high, .int .i64 c.shift] 29 (0, 0))) (by kernel_rfl) (by have := HCT.out; exact this : w7.drew.heap[wr.heap.size]? = some (.cells #[.int .i64 c.day, .int .i64 c.kind, .int .i64 (ln : Int), .string tc, .string tt, .string tn, .int .i64 c.low, .int .i64 c.high, .int .i64 c.shift] 29 (0, 0))) (fun hHeld => ?_)
            obtain ⟨wd1, hwd1⟩ : ∃ u, u = w7.drew := ⟨_, rfl⟩
            have bd1 : Below w7.heap.size w7 wd1 := by rw [hwd1]; exact (Below.refl _ _).drew
            rw [← hwd1] at hHeld ⊢
            clear hwd1
            refine wpAnyH_take (i := 0) (oi := ⟨some 72, _, _, _, _, _⟩) (v := .pointer (some ⟨wr.heap.size, 3, none⟩)) rfl (by kernel_rfl) (by kernel_rfl) (by kernel_rfl) (fun _ _ _ h => h) (Or.inl ⟨by rfl, ?_⟩) hHeld ?_
            · intro u hu
              go_simp
            try simp only [Act.put, List.setIfInBounds_toArray, List.set_cons_zero, List.set_cons_succ]
            refine wpAnyH_take (i := 1) (oi := ⟨some 73, _, _, _, _, _⟩) (v := .string tc) rfl (by kernel_rfl) (by kernel_rfl) (by kernel_rfl) (fun _ _ _ h => h) (Or.inl ⟨by rfl, ?_⟩) hHeld ?_
            · intro u hu
              have hx : u.cell? ⟨wr.heap.size, 3, none⟩ = some (.string tc) := by rw [cell_at hu]; rfl
              go_simp
            try simp only [Act.put, List.setIfInBounds_toArray, List.set_cons_zero, List.set_cons_succ]
            refine wpAnyH_take (i := 3) (oi := ⟨some 75, _, _, _, _, _⟩) (v := .pointer (some ⟨wr.heap.size, 4, none⟩)) rfl (by kernel_rfl) (by kernel_rfl) (by kernel_rfl) (fun _ _ _ h => h) (Or.inl ⟨by rfl, ?_⟩) hHeld ?_
            · intro u hu
              go_simp
            try simp only [Act.put, List.setIfInBounds_toArray, List.set_cons_zero, List.set_cons_succ]
            refine wpAnyH_take (i := 4) (oi := ⟨some 76, _, _, _, _, _⟩) (v := .string tt) rfl (by kernel_rfl) (by kernel_rfl) (by kernel_rfl) (fun _ _ _ h => h) (Or.inl ⟨by rfl, ?_⟩) hHeld ?_
            · intro u hu
              have hx : u.cell? ⟨wr.heap.size, 4, none⟩ = some (.string tt) := by rw [cell_at hu]; rfl
              go_simp
            try simp only [Act.put, List.setIfInBounds_toArray, List.set_cons_zero, List.set_cons_succ]
            refine wpAnyH_take (i := 6) (oi := ⟨some 78, _, _, _, _, _⟩) (v := .pointer (some ⟨wr.heap.size, 5, none⟩)) rfl (by kernel_rfl) (by kernel_rfl) (by kernel_rfl) (fun _ _ _ h => h) (Or.inl ⟨by rfl, ?_⟩) hHeld ?_
            · intro u hu
              go_simp
            try simp only [Act.put, List.setIfInBounds_toArray, List.set_cons_zero, List.set_cons_succ]
            refine wpAnyH_take (i := 7) (oi := ⟨some 79, _, _, _, _, _⟩) (v := .string tn) rfl (by kernel_rfl) (by kernel_rfl) (by kernel_rfl) (fun _ _ _ h => h) (Or.inl ⟨by rfl, ?_⟩) hHeld ?_
            · intro u hu
              have hx : u.cell? ⟨wr.heap.size, 5, none⟩ = some (.string tn) := by rw [cell_at hu]; rfl
              go_simp
            try simp only [Act.put, List.setIfInBounds_toArray, List.set_cons_zero, List.set_cons_succ]
            refine wpAnyH_ready (rs := [2]) (by kernel_rfl) (by simp) ?_
            refine AllReadyH.cons (o := ⟨some 74, _, _, _, _, _⟩) rfl (fun K hK => ?_) AllReadyH.nil
            go_simp
            go_at_call 36
            refine (CCL0.out _).mono ?_
            rintro e we0 ⟨rfl, hbq⟩
            have bwe0 : Below w7.heap.size w7 we0 := bt bd1 hbq
            clear hbq
            refine hK.out _ _ (by rw [bwe0.block _ (heap_lt HCT.out)]; exact HCT.out) (fun hHeld => ?_)
            clear hK K
            try simp only [Act.put, List.setIfInBounds_toArray, List.set_cons_zero, List.set_cons_succ]
            refine wpAnyH_take (i := 9) (oi := ⟨some 81, _, _, _, _, _⟩) (v := .pointer (some ⟨wr.heap.size, 3, none⟩)) rfl (by kernel_rfl) (by kernel_rfl) (by kernel_rfl) (fun _ _ _ h => h) (Or.inl ⟨by rfl, ?_⟩) hHeld ?_
            · intro u hu
              go_simp
            try simp only [Act.put, List.setIfInBounds_toArray, List.set_cons_zero, List.set_cons_succ]
            refine wpAnyH_ready (rs := [5]) (by kernel_rfl) (by simp) ?_
            refine AllReadyH.cons (o := ⟨some 77, _, _, _, _, _⟩) rfl (fun K hK => ?_) AllReadyH.nil
            go_simp
            go_at_call 36
            refine (CCL1.out _).mono ?_
            rintro e we1 ⟨rfl, hbq⟩
            have bwe1 : Below w7.heap.size w7 we1 := bt bwe0 hbq
            clear hbq
            refine hK.out _ _ (by rw [bwe1.block _ (heap_lt HCT.out)]; exact HCT.out) (fun hHeld => ?_)
            clear hK K
            try simp only [Act.put, List.setIfInBounds_toArray, List.set_cons_zero, List.set_cons_succ]
            refine wpAnyH_ready (rs := [8]) (by kernel_rfl) (by simp) ?_
            refine AllReadyH.cons (o := ⟨some 80, _, _, _, _, _⟩) rfl (fun K hK => ?_) AllReadyH.nil
            go_simp
            go_at_call 36
            refine (CCL2.out _).mono ?_
            rintro e we2 ⟨rfl, hbq⟩
            have bwe2 : Below w7.heap.size w7 we2 := bt bwe1 hbq
            clear hbq
            refine hK.out _ _ (by rw [bwe2.block _ (heap_lt HCT.out)]; exact HCT.out) (fun hHeld => ?_)
            clear hK K
            try simp only [Act.put, List.setIfInBounds_toArray, List.set_cons_zero, List.set_cons_succ]
            refine wpAnyH_ready (rs := [10]) (by kernel_rfl) (by simp) ?_
            refine AllReadyH.cons (o := ⟨none, _, _, _, _, _⟩) rfl (fun K hK => ?_) AllReadyH.nil
            have hx : we2.cell? ⟨wr.heap.size, 3, none⟩ = some (.string tc) := by rw [cell_at hHeld]; rfl
            have hz : we2.frozen? ⟨wr.heap.size, 3, none⟩ = false := free_at (v := .string tc) hHeld rfl
            go_simp
            rw [setCell_self hHeld (by rfl : (#[.int .i64 c.day, .int .i64 c.kind, .int .i64 (ln : Int), .string tc, .string tt, .string tn, .int .i64 c.low, .int .i64 c.high, .int .i64 c.shift] : Array Value)[3]? = some (.string tc))]
            refine hK.out _ _ hHeld (fun hHeld => ?_)
            clear hK K hx hz
            try simp only [Act.put, List.setIfInBounds_toArray, List.set_cons_zero, List.set_cons_succ]
            refine wpAnyH_take (i := 11) (oi := ⟨some 82, _, _, _, _, _⟩) (v := .pointer (some ⟨wr.heap.size, 4, none⟩)) rfl (by kernel_rfl) (by kernel_rfl) (by kernel_rfl) (fun _ _ _ h => h) (Or.inl ⟨by rfl, ?_⟩) hHeld ?_
            · intro u hu
              go_simp
            try simp only [Act.put, List.setIfInBounds_toArray, List.set_cons_zero, List.set_cons_succ]
            refine wpAnyH_ready (rs := [12]) (by kernel_rfl) (by simp) ?_
            refine AllReadyH.cons (o := ⟨none, _, _, _, _, _⟩) rfl (fun K hK => ?_) AllReadyH.nil
            have hx : we2.cell? ⟨wr.heap.size, 4, none⟩ = some (.string tt) := by rw [cell_at hHeld]; rfl
            have hz : we2.frozen? ⟨wr.heap.size, 4, none⟩ = false := free_at (v := .string tt) hHeld rfl
            go_simp
            rw [setCell_self hHeld (by rfl : (#[.int .i64 c.day, .int .i64 c.kind, .int .i64 (ln : Int), .string tc, .string tt, .string tn, .int .i64 c.low, .int .i64 c.high, .int .i64 c.shift] : Array Value)[4]? = some (.string tt))]
            refine hK.out _ _ hHeld (fun hHeld => ?_)
            clear hK K hx hz
            try simp only [Act.put, List.setIfInBounds_toArray, List.set_cons_zero, List.set_cons_succ]
            refine wpAnyH_take (i := 13) (oi := ⟨some 83, _, _, _, _, _⟩) (v := .pointer (some ⟨wr.heap.size, 5, none⟩)) rfl (by kernel_rfl) (by kernel_rfl) (by kernel_rfl) (fun _ _ _ h => h) (Or.inl ⟨by rfl, ?_⟩) hHeld ?_
            · intro u hu
              go_simp
            try simp only [Act.put, List.setIfInBounds_toArray, List.set_cons_zero, List.set_cons_succ]
            refine wpAnyH_ready (rs := [14]) (by kernel_rfl) (by simp) ?_
            refine AllReadyH.cons (o := ⟨none, _, _, _, _, _⟩) rfl (fun K hK => ?_) AllReadyH.nil
            have hx : we2.cell? ⟨wr.heap.size, 5, none⟩ = some (.string tn) := by rw [cell_at hHeld]; rfl
            have hz : we2.frozen? ⟨wr.heap.size, 5, none⟩ = false := free_at (v := .string tn) hHeld rfl
            go_simp
            rw [setCell_self hHeld (by rfl : (#[.int .i64 c.day, .int .i64 c.kind, .int .i64 (ln : Int), .string tc, .string tt, .string tn, .int .i64 c.low, .int .i64 c.high, .int .i64 c.shift] : Array Value)[5]? = some (.string tn))]
            refine hK.out _ _ hHeld (fun hHeld => ?_)
            clear hK K hx hz
            try simp only [Act.put, List.setIfInBounds_toArray, List.set_cons_zero, List.set_cons_succ]
            refine wpAnyH_done (by kernel_rfl) ?_ _
            clear hHeld
            refine NoPanic.normal ?_
            have HE := hid bwe2
            clear bd1 bwe0 bwe1 bwe2
            go_wp2_with fail
            refine wp_region_noPanic ?_
            have SG : Hid (∀ u, Below w7.heap.size w7 u → u.heap[wr.heap.size]? = some (.cells #[.int .i64 c.day, .int .i64 c.kind, .int .i64 (ln : Int), .string tc, .string tt, .string tn, .int .i64 c.low, .int .i64 c.high, .int .i64 c.shift] 29 (0, 0)) ∧ u.cell? ⟨B, 0, none⟩ = some (.slice (some ⟨g, 0, none⟩) ln1 cap2) ∧ u.cell? ⟨wd.heap.size, 1, none⟩ = some (.func (.func fk) #[] #[])) := fun u hu => by
              refine ⟨(hu.block _ (heap_lt HCT.out)).trans HCT.out, ?_, ?_⟩
              · rw [HBB.out, cell_at ((hu.block _ (heap_lt HGT.out.b2)).trans HGT.out.b2)]; rfl
              · rw [cell_at ((hu.block _ (heap_lt HKT.out)).trans HKT.out)]; rfl
            refine wp_region_held_drew (S := fun w' => w'.heap[wr.heap.size]? = some (.cells #[.int .i64 c.day, .int .i64 c.kind, .int .i64 (ln : Int), .string tc, .string tt, .string tn, .int .i64 c.low, .int .i64 c.high, .int .i64 c.shift] 29 (0, 0)) ∧ w'.cell? ⟨B, 0, none⟩ = some (.slice (some ⟨g, 0, none⟩) ln1 cap2) ∧ w'.cell? ⟨wd.heap.size, 1, none⟩ = some (.func (.func fk) #[] #[])) (by kernel_rfl) (SG.out _ (bt HE.out (Below.refl _ _).drew)) (fun hHeld => ?_)
            obtain ⟨wd2, hwd2⟩ : ∃ u, u = we2.drew := ⟨_, rfl⟩
            have HD2 : Hid (Below w7.heap.size w7 wd2) := by show Below _ _ _; rw [hwd2]; exact bt HE.out (Below.refl _ _).drew
            rw [← hwd2] at hHeld ⊢
            clear hwd2
            refine wpAnyH_take (i := 0) (oi := ⟨some 84, _, _, _, _, _⟩) (v := .pointer (some ⟨wd.heap.size, 1, none⟩)) rfl (by kernel_rfl) (by kernel_rfl) (by kernel_rfl) (fun _ _ _ h => h) (Or.inl ⟨by rfl, ?_⟩) hHeld ?_
            · intro u hu
              obtain ⟨_, _, _⟩ := hu
              go_simp
            try simp only [Act.put, List.setIfInBounds_toArray, List.set_cons_zero, List.set_cons_succ]
            refine wpAnyH_take (i := 1) (oi := ⟨some 85, _, _, _, _, _⟩) (v := .func (.func fk) #[] #[]) rfl (by kernel_rfl) (by kernel_rfl) (by kernel_rfl) (fun _ _ _ h => h) (Or.inl ⟨by rfl, ?_⟩) hHeld ?_
            · intro u hu
              obtain ⟨_, hu1, hu2⟩ := hu
              go_simp
            try simp only [Act.put, List.setIfInBounds_toArray, List.set_cons_zero, List.set_cons_succ]
            refine wpAnyH_take (i := 2) (oi := ⟨some 86, _, _, _, _, _⟩) (v := .slice (some ⟨g, 0, none⟩) ln1 cap2) rfl (by kernel_rfl) (by kernel_rfl) (by kernel_rfl) (fun _ _ _ h => h) (Or.inl ⟨by rfl, ?_⟩) hHeld ?_
            · intro u hu
              obtain ⟨_, hu1, hu2⟩ := hu
              go_simp
            try simp only [Act.put, List.setIfInBounds_toArray, List.set_cons_zero, List.set_cons_succ]
            refine wpAnyH_take (i := 3) (oi := ⟨some 87, _, _, _, _, _⟩) (v := .pointer (some ⟨wr.heap.size, 2, none⟩)) rfl (by kernel_rfl) (by kernel_rfl) (by kernel_rfl) (fun _ _ _ h => h) (Or.inl ⟨by rfl, ?_⟩) hHeld ?_
            · intro u hu
              go_simp
            try simp only [Act.put, List.setIfInBounds_toArray, List.set_cons_zero, List.set_cons_succ]
            refine wpAnyH_take (i := 4) (oi := ⟨some 88, _, _, _, _, _⟩) (v := .int .i64 (ln : Int)) rfl (by kernel_rfl) (by kernel_rfl) (by kernel_rfl) (fun _ _ _ h => h) (Or.inl ⟨by rfl, ?_⟩) hHeld ?_
            · intro u hu
              obtain ⟨hu0, _, _⟩ := hu
              obtain ⟨d0, d1, d2, d3, d4, d5, d6, d7, d8⟩ := ch_cells hu0
              go_simp
            try simp only [Act.put, List.setIfInBounds_toArray, List.set_cons_zero, List.set_cons_succ]
            refine wpAnyH_take (i := 5) (oi := ⟨some 89, _, _, _, _, _⟩) (v := .pointer (some ⟨g, ln * 8, none⟩)) rfl (by kernel_rfl) (by kernel_rfl) (by kernel_rfl) (fun _ _ _ h => h) (Or.inl ⟨by rfl, ?_⟩) hHeld ?_
            · intro u hu
              go_simp
            try simp only [Act.put, List.setIfInBounds_toArray, List.set_cons_zero, List.set_cons_succ]
            refine wpAnyH_take (i := 6) (oi := ⟨some 90, _, _, _, _, _⟩) (v := .agg #[.int .i64 c.day, .int .i64 c.kind, .int .i64 (ln : Int), .string tc, .string tt, .string tn, .int .i64 c.low, .int .i64 c.high, .int .i64 c.shift]) rfl (by kernel_rfl) (by kernel_rfl) (by kernel_rfl) (fun _ _ _ h => h) (Or.inl ⟨by rfl, ?_⟩) hHeld ?_
            · intro u hu
              obtain ⟨hu0, _, _⟩ := hu
              obtain ⟨d0, d1, d2, d3, d4, d5, d6, d7, d8⟩ := ch_cells hu0
              go_simp
            try simp only [Act.put, List.setIfInBounds_toArray, List.set_cons_zero, List.set_cons_succ]
            refine wpAnyH_ready (rs := [7]) (by kernel_rfl) (by simp) ?_
            refine AllReadyH.cons (o := ⟨some 91, _, _, _, _, _⟩) rfl (fun K hK => ?_) AllReadyH.nil
            go_simp
            refine (CCH.out _ HD2.out).mono ?_
            rintro e w9 ⟨vs9, rfl, hst9, hfr9⟩
            have HG9 := hid ((HGT.out.on HD2.out).frm hfr9 hst9)
            have HF9 := hid hfr9
            clear hst9 hfr9
            have h9 : w9.heap[wr.heap.size]? = some (.cells #[.int .i64 c.day, .int .i64 c.kind, .int .i64 (ln : Int), .string tc, .string tt, .string tn, .int .i64 c.low, .int .i64 c.high, .int .i64 c.shift] 29 (0, 0)) := HF9.out.keep (SG.out _ HD2.out).1 (by decide)
            have h9b : w9.cell? ⟨B, 0, none⟩ = some (.slice (some ⟨g, 0, none⟩) ln1 cap2) := by rw [HBB.out, cell_at HG9.out.b2]; rfl
            have h9c : w9.cell? ⟨wd.heap.size, 1, none⟩ = some (.func (.func fk) #[] #[]) := by rw [cell_at (HF9.out.keep ((HD2.out.block _ (heap_lt HKT.out)).trans HKT.out) (by decide))]; rfl
            refine hK.out _ _ ⟨h9, h9b, h9c⟩ (fun hHeld => ?_)
            clear hK K
            try simp only [Act.put, List.setIfInBounds_toArray, List.set_cons_zero, List.set_cons_succ]
            refine wpAnyH_done (by kernel_rfl) ?_ _
            clear hHeld
            refine NoPanic.normal ?_
            have e2 : w9.cell? ⟨wr.heap.size, 2, none⟩ = some (.int .i64 (ln : Int)) := by rw [cell_at h9]; rfl
            clear h9 h9c
            have CC := hid (pclashes_any _ _ (.slice (some ⟨g, 0, none⟩) ln1 cap2) ln w9 (by have q := HG9.out.st.isSts; exact q) HLEN.out HNL.out HOKS.out (HTW.out w9 HG9.out.below))
            go_wp2_with fail
            refine CC.out.mono ?_
            rintro e w10 ⟨rfl, hb10⟩
            have HGZ := hid (HG9.out.on hb10)
            clear hb10 h9b e2
            rw [HCLA.out]
            go_wp2_with fail
            refine (CRN.out 51 _).mono ?_
            rintro e y1 ⟨rfl, rfl⟩
            go_wp2
            have p2 : w10.cell? ⟨B, 0, none⟩ = some (.slice (some ⟨g, 0, none⟩) ln1 cap2) := by rw [HBB.out, cell_at HGZ.out.b2]; rfl
            have z2 : w10.frozen? ⟨B, 0, none⟩ = false := by rw [HBB.out]; exact free_at (i := 0) HGZ.out.b2 rfl
            have p3 : w10.cell? ⟨B + 1, 0, none⟩ = some (.int .i64 0) := by rw [HBB.out, cell_at HGZ.out.b3]; rfl
            have z3 : w10.frozen? ⟨B + 1, 0, none⟩ = false := by rw [HBB.out]; exact free_at (i := 0) HGZ.out.b3 rfl
            obtain ⟨f2, f3, fb⟩ := HGZ.out.fin 51
            rw [← HBB.out] at f2 f3 fb
            refine leaves_cons (f := 31) (args := #[.pointer (some ⟨B, 0, none⟩), .pointer (some ⟨B + 1, 0, none⟩)]) (by simp) (by simp [go_sem]) ?_
            refine (catch_panic ⟨B, 0, none⟩ ⟨B + 1, 0, none⟩ 51 [] _ _ _ p2 z2 p3 z3 (by show B + 1 ≠ B; omega)).mono ?_
            rintro e u' w'' ⟨rfl, rfl, rfl⟩
            have FP : Hid (FPost r E at' w (.returned (.tuple #[.slice none 0 0, .int .i64 51, .int .i64 (k : Int)])) ((w10.setCell ⟨B, 0, none⟩ (.slice none 0 0)).setCell ⟨B + 1, 0, none⟩ (.int .i64 51))) := ⟨nilV, [], by rw [HEA.out.1, HEA.out.2]; rfl, (fun h => by rw [HEA.out.1] at h; cases h), by have q := fb; rw [HBB.out] at q ⊢; exact q⟩
            simp [Leaves, settle, results, Tryz.results23, go_sem, f2, f3]
            exact FP.out
        have hkn : ((c.kind : Int) == 1) = false := by simpa using hk1'
        have HKN := hid hk1'
        clear hk1'
        rcases (show k < st ∨ k = st by omega) with hks | hks
        · have HKST := hid (by omega : k + 1 ≤ st)
          have hok := HS.out.ok k c hks HC.out
          have HOK := hid hok
          rw [← HL.out] at HOK hok
          obtain ⟨hst0, s, hs, hso⟩ := hok.has HKN.out
          obtain ⟨n, hn⟩ : ∃ n : Nat, c.street = n := ⟨c.street.toNat, by omega⟩
          have hnn : c.street.toNat = n := by omega
          rw [hnn] at hs
          obtain ⟨g, cap1, rfl⟩ := HG5.out.st.form hs
          have hnl := (List.getElem?_eq_some_iff.1 hs).1
          have HSO := hid hso
          have HSS := hid hs
          have HNNN := hid hnn
          have HN := hid hn
          have hinv : Inv l := by
            have h := HS.out.sound.take k
            rw [List.take_take, Nat.min_eq_left (by omega)] at h
            rw [HL.out]; exact h.inv
          have hinv2 : Inv (stp l c) := hinv.step HOK.out
          have hstp : stp l c = l.set n (chg c s) := by rw [stp_set HKN.out (by rw [hnn]; exact hs), hnn]
          have htrg : trg l c = n := by rw [trg_set HKN.out, hnn]
          have HHAS : Hid (hasB l (n : Int) = true) := by show _ = _; rw [← hn]; exact (hasB_iff _ _).2 ⟨hst0, s, by rw [hnn]; exact hs, hso⟩
          have HLE := hid (by have := HLK.out; omega : l.length ≤ 1000)
          have HLEN : Hid ((l.set n (chg c s)).length ≤ 1000) := by show _ ≤ _; rw [List.length_set]; exact HLE.out
          have HNL : Hid (n < (l.set n (chg c s)).length) := by show _ < _; rw [List.length_set]; exact hnl
          have HOKS : Hid (OkS (l.set n (chg c s))) := by show OkS _; rw [← hstp, ← HNEXT.out]; exact ok_streets (by rw [HNEXT.out]; exact hinv2) (by rw [List.length_take]; omega)
          have HCLA : Hid (clashAt (l.set n (chg c s)) n = false) := by have h := HOK.out.clash; rw [hstp, htrg] at h; exact h
          have HNXT : Hid (l.set n (chg c s) = runL (r.take (k + 1))) := by show _ = _; rw [HNEXT.out, hstp]
          have hgs := hinv.good s (List.mem_of_getElem? hs)
          have hsm := ok_streets (r := r.take k) (by rw [← HL.out]; exact hinv) (by rw [List.length_take]; omega)
          rw [← HL.out] at hsm
          have hsm1 := hsm.sm s (List.mem_of_getElem? hs)
          have CCH := hid (fun u (hu : Below w5.heap.size w5 u) => kind_call (c := c) (HG5.out.st.on hu) hs HOK.out HKN.out hnn hgs hsm1 (hsm.asc s (List.mem_of_getElem? hs)) (HTW.out u (bt HG5.out.below hu)) (Nat.le_trans HG5.out.below.size hu.size))
          unfold chA at CCH
          rw [← HTC.out, ← HTT.out, ← HTN.out, hn, ← HFK.out] at CCH
          have heg := funK_enter c.kind hkind.1 hkind.2
          rw [← HFK.out] at heg
          obtain ⟨ln, hln⟩ : ∃ x, x = l.length := ⟨_, rfl⟩
          rw [hn] at c2 HC5
          have HCT := hid HC5.out
          have HKT := hid HK5.out
          have hnl2 : n < ln := by omega
          have hnl3 : (n : Int) < (ln : Int) := by omega
          have hn0 : 0 ≤ (n : Int) := by omega
          rw [← hln] at HG5 CCH cv SK
          have HLN := hid hln
          clear hln hst0 hs hso hnn hn hnl hinv hinv2 hstp htrg hgs hsm hsm1 hok hks
          have HGT := hid (HG5.out)
          obtain ⟨c0, c1, c2, c3, c4, c5, c6, c7, c8⟩ := ch_cells HCT.out
          have cv : w5.cell? ⟨B, 0, none⟩ = some (.slice (some ⟨g, 0, none⟩) ln cap1) := by rw [HBB.out, cell_at HGT.out.b2]; rfl
          have CO := hid (popen_any l _ (.slice (some ⟨g, 0, none⟩) ln cap1) (n : Int) w5 HGT.out.st.isSts HLE.out)
          rw [HHAS.out] at CO
          go_wp2_with fail
          refine CO.out.mono ?_
          rintro e y1 ⟨rfl, rfl⟩
          go_wp2_with fail
          refine (CRQ.out 3 _).mono ?_
          rintro e y1 ⟨rfl, rfl⟩
          clear c0 c1 c2 c3 c4 c5 c6 c7 c8 cv
          go_wp2_with fail
          refine wp_region_noPanic ?_
          refine wp_region_held_drew (S := fun w' => w'.heap[wr.heap.size]? = some (.cells #[.int .i64 c.day, .int .i64 c.kind, .int .i64 (n : Int), .string tc, .string tt, .string tn, .int .i64 c.low, .int .i64 c.high, .int .i64 c.shift] 29 (0, 0))) (by kernel_rfl) (by have := HCT.out; exact this : w5.drew.heap[wr.heap.size]? = some (.cells #[.int .i64 c.day, .int .i64 c.kind, .int .i64 (n : Int), .string tc, .string tt, .string tn, .int .i64 c.low, .int .i64 c.high, .int .i64 c.shift] 29 (0, 0))) (fun hHeld => ?_)
          obtain ⟨wd1, hwd1⟩ : ∃ u, u = w5.drew := ⟨_, rfl⟩
          have bd1 : Below w5.heap.size w5 wd1 := by rw [hwd1]; exact (Below.refl _ _).drew
          rw [← hwd1] at hHeld ⊢
          clear hwd1
          refine wpAnyH_take (i := 0) (oi := ⟨some 72, _, _, _, _, _⟩) (v := .pointer (some ⟨wr.heap.size, 3, none⟩)) rfl (by kernel_rfl) (by kernel_rfl) (by kernel_rfl) (fun _ _ _ h => h) (Or.inl ⟨by rfl, ?_⟩) hHeld ?_
          · intro u hu
            go_simp
          try simp only [Act.put, List.setIfInBounds_toArray, List.set_cons_zero, List.set_cons_succ]
          refine wpAnyH_take (i := 1) (oi := ⟨some 73, _, _, _, _, _⟩) (v := .string tc) rfl (by kernel_rfl) (by kernel_rfl) (by kernel_rfl) (fun _ _ _ h => h) (Or.inl ⟨by rfl, ?_⟩) hHeld ?_
          · intro u hu
            have hx : u.cell? ⟨wr.heap.size, 3, none⟩ = some (.string tc) := by rw [cell_at hu]; rfl
            go_simp
          try simp only [Act.put, List.setIfInBounds_toArray, List.set_cons_zero, List.set_cons_succ]
          refine wpAnyH_take (i := 3) (oi := ⟨some 75, _, _, _, _, _⟩) (v := .pointer (some ⟨wr.heap.size, 4, none⟩)) rfl (by kernel_rfl) (by kernel_rfl) (by kernel_rfl) (fun _ _ _ h => h) (Or.inl ⟨by rfl, ?_⟩) hHeld ?_
          · intro u hu
            go_simp
          try simp only [Act.put, List.setIfInBounds_toArray, List.set_cons_zero, List.set_cons_succ]
          refine wpAnyH_take (i := 4) (oi := ⟨some 76, _, _, _, _, _⟩) (v := .string tt) rfl (by kernel_rfl) (by kernel_rfl) (by kernel_rfl) (fun _ _ _ h => h) (Or.inl ⟨by rfl, ?_⟩) hHeld ?_
          · intro u hu
            have hx : u.cell? ⟨wr.heap.size, 4, none⟩ = some (.string tt) := by rw [cell_at hu]; rfl
            go_simp
          try simp only [Act.put, List.setIfInBounds_toArray, List.set_cons_zero, List.set_cons_succ]
          refine wpAnyH_take (i := 6) (oi := ⟨some 78, _, _, _, _, _⟩) (v := .pointer (some ⟨wr.heap.size, 5, none⟩)) rfl (by kernel_rfl) (by kernel_rfl) (by kernel_rfl) (fun _ _ _ h => h) (Or.inl ⟨by rfl, ?_⟩) hHeld ?_
          · intro u hu
            go_simp
          try simp only [Act.put, List.setIfInBounds_toArray, List.set_cons_zero, List.set_cons_succ]
          refine wpAnyH_take (i := 7) (oi := ⟨some 79, _, _, _, _, _⟩) (v := .string tn) rfl (by kernel_rfl) (by kernel_rfl) (by kernel_rfl) (fun _ _ _ h => h) (Or.inl ⟨by rfl, ?_⟩) hHeld ?_
          · intro u hu
            have hx : u.cell? ⟨wr.heap.size, 5, none⟩ = some (.string tn) := by rw [cell_at hu]; rfl
            go_simp
          try simp only [Act.put, List.setIfInBounds_toArray, List.set_cons_zero, List.set_cons_succ]
          refine wpAnyH_ready (rs := [2]) (by kernel_rfl) (by simp) ?_
          refine AllReadyH.cons (o := ⟨some 74, _, _, _, _, _⟩) rfl (fun K hK => ?_) AllReadyH.nil
          go_simp
          go_at_call 36
          refine (CCL0.out _).mono ?_
          rintro e we0 ⟨rfl, hbq⟩
          have bwe0 : Below w5.heap.size w5 we0 := bt bd1 hbq
          clear hbq
          refine hK.out _ _ (by rw [bwe0.block _ (heap_lt HCT.out)]; exact HCT.out) (fun hHeld => ?_)
          clear hK K
          try simp only [Act.put, List.setIfInBounds_toArray, List.set_cons_zero, List.set_cons_succ]
          refine wpAnyH_take (i := 9) (oi := ⟨some 81, _, _, _, _, _⟩) (v := .pointer (some ⟨wr.heap.size, 3, none⟩)) rfl (by kernel_rfl) (by kernel_rfl) (by kernel_rfl) (fun _ _ _ h => h) (Or.inl ⟨by rfl, ?_⟩) hHeld ?_
          · intro u hu
            go_simp
          try simp only [Act.put, List.setIfInBounds_toArray, List.set_cons_zero, List.set_cons_succ]
          refine wpAnyH_ready (rs := [5]) (by kernel_rfl) (by simp) ?_
          refine AllReadyH.cons (o := ⟨some 77, _, _, _, _, _⟩) rfl (fun K hK => ?_) AllReadyH.nil
          go_simp
          go_at_call 36
          refine (CCL1.out _).mono ?_
          rintro e we1 ⟨rfl, hbq⟩
          have bwe1 : Below w5.heap.size w5 we1 := bt bwe0 hbq
          clear hbq
          refine hK.out _ _ (by rw [bwe1.block _ (heap_lt HCT.out)]; exact HCT.out) (fun hHeld => ?_)
          clear hK K
          try simp only [Act.put, List.setIfInBounds_toArray, List.set_cons_zero, List.set_cons_succ]
          refine wpAnyH_ready (rs := [8]) (by kernel_rfl) (by simp) ?_
          refine AllReadyH.cons (o := ⟨some 80, _, _, _, _, _⟩) rfl (fun K hK => ?_) AllReadyH.nil
          go_simp
          go_at_call 36
          refine (CCL2.out _).mono ?_
          rintro e we2 ⟨rfl, hbq⟩
          have bwe2 : Below w5.heap.size w5 we2 := bt bwe1 hbq
          clear hbq
          refine hK.out _ _ (by rw [bwe2.block _ (heap_lt HCT.out)]; exact HCT.out) (fun hHeld => ?_)
          clear hK K
          try simp only [Act.put, List.setIfInBounds_toArray, List.set_cons_zero, List.set_cons_succ]
          refine wpAnyH_ready (rs := [10]) (by kernel_rfl) (by simp) ?_
          refine AllReadyH.cons (o := ⟨none, _, _, _, _, _⟩) rfl (fun K hK => ?_) AllReadyH.nil
          have hx : we2.cell? ⟨wr.heap.size, 3, none⟩ = some (.string tc) := by rw [cell_at hHeld]; rfl
          have hz : we2.frozen? ⟨wr.heap.size, 3, none⟩ = false := free_at (v := .string tc) hHeld rfl
          go_simp
          rw [setCell_self hHeld (by rfl : (#[.int .i64 c.day, .int .i64 c.kind, .int .i64 (n : Int), .string tc, .string tt, .string tn, .int .i64 c.low, .int .i64 c.high, .int .i64 c.shift] : Array Value)[3]? = some (.string tc))]
          refine hK.out _ _ hHeld (fun hHeld => ?_)
          clear hK K hx hz
          try simp only [Act.put, List.setIfInBounds_toArray, List.set_cons_zero, List.set_cons_succ]
          refine wpAnyH_take (i := 11) (oi := ⟨some 82, _, _, _, _, _⟩) (v := .pointer (some ⟨wr.heap.size, 4, none⟩)) rfl (by kernel_rfl) (by kernel_rfl) (by kernel_rfl) (fun _ _ _ h => h) (Or.inl ⟨by rfl, ?_⟩) hHeld ?_
          · intro u hu
            go_simp
          try simp only [Act.put, List.setIfInBounds_toArray, List.set_cons_zero, List.set_cons_succ]
          refine wpAnyH_ready (rs := [12]) (by kernel_rfl) (by simp) ?_
          refine AllReadyH.cons (o := ⟨none, _, _, _, _, _⟩) rfl (fun K hK => ?_) AllReadyH.nil
          have hx : we2.cell? ⟨wr.heap.size, 4, none⟩ = some (.string tt) := by rw [cell_at hHeld]; rfl
          have hz : we2.frozen? ⟨wr.heap.size, 4, none⟩ = false := free_at (v := .string tt) hHeld rfl
          go_simp
          rw [setCell_self hHeld (by rfl : (#[.int .i64 c.day, .int .i64 c.kind, .int .i64 (n : Int), .string tc, .string tt, .string tn, .int .i64 c.low, .int .i64 c.high, .int .i64 c.shift] : Array Value)[4]? = some (.string tt))]
          refine hK.out _ _ hHeld (fun hHeld => ?_)
          clear hK K hx hz
          try simp only [Act.put, List.setIfInBounds_toArray, List.set_cons_zero, List.set_cons_succ]
          refine wpAnyH_take (i := 13) (oi := ⟨some 83, _, _, _, _, _⟩) (v := .pointer (some ⟨wr.heap.size, 5, none⟩)) rfl (by kernel_rfl) (by kernel_rfl) (by kernel_rfl) (fun _ _ _ h => h) (Or.inl ⟨by rfl, ?_⟩) hHeld ?_
          · intro u hu
            go_simp
          try simp only [Act.put, List.setIfInBounds_toArray, List.set_cons_zero, List.set_cons_succ]
          refine wpAnyH_ready (rs := [14]) (by kernel_rfl) (by simp) ?_
          refine AllReadyH.cons (o := ⟨none, _, _, _, _, _⟩) rfl (fun K hK => ?_) AllReadyH.nil
          have hx : we2.cell? ⟨wr.heap.size, 5, none⟩ = some (.string tn) := by rw [cell_at hHeld]; rfl
          have hz : we2.frozen? ⟨wr.heap.size, 5, none⟩ = false := free_at (v := .string tn) hHeld rfl
          go_simp
          rw [setCell_self hHeld (by rfl : (#[.int .i64 c.day, .int .i64 c.kind, .int .i64 (n : Int), .string tc, .string tt, .string tn, .int .i64 c.low, .int .i64 c.high, .int .i64 c.shift] : Array Value)[5]? = some (.string tn))]
          refine hK.out _ _ hHeld (fun hHeld => ?_)
          clear hK K hx hz
          try simp only [Act.put, List.setIfInBounds_toArray, List.set_cons_zero, List.set_cons_succ]
          refine wpAnyH_done (by kernel_rfl) ?_ _
          clear hHeld
          refine NoPanic.normal ?_
          have HE := hid bwe2
          clear bd1 bwe0 bwe1 bwe2
          go_wp2_with fail
          refine wp_region_noPanic ?_
          have SG : Hid (∀ u, Below w5.heap.size w5 u → u.heap[wr.heap.size]? = some (.cells #[.int .i64 c.day, .int .i64 c.kind, .int .i64 (n : Int), .string tc, .string tt, .string tn, .int .i64 c.low, .int .i64 c.high, .int .i64 c.shift] 29 (0, 0)) ∧ u.cell? ⟨B, 0, none⟩ = some (.slice (some ⟨g, 0, none⟩) ln cap1) ∧ u.cell? ⟨wd.heap.size, 1, none⟩ = some (.func (.func fk) #[] #[])) := fun u hu => by
            refine ⟨(hu.block _ (heap_lt HCT.out)).trans HCT.out, ?_, ?_⟩
            · rw [HBB.out, cell_at ((hu.block _ (heap_lt HGT.out.b2)).trans HGT.out.b2)]; rfl
            · rw [cell_at ((hu.block _ (heap_lt HKT.out)).trans HKT.out)]; rfl
          refine wp_region_held_drew (S := fun w' => w'.heap[wr.heap.size]? = some (.cells #[.int .i64 c.day, .int .i64 c.kind, .int .i64 (n : Int), .string tc, .string tt, .string tn, .int .i64 c.low, .int .i64 c.high, .int .i64 c.shift] 29 (0, 0)) ∧ w'.cell? ⟨B, 0, none⟩ = some (.slice (some ⟨g, 0, none⟩) ln cap1) ∧ w'.cell? ⟨wd.heap.size, 1, none⟩ = some (.func (.func fk) #[] #[])) (by kernel_rfl) (SG.out _ (bt HE.out (Below.refl _ _).drew)) (fun hHeld => ?_)
          obtain ⟨wd2, hwd2⟩ : ∃ u, u = we2.drew := ⟨_, rfl⟩
          have HD2 : Hid (Below w5.heap.size w5 wd2) := by show Below _ _ _; rw [hwd2]; exact bt HE.out (Below.refl _ _).drew
          rw [← hwd2] at hHeld ⊢
          clear hwd2
          refine wpAnyH_take (i := 0) (oi := ⟨some 84, _, _, _, _, _⟩) (v := .pointer (some ⟨wd.heap.size, 1, none⟩)) rfl (by kernel_rfl) (by kernel_rfl) (by kernel_rfl) (fun _ _ _ h => h) (Or.inl ⟨by rfl, ?_⟩) hHeld ?_
          · intro u hu
            obtain ⟨_, _, _⟩ := hu
            go_simp
          try simp only [Act.put, List.setIfInBounds_toArray, List.set_cons_zero, List.set_cons_succ]
          refine wpAnyH_take (i := 1) (oi := ⟨some 85, _, _, _, _, _⟩) (v := .func (.func fk) #[] #[]) rfl (by kernel_rfl) (by kernel_rfl) (by kernel_rfl) (fun _ _ _ h => h) (Or.inl ⟨by rfl, ?_⟩) hHeld ?_
          · intro u hu
            obtain ⟨_, hu1, hu2⟩ := hu
            go_simp
          try simp only [Act.put, List.setIfInBounds_toArray, List.set_cons_zero, List.set_cons_succ]
          refine wpAnyH_take (i := 2) (oi := ⟨some 86, _, _, _, _, _⟩) (v := .slice (some ⟨g, 0, none⟩) ln cap1) rfl (by kernel_rfl) (by kernel_rfl) (by kernel_rfl) (fun _ _ _ h => h) (Or.inl ⟨by rfl, ?_⟩) hHeld ?_
          · intro u hu
            obtain ⟨_, hu1, hu2⟩ := hu
            go_simp
          try simp only [Act.put, List.setIfInBounds_toArray, List.set_cons_zero, List.set_cons_succ]
          refine wpAnyH_take (i := 3) (oi := ⟨some 87, _, _, _, _, _⟩) (v := .pointer (some ⟨wr.heap.size, 2, none⟩)) rfl (by kernel_rfl) (by kernel_rfl) (by kernel_rfl) (fun _ _ _ h => h) (Or.inl ⟨by rfl, ?_⟩) hHeld ?_
          · intro u hu
            go_simp
          try simp only [Act.put, List.setIfInBounds_toArray, List.set_cons_zero, List.set_cons_succ]
          refine wpAnyH_take (i := 4) (oi := ⟨some 88, _, _, _, _, _⟩) (v := .int .i64 (n : Int)) rfl (by kernel_rfl) (by kernel_rfl) (by kernel_rfl) (fun _ _ _ h => h) (Or.inl ⟨by rfl, ?_⟩) hHeld ?_
          · intro u hu
            obtain ⟨hu0, _, _⟩ := hu
            obtain ⟨d0, d1, d2, d3, d4, d5, d6, d7, d8⟩ := ch_cells hu0
            go_simp
          try simp only [Act.put, List.setIfInBounds_toArray, List.set_cons_zero, List.set_cons_succ]
          refine wpAnyH_take (i := 5) (oi := ⟨some 89, _, _, _, _, _⟩) (v := .pointer (some ⟨g, n * 8, none⟩)) rfl (by kernel_rfl) (by kernel_rfl) (by kernel_rfl) (fun _ _ _ h => h) (Or.inl ⟨by rfl, ?_⟩) hHeld ?_
          · intro u hu
            go_simp
          try simp only [Act.put, List.setIfInBounds_toArray, List.set_cons_zero, List.set_cons_succ]
          refine wpAnyH_take (i := 6) (oi := ⟨some 90, _, _, _, _, _⟩) (v := .agg #[.int .i64 c.day, .int .i64 c.kind, .int .i64 (n : Int), .string tc, .string tt, .string tn, .int .i64 c.low, .int .i64 c.high, .int .i64 c.shift]) rfl (by kernel_rfl) (by kernel_rfl) (by kernel_rfl) (fun _ _ _ h => h) (Or.inl ⟨by rfl, ?_⟩) hHeld ?_
          · intro u hu
            obtain ⟨hu0, _, _⟩ := hu
            obtain ⟨d0, d1, d2, d3, d4, d5, d6, d7, d8⟩ := ch_cells hu0
            go_simp
          try simp only [Act.put, List.setIfInBounds_toArray, List.set_cons_zero, List.set_cons_succ]
          refine wpAnyH_ready (rs := [7]) (by kernel_rfl) (by simp) ?_
          refine AllReadyH.cons (o := ⟨some 91, _, _, _, _, _⟩) rfl (fun K hK => ?_) AllReadyH.nil
          go_simp
          refine (CCH.out _ HD2.out).mono ?_
          rintro e w9 ⟨vs9, rfl, hst9, hfr9⟩
          have HG9 := hid ((HGT.out.on HD2.out).frm hfr9 hst9)
          have HF9 := hid hfr9
          clear hst9 hfr9
          have h9 : w9.heap[wr.heap.size]? = some (.cells #[.int .i64 c.day, .int .i64 c.kind, .int .i64 (n : Int), .string tc, .string tt, .string tn, .int .i64 c.low, .int .i64 c.high, .int .i64 c.shift] 29 (0, 0)) := HF9.out.keep (SG.out _ HD2.out).1 (by decide)
          have h9b : w9.cell? ⟨B, 0, none⟩ = some (.slice (some ⟨g, 0, none⟩) ln cap1) := by rw [HBB.out, cell_at HG9.out.b2]; rfl
          have h9c : w9.cell? ⟨wd.heap.size, 1, none⟩ = some (.func (.func fk) #[] #[]) := by rw [cell_at (HF9.out.keep ((HD2.out.block _ (heap_lt HKT.out)).trans HKT.out) (by decide))]; rfl
          refine hK.out _ _ ⟨h9, h9b, h9c⟩ (fun hHeld => ?_)
          clear hK K
          try simp only [Act.put, List.setIfInBounds_toArray, List.set_cons_zero, List.set_cons_succ]
          refine wpAnyH_done (by kernel_rfl) ?_ _
          clear hHeld
          refine NoPanic.normal ?_
          have e2 : w9.cell? ⟨wr.heap.size, 2, none⟩ = some (.int .i64 (n : Int)) := by rw [cell_at h9]; rfl
          clear h9 h9c
          have CC := hid (pclashes_any _ _ (.slice (some ⟨g, 0, none⟩) ln cap1) n w9 (by have q := HG9.out.st.isSts; exact q) HLEN.out HNL.out HOKS.out (HTW.out w9 HG9.out.below))
          go_wp2_with fail
          refine CC.out.mono ?_
          rintro e w10 ⟨rfl, hb10⟩
          have HGZ := hid (HG9.out.on hb10)
          clear hb10 h9b e2
          rw [HCLA.out]
          go_wp2_with fail
          refine (CRQ.out 51 _).mono ?_
          rintro e y1 ⟨rfl, rfl⟩
          go_wp2
          go_roundw
          case rel => exact ⟨k + 1, HKST.out, by go_num, ⟨_, _, HGZ.out.f HNXT.out⟩⟩
          case measure => simp [intOf]; omega
        · obtain ⟨hE, hat, hno⟩ : E = 3 ∧ at' = (k : Int) ∧ hasB l c.street = false := by
            rcases HS.out.out with ⟨e, _⟩ | ⟨_, _, e, d, hd, h⟩
            · have := HM.out; omega
            · subst hks
              rw [HC.out] at hd; cases hd
              rcases h with ⟨h1, _, h2⟩ | ⟨_, h1, _⟩
              · exact ⟨h1, e, by rw [HL.out]; exact h2⟩
              · exact absurd h1 HKN.out
          have HEA := hid (And.intro hE hat)
          have CO := hid (popen_any l vs v c.street w5 HG5.out.st.isSts (by have := HLK.out; omega))
          rw [hno] at CO
          clear hE hat hno hks
          go_wp2_with fail
          refine CO.out.mono ?_
          rintro e y1 ⟨rfl, rfl⟩
          go_wp2_with fail
          refine (CRN.out 3 _).mono ?_
          rintro e y1 ⟨rfl, rfl⟩
          clear c0 c1 c2 c3 c4 c5 c6 c7 c8 cv
          go_wp2
          have p2 : w5.cell? ⟨B, 0, none⟩ = some (v) := by rw [HBB.out, cell_at HG5.out.b2]; rfl
          have z2 : w5.frozen? ⟨B, 0, none⟩ = false := by rw [HBB.out]; exact free_at (i := 0) HG5.out.b2 rfl
          have p3 : w5.cell? ⟨B + 1, 0, none⟩ = some (.int .i64 0) := by rw [HBB.out, cell_at HG5.out.b3]; rfl
          have z3 : w5.frozen? ⟨B + 1, 0, none⟩ = false := by rw [HBB.out]; exact free_at (i := 0) HG5.out.b3 rfl
          obtain ⟨f2, f3, fb⟩ := HG5.out.fin 3
          rw [← HBB.out] at f2 f3 fb
          refine leaves_cons (f := 31) (args := #[.pointer (some ⟨B, 0, none⟩), .pointer (some ⟨B + 1, 0, none⟩)]) (by simp) (by simp [go_sem]) ?_
          refine (catch_panic ⟨B, 0, none⟩ ⟨B + 1, 0, none⟩ 3 [] _ _ _ p2 z2 p3 z3 (by show B + 1 ≠ B; omega)).mono ?_
          rintro e u' w'' ⟨rfl, rfl, rfl⟩
          have FP : Hid (FPost r E at' w (.returned (.tuple #[.slice none 0 0, .int .i64 3, .int .i64 (k : Int)])) ((w5.setCell ⟨B, 0, none⟩ (.slice none 0 0)).setCell ⟨B + 1, 0, none⟩ (.int .i64 3))) := ⟨nilV, [], by rw [HEA.out.1, HEA.out.2]; rfl, (fun h => by rw [HEA.out.1] at h; cases h), by have q := fb; rw [HBB.out] at q ⊢; exact q⟩
          simp [Leaves, settle, results, Tryz.results23, go_sem, f2, f3]
          exact FP.out
    · have hkm : k = m := by omega
      have hst2 : st = r.length := by have := HM.out; omega
      obtain ⟨hE, hat⟩ : E = 0 ∧ at' = -1 := by
        rcases HS.out.out with ⟨_, a, b⟩ | ⟨h, _⟩
        · exact ⟨a, b⟩
        · omega
      have hG := hI.g
      obtain ⟨A1, cap1, rfl⟩ := hG.st.formA
      have HFP : Hid (FPost r E at' w (.returned (.tuple #[.slice A1 (runL (r.take k)).length cap1, .int .i64 0, .int .i64 (-1)])) wr) :=
        ⟨_, vs, by rw [hE, hat], fun _ => by have h := hG.st; rw [List.take_of_length_le (by have := HM.out; omega)] at h ⊢; exact h, hG.below⟩
      obtain ⟨ln, hln⟩ : ∃ x, x = (runL (r.take k)).length := ⟨_, rfl⟩
      have HG := hid hG
      rw [← hln] at HFP HG
      have p2 : wr.cell? ⟨B, 0, none⟩ = some (.slice A1 ln cap1) := by rw [HBB.out, cell_at HG.out.b2]; rfl
      have z2 : wr.frozen? ⟨B, 0, none⟩ = false := by rw [HBB.out]; exact free_at (i := 0) HG.out.b2 rfl
      have p3 : wr.cell? ⟨B + 1, 0, none⟩ = some (.int .i64 0) := by rw [HBB.out, cell_at HG.out.b3]; rfl
      have z3 : wr.frozen? ⟨B + 1, 0, none⟩ = false := by rw [HBB.out]; exact free_at (i := 0) HG.out.b3 rfl
      have hsame := HG.out.same
      rw [← HBB.out] at hsame
      have HSM := hid hsame
      have hB01 : B + 1 ≠ B := by omega
      clear hI hG hE hat hst2 hkm hln hsame
      go_wp2
      rw [HSM.out]
      refine leaves_cons (f := 31) (args := #[.pointer (some ⟨B, 0, none⟩), .pointer (some ⟨B + 1, 0, none⟩)]) (by simp) (by simp [go_sem]) ?_
      refine (catch_idle ⟨B, 0, none⟩ ⟨B + 1, 0, none⟩ _).mono ?_
      rintro e u' w'' ⟨rfl, rfl, rfl⟩
      simp [Leaves, settle, results, Tryz.results23, go_sem, p2, p3]
      exact HFP.out

end Rg
end Go.Proofs.YtaeljmiklalpnaaGreatDoor
