/-
  The contract of Print: the walk.
-/
import Derived.Test.YtcaiejbnhjiflaaGreatDoorP2
namespace Go.Proofs.YtcaiejbnhjiflaaGreatDoor
open Go.RowKit Go.ChangeMaps
namespace Fm

theorem infoStr : (Tryz.prog.info? 9).map (fun i => (i.zero, i.size, i.bytes)) = some (some (.string ⟨#[]⟩), 1, 16) := by kernel_rfl
def PrintPost (ls : List W) (x : Int) (w : World) (e : Ending) (w' : World) : Prop := ∃ v, e = .returned (.tuple #[v, .int .i64 x]) ∧ Hid (IsW w' v ls) ∧ Below w.heap.size w w'
theorem IsW.nil (w : World) : IsW w (.slice none 0 0) [] := ⟨none, 0, rfl, SlR.nil w 1⟩

theorem own_kept {w w' : World} {S M B : Nat} {rv v : Value} {a : Ad} {n : Nat} {xs : List Value} (h : w.ownsRow B 9 1 v n xs) (hk : Kept w.heap.size S w w') (hs : SB w S M rv a) : w'.ownsRow B 9 1 v n xs := by
  refine ⟨h.1, ?_⟩
  rcases h.2 with h0 | ⟨g, cap, cur, hv, hB, hg, rest⟩
  · exact .inl h0
  · exact .inr ⟨g, cap, cur, hv, hB, kept_block hk hs hg (fun _ _ e => by cases e), rest⟩
theorem Kept.grown {B S : Nat} {a w w' : World} {row : Option Nat} (h : Kept B S a w) (hg : w.grownBy w' row) (hB : B ≤ w.heap.size) (hr : ∀ k, row = some k → B ≤ k) : Kept B S a w' :=
  h.trans (Kept.of (Below.grown (Below.refl _ _) hg hB hr))
theorem SB.grown {w w' : World} {S M B : Nat} {rv v : Value} {a : Ad} {n : Nat} {xs : List Value} (h : SB w S M rv a) (hg : w.grownBy w' v.ownBlock) (ho : w.ownsRow B 9 1 v n xs) : SB w' S M rv a := grown_block hg ho h (fun _ _ e => by cases e)
theorem XB.kept {w w' : World} {S M b : Nat} {rv : Value} {a x : Ad} (h : XB w b x) (hk : Kept w.heap.size S w w') (hs : SB w S M rv a) : XB w' b x := kept_block hk hs h (fun _ _ e => by cases e)
theorem XB.grown {w w' : World} {b B : Nat} {v : Value} {x : Ad} {n : Nat} {xs : List Value} (h : XB w b x) (hg : w.grownBy w' v.ownBlock) (ho : w.ownsRow B 9 1 v n xs) : XB w' b x := grown_block hg ho h (fun _ _ e => by cases e)
theorem own_addr {w : World} {B n : Nat} {v : Value} {xs : List Value} (h : w.ownsRow B 9 1 v n xs) (h0 : 0 < n) : ∃ g cap, v = .slice (some ⟨g, 0, none⟩) n cap ∧ g < w.heap.size ∧ n ≤ cap ∧ ∀ j u, xs[j]? = some u → w.cell? ((⟨g, 0, none⟩ : Addr).add j) = some u := by
  obtain ⟨g, cap, hv, _, hg⟩ := h.form h0
  refine ⟨g, cap, hv, hg, ?_, h.cells (by rw [hv]; rfl)⟩
  rcases h.2 with ⟨_, h1⟩ | ⟨g', cap', cur, hv', _, _, hc, _⟩
  · omega
  · rw [hv] at hv'; cases hv'; exact hc
theorem one_strs (ws : List W) : ∀ u ∈ ws.map sV, u.oneCell' = true := fun u hu => by
  obtain ⟨x, _, rfl⟩ := List.mem_map.1 hu; rfl

theorem field_show (m : Int) (fx fy gf : FuncId) (cx cy caps : Array Value) (w : World) : (Instr.field 64 (.agg #[.int .i64 m, .func (.func fx) #[] cx, .func (.func fy) #[] cy, .func (.func gf) #[] caps]) 3).run Tryz.prog w = .ok (.func (.func gf) #[] caps) w := by kernel_rfl

set_option maxRecDepth 100000 in
set_option maxHeartbeats 32000000 in
theorem print_any (name : W) (fs : List (List Pt)) (fv : Value) (x : Ad) (w : World) (hF : IsPs w fv fs) (hx : Small x) (hT : Tab w) {ls : List W} {er : Int} (h : printR name fs x = (ls, er)) :
    Calls Tryz.prog 14 #[.agg #[.string (sB name), fv], adV x] w (PrintPost ls er w) := by
  have H := hid h
  obtain ⟨fA, fcap, fvs, hfv, hfS, hfE⟩ := id hF
  subst hfv
  have HF := hid hF
  have HFS := hid hfS
  have HFE := hid hfE
  have HX := hid hx
  have HT := hid hT
  clear hF hfS hfE hx h hT
  obtain ⟨w1, hw1⟩ : ∃ w1, w1 = (w.alloc (.cells #[.string (sB name), .slice fA fs.length fcap] 24)).alloc (.cells #[.string (sB x.person), .string (sB x.street), .int .i64 x.number, .string (sB x.code), .string (sB x.town)] 27) := ⟨_, rfl⟩
  have hb1 : Below w.heap.size w w1 := by rw [hw1]; exact (b0 _ _).alloc (by simp) _
  have hsz1 : w.heap.size + 1 < w1.heap.size := by rw [hw1]; simp
  have hfb : w1.heap[w.heap.size]? = some (.cells #[.string (sB name), .slice fA fs.length fcap] 24 (0, 0)) := by rw [hw1, Below.heap_alloc _ _ _ (by simp)]; exact heap_new _ _
  have hxb : XB w1 (w.heap.size + 1) x := by rw [hw1]; unfold XB; have := heap_new (w.alloc (.cells #[.string (sB name), .slice fA fs.length fcap] 24)) (.cells #[.string (sB x.person), .string (sB x.street), .int .i64 x.number, .string (sB x.code), .string (sB x.town)] 27); simpa using this
  have c0 : w1.cell? ⟨w.heap.size, 0, none⟩ = some (.string (sB name)) := by simp [World.cell?, hfb]
  have c1 : w1.cell? ⟨w.heap.size, 1, none⟩ = some (.slice fA fs.length fcap) := by simp [World.cell?, hfb]
  have CV := hid (valid_any name fs (.slice fA fs.length fcap) w1 (HF.out.on hb1))
  have HB1 := hid hb1
  have HXB := hid hxb
  clear hb1 hxb hfb
  cases hv : validB name fs
  · have hr : Hid (([], 1) = (ls, er)) := (print_bad (fun hh => by rw [hv] at hh; exact absurd hh.1 (by simp))).symm.trans H.out
    rw [hv] at CV
    clear hv
    go_enter Tryz.func14, Tryz.ntmps14
    go_wp2_with fail
    rw [← hw1]
    clear hw1
    refine CV.out.mono ?_
    rintro e w2 ⟨rfl, hb2⟩
    have HB2 := hid hb2
    clear hb2
    go_wp2
    go_ret2
    have hr' := hr.out
    cases hr'
    exact ⟨_, rfl, IsW.nil _, bt HB1.out HB2.out⟩
  · have HV := hid hv
    rw [hv] at CV
    clear hv
    obtain ⟨i0, hi0, hz0, hz1, hz2⟩ := info_parts infoStr
    go_enter Tryz.func14, Tryz.ntmps14
    go_wp2_with fail
    rw [← hw1]
    clear hw1
    refine CV.out.mono ?_
    rintro e w2 ⟨rfl, hb2⟩
    have c1' := (hb2.cell (p := (⟨w.heap.size, 1, none⟩ : Addr)) (by simp; omega)).trans c1
    have hsz2 : w.heap.size + 1 < w2.heap.size := Nat.lt_of_lt_of_le hsz1 hb2.size
    have HB2 := hid (bt HB1.out hb2)
    have HXB2 := hid (HXB.out.on hb2)
    clear hb2 c0 c1
    go_wp2_with fail
    refine (kinds_any _).mono ?_
    rintro e w3 ⟨F, rfl, hK, -, hb3⟩
    have c1v := (hb3.cell (p := (⟨w.heap.size, 1, none⟩ : Addr)) (show w.heap.size < w2.heap.size by omega)).trans c1'
    have hsz3 : w.heap.size + 1 < w3.heap.size := Nat.lt_of_lt_of_le hsz2 hb3.size
    have hlt3 : w.heap.size < w3.heap.size := by omega
    obtain ⟨w4, hw4⟩ : ∃ w4, w4 = w3.alloc (.cells #[.string ⟨#[]⟩, .string ⟨#[]⟩, .int .i64 0, .string ⟨#[]⟩, .string ⟨#[]⟩, .map (some w2.heap.size), .slice none 0 0] 58) := ⟨_, rfl⟩
    have hb4 : Below w3.heap.size w3 w4 := by rw [hw4]; exact b0 _ _
    have HSB4 : Hid (SB w4 w3.heap.size w2.heap.size (.slice none 0 0) ad0) := by rw [hw4]; exact heap_new _ _
    have HK4 := hid (hK.on hb4)
    have HXB4 := hid ((HXB2.out.on hb3).on hb4)
    have HB4 := hid (bt (bt HB2.out hb3) hb4)
    have hSw : w.heap.size ≤ w3.heap.size := by omega
    clear hK hb3 hb4 c1'
    go_wp2_with fail
    rw [← hw4]
    clear hw4 c1v hsz1 hsz2 hsz3 hlt3
    go_loopw [7, 22] (fun lv i wr => ∃ (k : Nat) (a : Ad), k ≤ fs.length ∧ i = .int .i64 k ∧ Hid (PLn x fs k a) ∧ Hid (wr.ownsRow w4.heap.size 9 1 lv k (((fs.take k).map fun ps => joinW (lineW x ps)).map sV)) ∧ Hid (SB wr w3.heap.size w2.heap.size (.slice none 0 0) a) ∧ Hid (Kinds wr w2.heap.size F allK) ∧ Hid (XB wr (w.heap.size + 1) x) ∧ Hid (Below w.heap.size w wr) ∧ w4.heap.size ≤ wr.heap.size) (fun _ i _ => fs.length - (intOf i).toNat)
    case atStart => exact ⟨0, ad0, Nat.zero_le _, rfl, PLn.start _ _, World.ownsRow_nil _ _ _ _, HSB4, HK4, HXB4, HB4, Nat.le_refl _⟩
    case round =>
      obtain ⟨i, ai, hi, rfl, hPL, hLo, hS, hK, hXB, hB, hsz⟩ := hrel
      by_cases hlt : i < fs.length
      · have hx0 : fs[i]? = some fs[i] := List.getElem?_eq_getElem hlt
        obtain ⟨ps, hps⟩ : ∃ ps, ps = fs[i] := ⟨_, rfl⟩
        rw [← hps] at hx0
        clear hps
        obtain ⟨u, hu, Ap, capp, rfl, hRp⟩ := HFE.out i ps hx0
        obtain ⟨g, o, rfl, hg, hcell⟩ := (HFS.out.on hB.out).at hu
        have HI := hid hx0
        have HRp := hid hRp
        have hps8 : ps.length ≤ 8 := ((valid_parts HV.out).2.2.1 ps (List.mem_of_getElem? hx0)).2
        have hlt2 : (i : Int) < (fs.length : Int) := by omega
        have hi0' : 0 ≤ (i : Int) := by omega
        clear hu hx0 hRp
        go_wp2_with fail
        obtain ⟨wi, hwi⟩ : ∃ wi, wi = wr := ⟨_, rfl⟩
        subst hwi
        go_loopw [10, 28] (fun ov j wr => ∃ (k : Nat) (a : Ad), k ≤ ps.length ∧ j = .int .i64 k ∧ Hid (PAt x ps k ai a) ∧ Hid (wr.ownsRow wi.heap.size 9 1 ov (lineW x (ps.take k)).length ((lineW x (ps.take k)).map sV)) ∧ Hid (SB wr w3.heap.size w2.heap.size (.slice none 0 0) a) ∧ Hid (Kept wi.heap.size w3.heap.size wi wr)) (fun _ j _ => ps.length - (intOf j).toNat)
        case atStart => exact ⟨0, ai, Nat.zero_le _, rfl, PAt.start _ _ _, World.ownsRow_nil _ _ _ _, hS, Kept.refl _ _ _⟩
        case round =>
          obtain ⟨j, a, hj, rfl, hPA, hOw, hS2, hKp⟩ := hrel
          have hszw : wi.heap.size ≤ wr.heap.size := hKp.out.size
          have HBr := hid (hB.out.trans (hKp.out.below hSw hB.out.size))
          have HKr := hid (hK.out.kept hKp.out hS.out)
          have HXr := hid (hXB.out.kept hKp.out hS.out)
          by_cases hjlt : j < ps.length
          · have hx0 : ps[j]? = some ps[j] := List.getElem?_eq_getElem hjlt
            obtain ⟨p, hp⟩ : ∃ p, p = ps[j] := ⟨_, rfl⟩
            rw [← hp] at hx0
            clear hp
            obtain ⟨g', o', rfl, hg', hc1, hc2⟩ := RdP.at (HRp.out.on HBr.out) hx0
            unfold sV at hc2
            have HJ := hid hx0
            have hmem : p ∈ fs.flatten := List.mem_flatten.2 ⟨ps, List.mem_of_getElem? HI.out, List.mem_of_getElem? hx0⟩
            have hpp : partB p = true := (valid_parts HV.out).2.2.2.1 p hmem
            have HPP := hid hpp
            have HMEM := hid hmem
            have hk16 : p.k ∈ allK := (allK_iff _).2 ⟨(wfp hpp).1, (wfp hpp).2.1⟩
            obtain ⟨m, fx, cx, fy, cy, gf, caps, hkd, heg, hsh⟩ := kd_show hpp F
            have hbA := b0 wr (.cells #[.int .i64 p.k, .string (sB p.t)] 49)
            have HBA := hid hbA
            have r1 := look_yes (HKr.out.on hbA) hk16 false
            rw [hkd] at r1
            simp only [Bool.false_eq_true, if_false] at r1
            have CSH := hid (hsh x _ _ HX.out.n0 HX.out.n1 (tab_on HT.out (HBr.out.trans (hbA.mono HBr.out.size))) (HKr.out.on hbA))
            obtain ⟨x0, x1, x2, x3, x4⟩ := HXr.out.cell
            obtain ⟨-, -, -, -, -, s5, -⟩ := hS2.out.cell
            have hlX : w.heap.size + 1 < wr.heap.size := heap_lt HXr.out
            have hlS := hS2.out.lt
            have hjlt2 : (j : Int) < (ps.length : Int) := by omega
            have hj0 : 0 ≤ (j : Int) := by omega
            have hfd := fun w => field_show m fx fy gf cx cy caps w
            clear hx0 hmem hpp hk16 hkd hsh hbA
            go_wp2_with fail
            refine CSH.out.mono ?_
            rintro e w5 ⟨rfl, hb5⟩
            have q0 : w5.cell? ⟨wr.heap.size, 0, none⟩ = some (.int .i64 p.k) := by rw [hb5.cell (p := (⟨wr.heap.size, 0, none⟩ : Addr)) (by simp)]; simp
            have q1 : w5.cell? ⟨wr.heap.size, 1, none⟩ = some (.string (sB p.t)) := by rw [hb5.cell (p := (⟨wr.heap.size, 1, none⟩ : Addr)) (by simp)]; simp
            have hz5 : wr.heap.size < w5.heap.size := by have := hb5.size; simp at this; omega
            have HB5 := hid (bt HBA.out hb5)
            have CW := hid (words_any (sB (showT x p)) w5 (by rw [sB_size]; have := show_len HX.out HPP.out; omega))
            clear hb5 hc1 hc2 x0 x1 x2 x3 x4 s5 r1
            go_wp2_with fail
            refine CW.out.mono ?_
            rintro e w6 ⟨v, rfl, hown6, hb6⟩
            rw [sB_list, ← own_show] at hown6
            have q0' := (hb6.cell (p := (⟨wr.heap.size, 0, none⟩ : Addr)) hz5).trans q0
            have q1' := (hb6.cell (p := (⟨wr.heap.size, 1, none⟩ : Addr)) hz5).trans q1
            have HB6 := hid (bt HB5.out hb6)
            have HS6 := hid (hS2.out.on HB6.out)
            have HK6 := hid (HKr.out.on HB6.out)
            have hon : (ownW x p).length ≤ 1000 := by rw [own_show]; exact Nat.le_trans (words_len _) (show_len HX.out HPP.out)
            obtain ⟨vA, vcap, rfl, hvS⟩ := SlR.of_own hown6
            have HVO := hid hown6
            have CT := hid (takes_any p HPP.out (ownW x p) vA vcap w3.heap.size w2.heap.size F (.slice none 0 0) a w6 (by omega) hvS HS6.out HK6.out)
            clear hown6 hb6 q0 q1 hvS
            cases hc : canB p (ownW x p)
            · have hr : Hid (([], 1) = (ls, er)) := (print_part HV.out HMEM.out hc).symm.trans H.out
              rw [hc] at CT
              clear hc
              go_wp2_with fail
              refine CT.out.mono ?_
              rintro e w7 ⟨rfl, hs7, hk7⟩
              have HK7 := hid hk7
              clear hs7 hk7
              go_wp2
              go_ret2
              have hr' := hr.out
              cases hr'
              have hB6 := HBr.out.trans (HB6.out.mono HBr.out.size)
              exact ⟨_, rfl, IsW.nil _, hB6.trans (HK7.out.below hSw hB6.size)⟩
            · have HPN := hid (hPA.out.next HJ.out hc)
              have hcl := can_len hc
              rw [hc] at CT
              clear hc
              go_wp2_with fail
              refine CT.out.mono ?_
              rintro e w7 ⟨rfl, hs7, hk7⟩
              rw [if_pos rfl] at hs7
              have hvo7 := own_kept HVO.out hk7 HS6.out
              have huo7 := own_kept (own_below hOw.out HB6.out) hk7 HS6.out
              obtain ⟨vg, vcap', hve, hvg, hvn, hvc⟩ := own_addr hvo7 (by omega)
              cases hve
              have HS7 := hid hs7
              have HUO := hid huo7
              have HK7 := hid ((hKp.out.trans (Kept.of (HB6.out.mono hszw))).trans (hk7.mono (Nat.le_trans hszw HB6.out.size)))
              have hsz7 : wi.heap.size ≤ w7.heap.size := HK7.out.size
              have hlj : (lineW x (ps.take j)).length ≤ 32 := by
                have := (line_len (x := x) (ps := ps.take j) hPA.out.1).1
                rw [List.length_take] at this; omega
              clear hs7 hk7 hvo7
              go_wp2_with (at_builtin; refine wpList_append_lies _ rfl (.tmp 47) (.tmp 48) 25 rfl wi.heap.size 9 i0 _ 1 16 Tryz.underlying25 hi0 hz0 hz1 hz2 rfl (by decide) u10 (lineW x (ps.take j)).length ((lineW x (ps.take j)).map sV) rfl huo7 ⟨vg, 0, none⟩ (ownW x p).length vcap ((ownW x p).map sV) rfl (by simp) hvc (one_strs _) (by omega) (by unfold maxLen; omega) (by omega) hsz7 w7.heap.size rfl ?_; intro gg cap2 w8 hown8 hgrow hat hlt8)
              have HS8 := hid (HS7.out.grown hgrow HUO.out)
              have HK8 := hid (HK7.out.grown hgrow hsz7 (fun k e => (HUO.out.lt k e).1))
              have HO8 : Hid (w8.ownsRow wi.heap.size 9 1 (.slice (some ⟨gg, 0, none⟩) ((lineW x (ps.take j)).length + (ownW x p).length) cap2) (lineW x (ps.take (j + 1))).length ((lineW x (ps.take (j + 1))).map sV)) := by
                show World.ownsRow _ _ _ _ _ _ _
                rw [line_next HJ.out, List.length_append, List.map_append]; exact hown8
              clear hown8 hgrow hat hlt8 huo7 hvc
              go_roundw
              case rel => exact ⟨j + 1, _, by omega, by go_num, HPN, HO8, HS8, HK8⟩
              case measure => simp [intOf]; omega
          · have hjl : j = ps.length := by omega
            subst hjl
            rw [List.take_length] at hOw
            have hpcan : ∀ p ∈ ps, canB p (ownW x p) = true := by have := hPA.out.1; rw [List.take_length] at this; exact this
            obtain ⟨hll, hlf⟩ := line_len hpcan
            obtain ⟨oA, ocap, hoe, hoS⟩ := SlR.of_own hOw.out
            subst hoe
            have CJ := hid (join_any (lineW x ps) oA ocap wr hoS (by omega) (by have := join_fit hlf; omega))
            have HPL2 := hid (hPL.out.next HI.out hPA.out)
            have HLr := hid (own_kept hLo.out hKp.out hS.out)
            obtain ⟨sj, hsj⟩ : ∃ sj, sj = sB (joinW (lineW x ps)) := ⟨_, rfl⟩
            rw [← hsj] at CJ
            have HSJ := hid hsj
            clear hpcan hll hlf hoS hsj
            go_wp2_with fail
            refine CJ.out.mono ?_
            rintro e w5 ⟨rfl, hb5⟩
            have hlo5 := own_below HLr.out hb5
            have HLO5 := hid hlo5
            have HB5 := hid hb5
            have hsz5 : w4.heap.size ≤ w5.heap.size := Nat.le_trans (Nat.le_trans hsz hszw) hb5.size
            have hi8 : i ≤ 8 := by have := (valid_parts HV.out).2.1; omega
            clear hb5
            go_wp2_with (at_builtin; refine wpList_append_lies _ rfl (.tmp 51) (.tmp 54) 25 rfl w4.heap.size 9 i0 _ 1 16 Tryz.underlying25 hi0 hz0 hz1 hz2 rfl (by decide) u7 i _ rfl (hlo5.alloc _) ⟨w5.heap.size, 0, none⟩ 1 1 [.string sj] rfl rfl (cell_one_new w5 _ _) (by simp [Value.oneCell']) (by omega) (by unfold maxLen; omega) (by omega) (by simp; omega) (w5.heap.size + 1) (by simp) ?_; intro gg cap2 w6 hown6 hgrow hat hlt6)
            have HBA := hid (b0 w5 (.cells #[.string sj] 9))
            have HGO := hid (HLO5.out.alloc (.cells #[.string sj] 9))
            have HS6 := hid ((hS2.out.on (bt HB5.out HBA.out)).grown hgrow HGO.out)
            have HK6 := hid ((HKr.out.on (bt HB5.out HBA.out)).grown hgrow HGO.out)
            have HX6 := hid ((HXr.out.on (bt HB5.out HBA.out)).grown hgrow HGO.out)
            have hB5 := HBr.out.trans ((bt HB5.out HBA.out).mono HBr.out.size)
            have HB6 := hid (Below.grown hB5 hgrow hB5.size (fun k e => by have := (HGO.out.lt k e).1; have := HB4.out.size; omega))
            have hsz6 : w4.heap.size ≤ w6.heap.size := by have := hgrow.size; have := HBA.out.size; omega
            have HO6 : Hid (w6.ownsRow w4.heap.size 9 1 (.slice (some ⟨gg, 0, none⟩) (i + 1) cap2) (i + 1) (((fs.take (i + 1)).map fun ps => joinW (lineW x ps)).map sV)) := by
              show World.ownsRow _ _ _ _ _ _ _
              rw [lines_next HI.out, List.map_append]
              have := hown6
              rw [HSJ.out] at this
              exact this
            clear hown6 hgrow hat hlt6 hlo5 hB5
            go_roundw
            case rel => exact ⟨i + 1, a, by omega, by go_num, HPL2, HO6, HS6, HK6, HX6, HB6, hsz6⟩
            case measure => simp [intOf]; omega
      · have hil : i = fs.length := by omega
        subst hil
        rw [List.take_length] at hLo
        have hp := hPL.out
        unfold PLn at hp
        rw [List.take_length] at hp
        obtain ⟨x0, x1, x2, x3, x4⟩ := hXB.out.cell
        obtain ⟨s0, s1, s2, s3, s4, -, -⟩ := hS.out.cell
        have hne := fun u => neq_run ai x u
        have HP1 := hid hp.1
        have HP2 := hid hp.2
        clear hp
        by_cases he : ai = x
        · rw [decide_eq_true he] at hne
          have hr : Hid ((fs.map (fun ps => joinW (lineW x ps)), 0) = (ls, er)) := (print_same HV.out HP1.out (HP2.out.symm.trans he)).symm.trans H.out
          clear he
          obtain ⟨lA, lcap, hle, hlS⟩ := SlR.of_own hLo.out
          subst hle
          have HLS := hid hlS
          clear hlS
          go_wp2
          go_ret2
          have hr' := hr.out
          cases hr'
          exact ⟨_, rfl, ⟨lA, lcap, by rw [List.length_map]; rfl, by show RdW _ _ _ _; unfold RdW; rw [List.length_map]; exact HLS.out⟩, hB.out⟩
        · rw [decide_eq_false he] at hne
          have hr : Hid (([], 1) = (ls, er)) := (print_other HV.out (fun h => he (HP2.out.trans h))).symm.trans H.out
          clear he
          go_wp2
          go_ret2
          have hr' := hr.out
          cases hr'
          exact ⟨_, rfl, IsW.nil _, hB.out⟩

end Fm
end Go.Proofs.YtcaiejbnhjiflaaGreatDoor
