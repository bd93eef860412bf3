/-
  FormatOne: the walk.
-/
import Derived.Test.YtcaiejbnhjiflaaGreatDoorLBl
import Derived.Test.YtcaiejbnhjiflaaGreatDoorR9
import Derived.Test.YtcaiejbnhjiflaaGreatDoorMs
import Derived.Deep.RegionHeld3
import Derived.Deep.AppendLies
namespace Go.Proofs.YtcaiejbnhjiflaaGreatDoor
open Go.RowKit Go.ChangeMaps
namespace Fm

/-- Texts appended to an empty row of the call's own: none at all, too. -/
theorem run_app_all {P : Program} {w : World} (t ty e : TypeId) (i : TypeInfo) (z : Value) (bytes : Nat) (ht : P.underlying t = some (.slice e)) (hi : P.info? e = some i) (hz : i.zero = some z) (hsize : i.size = 1) (hby : i.bytes = bytes) (hzs : z.cells.size = 1)
    {B N : Nat} (hown : w.ownsRow B e 1 (.slice (some ⟨N, 0, none⟩) 0 0) 0 []) (hB : B ≤ w.heap.size) {A : Option Addr} {n c : Nat} {xs : List Value} (hS : SlR w A n c 1 xs) (h1 : ∀ u ∈ xs, u.oneCell' = true) (hn : n ≤ 100000) (hb : bytes ≤ 100) :
    ∃ g cap w1, (Builtin.append_ #[t, t] ty #[.slice (some ⟨N, 0, none⟩) 0 0, .slice A n c]).run P w = .ok (.slice (some ⟨g, 0, none⟩) n cap) w1 ∧ w1.ownsRow B e 1 (.slice (some ⟨g, 0, none⟩) n cap) n xs ∧ w.grownBy w1 (some N) := by
  by_cases h0 : n = 0
  · subst h0
    have hx : xs = [] := List.length_eq_zero_iff.1 (by have := hS.1; simpa using this)
    subst hx
    refine ⟨N, 0, w, ?_, hown, World.grownBy.refl _ _⟩
    cases A <;> simp [Builtin.append_, run_underlying ht, sizeOf, typeInfo, hi, Builtin.lenOf, Builtin.firstCells, storeCells, loadCells, loadCellsFrom]
  · obtain ⟨g', o, rfl, hg, hc⟩ := hS.2.2 (by omega)
    obtain ⟨g, cap, w1, hr, h2, h3, h4, h5⟩ := run_append_lies (P := P) w t ty B e i z 1 bytes ht hi hz hsize hby hzs (by decide) _ 0 [] hown ⟨g', o, none⟩ n c xs hS.1 (fun j u hu => by rw [addr_add]; exact hc j u hu) h1 (by omega) (by unfold maxLen; omega) (by rw [Nat.zero_add]; have := Nat.mul_le_mul hn hb; omega) hB _ rfl
    rw [Nat.zero_add] at hr h2
    exact ⟨g, cap, w1, hr, by simpa using h2, h3⟩
theorem step_app_all {P : Program} {w : World} {ops : Array Oper} {o : Oper} {a : Act} {K : Act → World → Prop} {Q : Exit → Act → World → Prop} {E : Prop} (hgd : o.guard = none) (s x : Operand) (t : TypeId)
    (ho : o.op = .call { callee := .builtin .append, args := #[s, x], argTypes := #[t, t] }) (e : TypeId) (i : TypeInfo) (z : Value) (bytes : Nat) (ht : P.underlying t = some (.slice e)) (hi : P.info? e = some i) (hz : i.zero = some z) (hsize : i.size = 1) (hby : i.bytes = bytes) (hzs : z.cells.size = 1)
    (B N : Nat) (hs : a.eval s = .slice (some ⟨N, 0, none⟩) 0 0) (hown : w.ownsRow B e 1 (.slice (some ⟨N, 0, none⟩) 0 0) 0 []) (hB : B ≤ w.heap.size) (A : Option Addr) (n c : Nat) (xs : List Value) (hx : a.eval x = .slice A n c) (hS : SlR w A n c 1 xs) (h1 : ∀ u ∈ xs, u.oneCell' = true) (hn : n ≤ 100000) (hb : bytes ≤ 100)
    (h : ∀ g cap w1, w1.ownsRow B e 1 (.slice (some ⟨g, 0, none⟩) n cap) n xs → w.grownBy w1 (some N) → K (a.put o.dst (.slice (some ⟨g, 0, none⟩) n cap)) w1) :
    if Region.wanted o (yielded ops a.tmps) = true then Oper.wp P o a w K Q else E := by
  have hw : Region.wanted o (yielded ops a.tmps) = true := by simp [Region.wanted, hgd]
  rw [if_pos hw]
  obtain ⟨g, cap, w1, hr, h2, h3⟩ := run_app_all (P := P) t o.type e i z bytes ht hi hz hsize hby hzs hown hB hS h1 hn hb
  unfold Oper.wp execOp
  simp only [ho, resolve, invoke, builtin, Sem.run_bind, Sem.run_pure, Result.andThen_ok, List.map_toArray, List.map_cons, List.map_nil, hs, hx, hr]
  exact h g cap w1 h2 h3
theorem one_news {w : World} {X : Nat} {v : Value} (h : w.cell? ⟨X, 0, none⟩ = some v) : ∀ j u, [v][j]? = some u → w.cell? ((⟨X, 0, none⟩ : Addr).add j) = some u := by
  intro j u hu
  match j with
  | 0 => rw [addr_add]; simp at hu; rw [← hu]; exact h
  | j + 1 => simp at hu

set_option maxRecDepth 100000 in
set_option maxHeartbeats 16000000 in
theorem one_law (name : W) (fs : List (List Pt)) (fv : Value) (lns : List W) (lv : Value) (w : World) (hT : Tab w) (hF : IsPs w fv fs) (hL : IsW w lv lns) :
    Calls Tryz.prog 8 #[.agg #[.string (sB name), fv], lv] w fun e w' => e = .returned (.bool true) ∧ Below w.heap.size w w' := by
  obtain ⟨A, cap, fvs, hfv, -⟩ := id hF
  subst hfv
  obtain ⟨lA, lcap, hlv, hlS⟩ := id hL
  subst hlv
  have HT := hid hT
  obtain ⟨w1, hw1'⟩ : ∃ w1, w1 = w.alloc (.cells #[.string (sB name), .slice A fs.length cap] 24) := ⟨_, rfl⟩
  have hb1 : Below w.heap.size w w1 := by rw [hw1']; exact b0 _ _
  have HS1 : Hid (Fx w w.heap.size name fs A cap w1) := ⟨by rw [hw1']; exact heap_new _ _, hF.on hb1, hb1⟩
  have HL1 := hid (hL.on hb1)
  have CFew := hid (fun u (h : Fx w w.heap.size name fs A cap u) (hl : IsW u (.slice lA lns.length lcap) lns) => few_any name fs (.slice A fs.length cap) lns (.slice lA lns.length lcap) u h.isp hl)
  have CV := hid (fun u (h : Fx w w.heap.size name fs A cap u) (h1 : name.length ≤ 100000) (h2 : ∀ p ∈ fs.flatten, p.t.length ≤ 1000) => rvalid_any name fs (.slice A fs.length cap) u h.isp h1 h2)
  have CPa := hid (fun u (h : Fx w w.heap.size name fs A cap u) (ls : List W) (lA : Option Addr) (n lc : Nat) (e : n = ls.length) (hl : IsW u (.slice lA n lc) ls) (hn : ls.length ≤ 1000) (hz : ∀ l ∈ ls, l.length ≤ 5000) (rs : List Ad) (er : Int) (hp : parseR name fs ls = (rs, er)) => (by subst e; exact parse_any name fs (.slice A fs.length cap) ls (.slice lA ls.length lc) u h.isp hl hn hz hp : Calls Tryz.prog 12 #[.agg #[.string (sB name), .slice A fs.length cap], .slice lA n lc] u (ParsePost rs er u)))
  have HSC := hid (fun (u : World) (h : Fx w w.heap.size name fs A cap u) => h.cells)
  obtain ⟨nm, hnm⟩ : ∃ nm, nm = sB name := ⟨_, rfl⟩
  rw [← hnm] at hw1' CFew CPa CV HSC ⊢
  clear hnm hT hF hL hlS hb1
  go_enter Tryz.func8, Tryz.ntmps8
  go_wp2_with fail
  rw [← hw1']
  clear hw1'
  refine (head_any _ (tab_on HT.out HS1.out.bel)).mono ?_
  rintro e w2 ⟨rfl, hb2⟩
  have HS2 := hid (HS1.out.on hb2)
  have HL2 := hid (HL1.out.on hb2)
  obtain ⟨d0, d1⟩ := HSC.out _ HS2.out
  have hl2 := HS2.out.lt
  clear hb2 HS1 HL1
  go_wp2_with fail
  refine (CFew.out _ HS2.out HL2.out).mono ?_
  rintro e w3 ⟨b, rfl, hFew, hb3⟩
  have HS3 := hid (HS2.out.on hb3)
  have HL3 := hid (HL2.out.on hb3)
  obtain ⟨d0, d1⟩ := HSC.out _ HS3.out
  have hl3 := HS3.out.lt
  clear hb3 HS2 HL2 hl2
  cases b
  · go_wp2
    go_ret
    exact ⟨rfl, HS3.out.bel⟩
  · have HFew := hid (hFew.out rfl)
    clear hFew
    have hln8 := HFew.out.ln
    have CV3 := hid (CV.out _ HS3.out (by have := HFew.out.nm; omega) (fun p hp => by have := HFew.out.ts p hp; omega))
    obtain ⟨q, hq⟩ : ∃ q, q = validB name fs := ⟨_, rfl⟩
    rw [← hq] at CV3
    have HQ := hid hq
    clear hq
    go_wp2_with fail
    refine CV3.out.mono ?_
    rintro e w4 ⟨rfl, hb4⟩
    have HS4 := hid (HS3.out.on hb4)
    have HL4 := hid (HL3.out.on hb4)
    clear d0 d1
    obtain ⟨d0, d1⟩ := HSC.out _ HS4.out
    have hl4 := HS4.out.lt
    clear hb4 HS3 HL3 hl3 CV3
    cases q
    · go_wp2
      go_ret
      exact ⟨rfl, HS4.out.bel⟩
    · go_wp2
      go_loop [6] (fun i => ∃ k : Nat, k ≤ fs.length ∧ i = .int .i64 k ∧ Hid (∀ ps ∈ fs.take k, nsev ps ≤ 1)) (fun i => fs.length - (intOf i).toNat)
      case atStart => exact ⟨0, Nat.zero_le _, rfl, by intro ps hps; simp at hps⟩
      case round =>
        obtain ⟨k, hk, rfl, hP⟩ := hrel
        have hfn := HFew.out.fn
        by_cases hlt : k < fs.length
        · obtain ⟨ps, hps⟩ : ∃ ps, fs[k]? = some ps := ⟨_, List.getElem?_eq_getElem hlt⟩
          obtain ⟨g, o, A', cap', rfl, hg, hc, hR⟩ := isPs_at HS4.out.isp hps
          have HR := hid hR
          have hkk : (k : Int) < (fs.length : Int) := by omega
          have hk0 : 0 ≤ (k : Int) := by omega
          have HPS := hid hps
          have hpl := HFew.out.ps ps (List.mem_of_getElem? hps)
          clear hps hR
          go_wp2
          go_loop [7, 8] (fun n i => ∃ j : Nat, j ≤ ps.length ∧ i = .int .i64 j ∧ n = .int .i64 (nsev (ps.take j) : Nat)) (fun _ i => ps.length - (intOf i).toNat)
          case atStart => exact ⟨0, Nat.zero_le _, rfl, rfl⟩
          case round =>
            obtain ⟨j, hj, rfl, rfl⟩ := hrel
            have hnl := nsev_len (ps.take j)
            rw [List.length_take] at hnl
            by_cases hltj : j < ps.length
            · obtain ⟨p, hp⟩ : ∃ p, ps[j]? = some p := ⟨_, List.getElem?_eq_getElem hltj⟩
              obtain ⟨g2, o2, rfl, hg2, hc2, -⟩ := RdP.at HR.out hp
              have hjj : (j : Int) < (ps.length : Int) := by omega
              have hj0 : 0 ≤ (j : Int) := by omega
              have HSN := hid (nsev_snoc hp)
              clear hp
              by_cases h4 : 4 ≤ p.k
              · have dq : decide ((4 : Int) ≤ p.k) = true := decide_eq_true h4
                have HN : Hid (nsev (ps.take (j + 1)) = nsev (ps.take j) + 1) := by show _ = _; rw [HSN.out, if_pos (by unfold sevB; exact dq)]
                go_wp2
                go_round
                case rel => exact ⟨j + 1, by omega, by go_num, by rw [HN.out]; go_num⟩
                case measure => simp [intOf]; omega
              · have dq : decide ((4 : Int) ≤ p.k) = false := decide_eq_false h4
                have HN : Hid (nsev (ps.take (j + 1)) = nsev (ps.take j)) := by show _ = _; rw [HSN.out, if_neg (by unfold sevB; rw [dq]; simp), Nat.add_zero]
                go_wp2
                go_round
                case rel => exact ⟨j + 1, by omega, by go_num, by rw [HN.out]⟩
                case measure => simp [intOf]; omega
            · have hjl : ps.take j = ps := List.take_of_length_le (by omega)
              rw [hjl]
              clear hjl hnl
              have hnl := nsev_len ps
              by_cases h1 : 1 < nsev ps
              · have d1x : decide ((1 : Int) < ((nsev ps : Nat) : Int)) = true := decide_eq_true (by omega)
                go_wp2
                go_ret
                exact ⟨rfl, HS4.out.bel⟩
              · have d1x : decide ((1 : Int) < ((nsev ps : Nat) : Int)) = false := decide_eq_false (by omega)
                have HN : Hid (∀ q ∈ fs.take (k + 1), nsev q ≤ 1) := mem_snoc (P := fun q : List Pt => nsev q ≤ 1) hP.out HPS.out (by omega)
                go_wp2
                go_round
                case rel => exact ⟨k + 1, by omega, by go_num, HN⟩
                case measure => simp [intOf]; omega
        · obtain rfl : k = fs.length := by omega
          have HP : Hid (∀ ps ∈ fs, nsev ps ≤ 1) := by have := hP.out; rwa [List.take_length] at this
          clear hP
          have hz1' : ∀ x ∈ lns, x.length ≤ 5000 := fun x hx => by have := HFew.out.ls x hx; omega
          have HZ1 := hid hz1'
          have hz2' : ∀ x ∈ lns ++ [[120]], x.length ≤ 5000 := fun x hx => by
            rcases List.mem_append.1 hx with h | h
            · exact hz1' x h
            · rw [List.mem_singleton.1 h]; decide
          have HZ2 := hid hz2'
          obtain ⟨ra, ea, hpa⟩ : ∃ rs er, parseR name fs lns = (rs, er) := ⟨_, _, rfl⟩
          obtain ⟨rb, eb, hpb⟩ : ∃ rs er, parseR name fs (lns ++ [[120]]) = (rs, er) := ⟨_, _, rfl⟩
          have HO := hid (one_facts HQ.out.symm HP.out (by simp) hpa hpb)
          have HPA := hid hpa
          have HPB := hid hpb
          clear hz1' hz2' hpa hpb
          go_wp2_with fail
          refine (CPa.out _ HS4.out lns lA lns.length lcap rfl HL4.out (by omega) HZ1.out ra ea HPA.out).mono ?_
          rintro e w5 ⟨va, rfl, hA5, hb5⟩
          obtain ⟨rA, rc, rfl, -⟩ := id hA5.out
          obtain ⟨i0, hi0, hz0, hz1, hz2'⟩ := info_parts infoStr
          have HS5 := hid (HS4.out.on hb5)
          have HL5 := hid (HL4.out.on hb5)
          clear d0 d1
          obtain ⟨d0, d1⟩ := HSC.out _ HS5.out
          have hl5 := HS5.out.lt
          obtain ⟨lA9, lc9, el9, hR5⟩ := id HL5.out
          cases el9
          have HR5 := hid hR5
          have SK : Hid (∀ u, Below w5.heap.size w5 u → u.cell? ⟨w.heap.size, 0, none⟩ = some (.string nm) ∧ u.cell? ⟨w.heap.size, 1, none⟩ = some (.slice A fs.length cap)) := fun u hu => HSC.out _ (HS5.out.on hu)
          clear hb5 HS4 HL4 hl4 hA5 hR5
          go_wp2_with fail
          refine wp_region_held_drew (S := fun w' => w'.cell? ⟨w.heap.size, 0, none⟩ = some (.string nm) ∧ w'.cell? ⟨w.heap.size, 1, none⟩ = some (.slice A fs.length cap)) (by kernel_rfl) ⟨d0, d1⟩ (fun hHeld => ?_)
          obtain ⟨wd, hwd⟩ : ∃ u, u = w5.drew := ⟨_, rfl⟩
          have bd : Below w5.heap.size w5 wd := by rw [hwd]; exact (Below.refl _ _).drew
          rw [← hwd] at hHeld ⊢
          clear hwd
          refine wpAnyH_take (i := 0) (oi := ⟨some 63, _, _, _, _, _⟩) (v := .agg #[.string nm, .slice A fs.length cap]) rfl (by kernel_rfl) (by kernel_rfl) (by kernel_rfl) (fun _ _ _ h => h) (Or.inl ⟨by rfl, ?_⟩) hHeld ?_
          · intro u hu
            go_simp
          try simp only [Act.put, List.setIfInBounds_toArray, List.set_cons_zero, List.set_cons_succ]
          refine wpAnyH_take (i := 2) (oi := ⟨some 65, _, _, _, _, _⟩) (v := .slice lA lns.length lcap) rfl (by kernel_rfl) (by kernel_rfl) (by kernel_rfl) (fun _ _ _ h => h) (Or.inl ⟨by rfl, ?_⟩) hHeld ?_
          · intro u hu
            go_simp
          try simp only [Act.put, List.setIfInBounds_toArray, List.set_cons_zero, List.set_cons_succ]
          refine wpAnyH_ready (rs := [1, 4]) (by kernel_rfl) (by simp) ?_
          refine AllReadyH.cons (o := ⟨some 64, _, _, _, _, _⟩) rfl (fun K hK => ?_) ?_
          · obtain ⟨wa1, hwa1⟩ : ∃ u, u = wd.alloc (.cells #[] 9) := ⟨_, rfl⟩
            obtain ⟨N, hN⟩ : ∃ N, N = wd.heap.size := ⟨_, rfl⟩
            have ba1 : Below w5.heap.size w5 wa1 := by rw [hwa1]; exact bd.alloc bd.size _
            have HN : Hid (wa1.ownsRow w5.heap.size 9 1 (.slice (some ⟨N, 0, none⟩) 0 0) 0 []) := by rw [hwa1]; exact own_empty wd _ _ (by rw [hN]; exact bd.size) hN _
            have hNs : N < wa1.heap.size := by rw [hwa1, hN]; simp
            go_simp
            rw [← hwa1, ← hN]
            clear hwa1 hN
            refine hK.out _ _ (SK.out _ ba1) (fun hHeld => ?_)
            clear hK K
            try simp only [Act.put, List.setIfInBounds_toArray, List.set_cons_zero, List.set_cons_succ]
            refine wpAnyH_ready (rs := [3, 4]) (by kernel_rfl) (by simp) ?_
            refine AllReadyH.cons (o := ⟨some 66, _, _, _, _, _⟩) rfl (fun K hK => ?_) ?_
            · refine step_app_all rfl (.tmp 64) (.tmp 65) 25 rfl 9 i0 _ 16 Tryz.underlying25 hi0 hz0 hz1 hz2' rfl (w5.heap.size) N rfl HN.out ba1.size lA lns.length lcap (lns.map sV) rfl (HR5.out.on ba1) (one_strs _) (by omega) (by decide) ?_
              intro g gc wg HGo hgrow
              have HG := hid HGo
              have bg : Below w5.heap.size w5 wg := Below.grown ba1 hgrow ba1.size (fun j e => by cases e; exact (HN.out.lt N rfl).1)
              refine hK.out _ _ (SK.out _ bg) (fun hHeld => ?_)
              clear hK K
              try simp only [Act.put, List.setIfInBounds_toArray, List.set_cons_zero, List.set_cons_succ]
              refine wpAnyH_ready (rs := [4]) (by kernel_rfl) (by simp) ?_
              refine AllReadyH.cons (o := ⟨some 67, _, _, _, _, _⟩) rfl (fun K hK => ?_) AllReadyH.nil
              obtain ⟨wx2, hwx2⟩ : ∃ u, u = wg.alloc (.cells #[.string ⟨#[120]⟩] 9) := ⟨_, rfl⟩
              obtain ⟨X, hX⟩ : ∃ X, X = wg.heap.size := ⟨_, rfl⟩
              have bx2 : Below w5.heap.size w5 wx2 := by rw [hwx2]; exact bg.alloc bg.size _
              have HX : Hid (wx2.cell? ⟨X, 0, none⟩ = some (sV [120])) := by show _ = _; rw [hwx2, hX]; exact cell_of_row _ _ 0 _ _ _ (heap_new wg _)
              have hXs : X < wx2.heap.size := by rw [hwx2, hX]; simp
              go_simp
              rw [← hwx2, ← hX]
              have HG := hid (by have := HG.out.alloc (.cells #[.string ⟨#[120]⟩] 9); rwa [← hwx2] at this : wx2.ownsRow w5.heap.size 9 1 (.slice (some ⟨g, 0, none⟩) lns.length gc) lns.length (lns.map sV))
              have HXN : Hid (∀ j u, [sV [120]][j]? = some u → wx2.cell? ((⟨X, 0, none⟩ : Addr).add j) = some u) := one_news HX.out
              clear hwx2 hX HN hgrow HGo
              refine hK.out _ _ (SK.out _ bx2) (fun hHeld => ?_)
              clear hK K
              try simp only [Act.put, List.setIfInBounds_toArray, List.set_cons_zero, List.set_cons_succ]
              refine wpAnyH_ready (rs := [5]) (by kernel_rfl) (by simp) ?_
              refine AllReadyH.cons (o := ⟨some 68, _, _, _, _, _⟩) rfl (fun K hK => ?_) AllReadyH.nil
              refine step_append_lies _ rfl (.tmp 66) (.tmp 67) 25 rfl w5.heap.size 9 i0 _ 1 16 Tryz.underlying25 hi0 hz0 hz1 hz2' rfl (by decide) (.slice (some ⟨g, 0, none⟩) lns.length gc) lns.length (lns.map sV) rfl HG.out ⟨X, 0, none⟩ 1 1 [sV [120]] rfl rfl HXN.out (by simp [sV, Value.oneCell']) (by omega) (by unfold maxLen; omega) (by omega) bx2.size _ rfl ?_
              intro g2 cap2 w6 hown6 hgrow6 _ _
              have b6 : Below w5.heap.size w5 w6 := Below.grown bx2 hgrow6 bx2.size (fun j e => (HG.out.lt j e).1)
              have HL6 : Hid (IsW w6 (.slice (some ⟨g2, 0, none⟩) (lns.length + 1) cap2) (lns ++ [[120]])) := by
                have h := hown6
                refine ⟨_, cap2, by rw [List.length_append]; rfl, ?_⟩
                have := SlR.of_own h
                obtain ⟨A1, c1, e1, h1⟩ := this
                cases e1
                rw [RdW, List.length_append, List.map_append]; exact h1
              clear hown6 hgrow6
              refine hK.out _ _ (SK.out _ b6) (fun hHeld => ?_)
              clear hK K
              try simp only [Act.put, List.setIfInBounds_toArray, List.set_cons_zero, List.set_cons_succ]
              refine wpAnyH_ready (rs := [6]) (by kernel_rfl) (by simp) ?_
              refine AllReadyH.cons (o := ⟨some 69, _, _, _, _, _⟩) rfl (fun K hK => ?_) AllReadyH.nil
              go_simp
              go_at_call 12
              refine (CPa.out _ (HS5.out.on b6) (lns ++ [[120]]) (some ⟨g2, 0, none⟩) (lns.length + 1) cap2 (by simp) HL6.out (by simp; omega) HZ2.out rb eb HPB.out).mono ?_
              rintro e w7 ⟨vb, rfl, hB7, h7⟩
              obtain ⟨rB, rc2, rfl, -⟩ := id hB7.out
              have b7 : Below w5.heap.size w5 w7 := bt b6 h7
              clear h7 hB7
              refine hK.out _ _ (SK.out _ b7) (fun hHeld => ?_)
              clear hK K
              try simp only [Act.put, List.setIfInBounds_toArray, List.set_cons_zero, List.set_cons_succ]
              refine wpAnyH_take (i := 7) (oi := ⟨some 62, _, _, _, _, _⟩) (v := .tuple #[.slice rB rb.length rc2, .int .i64 eb]) rfl (by kernel_rfl) (by kernel_rfl) (by kernel_rfl) (fun _ _ _ h => h) (Or.inl ⟨by rfl, ?_⟩) hHeld ?_
              · intro u hu
                go_simp
              try simp only [Act.put, List.setIfInBounds_toArray, List.set_cons_zero, List.set_cons_succ]
              refine wpAnyH_take (i := 8) (oi := ⟨some 70, _, _, _, _, _⟩) (v := .slice rB rb.length rc2) rfl (by kernel_rfl) (by kernel_rfl) (by kernel_rfl) (fun _ _ _ h => h) (Or.inl ⟨by rfl, ?_⟩) hHeld ?_
              · intro u hu
                go_simp
              try simp only [Act.put, List.setIfInBounds_toArray, List.set_cons_zero, List.set_cons_succ]
              refine wpAnyH_take (i := 9) (oi := ⟨some 71, _, _, _, _, _⟩) (v := .int .i64 eb) rfl (by kernel_rfl) (by kernel_rfl) (by kernel_rfl) (fun _ _ _ h => h) (Or.inl ⟨by rfl, ?_⟩) hHeld ?_
              · intro u hu
                go_simp
              try simp only [Act.put, List.setIfInBounds_toArray, List.set_cons_zero, List.set_cons_succ]
              refine wpAnyH_take (i := 10) (oi := ⟨some 11, _, _, _, _, _⟩) (v := .slice rB rb.length rc2) rfl (by kernel_rfl) (by kernel_rfl) (by kernel_rfl) (fun _ _ _ h => h) (Or.inl ⟨by rfl, ?_⟩) hHeld ?_
              · intro u hu
                go_simp
              try simp only [Act.put, List.setIfInBounds_toArray, List.set_cons_zero, List.set_cons_succ]
              refine wpAnyH_take (i := 11) (oi := ⟨some 12, _, _, _, _, _⟩) (v := .int .i64 eb) rfl (by kernel_rfl) (by kernel_rfl) (by kernel_rfl) (fun _ _ _ h => h) (Or.inl ⟨by rfl, ?_⟩) hHeld ?_
              · intro u hu
                go_simp
              try simp only [Act.put, List.setIfInBounds_toArray, List.set_cons_zero, List.set_cons_succ]
              refine wpAnyH_done (by kernel_rfl) ?_ _
              clear hHeld
              have HB7 := hid (bt HS5.out.bel b7)
              obtain ⟨hea, heb, hra, hrr⟩ := HO.out
              clear hHeld
              by_cases e1 : ea = 2
              · have q1 : ((ea : Int) != 0) = true := by rw [e1]; rfl
                have q2 : ((ea : Int) == 2) = true := by rw [e1]; rfl
                clear e1 hea heb hra hrr
                go_wp2
                go_ret
                exact ⟨rfl, HB7.out⟩
              · have e0 : ea = 0 := hea.resolve_left e1
                have q1 : ((ea : Int) != 0) = false := by rw [e0]; rfl
                have q2 : ((ea : Int) == 2) = false := by rw [e0]; rfl
                clear e1 e0 hea
                by_cases f1 : eb = 2
                · have q3 : ((eb : Int) != 0) = true := by rw [f1]; rfl
                  have q4 : ((eb : Int) == 2) = true := by rw [f1]; rfl
                  clear f1 heb hra hrr
                  go_wp2
                  go_ret
                  exact ⟨rfl, HB7.out⟩
                · have f0 : eb = 0 := heb.resolve_left f1
                  have q3 : ((eb : Int) != 0) = false := by rw [f0]; rfl
                  have q4 : ((eb : Int) == 2) = false := by rw [f0]; rfl
                  clear f1 f0 heb
                  have q5 : decide ((ra.length : Int) ≤ 1) = true := decide_eq_true (by omega)
                  by_cases g0 : ra = []
                  · have q6 : ((ra.length : Int) == 0) = true := by rw [g0]; rfl
                    clear g0 hra hrr
                    go_wp2
                    go_ret
                    exact ⟨rfl, HB7.out⟩
                  · have q6 : ((ra.length : Int) == 0) = false := by
                      rw [beq_eq_false_iff_ne]; intro h; exact g0 (List.length_eq_zero_iff.1 (by omega))
                    have q7 : ((rb.length : Int) == 0) = true := by rw [hrr.resolve_left g0]; rfl
                    clear g0 hra hrr
                    go_wp2
                    go_ret
                    exact ⟨rfl, HB7.out⟩
            · refine AllReadyH.cons (o := ⟨some 67, _, _, _, _, _⟩) rfl (fun K hK => ?_) AllReadyH.nil
              obtain ⟨wx3, hwx3⟩ : ∃ u, u = wa1.alloc (.cells #[.string ⟨#[120]⟩] 9) := ⟨_, rfl⟩
              obtain ⟨X, hX⟩ : ∃ X, X = wa1.heap.size := ⟨_, rfl⟩
              have bx3 : Below w5.heap.size w5 wx3 := by rw [hwx3]; exact ba1.alloc ba1.size _
              have HX : Hid (wx3.cell? ⟨X, 0, none⟩ = some (sV [120])) := by show _ = _; rw [hwx3, hX]; exact cell_of_row _ _ 0 _ _ _ (heap_new wa1 _)
              have hXs : X < wx3.heap.size := by rw [hwx3, hX]; simp
              go_simp
              rw [← hwx3, ← hX]
              have HN := hid (by have := HN.out.alloc (.cells #[.string ⟨#[120]⟩] 9); rwa [← hwx3] at this : wx3.ownsRow w5.heap.size 9 1 (.slice (some ⟨N, 0, none⟩) 0 0) 0 [])
              have hNX : X ≠ N := by omega
              clear hwx3 hX
              refine hK.out _ _ (SK.out _ bx3) (fun hHeld => ?_)
              clear hK K
              try simp only [Act.put, List.setIfInBounds_toArray, List.set_cons_zero, List.set_cons_succ]
              refine wpAnyH_ready (rs := [3]) (by kernel_rfl) (by simp) ?_
              refine AllReadyH.cons (o := ⟨some 66, _, _, _, _, _⟩) rfl (fun K hK => ?_) AllReadyH.nil
              refine step_app_all rfl (.tmp 64) (.tmp 65) 25 rfl 9 i0 _ 16 Tryz.underlying25 hi0 hz0 hz1 hz2' rfl (w5.heap.size) N rfl HN.out bx3.size lA lns.length lcap (lns.map sV) rfl (HR5.out.on bx3) (one_strs _) (by omega) (by decide) ?_
              intro g gc wg HGo hgrow
              have HG := hid HGo
              have bg : Below w5.heap.size w5 wg := Below.grown bx3 hgrow bx3.size (fun j e => by cases e; exact (HN.out.lt N rfl).1)
              have HXN : Hid (∀ j u, [sV [120]][j]? = some u → wg.cell? ((⟨X, 0, none⟩ : Addr).add j) = some u) := one_news ((hgrow.cell_far ⟨X, 0, none⟩ hXs (fun e => hNX (by cases e; rfl))).trans HX.out)
              clear HN hgrow HGo
              refine hK.out _ _ (SK.out _ bg) (fun hHeld => ?_)
              clear hK K
              try simp only [Act.put, List.setIfInBounds_toArray, List.set_cons_zero, List.set_cons_succ]
              refine wpAnyH_ready (rs := [5]) (by kernel_rfl) (by simp) ?_
              refine AllReadyH.cons (o := ⟨some 68, _, _, _, _, _⟩) rfl (fun K hK => ?_) AllReadyH.nil
              refine step_append_lies _ rfl (.tmp 66) (.tmp 67) 25 rfl w5.heap.size 9 i0 _ 1 16 Tryz.underlying25 hi0 hz0 hz1 hz2' rfl (by decide) (.slice (some ⟨g, 0, none⟩) lns.length gc) lns.length (lns.map sV) rfl HG.out ⟨X, 0, none⟩ 1 1 [sV [120]] rfl rfl HXN.out (by simp [sV, Value.oneCell']) (by omega) (by unfold maxLen; omega) (by omega) bg.size _ rfl ?_
              intro g2 cap2 w6 hown6 hgrow6 _ _
              have b6 : Below w5.heap.size w5 w6 := Below.grown bg hgrow6 bg.size (fun j e => (HG.out.lt j e).1)
              have HL6 : Hid (IsW w6 (.slice (some ⟨g2, 0, none⟩) (lns.length + 1) cap2) (lns ++ [[120]])) := by
                have h := hown6
                refine ⟨_, cap2, by rw [List.length_append]; rfl, ?_⟩
                have := SlR.of_own h
                obtain ⟨A1, c1, e1, h1⟩ := this
                cases e1
                rw [RdW, List.length_append, List.map_append]; exact h1
              clear hown6 hgrow6
              refine hK.out _ _ (SK.out _ b6) (fun hHeld => ?_)
              clear hK K
              try simp only [Act.put, List.setIfInBounds_toArray, List.set_cons_zero, List.set_cons_succ]
              refine wpAnyH_ready (rs := [6]) (by kernel_rfl) (by simp) ?_
              refine AllReadyH.cons (o := ⟨some 69, _, _, _, _, _⟩) rfl (fun K hK => ?_) AllReadyH.nil
              go_simp
              go_at_call 12
              refine (CPa.out _ (HS5.out.on b6) (lns ++ [[120]]) (some ⟨g2, 0, none⟩) (lns.length + 1) cap2 (by simp) HL6.out (by simp; omega) HZ2.out rb eb HPB.out).mono ?_
              rintro e w7 ⟨vb, rfl, hB7, h7⟩
              obtain ⟨rB, rc2, rfl, -⟩ := id hB7.out
              have b7 : Below w5.heap.size w5 w7 := bt b6 h7
              clear h7 hB7
              refine hK.out _ _ (SK.out _ b7) (fun hHeld => ?_)
              clear hK K
              try simp only [Act.put, List.setIfInBounds_toArray, List.set_cons_zero, List.set_cons_succ]
              refine wpAnyH_take (i := 7) (oi := ⟨some 62, _, _, _, _, _⟩) (v := .tuple #[.slice rB rb.length rc2, .int .i64 eb]) rfl (by kernel_rfl) (by kernel_rfl) (by kernel_rfl) (fun _ _ _ h => h) (Or.inl ⟨by rfl, ?_⟩) hHeld ?_
              · intro u hu
                go_simp
              try simp only [Act.put, List.setIfInBounds_toArray, List.set_cons_zero, List.set_cons_succ]
              refine wpAnyH_take (i := 8) (oi := ⟨some 70, _, _, _, _, _⟩) (v := .slice rB rb.length rc2) rfl (by kernel_rfl) (by kernel_rfl) (by kernel_rfl) (fun _ _ _ h => h) (Or.inl ⟨by rfl, ?_⟩) hHeld ?_
              · intro u hu
                go_simp
              try simp only [Act.put, List.setIfInBounds_toArray, List.set_cons_zero, List.set_cons_succ]
              refine wpAnyH_take (i := 9) (oi := ⟨some 71, _, _, _, _, _⟩) (v := .int .i64 eb) rfl (by kernel_rfl) (by kernel_rfl) (by kernel_rfl) (fun _ _ _ h => h) (Or.inl ⟨by rfl, ?_⟩) hHeld ?_
              · intro u hu
                go_simp
              try simp only [Act.put, List.setIfInBounds_toArray, List.set_cons_zero, List.set_cons_succ]
              refine wpAnyH_take (i := 10) (oi := ⟨some 11, _, _, _, _, _⟩) (v := .slice rB rb.length rc2) rfl (by kernel_rfl) (by kernel_rfl) (by kernel_rfl) (fun _ _ _ h => h) (Or.inl ⟨by rfl, ?_⟩) hHeld ?_
              · intro u hu
                go_simp
              try simp only [Act.put, List.setIfInBounds_toArray, List.set_cons_zero, List.set_cons_succ]
              refine wpAnyH_take (i := 11) (oi := ⟨some 12, _, _, _, _, _⟩) (v := .int .i64 eb) rfl (by kernel_rfl) (by kernel_rfl) (by kernel_rfl) (fun _ _ _ h => h) (Or.inl ⟨by rfl, ?_⟩) hHeld ?_
              · intro u hu
                go_simp
              try simp only [Act.put, List.setIfInBounds_toArray, List.set_cons_zero, List.set_cons_succ]
              refine wpAnyH_done (by kernel_rfl) ?_ _
              clear hHeld
              have HB7 := hid (bt HS5.out.bel b7)
              obtain ⟨hea, heb, hra, hrr⟩ := HO.out
              clear hHeld
              by_cases e1 : ea = 2
              · have q1 : ((ea : Int) != 0) = true := by rw [e1]; rfl
                have q2 : ((ea : Int) == 2) = true := by rw [e1]; rfl
                clear e1 hea heb hra hrr
                go_wp2
                go_ret
                exact ⟨rfl, HB7.out⟩
              · have e0 : ea = 0 := hea.resolve_left e1
                have q1 : ((ea : Int) != 0) = false := by rw [e0]; rfl
                have q2 : ((ea : Int) == 2) = false := by rw [e0]; rfl
                clear e1 e0 hea
                by_cases f1 : eb = 2
                · have q3 : ((eb : Int) != 0) = true := by rw [f1]; rfl
                  have q4 : ((eb : Int) == 2) = true := by rw [f1]; rfl
                  clear f1 heb hra hrr
                  go_wp2
                  go_ret
                  exact ⟨rfl, HB7.out⟩
                · have f0 : eb = 0 := heb.resolve_left f1
                  have q3 : ((eb : Int) != 0) = false := by rw [f0]; rfl
                  have q4 : ((eb : Int) == 2) = false := by rw [f0]; rfl
                  clear f1 f0 heb
                  have q5 : decide ((ra.length : Int) ≤ 1) = true := decide_eq_true (by omega)
                  by_cases g0 : ra = []
                  · have q6 : ((ra.length : Int) == 0) = true := by rw [g0]; rfl
                    clear g0 hra hrr
                    go_wp2
                    go_ret
                    exact ⟨rfl, HB7.out⟩
                  · have q6 : ((ra.length : Int) == 0) = false := by
                      rw [beq_eq_false_iff_ne]; intro h; exact g0 (List.length_eq_zero_iff.1 (by omega))
                    have q7 : ((rb.length : Int) == 0) = true := by rw [hrr.resolve_left g0]; rfl
                    clear g0 hra hrr
                    go_wp2
                    go_ret
                    exact ⟨rfl, HB7.out⟩
          · refine AllReadyH.cons (o := ⟨some 67, _, _, _, _, _⟩) rfl (fun K hK => ?_) AllReadyH.nil
            obtain ⟨wx4, hwx4⟩ : ∃ u, u = wd.alloc (.cells #[.string ⟨#[120]⟩] 9) := ⟨_, rfl⟩
            obtain ⟨X, hX⟩ : ∃ X, X = wd.heap.size := ⟨_, rfl⟩
            have bx4 : Below w5.heap.size w5 wx4 := by rw [hwx4]; exact bd.alloc bd.size _
            have HX : Hid (wx4.cell? ⟨X, 0, none⟩ = some (sV [120])) := by show _ = _; rw [hwx4, hX]; exact cell_of_row _ _ 0 _ _ _ (heap_new wd _)
            have hXs : X < wx4.heap.size := by rw [hwx4, hX]; simp
            go_simp
            rw [← hwx4, ← hX]
            clear hwx4 hX
            refine hK.out _ _ (SK.out _ bx4) (fun hHeld => ?_)
            clear hK K
            try simp only [Act.put, List.setIfInBounds_toArray, List.set_cons_zero, List.set_cons_succ]
            refine wpAnyH_ready (rs := [1]) (by kernel_rfl) (by simp) ?_
            refine AllReadyH.cons (o := ⟨some 64, _, _, _, _, _⟩) rfl (fun K hK => ?_) AllReadyH.nil
            obtain ⟨wa5, hwa5⟩ : ∃ u, u = wx4.alloc (.cells #[] 9) := ⟨_, rfl⟩
            obtain ⟨N, hN⟩ : ∃ N, N = wx4.heap.size := ⟨_, rfl⟩
            have ba5 : Below w5.heap.size w5 wa5 := by rw [hwa5]; exact bx4.alloc bx4.size _
            have HN : Hid (wa5.ownsRow w5.heap.size 9 1 (.slice (some ⟨N, 0, none⟩) 0 0) 0 []) := by rw [hwa5]; exact own_empty wx4 _ _ (by rw [hN]; exact bx4.size) hN _
            have hNs : N < wa5.heap.size := by rw [hwa5, hN]; simp
            go_simp
            rw [← hwa5, ← hN]
            have HX := hid (by rw [hwa5, World.cell?_alloc_lt _ _ _ hXs]; exact HX.out : wa5.cell? ⟨X, 0, none⟩ = some (sV [120]))
            have hNX : X ≠ N := by omega
            have hXs : X < wa5.heap.size := by rw [hwa5]; simp; omega
            clear hwa5 hN
            refine hK.out _ _ (SK.out _ ba5) (fun hHeld => ?_)
            clear hK K
            try simp only [Act.put, List.setIfInBounds_toArray, List.set_cons_zero, List.set_cons_succ]
            refine wpAnyH_ready (rs := [3]) (by kernel_rfl) (by simp) ?_
            refine AllReadyH.cons (o := ⟨some 66, _, _, _, _, _⟩) rfl (fun K hK => ?_) AllReadyH.nil
            refine step_app_all rfl (.tmp 64) (.tmp 65) 25 rfl 9 i0 _ 16 Tryz.underlying25 hi0 hz0 hz1 hz2' rfl (w5.heap.size) N rfl HN.out ba5.size lA lns.length lcap (lns.map sV) rfl (HR5.out.on ba5) (one_strs _) (by omega) (by decide) ?_
            intro g gc wg HGo hgrow
            have HG := hid HGo
            have bg : Below w5.heap.size w5 wg := Below.grown ba5 hgrow ba5.size (fun j e => by cases e; exact (HN.out.lt N rfl).1)
            have HXN : Hid (∀ j u, [sV [120]][j]? = some u → wg.cell? ((⟨X, 0, none⟩ : Addr).add j) = some u) := one_news ((hgrow.cell_far ⟨X, 0, none⟩ hXs (fun e => hNX (by cases e; rfl))).trans HX.out)
            clear HN hgrow HGo
            refine hK.out _ _ (SK.out _ bg) (fun hHeld => ?_)
            clear hK K
            try simp only [Act.put, List.setIfInBounds_toArray, List.set_cons_zero, List.set_cons_succ]
            refine wpAnyH_ready (rs := [5]) (by kernel_rfl) (by simp) ?_
            refine AllReadyH.cons (o := ⟨some 68, _, _, _, _, _⟩) rfl (fun K hK => ?_) AllReadyH.nil
            refine step_append_lies _ rfl (.tmp 66) (.tmp 67) 25 rfl w5.heap.size 9 i0 _ 1 16 Tryz.underlying25 hi0 hz0 hz1 hz2' rfl (by decide) (.slice (some ⟨g, 0, none⟩) lns.length gc) lns.length (lns.map sV) rfl HG.out ⟨X, 0, none⟩ 1 1 [sV [120]] rfl rfl HXN.out (by simp [sV, Value.oneCell']) (by omega) (by unfold maxLen; omega) (by omega) bg.size _ rfl ?_
            intro g2 cap2 w6 hown6 hgrow6 _ _
            have b6 : Below w5.heap.size w5 w6 := Below.grown bg hgrow6 bg.size (fun j e => (HG.out.lt j e).1)
            have HL6 : Hid (IsW w6 (.slice (some ⟨g2, 0, none⟩) (lns.length + 1) cap2) (lns ++ [[120]])) := by
              have h := hown6
              refine ⟨_, cap2, by rw [List.length_append]; rfl, ?_⟩
              have := SlR.of_own h
              obtain ⟨A1, c1, e1, h1⟩ := this
              cases e1
              rw [RdW, List.length_append, List.map_append]; exact h1
            clear hown6 hgrow6
            refine hK.out _ _ (SK.out _ b6) (fun hHeld => ?_)
            clear hK K
            try simp only [Act.put, List.setIfInBounds_toArray, List.set_cons_zero, List.set_cons_succ]
            refine wpAnyH_ready (rs := [6]) (by kernel_rfl) (by simp) ?_
            refine AllReadyH.cons (o := ⟨some 69, _, _, _, _, _⟩) rfl (fun K hK => ?_) AllReadyH.nil
            go_simp
            go_at_call 12
            refine (CPa.out _ (HS5.out.on b6) (lns ++ [[120]]) (some ⟨g2, 0, none⟩) (lns.length + 1) cap2 (by simp) HL6.out (by simp; omega) HZ2.out rb eb HPB.out).mono ?_
            rintro e w7 ⟨vb, rfl, hB7, h7⟩
            obtain ⟨rB, rc2, rfl, -⟩ := id hB7.out
            have b7 : Below w5.heap.size w5 w7 := bt b6 h7
            clear h7 hB7
            refine hK.out _ _ (SK.out _ b7) (fun hHeld => ?_)
            clear hK K
            try simp only [Act.put, List.setIfInBounds_toArray, List.set_cons_zero, List.set_cons_succ]
            refine wpAnyH_take (i := 7) (oi := ⟨some 62, _, _, _, _, _⟩) (v := .tuple #[.slice rB rb.length rc2, .int .i64 eb]) rfl (by kernel_rfl) (by kernel_rfl) (by kernel_rfl) (fun _ _ _ h => h) (Or.inl ⟨by rfl, ?_⟩) hHeld ?_
            · intro u hu
              go_simp
            try simp only [Act.put, List.setIfInBounds_toArray, List.set_cons_zero, List.set_cons_succ]
            refine wpAnyH_take (i := 8) (oi := ⟨some 70, _, _, _, _, _⟩) (v := .slice rB rb.length rc2) rfl (by kernel_rfl) (by kernel_rfl) (by kernel_rfl) (fun _ _ _ h => h) (Or.inl ⟨by rfl, ?_⟩) hHeld ?_
            · intro u hu
              go_simp
            try simp only [Act.put, List.setIfInBounds_toArray, List.set_cons_zero, List.set_cons_succ]
            refine wpAnyH_take (i := 9) (oi := ⟨some 71, _, _, _, _, _⟩) (v := .int .i64 eb) rfl (by kernel_rfl) (by kernel_rfl) (by kernel_rfl) (fun _ _ _ h => h) (Or.inl ⟨by rfl, ?_⟩) hHeld ?_
            · intro u hu
              go_simp
            try simp only [Act.put, List.setIfInBounds_toArray, List.set_cons_zero, List.set_cons_succ]
            refine wpAnyH_take (i := 10) (oi := ⟨some 11, _, _, _, _, _⟩) (v := .slice rB rb.length rc2) rfl (by kernel_rfl) (by kernel_rfl) (by kernel_rfl) (fun _ _ _ h => h) (Or.inl ⟨by rfl, ?_⟩) hHeld ?_
            · intro u hu
              go_simp
            try simp only [Act.put, List.setIfInBounds_toArray, List.set_cons_zero, List.set_cons_succ]
            refine wpAnyH_take (i := 11) (oi := ⟨some 12, _, _, _, _, _⟩) (v := .int .i64 eb) rfl (by kernel_rfl) (by kernel_rfl) (by kernel_rfl) (fun _ _ _ h => h) (Or.inl ⟨by rfl, ?_⟩) hHeld ?_
            · intro u hu
              go_simp
            try simp only [Act.put, List.setIfInBounds_toArray, List.set_cons_zero, List.set_cons_succ]
            refine wpAnyH_done (by kernel_rfl) ?_ _
            clear hHeld
            have HB7 := hid (bt HS5.out.bel b7)
            obtain ⟨hea, heb, hra, hrr⟩ := HO.out
            clear hHeld
            by_cases e1 : ea = 2
            · have q1 : ((ea : Int) != 0) = true := by rw [e1]; rfl
              have q2 : ((ea : Int) == 2) = true := by rw [e1]; rfl
              clear e1 hea heb hra hrr
              go_wp2
              go_ret
              exact ⟨rfl, HB7.out⟩
            · have e0 : ea = 0 := hea.resolve_left e1
              have q1 : ((ea : Int) != 0) = false := by rw [e0]; rfl
              have q2 : ((ea : Int) == 2) = false := by rw [e0]; rfl
              clear e1 e0 hea
              by_cases f1 : eb = 2
              · have q3 : ((eb : Int) != 0) = true := by rw [f1]; rfl
                have q4 : ((eb : Int) == 2) = true := by rw [f1]; rfl
                clear f1 heb hra hrr
                go_wp2
                go_ret
                exact ⟨rfl, HB7.out⟩
              · have f0 : eb = 0 := heb.resolve_left f1
                have q3 : ((eb : Int) != 0) = false := by rw [f0]; rfl
                have q4 : ((eb : Int) == 2) = false := by rw [f0]; rfl
                clear f1 f0 heb
                have q5 : decide ((ra.length : Int) ≤ 1) = true := decide_eq_true (by omega)
                by_cases g0 : ra = []
                · have q6 : ((ra.length : Int) == 0) = true := by rw [g0]; rfl
                  clear g0 hra hrr
                  go_wp2
                  go_ret
                  exact ⟨rfl, HB7.out⟩
                · have q6 : ((ra.length : Int) == 0) = false := by
                    rw [beq_eq_false_iff_ne]; intro h; exact g0 (List.length_eq_zero_iff.1 (by omega))
                  have q7 : ((rb.length : Int) == 0) = true := by rw [hrr.resolve_left g0]; rfl
                  clear g0 hra hrr
                  go_wp2
                  go_ret
                  exact ⟨rfl, HB7.out⟩

end Fm
end Go.Proofs.YtcaiejbnhjiflaaGreatDoor
