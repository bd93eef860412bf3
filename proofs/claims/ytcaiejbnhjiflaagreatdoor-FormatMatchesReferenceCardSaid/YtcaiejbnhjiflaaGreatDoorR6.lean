/-
  Contracts of counts and less.
-/
import Derived.Test.YtcaiejbnhjiflaaGreatDoorR5
import Derived.Test.YtcaiejbnhjiflaaGreatDoorW13
import Derived.Test.YtcaiejbnhjiflaaGreatDoorMp
namespace Go.Proofs.YtcaiejbnhjiflaaGreatDoor
open Go.RowKit Go.ChangeMaps
namespace Fm

def nV (n : Nat) : Value := .int .i64 (n : Int)
abbrev RdI (w : World) (A : Option Addr) (ns : List Nat) (cap : Nat) : Prop := SlR w A ns.length cap 1 (ns.map nV)
def IsI (w : World) (v : Value) (ns : List Nat) : Prop := ∃ A cap, v = .slice A ns.length cap ∧ RdI w A ns cap
theorem IsI.on {w w' : World} {v : Value} {ns : List Nat} (h : IsI w v ns) (hb : Below w.heap.size w w') : IsI w' v ns := by
  obtain ⟨A, cap, e, h⟩ := h; exact ⟨A, cap, e, h.on hb⟩
theorem lt_cons {a b : Nat} {l r : List Nat} : ltL (a :: l) (b :: r) ↔ a < b ∨ (a = b ∧ ltL l r) := Iff.rfl
theorem lt_next {us vs : List Nat} {k : Nat} (h : ltL (us.drop k) (vs.drop k)) : k < vs.length ∧ (us.length ≤ k ∨ ∃ a b, us[k]? = some a ∧ vs[k]? = some b ∧ (a < b ∨ (a = b ∧ ltL (us.drop (k + 1)) (vs.drop (k + 1))))) := by
  have hb : k < vs.length := by
    rcases Nat.lt_or_ge k vs.length with h1 | h1
    · exact h1
    · rw [List.drop_eq_nil_of_le h1] at h
      exact absurd h (by cases us.drop k <;> exact fun x => x)
  refine ⟨hb, ?_⟩
  rcases Nat.lt_or_ge k us.length with h1 | h1
  · right
    rw [List.drop_eq_getElem_cons h1, List.drop_eq_getElem_cons hb] at h
    exact ⟨_, _, List.getElem?_eq_getElem h1, List.getElem?_eq_getElem hb, lt_cons.1 h⟩
  · exact .inl h1

set_option maxRecDepth 100000 in
set_option maxHeartbeats 8000000 in
theorem less_any (va vb : Value) (us vs : List Nat) (w : World) (ha : IsI w va us) (hb : IsI w vb vs) (hu : us.length ≤ 100000) (hm : ∀ n ∈ us, n ≤ 1000) (hn : ∀ n ∈ vs, n ≤ 1000) (h : ltL us vs) :
    Calls Tryz.prog 24 #[va, vb] w fun e w' => e = .returned (.bool true) ∧ Below w.heap.size w w' := by
  obtain ⟨pa, ca, rfl, hA⟩ := ha
  obtain ⟨pb, cb, rfl, hB⟩ := hb
  have HA := hid hA
  have HB := hid hB
  have HM := hid hm
  have HN := hid hn
  have H := hid h
  clear hA hB hm hn h
  go_enter Tryz.func24, Tryz.ntmps24
  go_wp2
  go_loopw [5] (fun i wr => ∃ k : Nat, k ≤ us.length ∧ i = .int .i64 k ∧ Hid (ltL (us.drop k) (vs.drop k)) ∧ Below w.heap.size w wr) (fun i _ => us.length - (intOf i).toNat)
  case atStart => exact ⟨0, Nat.zero_le _, rfl, H, Below.refl _ _⟩
  case round =>
    obtain ⟨k, hk, rfl, hR, hbr⟩ := hrel
    obtain ⟨hkb, hway⟩ := lt_next hR.out
    have hi2 : (k : Int) < (vs.length : Int) := by omega
    have hi0 : 0 ≤ (k : Int) := by omega
    have db : decide ((k : Int) < (vs.length : Int)) = true := decide_eq_true hi2
    rcases hway with hge | ⟨a, b, ea, eb, hab⟩
    · have da : decide ((k : Int) < (us.length : Int)) = false := decide_eq_false (by omega)
      have hlt : (us.length : Int) < (vs.length : Int) := by omega
      go_wp2
      go_ret
      exact ⟨rfl, hbr⟩
    · have hka := (List.getElem?_eq_some_iff.1 ea).1
      have hi1 : (k : Int) < (us.length : Int) := by omega
      have da : decide ((k : Int) < (us.length : Int)) = true := decide_eq_true hi1
      obtain ⟨ga, oa, rfl, hga, ca1⟩ := (HA.out.on hbr).at (k := k) (u := nV a) (by rw [List.getElem?_map, ea]; rfl)
      obtain ⟨gb, ob, rfl, hgb, cb1⟩ := (HB.out.on hbr).at (k := k) (u := nV b) (by rw [List.getElem?_map, eb]; rfl)
      unfold nV at ca1 cb1
      rcases hab with hlt | ⟨heq, hnx⟩
      · have hne : ((a : Int) != (b : Int)) = true := by simp; omega
        have hlt' : (a : Int) < (b : Int) := by omega
        have dab : decide ((a : Int) < (b : Int)) = true := decide_eq_true hlt'
        clear ea eb hlt
        go_wp2
        go_quiet (fail)
        go_wp2
        go_quiet (fail)
        go_wp2
        go_ret
        exact ⟨rfl, below_drewN (below_drewN hbr _) _⟩
      · subst heq
        have HNX := hid hnx
        clear ea eb hnx
        go_wp2
        go_quiet (fail)
        go_wp2
        go_roundw
        case rel => exact ⟨k + 1, by omega, by go_num, HNX, below_drewN hbr _⟩
        case measure => simp [intOf]; omega

def PartsOwn (fs : List (List Pt)) (w : World) (e : Ending) (w' : World) : Prop := ∃ v, e = .returned v ∧ Hid (w'.ownsRow w.heap.size 49 2 v fs.flatten.length (fs.flatten.flatMap ptV)) ∧ Below w.heap.size w w'
set_option maxRecDepth 100000 in
set_option maxHeartbeats 8000000 in
theorem parts_own (name : W) (fs : List (List Pt)) (fv : Value) (w : World) (hF : IsPs w fv fs) (h10 : fs.length ≤ 10) (hp : ∀ ps ∈ fs, ps.length ≤ 10) :
    Calls Tryz.prog 29 #[.agg #[.string (sB name), fv]] w (PartsOwn fs w) := by
  obtain ⟨A, cap, fvs, hfv, -⟩ := id hF
  subst hfv
  have HF := hid hF
  have HP := hid hp
  clear hF hp
  obtain ⟨i0, hi0, hz0, hz1, hz2⟩ := info_parts infoPt
  obtain ⟨s, hs⟩ : ∃ s, s = sB name := ⟨_, rfl⟩
  rw [← hs]
  clear hs
  obtain ⟨w1, hw1⟩ : ∃ w1, w1 = w.alloc (.cells #[.string s, .slice A fs.length cap] 24) := ⟨_, rfl⟩
  have hb1 : Below w.heap.size w w1 := by rw [hw1]; exact b0 _ _
  have hsz1 : w.heap.size < w1.heap.size := by rw [hw1]; simp
  have H1 : Hid (w.heap.size + 1 = w1.heap.size) := by show _ = _; rw [hw1]; simp
  have c1 : w1.cell? ⟨w.heap.size, 1, none⟩ = some (.slice A fs.length cap) := by rw [hw1]; simp
  have HB1 := hid hb1
  have HF1 := hid (HF.out.on hb1)
  clear hb1
  go_enter Tryz.func29, Tryz.ntmps29
  go_wp2
  rw [← hw1]
  clear hw1
  go_loopw [3, 4] (fun o i wr => ∃ k : Nat, k ≤ fs.length ∧ i = .int .i64 k ∧ Hid (wr.ownsRow w1.heap.size 49 2 o (fs.take k).flatten.length ((fs.take k).flatten.flatMap ptV)) ∧ Hid (Below w1.heap.size w1 wr)) (fun _ i _ => fs.length - (intOf i).toNat)
  case atStart => exact ⟨0, Nat.zero_le _, rfl, by show World.ownsRow _ _ _ _ _ _ _; exact own_empty2 w1 _ (w.heap.size + 1) 2 (Nat.le_of_eq H1.out.symm) H1.out _, b0 _ _⟩
  case round =>
    obtain ⟨k, hk, rfl, ho, hB⟩ := hrel
    have c1r := (hB.out.cell (p := (⟨w.heap.size, 1, none⟩ : Addr)) hsz1).trans c1
    have hwz := hB.out.size
    have hltr : w.heap.size < wr.heap.size := Nat.lt_of_lt_of_le hsz1 hwz
    by_cases hlt : k < fs.length
    · obtain ⟨ps, hps⟩ : ∃ ps, fs[k]? = some ps := ⟨_, List.getElem?_eq_getElem hlt⟩
      obtain ⟨g, o, A', cap', rfl, hg, hc, hR⟩ := isPs_at (HF1.out.on hB.out) hps
      have hkk : (k : Int) < (fs.length : Int) := by omega
      have hk0 : 0 ≤ (k : Int) := by omega
      have hle := flat_le HP.out k
      have hp10 := HP.out ps (List.mem_of_getElem? hps)
      have hsn := hid (flat_snoc hps)
      have HR := hid hR
      have hfl := flat_len ps
      clear hR hps
      have hfin : ∀ (v' : Value) (w4 : World), w4.ownsRow w1.heap.size 49 2 v' ((fs.take k).flatten.length + ps.length) ((fs.take k).flatten.flatMap ptV ++ ps.flatMap ptV) → Hid (w4.ownsRow w1.heap.size 49 2 v' (fs.take (k + 1)).flatten.length ((fs.take (k + 1)).flatten.flatMap ptV)) := fun v' w4 h => by
        show World.ownsRow _ _ _ _ _ _ _
        rw [hsn.out, List.length_append, List.flatMap_append]; exact h
      have HFIN := hid hfin
      clear hfin hfl
      cases A' with
      | none =>
        have h0 : ps.length = 0 := by
          rcases Nat.eq_zero_or_pos ps.length with h | h
          · exact h
          · obtain ⟨_, _, e, _⟩ := HR.out.2.2 h; cases e
        have hps0 : ps = [] := List.length_eq_zero_iff.1 h0
        subst hps0
        go_wp2_with (at_builtin; refine wp_app_nil rfl (.tmp 13) (.tmp 18) 47 rfl 49 i0 Tryz.underlying47 hi0 _ _ _ u3 _ rfl ho.out cap' rfl ?_)
        go_roundw
        case rel => exact ⟨k + 1, by omega, by go_num, HFIN.out _ _ (by simpa using ho.out), hB⟩
        case measure => simp [intOf]; omega
      | some a' =>
        have hnews : ∀ (j : Nat) u, (ps.flatMap ptV)[j]? = some u → wr.cell? (a'.add j) = some u := by
          intro j u hj
          have hpos : 0 < ps.length := by
            rcases Nat.eq_zero_or_pos ps.length with h | h
            · rw [List.length_eq_zero_iff.1 h] at hj; simp at hj
            · exact h
          obtain ⟨g2, o2, e, _, hcc⟩ := HR.out.2.2 hpos
          cases e
          rw [addr_add]
          exact hcc j u hj
        have HNEWS := hid hnews
        clear hnews
        go_wp2_with (at_builtin; refine wpList_append_own _ rfl (.tmp 13) (.tmp 18) 47 rfl w1.heap.size 49 i0 _ 2 24 Tryz.underlying47 hi0 hz0 hz1 hz2 rfl (by decide) u3 (fs.take k).flatten.length _ rfl ho.out a' ps.length cap' (ps.flatMap ptV) rfl (flat_len ps) HNEWS.out (one_parts ps) (by unfold maxLen; omega) (by omega) hwz ?_; intro v' w4 hown4 hgrow hnil)
        have HO4 := HFIN.out _ _ hown4
        have HB4 := hid (Below.grown hB.out hgrow hwz (fun j e => (ho.out.lt j e).1))
        clear hown4 hgrow hnil
        go_wp2
        go_roundw
        case rel => exact ⟨k + 1, by omega, by go_num, HO4, HB4⟩
        case measure => simp [intOf]; omega
    · obtain rfl : k = fs.length := by omega
      have HO : Hid (wr.ownsRow w1.heap.size 49 2 u3 fs.flatten.length (fs.flatten.flatMap ptV)) := by
        have := ho.out
        rw [List.take_length] at this; exact this
      clear ho
      go_wp2
      go_ret
      exact ⟨_, rfl, ownsRow_le' HO.out HB1.out.size, bt HB1.out hB.out⟩

/-- The counts, part after part. -/
theorem cnts_snoc {ps : List Pt} {k : Nat} {p : Pt} {x : Ad} (h : ps[k]? = some p) : cnts (ps.take (k + 1)) x = cnts (ps.take k) x ++ if sevB p = true then [(ownW x p).length] else [] := by
  unfold cnts
  rw [List.take_add_one, h, List.filter_append, List.map_append]
  by_cases hs : sevB p = true <;> simp [hs]
theorem cnts_le (ps : List Pt) (x : Ad) : (cnts ps x).length ≤ ps.length := by
  unfold cnts; rw [List.length_map]; exact List.length_filter_le _ _
theorem infoInt : (Tryz.prog.info? 3).map (fun i => (i.zero, i.size, i.bytes)) = some (some (.int .i64 0), 1, 8) := by kernel_rfl
theorem own4 (x : Ad) (p : Pt) (h : p.k = 4) : sevB p = true ∧ ownW x p = wordsL x.street := by rw [own_show]; unfold showT sevB; simp [h]
theorem own5 (x : Ad) (p : Pt) (h : p.k = 5) : sevB p = true ∧ ownW x p = wordsL x.town := by rw [own_show]; unfold showT sevB; simp [h]
theorem own6 (x : Ad) (p : Pt) (h : p.k = 6) : sevB p = true ∧ ownW x p = wordsL x.person := by rw [own_show]; unfold showT sevB; simp [h]
theorem own_no (p : Pt) (h : p.k ≤ 3) : sevB p = false := by unfold sevB; simp; omega
theorem hpk'' (w : World) (o : Obj) (k : Nat) : (w.alloc o).heap[k]? = if k = w.heap.size then some o else w.heap[k]? := by
  simp [World.alloc, -World.alloc_eq, Array.getElem?_push]
def CountsPost (ns : List Nat) (w : World) (e : Ending) (w' : World) : Prop := ∃ v, e = .returned v ∧ Hid (IsI w' v ns) ∧ Below w.heap.size w w'

set_option maxRecDepth 100000 in
set_option maxHeartbeats 16000000 in
theorem counts_any (name : W) (fs : List (List Pt)) (fv : Value) (x : Ad) (w : World) (hF : IsPs w fv fs) (h10 : fs.length ≤ 10) (hp : ∀ ps ∈ fs, ps.length ≤ 10) (hk : ∀ p ∈ fs.flatten, 1 ≤ p.k ∧ p.k ≤ 6) (hx1 : x.person.length ≤ 1000) (hx2 : x.street.length ≤ 1000) (hx3 : x.town.length ≤ 1000) :
    Calls Tryz.prog 25 #[.agg #[.string (sB name), fv], adV x] w (CountsPost (cnts fs.flatten x) w) := by
  obtain ⟨A, cap, fvs, hfv, -⟩ := id hF
  subst hfv
  obtain ⟨w1, hw1⟩ : ∃ w1, w1 = (w.alloc (.cells #[.string (sB name), .slice A fs.length cap] 24)).alloc (.cells #[.string (sB x.person), .string (sB x.street), .int .i64 x.number, .string (sB x.code), .string (sB x.town)] 27) := ⟨_, rfl⟩
  have hb1 : Below w.heap.size w w1 := by rw [hw1]; exact (b0 _ _).alloc (by simp) _
  have HX1 : Hid (XB w1 (w.heap.size + 1) x) := by
    show XB _ _ _
    rw [hw1]; unfold XB; rw [hpk'', if_pos (World.size_alloc w _).symm]
  have c0 : w1.cell? ⟨w.heap.size, 0, none⟩ = some (.string (sB name)) := by rw [hw1]; simp
  have c1 : w1.cell? ⟨w.heap.size, 1, none⟩ = some (.slice A fs.length cap) := by rw [hw1]; simp
  have hsz1 : w.heap.size + 1 < w1.heap.size := by rw [hw1]; simp
  have H1 : Hid (w.heap.size + 1 + 1 = w1.heap.size) := by show _ = _; rw [hw1]; simp
  have HB1 := hid hb1
  have hfl := flat_le hp fs.length
  rw [List.take_length] at hfl
  obtain ⟨qs, hqs⟩ : ∃ qs, qs = fs.flatten := ⟨_, rfl⟩
  have CP : Hid (∀ u, Below w.heap.size w u → Calls Tryz.prog 29 #[.agg #[.string (sB name), .slice A fs.length cap]] u fun e w' => ∃ v, e = .returned v ∧ Hid (w'.ownsRow u.heap.size 49 2 v qs.length (qs.flatMap ptV)) ∧ Below u.heap.size u w') := fun u hu => by
    rw [hqs]; exact parts_own name fs (.slice A fs.length cap) u (hF.on hu) h10 hp
  rw [← hqs] at hfl hk ⊢
  have HK := hid hk
  obtain ⟨nm, hnm⟩ : ∃ nm, nm = sB name := ⟨_, rfl⟩
  rw [← hnm] at hw1 c0 CP ⊢
  obtain ⟨i0, hi0, hz0, hz1, hz2⟩ := info_parts infoInt
  clear hqs hb1 hF hk hp hnm
  unfold adV
  go_enter Tryz.func25, Tryz.ntmps25
  go_wp2_with fail
  rw [← hw1]
  clear hw1
  refine (CP.out _ (bt HB1.out (b0 _ _))).mono ?_
  rintro e w3 ⟨v, rfl, hV, hb3⟩
  obtain ⟨vA, vcap, rfl, -⟩ := SlR.of_own hV.out
  have HVO := hid (ownsRow_le' hV.out (show w1.heap.size ≤ _ from (b0 w1 _).size))
  have HB3 := hid (Below.trans (b0 w1 _) (hb3.mono (b0 w1 _).size))
  have HO3 : Hid (w3.ownsRow w1.heap.size 3 1 (.slice (some ⟨w.heap.size + 1 + 1, 0, none⟩) 0 0) 0 []) := own_below (own_empty w1 _ (w.heap.size + 1 + 1) (Nat.le_of_eq H1.out.symm) H1.out 3) hb3
  clear hb3 hV c0 c1 CP
  go_wp2
  go_loopw [5, 7] (fun o i wr => ∃ k : Nat, k ≤ qs.length ∧ i = .int .i64 k ∧ Hid (wr.ownsRow w1.heap.size 3 1 o (cnts (qs.take k) x).length ((cnts (qs.take k) x).map nV)) ∧ Hid (wr.ownsRow w1.heap.size 49 2 (.slice vA qs.length vcap) qs.length (qs.flatMap ptV)) ∧ Hid (Below w1.heap.size w1 wr)) (fun _ i _ => qs.length - (intOf i).toNat)
  case atStart => exact ⟨0, Nat.zero_le _, rfl, HO3, HVO, HB3⟩
  case round =>
    obtain ⟨k, hk, rfl, ho, hvo, hB⟩ := hrel
    have HX := hid (HX1.out.on hB.out)
    obtain ⟨x0, x1, x2, x3, x4⟩ := HX.out.cell
    have hlX : w.heap.size + 1 < wr.heap.size := heap_lt HX.out
    have hcl := cnts_le (qs.take k) x
    rw [List.length_take] at hcl
    by_cases hlt : k < qs.length
    · obtain ⟨p, hp⟩ : ∃ p, qs[k]? = some p := ⟨_, List.getElem?_eq_getElem hlt⟩
      obtain ⟨vA', vcap', hve, hvR⟩ := SlR.of_own hvo.out
      cases hve
      obtain ⟨g, o, rfl, hg, hc, -⟩ := RdP.at hvR hp
      have hki := HK.out p (List.mem_of_getElem? hp)
      have hkk : (k : Int) < (qs.length : Int) := by omega
      have hk0 : 0 ≤ (k : Int) := by omega
      have HPP := hid hp
      obtain ⟨kk, hkd⟩ : ∃ kk, kk = p.k := ⟨_, rfl⟩
      rw [← hkd] at hc hki
      clear hp hvR
      by_cases hk4 : kk = 4
      · have q4 : (kk == 4) = true := by simp [hk4]
        have HOW := hid (own4 x p (hkd.symm.trans hk4))
        have CW : Hid (∀ u, Calls Tryz.prog 18 #[.string (sB x.street)] u (RWords x.street u)) := fun u => by have := rwords_any (sB x.street) u (by rw [sB_size]; omega); rwa [sB_list] at this
        have hwl := words_len x.street
        go_wp2_with fail
        refine (CW.out _).mono ?_
        rintro e w5 ⟨v5, rfl, hW5, hb5⟩
        obtain ⟨a5, c5, rfl, -⟩ := hW5
        have HO5 := hid (own_below ho.out hb5)
        have HV5 := hid (own_below hvo.out hb5)
        have HB5 := hid (hB.out.trans (hb5.mono hB.out.size))
        have HP5 := hid (hb5.size)
        have hw5 : w1.heap.size ≤ w5.heap.size := HB5.out.size
        clear hb5
        go_wp2_with (at_builtin; refine wpList_append_lies _ rfl (.tmp 24) (.tmp 29) 44 rfl w1.heap.size 3 i0 _ 1 8 Tryz.underlying44 hi0 hz0 hz1 hz2 rfl (by decide) u5 (cnts (qs.take k) x).length ((cnts (qs.take k) x).map nV) rfl (HO5.out.alloc _) ⟨w5.heap.size, 0, none⟩ 1 1 [.int .i64 ((wordsL x.street).length : Int)] rfl rfl (cell_one_new w5 _ _) (by simp [Value.oneCell']) (by omega) (by unfold maxLen; omega) (by omega) (by simp; omega) (w5.heap.size + 1) (by simp) ?_; intro gg cap2 w6 hown6 hgrow hat hlt6)
        have HO6 : Hid (w6.ownsRow w1.heap.size 3 1 (.slice (some ⟨gg, 0, none⟩) ((cnts (qs.take k) x).length + 1) cap2) (cnts (qs.take (k + 1)) x).length ((cnts (qs.take (k + 1)) x).map nV)) := by
          show World.ownsRow _ _ _ _ _ _ _
          rw [cnts_snoc HPP.out, if_pos HOW.out.1, HOW.out.2, List.length_append, List.map_append]; exact hown6
        have HB6 := hid (grow_below (b0 := w1.heap.size) HB5.out (Nat.le_refl _) hw5 HO5.out hgrow)
        have HV6 := hid ((HV5.out.alloc (.cells #[.int .i64 ((wordsL x.street).length : Int)] 3)).kept hgrow (own_apart HV5.out HO5.out (by decide)))
        clear hown6 hgrow hat hlt6
        go_roundw
        case rel => exact ⟨k + 1, by omega, by go_num, HO6, HV6, HB6⟩
        case measure => simp [intOf]; omega
      · have q4 : (kk == 4) = false := by simp; exact hk4
        by_cases hk5 : kk = 5
        · have q5 : (kk == 5) = true := by simp [hk5]
          have HOW := hid (own5 x p (hkd.symm.trans hk5))
          have CW : Hid (∀ u, Calls Tryz.prog 18 #[.string (sB x.town)] u (RWords x.town u)) := fun u => by have := rwords_any (sB x.town) u (by rw [sB_size]; omega); rwa [sB_list] at this
          have hwl := words_len x.town
          go_wp2_with fail
          refine (CW.out _).mono ?_
          rintro e w5 ⟨v5, rfl, hW5, hb5⟩
          obtain ⟨a5, c5, rfl, -⟩ := hW5
          have HO5 := hid (own_below ho.out hb5)
          have HV5 := hid (own_below hvo.out hb5)
          have HB5 := hid (hB.out.trans (hb5.mono hB.out.size))
          have HP5 := hid (hb5.size)
          have hw5 : w1.heap.size ≤ w5.heap.size := HB5.out.size
          clear hb5
          go_wp2_with (at_builtin; refine wpList_append_lies _ rfl (.tmp 33) (.tmp 38) 44 rfl w1.heap.size 3 i0 _ 1 8 Tryz.underlying44 hi0 hz0 hz1 hz2 rfl (by decide) u5 (cnts (qs.take k) x).length ((cnts (qs.take k) x).map nV) rfl (HO5.out.alloc _) ⟨w5.heap.size, 0, none⟩ 1 1 [.int .i64 ((wordsL x.town).length : Int)] rfl rfl (cell_one_new w5 _ _) (by simp [Value.oneCell']) (by omega) (by unfold maxLen; omega) (by omega) (by simp; omega) (w5.heap.size + 1) (by simp) ?_; intro gg cap2 w6 hown6 hgrow hat hlt6)
          have HO6 : Hid (w6.ownsRow w1.heap.size 3 1 (.slice (some ⟨gg, 0, none⟩) ((cnts (qs.take k) x).length + 1) cap2) (cnts (qs.take (k + 1)) x).length ((cnts (qs.take (k + 1)) x).map nV)) := by
            show World.ownsRow _ _ _ _ _ _ _
            rw [cnts_snoc HPP.out, if_pos HOW.out.1, HOW.out.2, List.length_append, List.map_append]; exact hown6
          have HB6 := hid (grow_below (b0 := w1.heap.size) HB5.out (Nat.le_refl _) hw5 HO5.out hgrow)
          have HV6 := hid ((HV5.out.alloc (.cells #[.int .i64 ((wordsL x.town).length : Int)] 3)).kept hgrow (own_apart HV5.out HO5.out (by decide)))
          clear hown6 hgrow hat hlt6
          go_roundw
          case rel => exact ⟨k + 1, by omega, by go_num, HO6, HV6, HB6⟩
          case measure => simp [intOf]; omega
        · have q5 : (kk == 5) = false := by simp; exact hk5
          by_cases hk6 : kk = 6
          · have q6 : (kk == 6) = true := by simp [hk6]
            have HOW := hid (own6 x p (hkd.symm.trans hk6))
            have CW : Hid (∀ u, Calls Tryz.prog 18 #[.string (sB x.person)] u (RWords x.person u)) := fun u => by have := rwords_any (sB x.person) u (by rw [sB_size]; omega); rwa [sB_list] at this
            have hwl := words_len x.person
            go_wp2_with fail
            refine (CW.out _).mono ?_
            rintro e w5 ⟨v5, rfl, hW5, hb5⟩
            obtain ⟨a5, c5, rfl, -⟩ := hW5
            have HO5 := hid (own_below ho.out hb5)
            have HV5 := hid (own_below hvo.out hb5)
            have HB5 := hid (hB.out.trans (hb5.mono hB.out.size))
            have HP5 := hid (hb5.size)
            have hw5 : w1.heap.size ≤ w5.heap.size := HB5.out.size
            clear hb5
            go_wp2_with (at_builtin; refine wpList_append_lies _ rfl (.tmp 42) (.tmp 47) 44 rfl w1.heap.size 3 i0 _ 1 8 Tryz.underlying44 hi0 hz0 hz1 hz2 rfl (by decide) u5 (cnts (qs.take k) x).length ((cnts (qs.take k) x).map nV) rfl (HO5.out.alloc _) ⟨w5.heap.size, 0, none⟩ 1 1 [.int .i64 ((wordsL x.person).length : Int)] rfl rfl (cell_one_new w5 _ _) (by simp [Value.oneCell']) (by omega) (by unfold maxLen; omega) (by omega) (by simp; omega) (w5.heap.size + 1) (by simp) ?_; intro gg cap2 w6 hown6 hgrow hat hlt6)
            have HO6 : Hid (w6.ownsRow w1.heap.size 3 1 (.slice (some ⟨gg, 0, none⟩) ((cnts (qs.take k) x).length + 1) cap2) (cnts (qs.take (k + 1)) x).length ((cnts (qs.take (k + 1)) x).map nV)) := by
              show World.ownsRow _ _ _ _ _ _ _
              rw [cnts_snoc HPP.out, if_pos HOW.out.1, HOW.out.2, List.length_append, List.map_append]; exact hown6
            have HB6 := hid (grow_below (b0 := w1.heap.size) HB5.out (Nat.le_refl _) hw5 HO5.out hgrow)
            have HV6 := hid ((HV5.out.alloc (.cells #[.int .i64 ((wordsL x.person).length : Int)] 3)).kept hgrow (own_apart HV5.out HO5.out (by decide)))
            clear hown6 hgrow hat hlt6
            go_roundw
            case rel => exact ⟨k + 1, by omega, by go_num, HO6, HV6, HB6⟩
            case measure => simp [intOf]; omega
          · have q6 : (kk == 6) = false := by simp; exact hk6
            have hno := own_no p (by omega)
            have HO6 : Hid (wr.ownsRow w1.heap.size 3 1 u5 (cnts (qs.take (k + 1)) x).length ((cnts (qs.take (k + 1)) x).map nV)) := by
              show World.ownsRow _ _ _ _ _ _ _
              rw [cnts_snoc HPP.out, if_neg (by rw [hno]; simp), List.append_nil]; exact ho.out
            go_wp2
            go_roundw
            case rel => exact ⟨k + 1, by omega, by go_num, HO6, hvo, hB⟩
            case measure => simp [intOf]; omega
    · obtain rfl : k = qs.length := by omega
      have HO : Hid (wr.ownsRow w1.heap.size 3 1 u5 (cnts qs x).length ((cnts qs x).map nV)) := by
        have := ho.out
        rw [List.take_length] at this; exact this
      clear ho
      go_wp2
      go_ret
      obtain ⟨A2, cap2, e2, h2⟩ := SlR.of_own HO.out
      exact ⟨_, rfl, ⟨A2, cap2, e2, h2⟩, HB1.out.trans (hB.out.mono HB1.out.size)⟩

end Fm
end Go.Proofs.YtcaiejbnhjiflaaGreatDoor
