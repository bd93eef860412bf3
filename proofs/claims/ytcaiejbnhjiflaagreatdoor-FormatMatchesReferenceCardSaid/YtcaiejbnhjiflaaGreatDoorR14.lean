/-
  The contract of the document's Fits.
-/
import Derived.Test.YtcaiejbnhjiflaaGreatDoorR12
import Derived.Test.YtcaiejbnhjiflaaGreatDoorR13
import Derived.Test.YtcaiejbnhjiflaaGreatDoorR8
import Derived.Test.YtcaiejbnhjiflaaGreatDoorR6
import Derived.Test.YtcaiejbnhjiflaaGreatDoorMo
import Derived.Deep.RegionHeld3
import Derived.Deep.DeepCutAuto
namespace Go.Proofs.YtcaiejbnhjiflaaGreatDoor
open Go.RowKit Go.ChangeMaps
namespace Fm

theorem kin_has (ps : List Pt) (k : Int) : kinB ps k = !decide (hasN ps k = 0) := by
  unfold kinB hasN
  induction ps with
  | nil => rfl
  | cons p ps ih =>
    rw [List.any_cons, ih]
    by_cases h : p.k = k
    · rw [decide_eq_true h, Bool.true_or, List.filter_cons_of_pos (by simpa using h), List.length_cons]; simp
    · rw [decide_eq_false h, Bool.false_or, List.filter_cons_of_neg (by simpa using h)]
theorem void_no {ps : List Pt} {k : Int} (h : hasN ps k = 0) : kinB ps k = false := by rw [kin_has, h]; rfl
theorem void_yes {ps : List Pt} {k : Int} (h : ¬ hasN ps k = 0) : kinB ps k = true := by rw [kin_has]; simp [h]
theorem or_yes {a b : Bool} (h : a = true) : (a || b) = true := by rw [h]; rfl
theorem or_two {a b : Bool} (h : b = true) : (a || b) = true := by rw [h, Bool.or_true]
theorem or_none {a b : Bool} (h : a = false) (g : b = false) : (a || b) = false := by rw [h, g]; rfl
theorem fit_snoc {x : Ad} {ps : List Pt} {j : Nat} {p : Pt} (h : ps[j]? = some p) (ha : (ps.take j).all (fitP x) = true) (hp : fitP x p = true) : (ps.take (j + 1)).all (fitP x) = true := by
  rw [List.take_add_one, h, List.all_append, ha]; simp [hp]
theorem all_not {x : Ad} {ps : List Pt} {j : Nat} {p : Pt} (h : ps[j]? = some p) (hp : fitP x p = false) : ps.all (fitP x) = false := by
  rw [Bool.eq_false_iff]; intro ha
  rw [List.all_eq_true] at ha
  have := ha p (List.mem_of_getElem? h)
  rw [hp] at this; cases this

set_option maxRecDepth 100000 in
set_option maxHeartbeats 32000000 in
theorem rfits_any (name : W) (fs : List (List Pt)) (fv : Value) (x : Ad) (w : World) (hF : IsPs w fv fs) (h10 : fs.length ≤ 10) (hp : ∀ ps ∈ fs, ps.length ≤ 10) (ht : ∀ p ∈ fs.flatten, p.t.length ≤ 1000) (hx : Small x) :
    Calls Tryz.prog 22 #[.agg #[.string (sB name), fv], adV x] w fun e w' => e = .returned (.bool (fitsB fs.flatten x)) ∧ Below w.heap.size w w' := by
  obtain ⟨A, cap, fvs, hfv, -⟩ := id hF
  subst hfv
  obtain ⟨w1, hw1⟩ : ∃ w1, w1 = (w.alloc (.cells #[.string (sB name), .slice A fs.length cap] 24)).alloc (.cells #[.string (sB x.person), .string (sB x.street), .int .i64 x.number, .string (sB x.code), .string (sB x.town)] 27) := ⟨_, rfl⟩
  have hb1 : Below w.heap.size w w1 := by rw [hw1]; exact (b0 _ _).alloc (by simp) _
  have HF1 := hid (hF.on hb1)
  have HXB : Hid (w1.heap[w.heap.size + 1]? = some (.cells #[.string (sB x.person), .string (sB x.street), .int .i64 x.number, .string (sB x.code), .string (sB x.town)] 27 (0, 0))) := by
    show _ = _
    rw [hw1, show w.heap.size + 1 = (w.alloc (.cells #[.string (sB name), .slice A fs.length cap] 24)).heap.size from by simp]; exact heap_new _ _
  have HFB : Hid (w1.heap[w.heap.size]? = some (.cells #[.string (sB name), .slice A fs.length cap] 24 (0, 0))) := by
    show _ = _
    rw [hw1, ← heap_new w (.cells #[.string (sB name), .slice A fs.length cap] 24)]
    exact (b0 (w.alloc _) _).block _ (by simp)
  have HB1 := hid hb1
  have CP := hid (fun u (hu : Below w1.heap.size w1 u) => parts_any name fs (.slice A fs.length cap) u (HF1.out.on hu) h10 hp)
  have CH := hid (fun k u (hu : Below w1.heap.size w1 u) => rhas_any name fs (.slice A fs.length cap) k u (HF1.out.on hu) h10 hp)
  have hfl := flat_le hp fs.length
  rw [List.take_length] at hfl
  obtain ⟨r, hr⟩ : ∃ r, r = fitsB fs.flatten x := ⟨_, rfl⟩
  rw [← hr]
  obtain ⟨qs, hqs⟩ : ∃ qs, qs = fs.flatten := ⟨_, rfl⟩
  rw [← hqs] at hr CH hfl ht
  have CPq : Hid (∀ u, Below w1.heap.size w1 u → Calls Tryz.prog 29 #[.agg #[.string (sB name), .slice A fs.length cap]] u (fun e w' => ∃ v, e = .returned v ∧ Hid (IsP w' v qs) ∧ Below u.heap.size u w')) := fun u hu => by rw [hqs]; exact CP.out u hu
  have HR : Hid (r = (voidB qs x && qs.all (fitP x))) := hr
  have HT := hid ht
  have hx5 := hx.n0
  have hx6 := hx.n1
  have CS := hid (fun z u (h : z.length ≤ 1000) => rseveral_any z u h)
  have CU : Hid (∀ u, Calls Tryz.prog 23 #[.string (sB x.code)] u fun e w' => e = .returned (.string (sB (upL x.code))) ∧ Below u.heap.size u w') := fun u => rupper_any x.code u hx.c
  have CC : Hid (∀ (p : Pt), p ∈ qs → ∀ u, Calls Tryz.prog 44 #[.string (sB x.code), .string (sB p.t)] u fun e w' => e = .returned (.bool (codeW x.code p.t)) ∧ u = w') := fun p hp u => rcode_any (sB x.code) (sB p.t) u (by rw [sB_size]; have := hx.c; omega) (by rw [sB_size]; have := HT.out p hp; omega)
  have E3 : Hid (x.code = [] → (sB x.code).toList = [] ∧ (sB x.code).toList.isEmpty = true) := fun h => by rw [h, Lib.toList_data]; exact ⟨rfl, rfl⟩
  have G3 : Hid (¬ x.code = [] → ¬ (sB x.code).toList = [] ∧ (sB x.code).toList.isEmpty = false) := fun h => by rw [Lib.toList_data, sB_list]; exact ⟨h, by simp [h]⟩
  have E4 : Hid (x.street = [] → (sB x.street).toList = [] ∧ (sB x.street).toList.isEmpty = true) := fun h => by rw [h, Lib.toList_data]; exact ⟨rfl, rfl⟩
  have G4 : Hid (¬ x.street = [] → ¬ (sB x.street).toList = [] ∧ (sB x.street).toList.isEmpty = false) := fun h => by rw [Lib.toList_data, sB_list]; exact ⟨h, by simp [h]⟩
  have E5 : Hid (x.town = [] → (sB x.town).toList = [] ∧ (sB x.town).toList.isEmpty = true) := fun h => by rw [h, Lib.toList_data]; exact ⟨rfl, rfl⟩
  have G5 : Hid (¬ x.town = [] → ¬ (sB x.town).toList = [] ∧ (sB x.town).toList.isEmpty = false) := fun h => by rw [Lib.toList_data, sB_list]; exact ⟨h, by simp [h]⟩
  have E6 : Hid (x.person = [] → (sB x.person).toList = [] ∧ (sB x.person).toList.isEmpty = true) := fun h => by rw [h, Lib.toList_data]; exact ⟨rfl, rfl⟩
  have G6 : Hid (¬ x.person = [] → ¬ (sB x.person).toList = [] ∧ (sB x.person).toList.isEmpty = false) := fun h => by rw [Lib.toList_data, sB_list]; exact ⟨h, by simp [h]⟩
  obtain ⟨nm, hnm⟩ : ∃ nm, nm = sB name := ⟨_, rfl⟩
  obtain ⟨nn, hnn⟩ : ∃ v, v = x.number := ⟨_, rfl⟩
  rw [← hnn] at hw1 HXB hx5 hx6
  obtain ⟨bc, hbc⟩ : ∃ v, v = sB x.code := ⟨_, rfl⟩
  rw [← hbc] at hw1 HXB CU CC E3 G3
  obtain ⟨bs, hbs⟩ : ∃ v, v = sB x.street := ⟨_, rfl⟩
  rw [← hbs] at hw1 HXB E4 G4
  have CS4 : Hid (∀ u, Calls Tryz.prog 45 #[.string bs] u fun e w' => e = .returned (.bool (sevT x.street)) ∧ Below u.heap.size u w') := fun u => by rw [hbs]; exact CS.out _ u hx.s
  obtain ⟨bt_, hbt_⟩ : ∃ v, v = sB x.town := ⟨_, rfl⟩
  rw [← hbt_] at hw1 HXB E5 G5
  have CS5 : Hid (∀ u, Calls Tryz.prog 45 #[.string bt_] u fun e w' => e = .returned (.bool (sevT x.town)) ∧ Below u.heap.size u w') := fun u => by rw [hbt_]; exact CS.out _ u hx.t
  obtain ⟨bp, hbp⟩ : ∃ v, v = sB x.person := ⟨_, rfl⟩
  rw [← hbp] at hw1 HXB E6 G6
  have CS6 : Hid (∀ u, Calls Tryz.prog 45 #[.string bp] u fun e w' => e = .returned (.bool (sevT x.person)) ∧ Below u.heap.size u w') := fun u => by rw [hbp]; exact CS.out _ u hx.p
  have HNN := hid hnn
  have HBC := hid hbc
  rw [← hnm] at hw1 HFB CH CPq ⊢
  unfold adV
  rw [← hbp, ← hbs, ← hnn, ← hbc, ← hbt_]
  have HCL : Hid (∀ u, Below w1.heap.size w1 u → u.cell? ⟨w.heap.size, 0, none⟩ = some (.string nm) ∧ u.cell? ⟨w.heap.size, 1, none⟩ = some (.slice A fs.length cap) ∧ u.cell? ⟨w.heap.size + 1, 0, none⟩ = some (.string bp) ∧ u.cell? ⟨w.heap.size + 1, 1, none⟩ = some (.string bs) ∧ u.cell? ⟨w.heap.size + 1, 2, none⟩ = some (.int .i64 nn) ∧ u.cell? ⟨w.heap.size + 1, 3, none⟩ = some (.string bc) ∧ u.cell? ⟨w.heap.size + 1, 4, none⟩ = some (.string bt_)) := fun u hu => by
    have f := (hu.block _ (heap_lt HFB.out)).trans HFB.out
    have g := (hu.block _ (heap_lt HXB.out)).trans HXB.out
    refine ⟨?_, ?_, ?_, ?_, ?_, ?_, ?_⟩ <;> simp [World.cell?, f, g]
  have hsz : w.heap.size + 1 < w1.heap.size := heap_lt HXB.out
  obtain ⟨c0, c1, x0, x1, x2, x3, x4⟩ := HCL.out _ (Below.refl _ _)
  clear hnm hF hp ht hr hqs hb1 CP hnn hbc hbs hbt_ hbp CS hx
  go_enter Tryz.func22, Tryz.ntmps22
  go_upto_region 1 with fail
  rw [← hw1]
  clear hw1
  go_cut [54] (fun s wx => ∃ b : Bool, s = .bool b ∧ Hid (voidB qs x = !b) ∧ Hid (Below w1.heap.size w1 wx))
  case first =>
    go_wp2_with fail
    refine (CH.out 2 _ (Below.refl _ _)).mono ?_
    rintro e u2 ⟨rfl, hb2⟩
    have b2 : Below w1.heap.size w1 u2 := bt (Below.refl _ _) hb2
    clear hb2
    obtain ⟨c0, c1, x0, x1, x2, x3, x4⟩ := HCL.out _ b2
    by_cases hz : hasN qs 2 = 0
    · have qz : (((hasN qs 2 : Nat) : Int) == 0) = true := by rw [hz]; rfl
      have K := void_no hz
      clear hz
      by_cases hf : nn = 0
      · have V2 : Hid ((kinB qs 2 || decide (x.number = 0)) = true) := or_two (decide_eq_true (HNN.out.symm.trans hf))
        have qf : ((nn : Int) != 0) = false := by rw [hf]; rfl
        have qg : ((nn : Int) == 0) = true := by rw [hf]; rfl
        clear hf K
        go_wp2_with fail
        refine (CH.out 3 _ b2).mono ?_
        rintro e u3 ⟨rfl, hb3⟩
        have b3 : Below w1.heap.size w1 u3 := bt b2 hb3
        clear hb3
        obtain ⟨c0, c1, x0, x1, x2, x3, x4⟩ := HCL.out _ b3
        by_cases hz : hasN qs 3 = 0
        · have qz : (((hasN qs 3 : Nat) : Int) == 0) = true := by rw [hz]; rfl
          have K := void_no hz
          clear hz
          by_cases hf : x.code = []
          · have V3 : Hid ((kinB qs 3 || decide (x.code = [])) = true) := or_two (decide_eq_true hf)
            obtain ⟨qf, qg⟩ := E3.out hf
            clear hf K
            go_wp2_with fail
            refine (CH.out 4 _ b3).mono ?_
            rintro e u4 ⟨rfl, hb4⟩
            have b4 : Below w1.heap.size w1 u4 := bt b3 hb4
            clear hb4
            obtain ⟨c0, c1, x0, x1, x2, x3, x4⟩ := HCL.out _ b4
            by_cases hz : hasN qs 4 = 0
            · have qz : (((hasN qs 4 : Nat) : Int) == 0) = true := by rw [hz]; rfl
              have K := void_no hz
              clear hz
              by_cases hf : x.street = []
              · have V4 : Hid ((kinB qs 4 || decide (x.street = [])) = true) := or_two (decide_eq_true hf)
                obtain ⟨qf, qg⟩ := E4.out hf
                clear hf K
                go_wp2_with fail
                refine (CH.out 5 _ b4).mono ?_
                rintro e u5 ⟨rfl, hb5⟩
                have b5 : Below w1.heap.size w1 u5 := bt b4 hb5
                clear hb5
                obtain ⟨c0, c1, x0, x1, x2, x3, x4⟩ := HCL.out _ b5
                by_cases hz : hasN qs 5 = 0
                · have qz : (((hasN qs 5 : Nat) : Int) == 0) = true := by rw [hz]; rfl
                  have K := void_no hz
                  clear hz
                  by_cases hf : x.town = []
                  · have V5 : Hid ((kinB qs 5 || decide (x.town = [])) = true) := or_two (decide_eq_true hf)
                    obtain ⟨qf, qg⟩ := E5.out hf
                    clear hf K
                    go_wp2_with fail
                    refine (CH.out 6 _ b5).mono ?_
                    rintro e u6 ⟨rfl, hb6⟩
                    have b6 : Below w1.heap.size w1 u6 := bt b5 hb6
                    clear hb6
                    obtain ⟨c0, c1, x0, x1, x2, x3, x4⟩ := HCL.out _ b6
                    by_cases hz : hasN qs 6 = 0
                    · have qz : (((hasN qs 6 : Nat) : Int) == 0) = true := by rw [hz]; rfl
                      have K := void_no hz
                      clear hz
                      by_cases hf : x.person = []
                      · have V6 : Hid ((kinB qs 6 || decide (x.person = [])) = true) := or_two (decide_eq_true hf)
                        obtain ⟨qf, qg⟩ := E6.out hf
                        clear hf K
                        go_wp2_with fail
                        go_meet
                        exact ⟨false, rfl, by show _ = _; unfold voidB; rw [V2.out, V3.out, V4.out, V5.out, V6.out]; rfl, hid b6⟩
                      · have V6 : Hid ((kinB qs 6 || decide (x.person = [])) = false) := or_none K (decide_eq_false hf)
                        obtain ⟨qf, qg⟩ := G6.out hf
                        clear hf K
                        go_wp2_with fail
                        go_meet
                        exact ⟨true, rfl, by show _ = _; unfold voidB; rw [V2.out, V3.out, V4.out, V5.out, V6.out]; simp, hid b6⟩
                    · have qz : (((hasN qs 6 : Nat) : Int) == 0) = false := by simpa using hz
                      have V6 : Hid ((kinB qs 6 || decide (x.person = [])) = true) := or_yes (void_yes hz)
                      clear hz
                      go_wp2_with fail
                      go_meet
                      exact ⟨false, rfl, by show _ = _; unfold voidB; rw [V2.out, V3.out, V4.out, V5.out, V6.out]; rfl, hid b6⟩
                  · have V5 : Hid ((kinB qs 5 || decide (x.town = [])) = false) := or_none K (decide_eq_false hf)
                    obtain ⟨qf, qg⟩ := G5.out hf
                    clear hf K
                    go_wp2_with fail
                    go_meet
                    exact ⟨true, rfl, by show _ = _; unfold voidB; rw [V2.out, V3.out, V4.out, V5.out]; simp, hid b5⟩
                · have qz : (((hasN qs 5 : Nat) : Int) == 0) = false := by simpa using hz
                  have V5 : Hid ((kinB qs 5 || decide (x.town = [])) = true) := or_yes (void_yes hz)
                  clear hz
                  go_wp2_with fail
                  refine (CH.out 6 _ b5).mono ?_
                  rintro e u6 ⟨rfl, hb6⟩
                  have b6 : Below w1.heap.size w1 u6 := bt b5 hb6
                  clear hb6
                  obtain ⟨c0, c1, x0, x1, x2, x3, x4⟩ := HCL.out _ b6
                  by_cases hz : hasN qs 6 = 0
                  · have qz : (((hasN qs 6 : Nat) : Int) == 0) = true := by rw [hz]; rfl
                    have K := void_no hz
                    clear hz
                    by_cases hf : x.person = []
                    · have V6 : Hid ((kinB qs 6 || decide (x.person = [])) = true) := or_two (decide_eq_true hf)
                      obtain ⟨qf, qg⟩ := E6.out hf
                      clear hf K
                      go_wp2_with fail
                      go_meet
                      exact ⟨false, rfl, by show _ = _; unfold voidB; rw [V2.out, V3.out, V4.out, V5.out, V6.out]; rfl, hid b6⟩
                    · have V6 : Hid ((kinB qs 6 || decide (x.person = [])) = false) := or_none K (decide_eq_false hf)
                      obtain ⟨qf, qg⟩ := G6.out hf
                      clear hf K
                      go_wp2_with fail
                      go_meet
                      exact ⟨true, rfl, by show _ = _; unfold voidB; rw [V2.out, V3.out, V4.out, V5.out, V6.out]; simp, hid b6⟩
                  · have qz : (((hasN qs 6 : Nat) : Int) == 0) = false := by simpa using hz
                    have V6 : Hid ((kinB qs 6 || decide (x.person = [])) = true) := or_yes (void_yes hz)
                    clear hz
                    go_wp2_with fail
                    go_meet
                    exact ⟨false, rfl, by show _ = _; unfold voidB; rw [V2.out, V3.out, V4.out, V5.out, V6.out]; rfl, hid b6⟩
              · have V4 : Hid ((kinB qs 4 || decide (x.street = [])) = false) := or_none K (decide_eq_false hf)
                obtain ⟨qf, qg⟩ := G4.out hf
                clear hf K
                go_wp2_with fail
                go_meet
                exact ⟨true, rfl, by show _ = _; unfold voidB; rw [V2.out, V3.out, V4.out]; simp, hid b4⟩
            · have qz : (((hasN qs 4 : Nat) : Int) == 0) = false := by simpa using hz
              have V4 : Hid ((kinB qs 4 || decide (x.street = [])) = true) := or_yes (void_yes hz)
              clear hz
              go_wp2_with fail
              refine (CH.out 5 _ b4).mono ?_
              rintro e u5 ⟨rfl, hb5⟩
              have b5 : Below w1.heap.size w1 u5 := bt b4 hb5
              clear hb5
              obtain ⟨c0, c1, x0, x1, x2, x3, x4⟩ := HCL.out _ b5
              by_cases hz : hasN qs 5 = 0
              · have qz : (((hasN qs 5 : Nat) : Int) == 0) = true := by rw [hz]; rfl
                have K := void_no hz
                clear hz
                by_cases hf : x.town = []
                · have V5 : Hid ((kinB qs 5 || decide (x.town = [])) = true) := or_two (decide_eq_true hf)
                  obtain ⟨qf, qg⟩ := E5.out hf
                  clear hf K
                  go_wp2_with fail
                  refine (CH.out 6 _ b5).mono ?_
                  rintro e u6 ⟨rfl, hb6⟩
                  have b6 : Below w1.heap.size w1 u6 := bt b5 hb6
                  clear hb6
                  obtain ⟨c0, c1, x0, x1, x2, x3, x4⟩ := HCL.out _ b6
                  by_cases hz : hasN qs 6 = 0
                  · have qz : (((hasN qs 6 : Nat) : Int) == 0) = true := by rw [hz]; rfl
                    have K := void_no hz
                    clear hz
                    by_cases hf : x.person = []
                    · have V6 : Hid ((kinB qs 6 || decide (x.person = [])) = true) := or_two (decide_eq_true hf)
                      obtain ⟨qf, qg⟩ := E6.out hf
                      clear hf K
                      go_wp2_with fail
                      go_meet
                      exact ⟨false, rfl, by show _ = _; unfold voidB; rw [V2.out, V3.out, V4.out, V5.out, V6.out]; rfl, hid b6⟩
                    · have V6 : Hid ((kinB qs 6 || decide (x.person = [])) = false) := or_none K (decide_eq_false hf)
                      obtain ⟨qf, qg⟩ := G6.out hf
                      clear hf K
                      go_wp2_with fail
                      go_meet
                      exact ⟨true, rfl, by show _ = _; unfold voidB; rw [V2.out, V3.out, V4.out, V5.out, V6.out]; simp, hid b6⟩
                  · have qz : (((hasN qs 6 : Nat) : Int) == 0) = false := by simpa using hz
                    have V6 : Hid ((kinB qs 6 || decide (x.person = [])) = true) := or_yes (void_yes hz)
                    clear hz
                    go_wp2_with fail
                    go_meet
                    exact ⟨false, rfl, by show _ = _; unfold voidB; rw [V2.out, V3.out, V4.out, V5.out, V6.out]; rfl, hid b6⟩
                · have V5 : Hid ((kinB qs 5 || decide (x.town = [])) = false) := or_none K (decide_eq_false hf)
                  obtain ⟨qf, qg⟩ := G5.out hf
                  clear hf K
                  go_wp2_with fail
                  go_meet
                  exact ⟨true, rfl, by show _ = _; unfold voidB; rw [V2.out, V3.out, V4.out, V5.out]; simp, hid b5⟩
              · have qz : (((hasN qs 5 : Nat) : Int) == 0) = false := by simpa using hz
                have V5 : Hid ((kinB qs 5 || decide (x.town = [])) = true) := or_yes (void_yes hz)
                clear hz
                go_wp2_with fail
                refine (CH.out 6 _ b5).mono ?_
                rintro e u6 ⟨rfl, hb6⟩
                have b6 : Below w1.heap.size w1 u6 := bt b5 hb6
                clear hb6
                obtain ⟨c0, c1, x0, x1, x2, x3, x4⟩ := HCL.out _ b6
                by_cases hz : hasN qs 6 = 0
                · have qz : (((hasN qs 6 : Nat) : Int) == 0) = true := by rw [hz]; rfl
                  have K := void_no hz
                  clear hz
                  by_cases hf : x.person = []
                  · have V6 : Hid ((kinB qs 6 || decide (x.person = [])) = true) := or_two (decide_eq_true hf)
                    obtain ⟨qf, qg⟩ := E6.out hf
                    clear hf K
                    go_wp2_with fail
                    go_meet
                    exact ⟨false, rfl, by show _ = _; unfold voidB; rw [V2.out, V3.out, V4.out, V5.out, V6.out]; rfl, hid b6⟩
                  · have V6 : Hid ((kinB qs 6 || decide (x.person = [])) = false) := or_none K (decide_eq_false hf)
                    obtain ⟨qf, qg⟩ := G6.out hf
                    clear hf K
                    go_wp2_with fail
                    go_meet
                    exact ⟨true, rfl, by show _ = _; unfold voidB; rw [V2.out, V3.out, V4.out, V5.out, V6.out]; simp, hid b6⟩
                · have qz : (((hasN qs 6 : Nat) : Int) == 0) = false := by simpa using hz
                  have V6 : Hid ((kinB qs 6 || decide (x.person = [])) = true) := or_yes (void_yes hz)
                  clear hz
                  go_wp2_with fail
                  go_meet
                  exact ⟨false, rfl, by show _ = _; unfold voidB; rw [V2.out, V3.out, V4.out, V5.out, V6.out]; rfl, hid b6⟩
          · have V3 : Hid ((kinB qs 3 || decide (x.code = [])) = false) := or_none K (decide_eq_false hf)
            obtain ⟨qf, qg⟩ := G3.out hf
            clear hf K
            go_wp2_with fail
            go_meet
            exact ⟨true, rfl, by show _ = _; unfold voidB; rw [V2.out, V3.out]; simp, hid b3⟩
        · have qz : (((hasN qs 3 : Nat) : Int) == 0) = false := by simpa using hz
          have V3 : Hid ((kinB qs 3 || decide (x.code = [])) = true) := or_yes (void_yes hz)
          clear hz
          go_wp2_with fail
          refine (CH.out 4 _ b3).mono ?_
          rintro e u4 ⟨rfl, hb4⟩
          have b4 : Below w1.heap.size w1 u4 := bt b3 hb4
          clear hb4
          obtain ⟨c0, c1, x0, x1, x2, x3, x4⟩ := HCL.out _ b4
          by_cases hz : hasN qs 4 = 0
          · have qz : (((hasN qs 4 : Nat) : Int) == 0) = true := by rw [hz]; rfl
            have K := void_no hz
            clear hz
            by_cases hf : x.street = []
            · have V4 : Hid ((kinB qs 4 || decide (x.street = [])) = true) := or_two (decide_eq_true hf)
              obtain ⟨qf, qg⟩ := E4.out hf
              clear hf K
              go_wp2_with fail
              refine (CH.out 5 _ b4).mono ?_
              rintro e u5 ⟨rfl, hb5⟩
              have b5 : Below w1.heap.size w1 u5 := bt b4 hb5
              clear hb5
              obtain ⟨c0, c1, x0, x1, x2, x3, x4⟩ := HCL.out _ b5
              by_cases hz : hasN qs 5 = 0
              · have qz : (((hasN qs 5 : Nat) : Int) == 0) = true := by rw [hz]; rfl
                have K := void_no hz
                clear hz
                by_cases hf : x.town = []
                · have V5 : Hid ((kinB qs 5 || decide (x.town = [])) = true) := or_two (decide_eq_true hf)
                  obtain ⟨qf, qg⟩ := E5.out hf
                  clear hf K
                  go_wp2_with fail
                  refine (CH.out 6 _ b5).mono ?_
                  rintro e u6 ⟨rfl, hb6⟩
                  have b6 : Below w1.heap.size w1 u6 := bt b5 hb6
                  clear hb6
                  obtain ⟨c0, c1, x0, x1, x2, x3, x4⟩ := HCL.out _ b6
                  by_cases hz : hasN qs 6 = 0
                  · have qz : (((hasN qs 6 : Nat) : Int) == 0) = true := by rw [hz]; rfl
                    have K := void_no hz
                    clear hz
                    by_cases hf : x.person = []
                    · have V6 : Hid ((kinB qs 6 || decide (x.person = [])) = true) := or_two (decide_eq_true hf)
                      obtain ⟨qf, qg⟩ := E6.out hf
                      clear hf K
                      go_wp2_with fail
                      go_meet
                      exact ⟨false, rfl, by show _ = _; unfold voidB; rw [V2.out, V3.out, V4.out, V5.out, V6.out]; rfl, hid b6⟩
                    · have V6 : Hid ((kinB qs 6 || decide (x.person = [])) = false) := or_none K (decide_eq_false hf)
                      obtain ⟨qf, qg⟩ := G6.out hf
                      clear hf K
                      go_wp2_with fail
                      go_meet
                      exact ⟨true, rfl, by show _ = _; unfold voidB; rw [V2.out, V3.out, V4.out, V5.out, V6.out]; simp, hid b6⟩
                  · have qz : (((hasN qs 6 : Nat) : Int) == 0) = false := by simpa using hz
                    have V6 : Hid ((kinB qs 6 || decide (x.person = [])) = true) := or_yes (void_yes hz)
                    clear hz
                    go_wp2_with fail
                    go_meet
                    exact ⟨false, rfl, by show _ = _; unfold voidB; rw [V2.out, V3.out, V4.out, V5.out, V6.out]; rfl, hid b6⟩
                · have V5 : Hid ((kinB qs 5 || decide (x.town = [])) = false) := or_none K (decide_eq_false hf)
                  obtain ⟨qf, qg⟩ := G5.out hf
                  clear hf K
                  go_wp2_with fail
                  go_meet
                  exact ⟨true, rfl, by show _ = _; unfold voidB; rw [V2.out, V3.out, V4.out, V5.out]; simp, hid b5⟩
              · have qz : (((hasN qs 5 : Nat) : Int) == 0) = false := by simpa using hz
                have V5 : Hid ((kinB qs 5 || decide (x.town = [])) = true) := or_yes (void_yes hz)
                clear hz
                go_wp2_with fail
                refine (CH.out 6 _ b5).mono ?_
                rintro e u6 ⟨rfl, hb6⟩
                have b6 : Below w1.heap.size w1 u6 := bt b5 hb6
                clear hb6
                obtain ⟨c0, c1, x0, x1, x2, x3, x4⟩ := HCL.out _ b6
                by_cases hz : hasN qs 6 = 0
                · have qz : (((hasN qs 6 : Nat) : Int) == 0) = true := by rw [hz]; rfl
                  have K := void_no hz
                  clear hz
                  by_cases hf : x.person = []
                  · have V6 : Hid ((kinB qs 6 || decide (x.person = [])) = true) := or_two (decide_eq_true hf)
                    obtain ⟨qf, qg⟩ := E6.out hf
                    clear hf K
                    go_wp2_with fail
                    go_meet
                    exact ⟨false, rfl, by show _ = _; unfold voidB; rw [V2.out, V3.out, V4.out, V5.out, V6.out]; rfl, hid b6⟩
                  · have V6 : Hid ((kinB qs 6 || decide (x.person = [])) = false) := or_none K (decide_eq_false hf)
                    obtain ⟨qf, qg⟩ := G6.out hf
                    clear hf K
                    go_wp2_with fail
                    go_meet
                    exact ⟨true, rfl, by show _ = _; unfold voidB; rw [V2.out, V3.out, V4.out, V5.out, V6.out]; simp, hid b6⟩
                · have qz : (((hasN qs 6 : Nat) : Int) == 0) = false := by simpa using hz
                  have V6 : Hid ((kinB qs 6 || decide (x.person = [])) = true) := or_yes (void_yes hz)
                  clear hz
                  go_wp2_with fail
                  go_meet
                  exact ⟨false, rfl, by show _ = _; unfold voidB; rw [V2.out, V3.out, V4.out, V5.out, V6.out]; rfl, hid b6⟩
            · have V4 : Hid ((kinB qs 4 || decide (x.street = [])) = false) := or_none K (decide_eq_false hf)
              obtain ⟨qf, qg⟩ := G4.out hf
              clear hf K
              go_wp2_with fail
              go_meet
              exact ⟨true, rfl, by show _ = _; unfold voidB; rw [V2.out, V3.out, V4.out]; simp, hid b4⟩
          · have qz : (((hasN qs 4 : Nat) : Int) == 0) = false := by simpa using hz
            have V4 : Hid ((kinB qs 4 || decide (x.street = [])) = true) := or_yes (void_yes hz)
            clear hz
            go_wp2_with fail
            refine (CH.out 5 _ b4).mono ?_
            rintro e u5 ⟨rfl, hb5⟩
            have b5 : Below w1.heap.size w1 u5 := bt b4 hb5
            clear hb5
            obtain ⟨c0, c1, x0, x1, x2, x3, x4⟩ := HCL.out _ b5
            by_cases hz : hasN qs 5 = 0
            · have qz : (((hasN qs 5 : Nat) : Int) == 0) = true := by rw [hz]; rfl
              have K := void_no hz
              clear hz
              by_cases hf : x.town = []
              · have V5 : Hid ((kinB qs 5 || decide (x.town = [])) = true) := or_two (decide_eq_true hf)
                obtain ⟨qf, qg⟩ := E5.out hf
                clear hf K
                go_wp2_with fail
                refine (CH.out 6 _ b5).mono ?_
                rintro e u6 ⟨rfl, hb6⟩
                have b6 : Below w1.heap.size w1 u6 := bt b5 hb6
                clear hb6
                obtain ⟨c0, c1, x0, x1, x2, x3, x4⟩ := HCL.out _ b6
                by_cases hz : hasN qs 6 = 0
                · have qz : (((hasN qs 6 : Nat) : Int) == 0) = true := by rw [hz]; rfl
                  have K := void_no hz
                  clear hz
                  by_cases hf : x.person = []
                  · have V6 : Hid ((kinB qs 6 || decide (x.person = [])) = true) := or_two (decide_eq_true hf)
                    obtain ⟨qf, qg⟩ := E6.out hf
                    clear hf K
                    go_wp2_with fail
                    go_meet
                    exact ⟨false, rfl, by show _ = _; unfold voidB; rw [V2.out, V3.out, V4.out, V5.out, V6.out]; rfl, hid b6⟩
                  · have V6 : Hid ((kinB qs 6 || decide (x.person = [])) = false) := or_none K (decide_eq_false hf)
                    obtain ⟨qf, qg⟩ := G6.out hf
                    clear hf K
                    go_wp2_with fail
                    go_meet
                    exact ⟨true, rfl, by show _ = _; unfold voidB; rw [V2.out, V3.out, V4.out, V5.out, V6.out]; simp, hid b6⟩
                · have qz : (((hasN qs 6 : Nat) : Int) == 0) = false := by simpa using hz
                  have V6 : Hid ((kinB qs 6 || decide (x.person = [])) = true) := or_yes (void_yes hz)
                  clear hz
                  go_wp2_with fail
                  go_meet
                  exact ⟨false, rfl, by show _ = _; unfold voidB; rw [V2.out, V3.out, V4.out, V5.out, V6.out]; rfl, hid b6⟩
              · have V5 : Hid ((kinB qs 5 || decide (x.town = [])) = false) := or_none K (decide_eq_false hf)
                obtain ⟨qf, qg⟩ := G5.out hf
                clear hf K
                go_wp2_with fail
                go_meet
                exact ⟨true, rfl, by show _ = _; unfold voidB; rw [V2.out, V3.out, V4.out, V5.out]; simp, hid b5⟩
            · have qz : (((hasN qs 5 : Nat) : Int) == 0) = false := by simpa using hz
              have V5 : Hid ((kinB qs 5 || decide (x.town = [])) = true) := or_yes (void_yes hz)
              clear hz
              go_wp2_with fail
              refine (CH.out 6 _ b5).mono ?_
              rintro e u6 ⟨rfl, hb6⟩
              have b6 : Below w1.heap.size w1 u6 := bt b5 hb6
              clear hb6
              obtain ⟨c0, c1, x0, x1, x2, x3, x4⟩ := HCL.out _ b6
              by_cases hz : hasN qs 6 = 0
              · have qz : (((hasN qs 6 : Nat) : Int) == 0) = true := by rw [hz]; rfl
                have K := void_no hz
                clear hz
                by_cases hf : x.person = []
                · have V6 : Hid ((kinB qs 6 || decide (x.person = [])) = true) := or_two (decide_eq_true hf)
                  obtain ⟨qf, qg⟩ := E6.out hf
                  clear hf K
                  go_wp2_with fail
                  go_meet
                  exact ⟨false, rfl, by show _ = _; unfold voidB; rw [V2.out, V3.out, V4.out, V5.out, V6.out]; rfl, hid b6⟩
                · have V6 : Hid ((kinB qs 6 || decide (x.person = [])) = false) := or_none K (decide_eq_false hf)
                  obtain ⟨qf, qg⟩ := G6.out hf
                  clear hf K
                  go_wp2_with fail
                  go_meet
                  exact ⟨true, rfl, by show _ = _; unfold voidB; rw [V2.out, V3.out, V4.out, V5.out, V6.out]; simp, hid b6⟩
              · have qz : (((hasN qs 6 : Nat) : Int) == 0) = false := by simpa using hz
                have V6 : Hid ((kinB qs 6 || decide (x.person = [])) = true) := or_yes (void_yes hz)
                clear hz
                go_wp2_with fail
                go_meet
                exact ⟨false, rfl, by show _ = _; unfold voidB; rw [V2.out, V3.out, V4.out, V5.out, V6.out]; rfl, hid b6⟩
      · have V2 : Hid ((kinB qs 2 || decide (x.number = 0)) = false) := or_none K (decide_eq_false (fun h => hf (HNN.out.trans h)))
        have qf : ((nn : Int) != 0) = true := by simpa using hf
        have qg : ((nn : Int) == 0) = false := by simpa using hf
        clear hf K
        go_wp2_with fail
        go_meet
        exact ⟨true, rfl, by show _ = _; unfold voidB; rw [V2.out]; simp, hid b2⟩
    · have qz : (((hasN qs 2 : Nat) : Int) == 0) = false := by simpa using hz
      have V2 : Hid ((kinB qs 2 || decide (x.number = 0)) = true) := or_yes (void_yes hz)
      clear hz
      go_wp2_with fail
      refine (CH.out 3 _ b2).mono ?_
      rintro e u3 ⟨rfl, hb3⟩
      have b3 : Below w1.heap.size w1 u3 := bt b2 hb3
      clear hb3
      obtain ⟨c0, c1, x0, x1, x2, x3, x4⟩ := HCL.out _ b3
      by_cases hz : hasN qs 3 = 0
      · have qz : (((hasN qs 3 : Nat) : Int) == 0) = true := by rw [hz]; rfl
        have K := void_no hz
        clear hz
        by_cases hf : x.code = []
        · have V3 : Hid ((kinB qs 3 || decide (x.code = [])) = true) := or_two (decide_eq_true hf)
          obtain ⟨qf, qg⟩ := E3.out hf
          clear hf K
          go_wp2_with fail
          refine (CH.out 4 _ b3).mono ?_
          rintro e u4 ⟨rfl, hb4⟩
          have b4 : Below w1.heap.size w1 u4 := bt b3 hb4
          clear hb4
          obtain ⟨c0, c1, x0, x1, x2, x3, x4⟩ := HCL.out _ b4
          by_cases hz : hasN qs 4 = 0
          · have qz : (((hasN qs 4 : Nat) : Int) == 0) = true := by rw [hz]; rfl
            have K := void_no hz
            clear hz
            by_cases hf : x.street = []
            · have V4 : Hid ((kinB qs 4 || decide (x.street = [])) = true) := or_two (decide_eq_true hf)
              obtain ⟨qf, qg⟩ := E4.out hf
              clear hf K
              go_wp2_with fail
              refine (CH.out 5 _ b4).mono ?_
              rintro e u5 ⟨rfl, hb5⟩
              have b5 : Below w1.heap.size w1 u5 := bt b4 hb5
              clear hb5
              obtain ⟨c0, c1, x0, x1, x2, x3, x4⟩ := HCL.out _ b5
              by_cases hz : hasN qs 5 = 0
              · have qz : (((hasN qs 5 : Nat) : Int) == 0) = true := by rw [hz]; rfl
                have K := void_no hz
                clear hz
                by_cases hf : x.town = []
                · have V5 : Hid ((kinB qs 5 || decide (x.town = [])) = true) := or_two (decide_eq_true hf)
                  obtain ⟨qf, qg⟩ := E5.out hf
                  clear hf K
                  go_wp2_with fail
                  refine (CH.out 6 _ b5).mono ?_
                  rintro e u6 ⟨rfl, hb6⟩
                  have b6 : Below w1.heap.size w1 u6 := bt b5 hb6
                  clear hb6
                  obtain ⟨c0, c1, x0, x1, x2, x3, x4⟩ := HCL.out _ b6
                  by_cases hz : hasN qs 6 = 0
                  · have qz : (((hasN qs 6 : Nat) : Int) == 0) = true := by rw [hz]; rfl
                    have K := void_no hz
                    clear hz
                    by_cases hf : x.person = []
                    · have V6 : Hid ((kinB qs 6 || decide (x.person = [])) = true) := or_two (decide_eq_true hf)
                      obtain ⟨qf, qg⟩ := E6.out hf
                      clear hf K
                      go_wp2_with fail
                      go_meet
                      exact ⟨false, rfl, by show _ = _; unfold voidB; rw [V2.out, V3.out, V4.out, V5.out, V6.out]; rfl, hid b6⟩
                    · have V6 : Hid ((kinB qs 6 || decide (x.person = [])) = false) := or_none K (decide_eq_false hf)
                      obtain ⟨qf, qg⟩ := G6.out hf
                      clear hf K
                      go_wp2_with fail
                      go_meet
                      exact ⟨true, rfl, by show _ = _; unfold voidB; rw [V2.out, V3.out, V4.out, V5.out, V6.out]; simp, hid b6⟩
                  · have qz : (((hasN qs 6 : Nat) : Int) == 0) = false := by simpa using hz
                    have V6 : Hid ((kinB qs 6 || decide (x.person = [])) = true) := or_yes (void_yes hz)
                    clear hz
                    go_wp2_with fail
                    go_meet
                    exact ⟨false, rfl, by show _ = _; unfold voidB; rw [V2.out, V3.out, V4.out, V5.out, V6.out]; rfl, hid b6⟩
                · have V5 : Hid ((kinB qs 5 || decide (x.town = [])) = false) := or_none K (decide_eq_false hf)
                  obtain ⟨qf, qg⟩ := G5.out hf
                  clear hf K
                  go_wp2_with fail
                  go_meet
                  exact ⟨true, rfl, by show _ = _; unfold voidB; rw [V2.out, V3.out, V4.out, V5.out]; simp, hid b5⟩
              · have qz : (((hasN qs 5 : Nat) : Int) == 0) = false := by simpa using hz
                have V5 : Hid ((kinB qs 5 || decide (x.town = [])) = true) := or_yes (void_yes hz)
                clear hz
                go_wp2_with fail
                refine (CH.out 6 _ b5).mono ?_
                rintro e u6 ⟨rfl, hb6⟩
                have b6 : Below w1.heap.size w1 u6 := bt b5 hb6
                clear hb6
                obtain ⟨c0, c1, x0, x1, x2, x3, x4⟩ := HCL.out _ b6
                by_cases hz : hasN qs 6 = 0
                · have qz : (((hasN qs 6 : Nat) : Int) == 0) = true := by rw [hz]; rfl
                  have K := void_no hz
                  clear hz
                  by_cases hf : x.person = []
                  · have V6 : Hid ((kinB qs 6 || decide (x.person = [])) = true) := or_two (decide_eq_true hf)
                    obtain ⟨qf, qg⟩ := E6.out hf
                    clear hf K
                    go_wp2_with fail
                    go_meet
                    exact ⟨false, rfl, by show _ = _; unfold voidB; rw [V2.out, V3.out, V4.out, V5.out, V6.out]; rfl, hid b6⟩
                  · have V6 : Hid ((kinB qs 6 || decide (x.person = [])) = false) := or_none K (decide_eq_false hf)
                    obtain ⟨qf, qg⟩ := G6.out hf
                    clear hf K
                    go_wp2_with fail
                    go_meet
                    exact ⟨true, rfl, by show _ = _; unfold voidB; rw [V2.out, V3.out, V4.out, V5.out, V6.out]; simp, hid b6⟩
                · have qz : (((hasN qs 6 : Nat) : Int) == 0) = false := by simpa using hz
                  have V6 : Hid ((kinB qs 6 || decide (x.person = [])) = true) := or_yes (void_yes hz)
                  clear hz
                  go_wp2_with fail
                  go_meet
                  exact ⟨false, rfl, by show _ = _; unfold voidB; rw [V2.out, V3.out, V4.out, V5.out, V6.out]; rfl, hid b6⟩
            · have V4 : Hid ((kinB qs 4 || decide (x.street = [])) = false) := or_none K (decide_eq_false hf)
              obtain ⟨qf, qg⟩ := G4.out hf
              clear hf K
              go_wp2_with fail
              go_meet
              exact ⟨true, rfl, by show _ = _; unfold voidB; rw [V2.out, V3.out, V4.out]; simp, hid b4⟩
          · have qz : (((hasN qs 4 : Nat) : Int) == 0) = false := by simpa using hz
            have V4 : Hid ((kinB qs 4 || decide (x.street = [])) = true) := or_yes (void_yes hz)
            clear hz
            go_wp2_with fail
            refine (CH.out 5 _ b4).mono ?_
            rintro e u5 ⟨rfl, hb5⟩
            have b5 : Below w1.heap.size w1 u5 := bt b4 hb5
            clear hb5
            obtain ⟨c0, c1, x0, x1, x2, x3, x4⟩ := HCL.out _ b5
            by_cases hz : hasN qs 5 = 0
            · have qz : (((hasN qs 5 : Nat) : Int) == 0) = true := by rw [hz]; rfl
              have K := void_no hz
              clear hz
              by_cases hf : x.town = []
              · have V5 : Hid ((kinB qs 5 || decide (x.town = [])) = true) := or_two (decide_eq_true hf)
                obtain ⟨qf, qg⟩ := E5.out hf
                clear hf K
                go_wp2_with fail
                refine (CH.out 6 _ b5).mono ?_
                rintro e u6 ⟨rfl, hb6⟩
                have b6 : Below w1.heap.size w1 u6 := bt b5 hb6
                clear hb6
                obtain ⟨c0, c1, x0, x1, x2, x3, x4⟩ := HCL.out _ b6
                by_cases hz : hasN qs 6 = 0
                · have qz : (((hasN qs 6 : Nat) : Int) == 0) = true := by rw [hz]; rfl
                  have K := void_no hz
                  clear hz
                  by_cases hf : x.person = []
                  · have V6 : Hid ((kinB qs 6 || decide (x.person = [])) = true) := or_two (decide_eq_true hf)
                    obtain ⟨qf, qg⟩ := E6.out hf
                    clear hf K
                    go_wp2_with fail
                    go_meet
                    exact ⟨false, rfl, by show _ = _; unfold voidB; rw [V2.out, V3.out, V4.out, V5.out, V6.out]; rfl, hid b6⟩
                  · have V6 : Hid ((kinB qs 6 || decide (x.person = [])) = false) := or_none K (decide_eq_false hf)
                    obtain ⟨qf, qg⟩ := G6.out hf
                    clear hf K
                    go_wp2_with fail
                    go_meet
                    exact ⟨true, rfl, by show _ = _; unfold voidB; rw [V2.out, V3.out, V4.out, V5.out, V6.out]; simp, hid b6⟩
                · have qz : (((hasN qs 6 : Nat) : Int) == 0) = false := by simpa using hz
                  have V6 : Hid ((kinB qs 6 || decide (x.person = [])) = true) := or_yes (void_yes hz)
                  clear hz
                  go_wp2_with fail
                  go_meet
                  exact ⟨false, rfl, by show _ = _; unfold voidB; rw [V2.out, V3.out, V4.out, V5.out, V6.out]; rfl, hid b6⟩
              · have V5 : Hid ((kinB qs 5 || decide (x.town = [])) = false) := or_none K (decide_eq_false hf)
                obtain ⟨qf, qg⟩ := G5.out hf
                clear hf K
                go_wp2_with fail
                go_meet
                exact ⟨true, rfl, by show _ = _; unfold voidB; rw [V2.out, V3.out, V4.out, V5.out]; simp, hid b5⟩
            · have qz : (((hasN qs 5 : Nat) : Int) == 0) = false := by simpa using hz
              have V5 : Hid ((kinB qs 5 || decide (x.town = [])) = true) := or_yes (void_yes hz)
              clear hz
              go_wp2_with fail
              refine (CH.out 6 _ b5).mono ?_
              rintro e u6 ⟨rfl, hb6⟩
              have b6 : Below w1.heap.size w1 u6 := bt b5 hb6
              clear hb6
              obtain ⟨c0, c1, x0, x1, x2, x3, x4⟩ := HCL.out _ b6
              by_cases hz : hasN qs 6 = 0
              · have qz : (((hasN qs 6 : Nat) : Int) == 0) = true := by rw [hz]; rfl
                have K := void_no hz
                clear hz
                by_cases hf : x.person = []
                · have V6 : Hid ((kinB qs 6 || decide (x.person = [])) = true) := or_two (decide_eq_true hf)
                  obtain ⟨qf, qg⟩ := E6.out hf
                  clear hf K
                  go_wp2_with fail
                  go_meet
                  exact ⟨false, rfl, by show _ = _; unfold voidB; rw [V2.out, V3.out, V4.out, V5.out, V6.out]; rfl, hid b6⟩
                · have V6 : Hid ((kinB qs 6 || decide (x.person = [])) = false) := or_none K (decide_eq_false hf)
                  obtain ⟨qf, qg⟩ := G6.out hf
                  clear hf K
                  go_wp2_with fail
                  go_meet
                  exact ⟨true, rfl, by show _ = _; unfold voidB; rw [V2.out, V3.out, V4.out, V5.out, V6.out]; simp, hid b6⟩
              · have qz : (((hasN qs 6 : Nat) : Int) == 0) = false := by simpa using hz
                have V6 : Hid ((kinB qs 6 || decide (x.person = [])) = true) := or_yes (void_yes hz)
                clear hz
                go_wp2_with fail
                go_meet
                exact ⟨false, rfl, by show _ = _; unfold voidB; rw [V2.out, V3.out, V4.out, V5.out, V6.out]; rfl, hid b6⟩
        · have V3 : Hid ((kinB qs 3 || decide (x.code = [])) = false) := or_none K (decide_eq_false hf)
          obtain ⟨qf, qg⟩ := G3.out hf
          clear hf K
          go_wp2_with fail
          go_meet
          exact ⟨true, rfl, by show _ = _; unfold voidB; rw [V2.out, V3.out]; simp, hid b3⟩
      · have qz : (((hasN qs 3 : Nat) : Int) == 0) = false := by simpa using hz
        have V3 : Hid ((kinB qs 3 || decide (x.code = [])) = true) := or_yes (void_yes hz)
        clear hz
        go_wp2_with fail
        refine (CH.out 4 _ b3).mono ?_
        rintro e u4 ⟨rfl, hb4⟩
        have b4 : Below w1.heap.size w1 u4 := bt b3 hb4
        clear hb4
        obtain ⟨c0, c1, x0, x1, x2, x3, x4⟩ := HCL.out _ b4
        by_cases hz : hasN qs 4 = 0
        · have qz : (((hasN qs 4 : Nat) : Int) == 0) = true := by rw [hz]; rfl
          have K := void_no hz
          clear hz
          by_cases hf : x.street = []
          · have V4 : Hid ((kinB qs 4 || decide (x.street = [])) = true) := or_two (decide_eq_true hf)
            obtain ⟨qf, qg⟩ := E4.out hf
            clear hf K
            go_wp2_with fail
            refine (CH.out 5 _ b4).mono ?_
            rintro e u5 ⟨rfl, hb5⟩
            have b5 : Below w1.heap.size w1 u5 := bt b4 hb5
            clear hb5
            obtain ⟨c0, c1, x0, x1, x2, x3, x4⟩ := HCL.out _ b5
            by_cases hz : hasN qs 5 = 0
            · have qz : (((hasN qs 5 : Nat) : Int) == 0) = true := by rw [hz]; rfl
              have K := void_no hz
              clear hz
              by_cases hf : x.town = []
              · have V5 : Hid ((kinB qs 5 || decide (x.town = [])) = true) := or_two (decide_eq_true hf)
                obtain ⟨qf, qg⟩ := E5.out hf
                clear hf K
                go_wp2_with fail
                refine (CH.out 6 _ b5).mono ?_
                rintro e u6 ⟨rfl, hb6⟩
                have b6 : Below w1.heap.size w1 u6 := bt b5 hb6
                clear hb6
                obtain ⟨c0, c1, x0, x1, x2, x3, x4⟩ := HCL.out _ b6
                by_cases hz : hasN qs 6 = 0
                · have qz : (((hasN qs 6 : Nat) : Int) == 0) = true := by rw [hz]; rfl
                  have K := void_no hz
                  clear hz
                  by_cases hf : x.person = []
                  · have V6 : Hid ((kinB qs 6 || decide (x.person = [])) = true) := or_two (decide_eq_true hf)
                    obtain ⟨qf, qg⟩ := E6.out hf
                    clear hf K
                    go_wp2_with fail
                    go_meet
                    exact ⟨false, rfl, by show _ = _; unfold voidB; rw [V2.out, V3.out, V4.out, V5.out, V6.out]; rfl, hid b6⟩
                  · have V6 : Hid ((kinB qs 6 || decide (x.person = [])) = false) := or_none K (decide_eq_false hf)
                    obtain ⟨qf, qg⟩ := G6.out hf
                    clear hf K
                    go_wp2_with fail
                    go_meet
                    exact ⟨true, rfl, by show _ = _; unfold voidB; rw [V2.out, V3.out, V4.out, V5.out, V6.out]; simp, hid b6⟩
                · have qz : (((hasN qs 6 : Nat) : Int) == 0) = false := by simpa using hz
                  have V6 : Hid ((kinB qs 6 || decide (x.person = [])) = true) := or_yes (void_yes hz)
                  clear hz
                  go_wp2_with fail
                  go_meet
                  exact ⟨false, rfl, by show _ = _; unfold voidB; rw [V2.out, V3.out, V4.out, V5.out, V6.out]; rfl, hid b6⟩
              · have V5 : Hid ((kinB qs 5 || decide (x.town = [])) = false) := or_none K (decide_eq_false hf)
                obtain ⟨qf, qg⟩ := G5.out hf
                clear hf K
                go_wp2_with fail
                go_meet
                exact ⟨true, rfl, by show _ = _; unfold voidB; rw [V2.out, V3.out, V4.out, V5.out]; simp, hid b5⟩
            · have qz : (((hasN qs 5 : Nat) : Int) == 0) = false := by simpa using hz
              have V5 : Hid ((kinB qs 5 || decide (x.town = [])) = true) := or_yes (void_yes hz)
              clear hz
              go_wp2_with fail
              refine (CH.out 6 _ b5).mono ?_
              rintro e u6 ⟨rfl, hb6⟩
              have b6 : Below w1.heap.size w1 u6 := bt b5 hb6
              clear hb6
              obtain ⟨c0, c1, x0, x1, x2, x3, x4⟩ := HCL.out _ b6
              by_cases hz : hasN qs 6 = 0
              · have qz : (((hasN qs 6 : Nat) : Int) == 0) = true := by rw [hz]; rfl
                have K := void_no hz
                clear hz
                by_cases hf : x.person = []
                · have V6 : Hid ((kinB qs 6 || decide (x.person = [])) = true) := or_two (decide_eq_true hf)
                  obtain ⟨qf, qg⟩ := E6.out hf
                  clear hf K
                  go_wp2_with fail
                  go_meet
                  exact ⟨false, rfl, by show _ = _; unfold voidB; rw [V2.out, V3.out, V4.out, V5.out, V6.out]; rfl, hid b6⟩
                · have V6 : Hid ((kinB qs 6 || decide (x.person = [])) = false) := or_none K (decide_eq_false hf)
                  obtain ⟨qf, qg⟩ := G6.out hf
                  clear hf K
                  go_wp2_with fail
                  go_meet
                  exact ⟨true, rfl, by show _ = _; unfold voidB; rw [V2.out, V3.out, V4.out, V5.out, V6.out]; simp, hid b6⟩
              · have qz : (((hasN qs 6 : Nat) : Int) == 0) = false := by simpa using hz
                have V6 : Hid ((kinB qs 6 || decide (x.person = [])) = true) := or_yes (void_yes hz)
                clear hz
                go_wp2_with fail
                go_meet
                exact ⟨false, rfl, by show _ = _; unfold voidB; rw [V2.out, V3.out, V4.out, V5.out, V6.out]; rfl, hid b6⟩
          · have V4 : Hid ((kinB qs 4 || decide (x.street = [])) = false) := or_none K (decide_eq_false hf)
            obtain ⟨qf, qg⟩ := G4.out hf
            clear hf K
            go_wp2_with fail
            go_meet
            exact ⟨true, rfl, by show _ = _; unfold voidB; rw [V2.out, V3.out, V4.out]; simp, hid b4⟩
        · have qz : (((hasN qs 4 : Nat) : Int) == 0) = false := by simpa using hz
          have V4 : Hid ((kinB qs 4 || decide (x.street = [])) = true) := or_yes (void_yes hz)
          clear hz
          go_wp2_with fail
          refine (CH.out 5 _ b4).mono ?_
          rintro e u5 ⟨rfl, hb5⟩
          have b5 : Below w1.heap.size w1 u5 := bt b4 hb5
          clear hb5
          obtain ⟨c0, c1, x0, x1, x2, x3, x4⟩ := HCL.out _ b5
          by_cases hz : hasN qs 5 = 0
          · have qz : (((hasN qs 5 : Nat) : Int) == 0) = true := by rw [hz]; rfl
            have K := void_no hz
            clear hz
            by_cases hf : x.town = []
            · have V5 : Hid ((kinB qs 5 || decide (x.town = [])) = true) := or_two (decide_eq_true hf)
              obtain ⟨qf, qg⟩ := E5.out hf
              clear hf K
              go_wp2_with fail
              refine (CH.out 6 _ b5).mono ?_
              rintro e u6 ⟨rfl, hb6⟩
              have b6 : Below w1.heap.size w1 u6 := bt b5 hb6
              clear hb6
              obtain ⟨c0, c1, x0, x1, x2, x3, x4⟩ := HCL.out _ b6
              by_cases hz : hasN qs 6 = 0
              · have qz : (((hasN qs 6 : Nat) : Int) == 0) = true := by rw [hz]; rfl
                have K := void_no hz
                clear hz
                by_cases hf : x.person = []
                · have V6 : Hid ((kinB qs 6 || decide (x.person = [])) = true) := or_two (decide_eq_true hf)
                  obtain ⟨qf, qg⟩ := E6.out hf
                  clear hf K
                  go_wp2_with fail
                  go_meet
                  exact ⟨false, rfl, by show _ = _; unfold voidB; rw [V2.out, V3.out, V4.out, V5.out, V6.out]; rfl, hid b6⟩
                · have V6 : Hid ((kinB qs 6 || decide (x.person = [])) = false) := or_none K (decide_eq_false hf)
                  obtain ⟨qf, qg⟩ := G6.out hf
                  clear hf K
                  go_wp2_with fail
                  go_meet
                  exact ⟨true, rfl, by show _ = _; unfold voidB; rw [V2.out, V3.out, V4.out, V5.out, V6.out]; simp, hid b6⟩
              · have qz : (((hasN qs 6 : Nat) : Int) == 0) = false := by simpa using hz
                have V6 : Hid ((kinB qs 6 || decide (x.person = [])) = true) := or_yes (void_yes hz)
                clear hz
                go_wp2_with fail
                go_meet
                exact ⟨false, rfl, by show _ = _; unfold voidB; rw [V2.out, V3.out, V4.out, V5.out, V6.out]; rfl, hid b6⟩
            · have V5 : Hid ((kinB qs 5 || decide (x.town = [])) = false) := or_none K (decide_eq_false hf)
              obtain ⟨qf, qg⟩ := G5.out hf
              clear hf K
              go_wp2_with fail
              go_meet
              exact ⟨true, rfl, by show _ = _; unfold voidB; rw [V2.out, V3.out, V4.out, V5.out]; simp, hid b5⟩
          · have qz : (((hasN qs 5 : Nat) : Int) == 0) = false := by simpa using hz
            have V5 : Hid ((kinB qs 5 || decide (x.town = [])) = true) := or_yes (void_yes hz)
            clear hz
            go_wp2_with fail
            refine (CH.out 6 _ b5).mono ?_
            rintro e u6 ⟨rfl, hb6⟩
            have b6 : Below w1.heap.size w1 u6 := bt b5 hb6
            clear hb6
            obtain ⟨c0, c1, x0, x1, x2, x3, x4⟩ := HCL.out _ b6
            by_cases hz : hasN qs 6 = 0
            · have qz : (((hasN qs 6 : Nat) : Int) == 0) = true := by rw [hz]; rfl
              have K := void_no hz
              clear hz
              by_cases hf : x.person = []
              · have V6 : Hid ((kinB qs 6 || decide (x.person = [])) = true) := or_two (decide_eq_true hf)
                obtain ⟨qf, qg⟩ := E6.out hf
                clear hf K
                go_wp2_with fail
                go_meet
                exact ⟨false, rfl, by show _ = _; unfold voidB; rw [V2.out, V3.out, V4.out, V5.out, V6.out]; rfl, hid b6⟩
              · have V6 : Hid ((kinB qs 6 || decide (x.person = [])) = false) := or_none K (decide_eq_false hf)
                obtain ⟨qf, qg⟩ := G6.out hf
                clear hf K
                go_wp2_with fail
                go_meet
                exact ⟨true, rfl, by show _ = _; unfold voidB; rw [V2.out, V3.out, V4.out, V5.out, V6.out]; simp, hid b6⟩
            · have qz : (((hasN qs 6 : Nat) : Int) == 0) = false := by simpa using hz
              have V6 : Hid ((kinB qs 6 || decide (x.person = [])) = true) := or_yes (void_yes hz)
              clear hz
              go_wp2_with fail
              go_meet
              exact ⟨false, rfl, by show _ = _; unfold voidB; rw [V2.out, V3.out, V4.out, V5.out, V6.out]; rfl, hid b6⟩
  case rest =>
    obtain ⟨b, rfl, HV, HBX⟩ := hcut
    clear E3 E4 E5 E6 G3 G4 G5 G6 CH c0 c1 x0 x1 x2 x3 x4
    obtain ⟨c0, c1, x0, x1, x2, x3, x4⟩ := HCL.out _ HBX.out
    cases b
    · go_wp2_with fail
      refine (CPq.out _ HBX.out).mono ?_
      rintro e w3 ⟨v, rfl, hV, hb3⟩
      obtain ⟨vA, vcap, rfl, hvR⟩ := id hV.out
      have HVR := hid hvR
      have HB3 := hid (bt HBX.out hb3)
      clear hb3 hV hvR HBX c0 c1 x0 x1 x2 x3 x4 CPq
      go_wp2
      go_loopw [6] (fun i wr => ∃ j : Nat, j ≤ qs.length ∧ i = .int .i64 j ∧ Hid ((qs.take j).all (fitP x) = true) ∧ Hid (Below w3.heap.size w3 wr)) (fun i _ => qs.length - (intOf i).toNat)
      case atStart => exact ⟨0, Nat.zero_le _, rfl, rfl, Below.refl _ _⟩
      case round =>
        obtain ⟨j, hj, rfl, hA, hB⟩ := hrel
        have HBW := hid (bt HB3.out hB.out)
        obtain ⟨c0, c1, x0, x1, x2, x3, x4⟩ := HCL.out _ HBW.out
        by_cases hlt : j < qs.length
        · obtain ⟨p, hp⟩ : ∃ p, qs[j]? = some p := ⟨_, List.getElem?_eq_getElem hlt⟩
          have hvR := HVR.out.on hB.out
          obtain ⟨g, o, rfl, hg, hc, hct⟩ := RdP.at hvR hp
          unfold sV at hct
          have hkk : (j : Int) < (qs.length : Int) := by omega
          have hk0 : 0 ≤ (j : Int) := by omega
          have HPP := hid hp
          have HPM := hid (List.mem_of_getElem? hp)
          have HY := hid (fun h => fit_snoc (x := x) hp hA.out h)
          have HN := hid (fun h => (HR.out.trans (by rw [all_not (x := x) hp h, Bool.and_false]) : r = false))
          have CCp := hid (fun u => CC.out p (List.mem_of_getElem? hp) u)
          have hhl := heap_lt HXB.out
          have hxw : w.heap.size + 1 < wr.heap.size := Nat.lt_of_lt_of_le hhl HBW.out.size
          obtain ⟨kk, hkd⟩ : ∃ kk, kk = p.k := ⟨_, rfl⟩
          obtain ⟨tt, htd⟩ : ∃ tt, tt = sB p.t := ⟨_, rfl⟩
          rw [← hkd] at hc
          rw [← htd] at hct CCp
          have HKD : Hid (p.k = kk) := hkd.symm
          clear hp hvR htd hkd hhl
          by_cases hk2 : kk = 2
          · have q2 : (kk == 2) = true := by simp [hk2]
            have HFP : Hid (fitP x p = (decide (1 ≤ nn) && decide (nn ≤ 9999))) := by show _ = _; unfold fitP; rw [if_pos (HKD.out.trans hk2), HNN.out]
            clear hk2
            by_cases h1 : nn < 1
            · have d1 : decide (nn < 1) = true := decide_eq_true h1
              have HVV := hid (HN.out (by rw [HFP.out, decide_eq_false (show ¬ 1 ≤ nn by omega)]; rfl))
              go_wp2
              go_ret
              exact ⟨by rw [HVV.out]; try rfl, bt HB1.out HBW.out⟩
            · have d1 : decide (nn < 1) = false := decide_eq_false h1
              by_cases h9 : 9999 < nn
              · have d9 : decide (9999 < nn) = true := decide_eq_true h9
                have HVV := hid (HN.out (by rw [HFP.out, decide_eq_false (show ¬ nn ≤ 9999 by omega), Bool.and_false]))
                go_wp2
                go_ret
                exact ⟨by rw [HVV.out]; try rfl, bt HB1.out HBW.out⟩
              · have d9 : decide (9999 < nn) = false := decide_eq_false h9
                have HVV := hid (HY.out (by rw [HFP.out, decide_eq_true (show 1 ≤ nn by omega), decide_eq_true (show nn ≤ 9999 by omega)]; rfl))
                go_wp2
                go_roundw
                case rel => exact ⟨j + 1, by omega, by go_num, HVV, hB⟩
                case measure => simp [intOf]; omega
          · have q2 : (kk == 2) = false := by simp; exact hk2
            by_cases hk3 : kk = 3
            · have q3 : (kk == 3) = true := by simp [hk3]
              have HFP : Hid (fitP x p = (codeW x.code p.t && decide (upL x.code = x.code))) := by show _ = _; unfold fitP; rw [if_neg (fun h => hk2 (HKD.out.symm.trans h)), if_pos (HKD.out.trans hk3)]
              have SK3 : Hid (∀ u, Below wr.heap.size wr u → u.cell? ⟨w.heap.size + 1, 3, none⟩ = some (.string bc) ∧ u.cell? ⟨g, o + j * 2 + 1, none⟩ = some (.string tt)) := fun u hu => ⟨(hu.cell (p := (⟨w.heap.size + 1, 3, none⟩ : Addr)) hxw).trans x3, (hu.cell (p := (⟨g, o + j * 2 + 1, none⟩ : Addr)) hg).trans hct⟩
              obtain ⟨cw, hcw⟩ : ∃ cw, cw = codeW x.code p.t := ⟨_, rfl⟩
              rw [← hcw] at CCp HFP
              clear hk2 hk3 hcw
              cases cw
              · have HVV := hid (HN.out (by rw [HFP.out]; rfl))
                go_wp2_with fail
                refine wp_region_held_drew (S := fun w' => w'.cell? ⟨w.heap.size + 1, 3, none⟩ = some (.string bc) ∧ w'.cell? ⟨g, o + j * 2 + 1, none⟩ = some (.string tt)) (by kernel_rfl) ⟨x3, hct⟩ (fun hHeld => ?_)
                refine wpAnyH_take (i := 0) (oi := ⟨some 80, _, _, _, _, _⟩) (v := .pointer (some ⟨w.heap.size + 1, 3, none⟩)) rfl (by kernel_rfl) (by kernel_rfl) (by kernel_rfl) (fun _ _ _ h => h) (Or.inl ⟨by rfl, ?_⟩) hHeld ?_
                · intro u hu
                  go_simp
                try simp only [Act.put, List.setIfInBounds_toArray, List.set_cons_zero, List.set_cons_succ]
                refine wpAnyH_take (i := 1) (oi := ⟨some 81, _, _, _, _, _⟩) (v := .string bc) rfl (by kernel_rfl) (by kernel_rfl) (by kernel_rfl) (fun _ _ _ h => h) (Or.inl ⟨by rfl, ?_⟩) hHeld ?_
                · intro u hu
                  go_simp
                try simp only [Act.put, List.setIfInBounds_toArray, List.set_cons_zero, List.set_cons_succ]
                refine wpAnyH_take (i := 2) (oi := ⟨some 82, _, _, _, _, _⟩) (v := .slice (some ⟨g, o, none⟩) qs.length vcap) rfl (by kernel_rfl) (by kernel_rfl) (by kernel_rfl) (fun _ _ _ h => h) (Or.inl ⟨by rfl, ?_⟩) hHeld ?_
                · intro u hu
                  go_simp
                try simp only [Act.put, List.setIfInBounds_toArray, List.set_cons_zero, List.set_cons_succ]
                refine wpAnyH_take (i := 3) (oi := ⟨some 83, _, _, _, _, _⟩) (v := .int .i64 (j : Int)) rfl (by kernel_rfl) (by kernel_rfl) (by kernel_rfl) (fun _ _ _ h => h) (Or.inl ⟨by rfl, ?_⟩) hHeld ?_
                · intro u hu
                  go_simp
                try simp only [Act.put, List.setIfInBounds_toArray, List.set_cons_zero, List.set_cons_succ]
                refine wpAnyH_take (i := 4) (oi := ⟨some 84, _, _, _, _, _⟩) (v := .pointer (some ⟨g, o + j * 2, none⟩)) rfl (by kernel_rfl) (by kernel_rfl) (by kernel_rfl) (fun _ _ _ h => h) (Or.inl ⟨by rfl, ?_⟩) hHeld ?_
                · intro u hu
                  go_simp
                try simp only [Act.put, List.setIfInBounds_toArray, List.set_cons_zero, List.set_cons_succ]
                refine wpAnyH_take (i := 5) (oi := ⟨some 85, _, _, _, _, _⟩) (v := .pointer (some ⟨g, o + j * 2 + 1, none⟩)) rfl (by kernel_rfl) (by kernel_rfl) (by kernel_rfl) (fun _ _ _ h => h) (Or.inl ⟨by rfl, ?_⟩) hHeld ?_
                · intro u hu
                  go_simp
                try simp only [Act.put, List.setIfInBounds_toArray, List.set_cons_zero, List.set_cons_succ]
                refine wpAnyH_take (i := 6) (oi := ⟨some 86, _, _, _, _, _⟩) (v := .string tt) rfl (by kernel_rfl) (by kernel_rfl) (by kernel_rfl) (fun _ _ _ h => h) (Or.inl ⟨by rfl, ?_⟩) hHeld ?_
                · intro u hu
                  go_simp
                try simp only [Act.put, List.setIfInBounds_toArray, List.set_cons_zero, List.set_cons_succ]
                refine wpAnyH_ready (rs := [7]) (by kernel_rfl) (by simp) ?_
                refine AllReadyH.cons (o := ⟨some 87, _, _, _, _, _⟩) rfl (fun K hK => ?_) AllReadyH.nil
                go_simp
                go_at_call 44
                refine (CCp.out _).mono ?_
                rintro e wc ⟨rfl, rfl⟩
                refine hK.out _ _ hHeld (fun hHeld => ?_)
                clear hK K
                try simp only [Act.put, List.setIfInBounds_toArray, List.set_cons_zero, List.set_cons_succ]
                refine wpAnyH_take (i := 8) (oi := ⟨some 88, _, _, _, _, _⟩) (v := .bool true) rfl (by kernel_rfl) (by kernel_rfl) (by kernel_rfl) (fun _ _ _ h => h) (Or.inl ⟨by rfl, ?_⟩) hHeld ?_
                · intro u hu
                  go_simp
                try simp only [Act.put, List.setIfInBounds_toArray, List.set_cons_zero, List.set_cons_succ]
                refine wpAnyH_take (i := 9) (oi := ⟨some 89, _, _, _, _, _⟩) (v := .bool true) rfl (by kernel_rfl) (by kernel_rfl) (by kernel_rfl) (fun _ _ _ h => h) (Or.inl ⟨by rfl, ?_⟩) hHeld ?_
                · intro u hu
                  go_simp
                try simp only [Act.put, List.setIfInBounds_toArray, List.set_cons_zero, List.set_cons_succ]
                refine wpAnyH_take (i := 10) (oi := ⟨some 90, _, _, _, _, _⟩) (v := undef) rfl (by kernel_rfl) (by kernel_rfl) (by kernel_rfl) (fun _ _ _ h => h) (Or.inr ⟨by rfl, rfl⟩) hHeld ?_
                try simp only [Act.put, List.setIfInBounds_toArray, List.set_cons_zero, List.set_cons_succ]
                refine wpAnyH_take (i := 11) (oi := ⟨some 91, _, _, _, _, _⟩) (v := undef) rfl (by kernel_rfl) (by kernel_rfl) (by kernel_rfl) (fun _ _ _ h => h) (Or.inr ⟨by rfl, rfl⟩) hHeld ?_
                try simp only [Act.put, List.setIfInBounds_toArray, List.set_cons_zero, List.set_cons_succ]
                refine wpAnyH_take (i := 12) (oi := ⟨some 92, _, _, _, _, _⟩) (v := undef) rfl (by kernel_rfl) (by kernel_rfl) (by kernel_rfl) (fun _ _ _ h => h) (Or.inr ⟨by rfl, rfl⟩) hHeld ?_
                try simp only [Act.put, List.setIfInBounds_toArray, List.set_cons_zero, List.set_cons_succ]
                refine wpAnyH_take (i := 13) (oi := ⟨some 93, _, _, _, _, _⟩) (v := undef) rfl (by kernel_rfl) (by kernel_rfl) (by kernel_rfl) (fun _ _ _ h => h) (Or.inr ⟨by rfl, rfl⟩) hHeld ?_
                try simp only [Act.put, List.setIfInBounds_toArray, List.set_cons_zero, List.set_cons_succ]
                refine wpAnyH_take (i := 14) (oi := ⟨some 94, _, _, _, _, _⟩) (v := undef) rfl (by kernel_rfl) (by kernel_rfl) (by kernel_rfl) (fun _ _ _ h => h) (Or.inr ⟨by rfl, rfl⟩) hHeld ?_
                try simp only [Act.put, List.setIfInBounds_toArray, List.set_cons_zero, List.set_cons_succ]
                refine wpAnyH_take (i := 15) (oi := ⟨some 95, _, _, _, _, _⟩) (v := undef) rfl (by kernel_rfl) (by kernel_rfl) (by kernel_rfl) (fun _ _ _ h => h) (Or.inr ⟨by rfl, rfl⟩) hHeld ?_
                try simp only [Act.put, List.setIfInBounds_toArray, List.set_cons_zero, List.set_cons_succ]
                refine wpAnyH_take (i := 16) (oi := ⟨some 96, _, _, _, _, _⟩) (v := .bool true) rfl (by kernel_rfl) (by kernel_rfl) (by kernel_rfl) (fun _ _ _ h => h) (Or.inl ⟨by rfl, ?_⟩) hHeld ?_
                · intro u hu
                  go_simp
                try simp only [Act.put, List.setIfInBounds_toArray, List.set_cons_zero, List.set_cons_succ]
                refine wpAnyH_done (by kernel_rfl) ?_ _
                clear hHeld
                go_wp2
                go_ret
                exact ⟨by rw [HVV.out]; try rfl, bt HB1.out (bt HBW.out (Below.refl _ _).drew)⟩
              · obtain ⟨su, hsu⟩ : ∃ su, su = sB (upL x.code) := ⟨_, rfl⟩
                rw [← hsu] at CU
                have HNE : Hid ((su.toList != bc.toList) = !decide (upL x.code = x.code)) := by show _ = _; rw [hsu, HBC.out, bne, sB_beq]
                have HFQ : Hid (fitP x p = decide (upL x.code = x.code)) := by show _ = _; rw [HFP.out]; rfl
                clear hsu HFP
                by_cases he : upL x.code = x.code
                · have hne : (su.toList != bc.toList) = false := by rw [HNE.out]; simp [he]
                  have hnl : su.toList = bc.toList := by simpa using hne
                  have hnq : (su.toList == bc.toList) = true := by simp [hnl]
                  have HVV := hid (HY.out (by rw [HFQ.out, decide_eq_true he]))
                  clear he
                  go_wp2_with fail
                  refine wp_region_held_drew (S := fun w' => w'.cell? ⟨w.heap.size + 1, 3, none⟩ = some (.string bc) ∧ w'.cell? ⟨g, o + j * 2 + 1, none⟩ = some (.string tt)) (by kernel_rfl) ⟨x3, hct⟩ (fun hHeld => ?_)
                  refine wpAnyH_take (i := 0) (oi := ⟨some 80, _, _, _, _, _⟩) (v := .pointer (some ⟨w.heap.size + 1, 3, none⟩)) rfl (by kernel_rfl) (by kernel_rfl) (by kernel_rfl) (fun _ _ _ h => h) (Or.inl ⟨by rfl, ?_⟩) hHeld ?_
                  · intro u hu
                    go_simp
                  try simp only [Act.put, List.setIfInBounds_toArray, List.set_cons_zero, List.set_cons_succ]
                  refine wpAnyH_take (i := 1) (oi := ⟨some 81, _, _, _, _, _⟩) (v := .string bc) rfl (by kernel_rfl) (by kernel_rfl) (by kernel_rfl) (fun _ _ _ h => h) (Or.inl ⟨by rfl, ?_⟩) hHeld ?_
                  · intro u hu
                    go_simp
                  try simp only [Act.put, List.setIfInBounds_toArray, List.set_cons_zero, List.set_cons_succ]
                  refine wpAnyH_take (i := 2) (oi := ⟨some 82, _, _, _, _, _⟩) (v := .slice (some ⟨g, o, none⟩) qs.length vcap) rfl (by kernel_rfl) (by kernel_rfl) (by kernel_rfl) (fun _ _ _ h => h) (Or.inl ⟨by rfl, ?_⟩) hHeld ?_
                  · intro u hu
                    go_simp
                  try simp only [Act.put, List.setIfInBounds_toArray, List.set_cons_zero, List.set_cons_succ]
                  refine wpAnyH_take (i := 3) (oi := ⟨some 83, _, _, _, _, _⟩) (v := .int .i64 (j : Int)) rfl (by kernel_rfl) (by kernel_rfl) (by kernel_rfl) (fun _ _ _ h => h) (Or.inl ⟨by rfl, ?_⟩) hHeld ?_
                  · intro u hu
                    go_simp
                  try simp only [Act.put, List.setIfInBounds_toArray, List.set_cons_zero, List.set_cons_succ]
                  refine wpAnyH_take (i := 4) (oi := ⟨some 84, _, _, _, _, _⟩) (v := .pointer (some ⟨g, o + j * 2, none⟩)) rfl (by kernel_rfl) (by kernel_rfl) (by kernel_rfl) (fun _ _ _ h => h) (Or.inl ⟨by rfl, ?_⟩) hHeld ?_
                  · intro u hu
                    go_simp
                  try simp only [Act.put, List.setIfInBounds_toArray, List.set_cons_zero, List.set_cons_succ]
                  refine wpAnyH_take (i := 5) (oi := ⟨some 85, _, _, _, _, _⟩) (v := .pointer (some ⟨g, o + j * 2 + 1, none⟩)) rfl (by kernel_rfl) (by kernel_rfl) (by kernel_rfl) (fun _ _ _ h => h) (Or.inl ⟨by rfl, ?_⟩) hHeld ?_
                  · intro u hu
                    go_simp
                  try simp only [Act.put, List.setIfInBounds_toArray, List.set_cons_zero, List.set_cons_succ]
                  refine wpAnyH_take (i := 6) (oi := ⟨some 86, _, _, _, _, _⟩) (v := .string tt) rfl (by kernel_rfl) (by kernel_rfl) (by kernel_rfl) (fun _ _ _ h => h) (Or.inl ⟨by rfl, ?_⟩) hHeld ?_
                  · intro u hu
                    go_simp
                  try simp only [Act.put, List.setIfInBounds_toArray, List.set_cons_zero, List.set_cons_succ]
                  refine wpAnyH_ready (rs := [7]) (by kernel_rfl) (by simp) ?_
                  refine AllReadyH.cons (o := ⟨some 87, _, _, _, _, _⟩) rfl (fun K hK => ?_) AllReadyH.nil
                  go_simp
                  go_at_call 44
                  refine (CCp.out _).mono ?_
                  rintro e wc ⟨rfl, rfl⟩
                  refine hK.out _ _ hHeld (fun hHeld => ?_)
                  clear hK K
                  try simp only [Act.put, List.setIfInBounds_toArray, List.set_cons_zero, List.set_cons_succ]
                  refine wpAnyH_take (i := 8) (oi := ⟨some 88, _, _, _, _, _⟩) (v := .bool false) rfl (by kernel_rfl) (by kernel_rfl) (by kernel_rfl) (fun _ _ _ h => h) (Or.inl ⟨by rfl, ?_⟩) hHeld ?_
                  · intro u hu
                    go_simp
                  try simp only [Act.put, List.setIfInBounds_toArray, List.set_cons_zero, List.set_cons_succ]
                  refine wpAnyH_take (i := 9) (oi := ⟨some 89, _, _, _, _, _⟩) (v := .bool false) rfl (by kernel_rfl) (by kernel_rfl) (by kernel_rfl) (fun _ _ _ h => h) (Or.inl ⟨by rfl, ?_⟩) hHeld ?_
                  · intro u hu
                    go_simp
                  try simp only [Act.put, List.setIfInBounds_toArray, List.set_cons_zero, List.set_cons_succ]
                  refine wpAnyH_take (i := 10) (oi := ⟨some 90, _, _, _, _, _⟩) (v := .pointer (some ⟨w.heap.size + 1, 3, none⟩)) rfl (by kernel_rfl) (by kernel_rfl) (by kernel_rfl) (fun _ _ _ h => h) (Or.inl ⟨by rfl, ?_⟩) hHeld ?_
                  · intro u hu
                    go_simp
                  try simp only [Act.put, List.setIfInBounds_toArray, List.set_cons_zero, List.set_cons_succ]
                  refine wpAnyH_take (i := 11) (oi := ⟨some 91, _, _, _, _, _⟩) (v := .string bc) rfl (by kernel_rfl) (by kernel_rfl) (by kernel_rfl) (fun _ _ _ h => h) (Or.inl ⟨by rfl, ?_⟩) hHeld ?_
                  · intro u hu
                    go_simp
                  try simp only [Act.put, List.setIfInBounds_toArray, List.set_cons_zero, List.set_cons_succ]
                  refine wpAnyH_take (i := 13) (oi := ⟨some 93, _, _, _, _, _⟩) (v := .pointer (some ⟨w.heap.size + 1, 3, none⟩)) rfl (by kernel_rfl) (by kernel_rfl) (by kernel_rfl) (fun _ _ _ h => h) (Or.inl ⟨by rfl, ?_⟩) hHeld ?_
                  · intro u hu
                    go_simp
                  try simp only [Act.put, List.setIfInBounds_toArray, List.set_cons_zero, List.set_cons_succ]
                  refine wpAnyH_take (i := 14) (oi := ⟨some 94, _, _, _, _, _⟩) (v := .string bc) rfl (by kernel_rfl) (by kernel_rfl) (by kernel_rfl) (fun _ _ _ h => h) (Or.inl ⟨by rfl, ?_⟩) hHeld ?_
                  · intro u hu
                    go_simp
                  try simp only [Act.put, List.setIfInBounds_toArray, List.set_cons_zero, List.set_cons_succ]
                  refine wpAnyH_ready (rs := [12]) (by kernel_rfl) (by simp) ?_
                  refine AllReadyH.cons (o := ⟨some 92, _, _, _, _, _⟩) rfl (fun K hK => ?_) AllReadyH.nil
                  go_simp
                  go_at_call 23
                  refine (CU.out _).mono ?_
                  rintro e wu ⟨rfl, hwu⟩
                  have BU : Below wr.heap.size wr wu := bt ((Below.refl _ _).drew) hwu
                  have HBU := hid (bt hB.out BU)
                  refine hK.out _ _ (SK3.out _ BU) (fun hHeld => ?_)
                  clear hK K hwu
                  try simp only [Act.put, List.setIfInBounds_toArray, List.set_cons_zero, List.set_cons_succ]
                  refine wpAnyH_take (i := 15) (oi := ⟨some 95, _, _, _, _, _⟩) (v := .bool false) rfl (by kernel_rfl) (by kernel_rfl) (by kernel_rfl) (fun _ _ _ h => h) (Or.inl ⟨by rfl, ?_⟩) hHeld ?_
                  · intro u hu
                    go_simp
                  try simp only [Act.put, List.setIfInBounds_toArray, List.set_cons_zero, List.set_cons_succ]
                  refine wpAnyH_take (i := 16) (oi := ⟨some 96, _, _, _, _, _⟩) (v := .bool false) rfl (by kernel_rfl) (by kernel_rfl) (by kernel_rfl) (fun _ _ _ h => h) (Or.inl ⟨by rfl, ?_⟩) hHeld ?_
                  · intro u hu
                    go_simp
                  try simp only [Act.put, List.setIfInBounds_toArray, List.set_cons_zero, List.set_cons_succ]
                  refine wpAnyH_done (by kernel_rfl) ?_ _
                  clear hHeld
                  go_wp2
                  go_roundw
                  case rel => exact ⟨j + 1, by omega, by go_num, HVV, HBU⟩
                  case measure => simp [intOf]; omega
                · have hne : (su.toList != bc.toList) = true := by rw [HNE.out]; simp [he]
                  have hnl : ¬ su.toList = bc.toList := by simpa using hne
                  have hnq : (su.toList == bc.toList) = false := by simp [hnl]
                  have HVV := hid (HN.out (by rw [HFQ.out, decide_eq_false he]))
                  clear he
                  go_wp2_with fail
                  refine wp_region_held_drew (S := fun w' => w'.cell? ⟨w.heap.size + 1, 3, none⟩ = some (.string bc) ∧ w'.cell? ⟨g, o + j * 2 + 1, none⟩ = some (.string tt)) (by kernel_rfl) ⟨x3, hct⟩ (fun hHeld => ?_)
                  refine wpAnyH_take (i := 0) (oi := ⟨some 80, _, _, _, _, _⟩) (v := .pointer (some ⟨w.heap.size + 1, 3, none⟩)) rfl (by kernel_rfl) (by kernel_rfl) (by kernel_rfl) (fun _ _ _ h => h) (Or.inl ⟨by rfl, ?_⟩) hHeld ?_
                  · intro u hu
                    go_simp
                  try simp only [Act.put, List.setIfInBounds_toArray, List.set_cons_zero, List.set_cons_succ]
                  refine wpAnyH_take (i := 1) (oi := ⟨some 81, _, _, _, _, _⟩) (v := .string bc) rfl (by kernel_rfl) (by kernel_rfl) (by kernel_rfl) (fun _ _ _ h => h) (Or.inl ⟨by rfl, ?_⟩) hHeld ?_
                  · intro u hu
                    go_simp
                  try simp only [Act.put, List.setIfInBounds_toArray, List.set_cons_zero, List.set_cons_succ]
                  refine wpAnyH_take (i := 2) (oi := ⟨some 82, _, _, _, _, _⟩) (v := .slice (some ⟨g, o, none⟩) qs.length vcap) rfl (by kernel_rfl) (by kernel_rfl) (by kernel_rfl) (fun _ _ _ h => h) (Or.inl ⟨by rfl, ?_⟩) hHeld ?_
                  · intro u hu
                    go_simp
                  try simp only [Act.put, List.setIfInBounds_toArray, List.set_cons_zero, List.set_cons_succ]
                  refine wpAnyH_take (i := 3) (oi := ⟨some 83, _, _, _, _, _⟩) (v := .int .i64 (j : Int)) rfl (by kernel_rfl) (by kernel_rfl) (by kernel_rfl) (fun _ _ _ h => h) (Or.inl ⟨by rfl, ?_⟩) hHeld ?_
                  · intro u hu
                    go_simp
                  try simp only [Act.put, List.setIfInBounds_toArray, List.set_cons_zero, List.set_cons_succ]
                  refine wpAnyH_take (i := 4) (oi := ⟨some 84, _, _, _, _, _⟩) (v := .pointer (some ⟨g, o + j * 2, none⟩)) rfl (by kernel_rfl) (by kernel_rfl) (by kernel_rfl) (fun _ _ _ h => h) (Or.inl ⟨by rfl, ?_⟩) hHeld ?_
                  · intro u hu
                    go_simp
                  try simp only [Act.put, List.setIfInBounds_toArray, List.set_cons_zero, List.set_cons_succ]
                  refine wpAnyH_take (i := 5) (oi := ⟨some 85, _, _, _, _, _⟩) (v := .pointer (some ⟨g, o + j * 2 + 1, none⟩)) rfl (by kernel_rfl) (by kernel_rfl) (by kernel_rfl) (fun _ _ _ h => h) (Or.inl ⟨by rfl, ?_⟩) hHeld ?_
                  · intro u hu
                    go_simp
                  try simp only [Act.put, List.setIfInBounds_toArray, List.set_cons_zero, List.set_cons_succ]
                  refine wpAnyH_take (i := 6) (oi := ⟨some 86, _, _, _, _, _⟩) (v := .string tt) rfl (by kernel_rfl) (by kernel_rfl) (by kernel_rfl) (fun _ _ _ h => h) (Or.inl ⟨by rfl, ?_⟩) hHeld ?_
                  · intro u hu
                    go_simp
                  try simp only [Act.put, List.setIfInBounds_toArray, List.set_cons_zero, List.set_cons_succ]
                  refine wpAnyH_ready (rs := [7]) (by kernel_rfl) (by simp) ?_
                  refine AllReadyH.cons (o := ⟨some 87, _, _, _, _, _⟩) rfl (fun K hK => ?_) AllReadyH.nil
                  go_simp
                  go_at_call 44
                  refine (CCp.out _).mono ?_
                  rintro e wc ⟨rfl, rfl⟩
                  refine hK.out _ _ hHeld (fun hHeld => ?_)
                  clear hK K
                  try simp only [Act.put, List.setIfInBounds_toArray, List.set_cons_zero, List.set_cons_succ]
                  refine wpAnyH_take (i := 8) (oi := ⟨some 88, _, _, _, _, _⟩) (v := .bool false) rfl (by kernel_rfl) (by kernel_rfl) (by kernel_rfl) (fun _ _ _ h => h) (Or.inl ⟨by rfl, ?_⟩) hHeld ?_
                  · intro u hu
                    go_simp
                  try simp only [Act.put, List.setIfInBounds_toArray, List.set_cons_zero, List.set_cons_succ]
                  refine wpAnyH_take (i := 9) (oi := ⟨some 89, _, _, _, _, _⟩) (v := .bool false) rfl (by kernel_rfl) (by kernel_rfl) (by kernel_rfl) (fun _ _ _ h => h) (Or.inl ⟨by rfl, ?_⟩) hHeld ?_
                  · intro u hu
                    go_simp
                  try simp only [Act.put, List.setIfInBounds_toArray, List.set_cons_zero, List.set_cons_succ]
                  refine wpAnyH_take (i := 10) (oi := ⟨some 90, _, _, _, _, _⟩) (v := .pointer (some ⟨w.heap.size + 1, 3, none⟩)) rfl (by kernel_rfl) (by kernel_rfl) (by kernel_rfl) (fun _ _ _ h => h) (Or.inl ⟨by rfl, ?_⟩) hHeld ?_
                  · intro u hu
                    go_simp
                  try simp only [Act.put, List.setIfInBounds_toArray, List.set_cons_zero, List.set_cons_succ]
                  refine wpAnyH_take (i := 11) (oi := ⟨some 91, _, _, _, _, _⟩) (v := .string bc) rfl (by kernel_rfl) (by kernel_rfl) (by kernel_rfl) (fun _ _ _ h => h) (Or.inl ⟨by rfl, ?_⟩) hHeld ?_
                  · intro u hu
                    go_simp
                  try simp only [Act.put, List.setIfInBounds_toArray, List.set_cons_zero, List.set_cons_succ]
                  refine wpAnyH_take (i := 13) (oi := ⟨some 93, _, _, _, _, _⟩) (v := .pointer (some ⟨w.heap.size + 1, 3, none⟩)) rfl (by kernel_rfl) (by kernel_rfl) (by kernel_rfl) (fun _ _ _ h => h) (Or.inl ⟨by rfl, ?_⟩) hHeld ?_
                  · intro u hu
                    go_simp
                  try simp only [Act.put, List.setIfInBounds_toArray, List.set_cons_zero, List.set_cons_succ]
                  refine wpAnyH_take (i := 14) (oi := ⟨some 94, _, _, _, _, _⟩) (v := .string bc) rfl (by kernel_rfl) (by kernel_rfl) (by kernel_rfl) (fun _ _ _ h => h) (Or.inl ⟨by rfl, ?_⟩) hHeld ?_
                  · intro u hu
                    go_simp
                  try simp only [Act.put, List.setIfInBounds_toArray, List.set_cons_zero, List.set_cons_succ]
                  refine wpAnyH_ready (rs := [12]) (by kernel_rfl) (by simp) ?_
                  refine AllReadyH.cons (o := ⟨some 92, _, _, _, _, _⟩) rfl (fun K hK => ?_) AllReadyH.nil
                  go_simp
                  go_at_call 23
                  refine (CU.out _).mono ?_
                  rintro e wu ⟨rfl, hwu⟩
                  have BU : Below wr.heap.size wr wu := bt ((Below.refl _ _).drew) hwu
                  have HBU := hid (bt hB.out BU)
                  refine hK.out _ _ (SK3.out _ BU) (fun hHeld => ?_)
                  clear hK K hwu
                  try simp only [Act.put, List.setIfInBounds_toArray, List.set_cons_zero, List.set_cons_succ]
                  refine wpAnyH_take (i := 15) (oi := ⟨some 95, _, _, _, _, _⟩) (v := .bool true) rfl (by kernel_rfl) (by kernel_rfl) (by kernel_rfl) (fun _ _ _ h => h) (Or.inl ⟨by rfl, ?_⟩) hHeld ?_
                  · intro u hu
                    go_simp
                  try simp only [Act.put, List.setIfInBounds_toArray, List.set_cons_zero, List.set_cons_succ]
                  refine wpAnyH_take (i := 16) (oi := ⟨some 96, _, _, _, _, _⟩) (v := .bool true) rfl (by kernel_rfl) (by kernel_rfl) (by kernel_rfl) (fun _ _ _ h => h) (Or.inl ⟨by rfl, ?_⟩) hHeld ?_
                  · intro u hu
                    go_simp
                  try simp only [Act.put, List.setIfInBounds_toArray, List.set_cons_zero, List.set_cons_succ]
                  refine wpAnyH_done (by kernel_rfl) ?_ _
                  clear hHeld
                  go_wp2
                  go_ret
                  exact ⟨by rw [HVV.out]; try rfl, bt HB1.out (bt HBW.out BU)⟩
            · have q3 : (kk == 3) = false := by simp; exact hk3
              by_cases hk4 : kk = 4
              · have q4 : (kk == 4) = true := by simp [hk4]
                have HFP : Hid (fitP x p = sevT x.street) := by show _ = _; unfold fitP; rw [if_neg (fun h => hk2 (HKD.out.symm.trans h)), if_neg (fun h => hk3 (HKD.out.symm.trans h)), if_pos (HKD.out.trans hk4)]
                obtain ⟨sv, hsv⟩ : ∃ sv, sv = sevT x.street := ⟨_, rfl⟩
                rw [← hsv] at HFP CS4
                clear hk2 hk3 hk4 hsv
                cases sv
                · have HVV := hid (HN.out HFP.out)
                  go_wp2_with fail
                  refine (CS4.out _).mono ?_
                  rintro e w5 ⟨rfl, hb5⟩
                  have HB5 := hid (bt hB.out hb5)
                  have HW5 := hid (bt HBW.out hb5)
                  clear hb5
                  go_wp2
                  go_ret
                  exact ⟨by rw [HVV.out]; try rfl, bt HB1.out HW5.out⟩
                · have HVV := hid (HY.out HFP.out)
                  go_wp2_with fail
                  refine (CS4.out _).mono ?_
                  rintro e w5 ⟨rfl, hb5⟩
                  have HB5 := hid (bt hB.out hb5)
                  have HW5 := hid (bt HBW.out hb5)
                  clear hb5
                  go_wp2
                  go_roundw
                  case rel => exact ⟨j + 1, by omega, by go_num, HVV, HB5⟩
                  case measure => simp [intOf]; omega
              · have q4 : (kk == 4) = false := by simp; exact hk4
                by_cases hk5 : kk = 5
                · have q5 : (kk == 5) = true := by simp [hk5]
                  have HFP : Hid (fitP x p = sevT x.town) := by show _ = _; unfold fitP; rw [if_neg (fun h => hk2 (HKD.out.symm.trans h)), if_neg (fun h => hk3 (HKD.out.symm.trans h)), if_neg (fun h => hk4 (HKD.out.symm.trans h)), if_pos (HKD.out.trans hk5)]
                  obtain ⟨sv, hsv⟩ : ∃ sv, sv = sevT x.town := ⟨_, rfl⟩
                  rw [← hsv] at HFP CS5
                  clear hk2 hk3 hk4 hk5 hsv
                  cases sv
                  · have HVV := hid (HN.out HFP.out)
                    go_wp2_with fail
                    refine (CS5.out _).mono ?_
                    rintro e w5 ⟨rfl, hb5⟩
                    have HB5 := hid (bt hB.out hb5)
                    have HW5 := hid (bt HBW.out hb5)
                    clear hb5
                    go_wp2
                    go_ret
                    exact ⟨by rw [HVV.out]; try rfl, bt HB1.out HW5.out⟩
                  · have HVV := hid (HY.out HFP.out)
                    go_wp2_with fail
                    refine (CS5.out _).mono ?_
                    rintro e w5 ⟨rfl, hb5⟩
                    have HB5 := hid (bt hB.out hb5)
                    have HW5 := hid (bt HBW.out hb5)
                    clear hb5
                    go_wp2
                    go_roundw
                    case rel => exact ⟨j + 1, by omega, by go_num, HVV, HB5⟩
                    case measure => simp [intOf]; omega
                · have q5 : (kk == 5) = false := by simp; exact hk5
                  by_cases hk6 : kk = 6
                  · have q6 : (kk == 6) = true := by simp [hk6]
                    have HFP : Hid (fitP x p = sevT x.person) := by show _ = _; unfold fitP; rw [if_neg (fun h => hk2 (HKD.out.symm.trans h)), if_neg (fun h => hk3 (HKD.out.symm.trans h)), if_neg (fun h => hk4 (HKD.out.symm.trans h)), if_neg (fun h => hk5 (HKD.out.symm.trans h)), if_pos (HKD.out.trans hk6)]
                    obtain ⟨sv, hsv⟩ : ∃ sv, sv = sevT x.person := ⟨_, rfl⟩
                    rw [← hsv] at HFP CS6
                    clear hk2 hk3 hk4 hk5 hk6 hsv
                    cases sv
                    · have HVV := hid (HN.out HFP.out)
                      go_wp2_with fail
                      refine (CS6.out _).mono ?_
                      rintro e w5 ⟨rfl, hb5⟩
                      have HB5 := hid (bt hB.out hb5)
                      have HW5 := hid (bt HBW.out hb5)
                      clear hb5
                      go_wp2
                      go_ret
                      exact ⟨by rw [HVV.out]; try rfl, bt HB1.out HW5.out⟩
                    · have HVV := hid (HY.out HFP.out)
                      go_wp2_with fail
                      refine (CS6.out _).mono ?_
                      rintro e w5 ⟨rfl, hb5⟩
                      have HB5 := hid (bt hB.out hb5)
                      have HW5 := hid (bt HBW.out hb5)
                      clear hb5
                      go_wp2
                      go_roundw
                      case rel => exact ⟨j + 1, by omega, by go_num, HVV, HB5⟩
                      case measure => simp [intOf]; omega
                  · have q6 : (kk == 6) = false := by simp; exact hk6
                    have HVV := hid (HY.out (by unfold fitP; rw [if_neg (fun h => hk2 (HKD.out.symm.trans h)), if_neg (fun h => hk3 (HKD.out.symm.trans h)), if_neg (fun h => hk4 (HKD.out.symm.trans h)), if_neg (fun h => hk5 (HKD.out.symm.trans h)), if_neg (fun h => hk6 (HKD.out.symm.trans h))]))
                    clear hk2 hk3 hk4 hk5 hk6
                    go_wp2
                    go_roundw
                    case rel => exact ⟨j + 1, by omega, by go_num, HVV, hB⟩
                    case measure => simp [intOf]; omega
        · obtain rfl : j = qs.length := by omega
          have HVV : Hid (r = true) := by
            have := hA.out
            rw [List.take_length] at this
            show _ = _
            rw [HR.out, HV.out, this]; rfl
          clear hA
          go_wp2
          go_ret
          exact ⟨by rw [HVV.out]; try rfl, bt HB1.out HBW.out⟩
    · have HVV : Hid (r = false) := by show _ = _; rw [HR.out, HV.out]; rfl
      go_wp2
      go_ret
      exact ⟨by rw [HVV.out]; try rfl, bt HB1.out HBX.out⟩

end Fm
end Go.Proofs.YtcaiejbnhjiflaaGreatDoor
