/-
  Contracts of the document's run and Sound.
-/
import Derived.Test.YtaeljmiklalpnaaGreatDoorMj
import Derived.Test.YtaeljmiklalpnaaGreatDoorRj
import Derived.Outline
import Derived.Deep.RegionHeld3
namespace Go.Proofs.YtaeljmiklalpnaaGreatDoor
open Go.RowKit Go.ChangeMaps Gn
namespace Rg

/-- A register whose first changes are sound. -/
structure SndTo (r : List Ch) (k : Nat) : Prop where
  few : k ≤ 60
  days : ∀ (i : Nat) (c d : Ch), i + 1 < k → r[i]? = some c → r[i + 1]? = some d → c.day ≤ d.day
  ok : ∀ (i : Nat) (c : Ch), i < k → r[i]? = some c → OkC (runL (r.take i)) c
theorem SndTo.start (r : List Ch) : SndTo r 0 := ⟨by omega, fun i c d h => by omega, fun i c h => by omega⟩
theorem SndTo.next {r : List Ch} {k : Nat} {c : Ch} (h : SndTo r k) (hk : k < 60) (hc : r[k]? = some c) (hd : 0 < k → ∀ p, r[k - 1]? = some p → p.day ≤ c.day) (ok : OkC (runL (r.take k)) c) : SndTo r (k + 1) := by
  refine ⟨by omega, fun i a b hi ha hb => ?_, fun i a hi ha => ?_⟩
  · by_cases e : i + 1 = k
    · subst e
      have e2 := Option.some.inj (hc.symm.trans hb)
      subst e2
      exact hd (by omega) a (by simpa using ha)
    · exact h.days i a b (by omega) ha hb
  · by_cases e : i = k
    · subst e
      have e2 := Option.some.inj (hc.symm.trans ha)
      subst e2
      exact ok
    · exact h.ok i a (by omega) ha
theorem SndTo.all {r : List Ch} (h : SndTo r r.length) : Sound r :=
  ⟨h.few, fun i c d hc hd => h.days i c d (List.getElem?_eq_some_iff.1 hd).1 hc hd, fun i c hc => h.ok i c (List.getElem?_eq_some_iff.1 hc).1 hc⟩
theorem SndTo.snd {r : List Ch} {k : Nat} (h : SndTo r k) : Sound (r.take k) := by
  refine ⟨by have := h.few; rw [List.length_take]; omega, fun i c d hc hd => ?_, fun i c hc => ?_⟩
  · rw [List.getElem?_take] at hc hd
    split at hd
    · rename_i q
      rw [if_pos (by omega)] at hc
      exact h.days i c d q hc hd
    · cases hd
  · rw [List.getElem?_take] at hc
    split at hc
    · rename_i q
      rw [List.take_take, Nat.min_eq_left (by omega)]
      exact h.ok i c q hc
    · cases hc
theorem sts_nil (w : World) : IsSts w (.slice none 0 0) [] [] := ⟨none, 0, rfl, rfl, by simpa [cellsS_nil] using SlR.nil w 8, fun i s u h => by simp at h⟩
/-- What the document's run answers over all changes. -/
def RunPost (r : List Ch) (w : World) (e : Ending) (w' : World) : Prop := ∃ v E i, e = .returned (.tuple #[v, .int .i64 E, .int .i64 i]) ∧ Below w.heap.size w w' ∧ (E = 0 → Sound r)

set_option maxRecDepth 100000 in
set_option maxHeartbeats 16000000 in
theorem rrun_any (r : List Ch) (rv : Value) (w : World) (hr : IsChs w rv r) (_hrl : r.length ≤ 1000) (hsz : ∀ c ∈ r, c.code.length ≤ 1000 ∧ c.town.length ≤ 1000 ∧ c.name.length ≤ 1000) (CL : ClashOk) :
    Calls Tryz.prog 30 #[rv, .bool true, .int .i64 0] w (RunPost r w) := by
  obtain ⟨A, cap, rfl, hR⟩ := hr
  have HR := hid hR
  have HSZ := hid hsz
  obtain ⟨m, hm⟩ : ∃ m, m = r.length := ⟨_, rfl⟩
  rw [← hm]
  have HM := hid hm
  clear hm hR hsz
  go_enter Tryz.func30, Tryz.ntmps30
  go_wp2_with fail
  go_loopw [9, 10] (fun lv i wr => ∃ k : Nat, k ≤ m ∧ i = .int .i64 k ∧ Hid (∃ vs, IsSts wr lv (runL (r.take k)) vs) ∧ Hid (SndTo r k) ∧ Hid (Below w.heap.size w wr)) (fun _ i _ => m - (intOf i).toNat)
  case atStart => exact ⟨0, Nat.zero_le _, rfl, ⟨[], sts_nil _⟩, SndTo.start r, Below.refl _ _⟩
  case round =>
    obtain ⟨k, hk, rfl, hI, hS, hB⟩ := hrel
    obtain ⟨vs, hI2⟩ := hI.out
    have HI := hid hI2
    clear hI hI2
    by_cases hlt : k < m
    · obtain ⟨c, hc⟩ : ∃ c, r[k]? = some c := ⟨_, List.getElem?_eq_getElem (by have := HM.out; omega)⟩
      obtain ⟨g0, o0, rfl, hg0, hch⟩ := slr_ch (SlR.on HR.out hB.out) hc
      have SK : Hid (∀ u, Below wr.heap.size wr u → ChAt u g0 (o0 + k * 9) c) := fun u hu => by
        obtain ⟨g1, o1, e1, _, h⟩ := slr_ch (SlR.on HR.out (bt hB.out hu)) hc
        cases e1
        exact h
      have HC := hid hc
      have hk0 : 0 ≤ (k : Int) := by omega
      have hk1 : (k : Int) < (m : Int) := by omega
      by_cases h60 : k < 60
      · have hk60 : (k : Int) < 60 := by omega
        have hk60b : decide ((k : Int) ≥ 60) = false := decide_eq_false (by omega)
        have hk60c : ¬ 60 ≤ k := by omega
        have HFA := hid (fun u => rformed_any c u (by have := (HSZ.out c (List.mem_of_getElem? HC.out)).1; omega) (by have := (HSZ.out c (List.mem_of_getElem? HC.out)).2.1; omega) (by have := (HSZ.out c (List.mem_of_getElem? HC.out)).2.2; omega))
        have HMK := hid (fun u v us hu hf => rmake_any (runL (r.take k)) us v c u hu (by have := run_few (r.take k); rw [List.length_take] at this; omega) hS.out.snd.inv (fun s hs => by have := run_al hs; rw [List.length_take] at this; omega) hf CL)
        unfold chA at HFA HMK
        have hw0 : Below wr.heap.size wr wr.drew := (Below.refl _ _).drew
        clear hc hch hg0
        go_wp2_with fail
        rcases Nat.eq_zero_or_pos k with hkz | hkz
        · have q1 : decide ((k : Int) > 0) = false := decide_eq_false (by omega)
          have q1b : decide (0 < k) = false := decide_eq_false (by omega)
          have HDY : Hid (0 < k → ∀ p, r[k - 1]? = some p → p.day ≤ c.day) := fun q => absurd q (by omega)
          obtain ⟨c0, -⟩ := SK.out _ (Below.refl _ _)
          clear hkz
          refine wp_region_held_drew (S := fun w' => w'.cell? ⟨g0, o0 + k * 9, none⟩ = some (.int .i64 c.day)) (by kernel_rfl) (by simpa using c0) (fun hHeld => ?_)
          obtain ⟨wd, hwd⟩ : ∃ u, u = wr.drew := ⟨_, rfl⟩
          rw [← hwd] at hw0 hHeld ⊢
          clear hwd
          refine wpAnyH_take (i := 0) (oi := ⟨some 34, _, _, _, _, _⟩) (v := .int .i64 (k : Int)) rfl (by kernel_rfl) (by kernel_rfl) (by kernel_rfl) (fun _ _ _ h => h) (Or.inl ⟨by rfl, ?_⟩) hHeld ?_
          · intro u hu
            go_simp
          try simp only [Act.put, List.setIfInBounds_toArray, List.set_cons_zero, List.set_cons_succ]
          refine wpAnyH_take (i := 1) (oi := ⟨some 35, _, _, _, _, _⟩) (v := .bool false) rfl (by kernel_rfl) (by kernel_rfl) (by kernel_rfl) (fun _ _ _ h => h) (Or.inl ⟨by rfl, ?_⟩) hHeld ?_
          · intro u hu
            go_simp
          try simp only [Act.put, List.setIfInBounds_toArray, List.set_cons_zero, List.set_cons_succ]
          refine wpAnyH_take (i := 2) (oi := ⟨some 36, _, _, _, _, _⟩) (v := .bool false) rfl (by kernel_rfl) (by kernel_rfl) (by kernel_rfl) (fun _ _ _ h => h) (Or.inl ⟨by rfl, ?_⟩) hHeld ?_
          · intro u hu
            go_simp
          try simp only [Act.put, List.setIfInBounds_toArray, List.set_cons_zero, List.set_cons_succ]
          refine wpAnyH_take (i := 3) (oi := ⟨some 37, _, _, _, _, _⟩) (v := undef) rfl (by kernel_rfl) (by kernel_rfl) (by kernel_rfl) (fun _ _ _ h => h) (Or.inr ⟨by rfl, rfl⟩) hHeld ?_
          try simp only [Act.put, List.setIfInBounds_toArray, List.set_cons_zero, List.set_cons_succ]
          refine wpAnyH_take (i := 4) (oi := ⟨some 38, _, _, _, _, _⟩) (v := undef) rfl (by kernel_rfl) (by kernel_rfl) (by kernel_rfl) (fun _ _ _ h => h) (Or.inr ⟨by rfl, rfl⟩) hHeld ?_
          try simp only [Act.put, List.setIfInBounds_toArray, List.set_cons_zero, List.set_cons_succ]
          refine wpAnyH_take (i := 5) (oi := ⟨some 39, _, _, _, _, _⟩) (v := undef) rfl (by kernel_rfl) (by kernel_rfl) (by kernel_rfl) (fun _ _ _ h => h) (Or.inr ⟨by rfl, rfl⟩) hHeld ?_
          try simp only [Act.put, List.setIfInBounds_toArray, List.set_cons_zero, List.set_cons_succ]
          refine wpAnyH_take (i := 6) (oi := ⟨some 40, _, _, _, _, _⟩) (v := undef) rfl (by kernel_rfl) (by kernel_rfl) (by kernel_rfl) (fun _ _ _ h => h) (Or.inr ⟨by rfl, rfl⟩) hHeld ?_
          try simp only [Act.put, List.setIfInBounds_toArray, List.set_cons_zero, List.set_cons_succ]
          refine wpAnyH_take (i := 7) (oi := ⟨some 41, _, _, _, _, _⟩) (v := undef) rfl (by kernel_rfl) (by kernel_rfl) (by kernel_rfl) (fun _ _ _ h => h) (Or.inr ⟨by rfl, rfl⟩) hHeld ?_
          try simp only [Act.put, List.setIfInBounds_toArray, List.set_cons_zero, List.set_cons_succ]
          refine wpAnyH_take (i := 8) (oi := ⟨some 42, _, _, _, _, _⟩) (v := undef) rfl (by kernel_rfl) (by kernel_rfl) (by kernel_rfl) (fun _ _ _ h => h) (Or.inr ⟨by rfl, rfl⟩) hHeld ?_
          try simp only [Act.put, List.setIfInBounds_toArray, List.set_cons_zero, List.set_cons_succ]
          refine wpAnyH_take (i := 9) (oi := ⟨some 43, _, _, _, _, _⟩) (v := undef) rfl (by kernel_rfl) (by kernel_rfl) (by kernel_rfl) (fun _ _ _ h => h) (Or.inr ⟨by rfl, rfl⟩) hHeld ?_
          try simp only [Act.put, List.setIfInBounds_toArray, List.set_cons_zero, List.set_cons_succ]
          refine wpAnyH_take (i := 10) (oi := ⟨some 44, _, _, _, _, _⟩) (v := undef) rfl (by kernel_rfl) (by kernel_rfl) (by kernel_rfl) (fun _ _ _ h => h) (Or.inr ⟨by rfl, rfl⟩) hHeld ?_
          try simp only [Act.put, List.setIfInBounds_toArray, List.set_cons_zero, List.set_cons_succ]
          refine wpAnyH_take (i := 11) (oi := ⟨some 45, _, _, _, _, _⟩) (v := undef) rfl (by kernel_rfl) (by kernel_rfl) (by kernel_rfl) (fun _ _ _ h => h) (Or.inr ⟨by rfl, rfl⟩) hHeld ?_
          try simp only [Act.put, List.setIfInBounds_toArray, List.set_cons_zero, List.set_cons_succ]
          refine wpAnyH_take (i := 12) (oi := ⟨some 46, _, _, _, _, _⟩) (v := undef) rfl (by kernel_rfl) (by kernel_rfl) (by kernel_rfl) (fun _ _ _ h => h) (Or.inr ⟨by rfl, rfl⟩) hHeld ?_
          try simp only [Act.put, List.setIfInBounds_toArray, List.set_cons_zero, List.set_cons_succ]
          refine wpAnyH_take (i := 13) (oi := ⟨some 47, _, _, _, _, _⟩) (v := undef) rfl (by kernel_rfl) (by kernel_rfl) (by kernel_rfl) (fun _ _ _ h => h) (Or.inr ⟨by rfl, rfl⟩) hHeld ?_
          try simp only [Act.put, List.setIfInBounds_toArray, List.set_cons_zero, List.set_cons_succ]
          refine wpAnyH_take (i := 14) (oi := ⟨some 48, _, _, _, _, _⟩) (v := undef) rfl (by kernel_rfl) (by kernel_rfl) (by kernel_rfl) (fun _ _ _ h => h) (Or.inr ⟨by rfl, rfl⟩) hHeld ?_
          try simp only [Act.put, List.setIfInBounds_toArray, List.set_cons_zero, List.set_cons_succ]
          refine wpAnyH_take (i := 15) (oi := ⟨some 49, _, _, _, _, _⟩) (v := .bool false) rfl (by kernel_rfl) (by kernel_rfl) (by kernel_rfl) (fun _ _ _ h => h) (Or.inl ⟨by rfl, ?_⟩) hHeld ?_
          · intro u hu
            go_simp
          try simp only [Act.put, List.setIfInBounds_toArray, List.set_cons_zero, List.set_cons_succ]
          refine wpAnyH_done (by kernel_rfl) ?_ _
          clear hHeld
          clear c0
          obtain ⟨c0, c1, c2, c3, c4, c5, c6, c7, c8⟩ := SK.out _ hw0
          go_wp2_with fail
          refine (HFA.out _).mono ?_
          rintro e w2 ⟨b, rfl, hbf, hb2⟩
          have HB2 := hid (bt hw0 hb2)
          have HBF := hid hbf
          clear hb2 hbf c0 c1 c2 c3 c4 c5 c6 c7 c8
          cases b
          · go_wp2
            go_ret3
            exact ⟨_, _, _, rfl, bt hB.out HB2.out, fun q => absurd q (by decide)⟩
          · have HFC : Hid (FmC c) := HBF.out rfl
            clear HBF
            obtain ⟨c0, c1, c2, c3, c4, c5, c6, c7, c8⟩ := SK.out _ HB2.out
            go_wp2_with fail
            refine (HMK.out _ _ vs (HI.out.on HB2.out) HFC.out).mono ?_
            rintro e w3 ⟨v', E, rfl, hb3, hE⟩
            have HB3 := hid (bt (bt hB.out HB2.out) hb3)
            have HE := hid hE
            clear hb3 hE c0 c1 c2 c3 c4 c5 c6 c7 c8
            by_cases hE0 : E = 0
            · subst hE0
              obtain ⟨hok, vs2, hsts⟩ := HE.out rfl
              have HN : Hid (SndTo r (k + 1)) := hS.out.next h60 HC.out HDY.out hok
              have HI2 : Hid (∃ us, IsSts w3 v' (runL (r.take (k + 1))) us) := ⟨vs2, by rw [run_take HC.out]; exact hsts⟩
              clear hok hsts
              go_wp2_with fail
              go_roundw
              case rel => exact ⟨k + 1, by omega, by go_num, HI2, HN, HB3⟩
              case measure => simp [intOf]; omega
            · have hE1 : ((E : Int) != 0) = true := by simpa using hE0
              have HE0 := hid hE0
              clear hE0
              go_wp2
              go_ret3
              exact ⟨_, _, _, rfl, HB3.out, fun q => absurd q HE0.out⟩
        · obtain ⟨p, hp⟩ : ∃ p, r[k - 1]? = some p := ⟨_, List.getElem?_eq_getElem (by have := HM.out; omega)⟩
          obtain ⟨g1, o1, e1, -, hpc⟩ := slr_ch (SlR.on HR.out hB.out) hp
          cases e1
          have pc := hpc.c0
          have HPD := hid hp
          have q1 : decide ((k : Int) > 0) = true := decide_eq_true (by omega)
          have q1b : decide (0 < k) = true := decide_eq_true hkz
          have q2 : IntKind.i64.wrap ((k : Int) - 1) = (k : Int) - 1 := IntWalk.i64_in _ (by omega)
          have q3 : ((k : Int) - 1).toNat = k - 1 := by omega
          have q4 : (0 : Int) ≤ (k : Int) - 1 := by omega
          have q5 : (1 : Int) ≤ (k : Int) := by omega
          have q6 : (k : Int) - 1 < (m : Int) := by omega
          obtain ⟨c0, -⟩ := SK.out _ (Below.refl _ _)
          clear hpc hp hkz
          rcases (Decidable.em (c.day < p.day)).symm with hdd | hdd
          · have hd1 : decide (c.day < p.day) = false := decide_eq_false hdd
            have HDY : Hid (0 < k → ∀ p, r[k - 1]? = some p → p.day ≤ c.day) := fun _ p2 hp2 => by
              have e2 := Option.some.inj (HPD.out.symm.trans hp2)
              subst e2
              omega
            clear hdd
            refine wp_region_held_drew (S := fun w' => w'.cell? ⟨g0, o0 + k * 9, none⟩ = some (.int .i64 c.day) ∧ w'.cell? ⟨g0, o0 + (k - 1) * 9, none⟩ = some (.int .i64 p.day)) (by kernel_rfl) (by exact ⟨by simpa using c0, by simpa using pc⟩) (fun hHeld => ?_)
            obtain ⟨wd, hwd⟩ : ∃ u, u = wr.drew := ⟨_, rfl⟩
            rw [← hwd] at hw0 hHeld ⊢
            clear hwd
            refine wpAnyH_take (i := 0) (oi := ⟨some 34, _, _, _, _, _⟩) (v := .int .i64 (k : Int)) rfl (by kernel_rfl) (by kernel_rfl) (by kernel_rfl) (fun _ _ _ h => h) (Or.inl ⟨by rfl, ?_⟩) hHeld ?_
            · intro u hu
              go_simp
            try simp only [Act.put, List.setIfInBounds_toArray, List.set_cons_zero, List.set_cons_succ]
            refine wpAnyH_take (i := 1) (oi := ⟨some 35, _, _, _, _, _⟩) (v := .bool true) rfl (by kernel_rfl) (by kernel_rfl) (by kernel_rfl) (fun _ _ _ h => h) (Or.inl ⟨by rfl, ?_⟩) hHeld ?_
            · intro u hu
              go_simp
            try simp only [Act.put, List.setIfInBounds_toArray, List.set_cons_zero, List.set_cons_succ]
            refine wpAnyH_take (i := 2) (oi := ⟨some 36, _, _, _, _, _⟩) (v := .bool true) rfl (by kernel_rfl) (by kernel_rfl) (by kernel_rfl) (fun _ _ _ h => h) (Or.inl ⟨by rfl, ?_⟩) hHeld ?_
            · intro u hu
              go_simp
            try simp only [Act.put, List.setIfInBounds_toArray, List.set_cons_zero, List.set_cons_succ]
            refine wpAnyH_take (i := 3) (oi := ⟨some 37, _, _, _, _, _⟩) (v := .slice (some ⟨g0, o0, none⟩) m cap) rfl (by kernel_rfl) (by kernel_rfl) (by kernel_rfl) (fun _ _ _ h => h) (Or.inl ⟨by rfl, ?_⟩) hHeld ?_
            · intro u hu
              go_simp
            try simp only [Act.put, List.setIfInBounds_toArray, List.set_cons_zero, List.set_cons_succ]
            refine wpAnyH_take (i := 4) (oi := ⟨some 38, _, _, _, _, _⟩) (v := .int .i64 (k : Int)) rfl (by kernel_rfl) (by kernel_rfl) (by kernel_rfl) (fun _ _ _ h => h) (Or.inl ⟨by rfl, ?_⟩) hHeld ?_
            · intro u hu
              go_simp
            try simp only [Act.put, List.setIfInBounds_toArray, List.set_cons_zero, List.set_cons_succ]
            refine wpAnyH_take (i := 5) (oi := ⟨some 39, _, _, _, _, _⟩) (v := .pointer (some ⟨g0, o0 + k * 9, none⟩)) rfl (by kernel_rfl) (by kernel_rfl) (by kernel_rfl) (fun _ _ _ h => h) (Or.inl ⟨by rfl, ?_⟩) hHeld ?_
            · intro u hu
              go_simp
            try simp only [Act.put, List.setIfInBounds_toArray, List.set_cons_zero, List.set_cons_succ]
            refine wpAnyH_take (i := 6) (oi := ⟨some 40, _, _, _, _, _⟩) (v := .pointer (some ⟨g0, o0 + k * 9, none⟩)) rfl (by kernel_rfl) (by kernel_rfl) (by kernel_rfl) (fun _ _ _ h => h) (Or.inl ⟨by rfl, ?_⟩) hHeld ?_
            · intro u hu
              go_simp
            try simp only [Act.put, List.setIfInBounds_toArray, List.set_cons_zero, List.set_cons_succ]
            refine wpAnyH_take (i := 7) (oi := ⟨some 41, _, _, _, _, _⟩) (v := .int .i64 c.day) rfl (by kernel_rfl) (by kernel_rfl) (by kernel_rfl) (fun _ _ _ h => h) (Or.inl ⟨by rfl, ?_⟩) hHeld ?_
            · intro u hu
              go_simp
            try simp only [Act.put, List.setIfInBounds_toArray, List.set_cons_zero, List.set_cons_succ]
            refine wpAnyH_take (i := 8) (oi := ⟨some 42, _, _, _, _, _⟩) (v := .slice (some ⟨g0, o0, none⟩) m cap) rfl (by kernel_rfl) (by kernel_rfl) (by kernel_rfl) (fun _ _ _ h => h) (Or.inl ⟨by rfl, ?_⟩) hHeld ?_
            · intro u hu
              go_simp
            try simp only [Act.put, List.setIfInBounds_toArray, List.set_cons_zero, List.set_cons_succ]
            refine wpAnyH_take (i := 9) (oi := ⟨some 43, _, _, _, _, _⟩) (v := .int .i64 (k : Int)) rfl (by kernel_rfl) (by kernel_rfl) (by kernel_rfl) (fun _ _ _ h => h) (Or.inl ⟨by rfl, ?_⟩) hHeld ?_
            · intro u hu
              go_simp
            try simp only [Act.put, List.setIfInBounds_toArray, List.set_cons_zero, List.set_cons_succ]
            refine wpAnyH_take (i := 10) (oi := ⟨some 44, _, _, _, _, _⟩) (v := .int .i64 ((k : Int) - 1)) rfl (by kernel_rfl) (by kernel_rfl) (by kernel_rfl) (fun _ _ _ h => h) (Or.inl ⟨by rfl, ?_⟩) hHeld ?_
            · intro u hu
              go_simp
            try simp only [Act.put, List.setIfInBounds_toArray, List.set_cons_zero, List.set_cons_succ]
            refine wpAnyH_take (i := 11) (oi := ⟨some 45, _, _, _, _, _⟩) (v := .pointer (some ⟨g0, o0 + (k - 1) * 9, none⟩)) rfl (by kernel_rfl) (by kernel_rfl) (by kernel_rfl) (fun _ _ _ h => h) (Or.inl ⟨by rfl, ?_⟩) hHeld ?_
            · intro u hu
              go_simp
            try simp only [Act.put, List.setIfInBounds_toArray, List.set_cons_zero, List.set_cons_succ]
            refine wpAnyH_take (i := 12) (oi := ⟨some 46, _, _, _, _, _⟩) (v := .pointer (some ⟨g0, o0 + (k - 1) * 9, none⟩)) rfl (by kernel_rfl) (by kernel_rfl) (by kernel_rfl) (fun _ _ _ h => h) (Or.inl ⟨by rfl, ?_⟩) hHeld ?_
            · intro u hu
              go_simp
            try simp only [Act.put, List.setIfInBounds_toArray, List.set_cons_zero, List.set_cons_succ]
            refine wpAnyH_take (i := 13) (oi := ⟨some 47, _, _, _, _, _⟩) (v := .int .i64 p.day) rfl (by kernel_rfl) (by kernel_rfl) (by kernel_rfl) (fun _ _ _ h => h) (Or.inl ⟨by rfl, ?_⟩) hHeld ?_
            · intro u hu
              go_simp
            try simp only [Act.put, List.setIfInBounds_toArray, List.set_cons_zero, List.set_cons_succ]
            refine wpAnyH_take (i := 14) (oi := ⟨some 48, _, _, _, _, _⟩) (v := .bool false) rfl (by kernel_rfl) (by kernel_rfl) (by kernel_rfl) (fun _ _ _ h => h) (Or.inl ⟨by rfl, ?_⟩) hHeld ?_
            · intro u hu
              go_simp
            try simp only [Act.put, List.setIfInBounds_toArray, List.set_cons_zero, List.set_cons_succ]
            refine wpAnyH_take (i := 15) (oi := ⟨some 49, _, _, _, _, _⟩) (v := .bool false) rfl (by kernel_rfl) (by kernel_rfl) (by kernel_rfl) (fun _ _ _ h => h) (Or.inl ⟨by rfl, ?_⟩) hHeld ?_
            · intro u hu
              go_simp
            try simp only [Act.put, List.setIfInBounds_toArray, List.set_cons_zero, List.set_cons_succ]
            refine wpAnyH_done (by kernel_rfl) ?_ _
            clear hHeld
            clear hd1 q1 q1b q2 q3 q4 q5 q6 pc HPD
            clear c0
            obtain ⟨c0, c1, c2, c3, c4, c5, c6, c7, c8⟩ := SK.out _ hw0
            go_wp2_with fail
            refine (HFA.out _).mono ?_
            rintro e w2 ⟨b, rfl, hbf, hb2⟩
            have HB2 := hid (bt hw0 hb2)
            have HBF := hid hbf
            clear hb2 hbf c0 c1 c2 c3 c4 c5 c6 c7 c8
            cases b
            · go_wp2
              go_ret3
              exact ⟨_, _, _, rfl, bt hB.out HB2.out, fun q => absurd q (by decide)⟩
            · have HFC : Hid (FmC c) := HBF.out rfl
              clear HBF
              obtain ⟨c0, c1, c2, c3, c4, c5, c6, c7, c8⟩ := SK.out _ HB2.out
              go_wp2_with fail
              refine (HMK.out _ _ vs (HI.out.on HB2.out) HFC.out).mono ?_
              rintro e w3 ⟨v', E, rfl, hb3, hE⟩
              have HB3 := hid (bt (bt hB.out HB2.out) hb3)
              have HE := hid hE
              clear hb3 hE c0 c1 c2 c3 c4 c5 c6 c7 c8
              by_cases hE0 : E = 0
              · subst hE0
                obtain ⟨hok, vs2, hsts⟩ := HE.out rfl
                have HN : Hid (SndTo r (k + 1)) := hS.out.next h60 HC.out HDY.out hok
                have HI2 : Hid (∃ us, IsSts w3 v' (runL (r.take (k + 1))) us) := ⟨vs2, by rw [run_take HC.out]; exact hsts⟩
                clear hok hsts
                go_wp2_with fail
                go_roundw
                case rel => exact ⟨k + 1, by omega, by go_num, HI2, HN, HB3⟩
                case measure => simp [intOf]; omega
              · have hE1 : ((E : Int) != 0) = true := by simpa using hE0
                have HE0 := hid hE0
                clear hE0
                go_wp2
                go_ret3
                exact ⟨_, _, _, rfl, HB3.out, fun q => absurd q HE0.out⟩
          · have hd1 : decide (c.day < p.day) = true := decide_eq_true hdd
            clear hdd
            refine wp_region_held_drew (S := fun w' => w'.cell? ⟨g0, o0 + k * 9, none⟩ = some (.int .i64 c.day) ∧ w'.cell? ⟨g0, o0 + (k - 1) * 9, none⟩ = some (.int .i64 p.day)) (by kernel_rfl) (by exact ⟨by simpa using c0, by simpa using pc⟩) (fun hHeld => ?_)
            obtain ⟨wd, hwd⟩ : ∃ u, u = wr.drew := ⟨_, rfl⟩
            rw [← hwd] at hw0 hHeld ⊢
            clear hwd
            refine wpAnyH_take (i := 0) (oi := ⟨some 34, _, _, _, _, _⟩) (v := .int .i64 (k : Int)) rfl (by kernel_rfl) (by kernel_rfl) (by kernel_rfl) (fun _ _ _ h => h) (Or.inl ⟨by rfl, ?_⟩) hHeld ?_
            · intro u hu
              go_simp
            try simp only [Act.put, List.setIfInBounds_toArray, List.set_cons_zero, List.set_cons_succ]
            refine wpAnyH_take (i := 1) (oi := ⟨some 35, _, _, _, _, _⟩) (v := .bool true) rfl (by kernel_rfl) (by kernel_rfl) (by kernel_rfl) (fun _ _ _ h => h) (Or.inl ⟨by rfl, ?_⟩) hHeld ?_
            · intro u hu
              go_simp
            try simp only [Act.put, List.setIfInBounds_toArray, List.set_cons_zero, List.set_cons_succ]
            refine wpAnyH_take (i := 2) (oi := ⟨some 36, _, _, _, _, _⟩) (v := .bool true) rfl (by kernel_rfl) (by kernel_rfl) (by kernel_rfl) (fun _ _ _ h => h) (Or.inl ⟨by rfl, ?_⟩) hHeld ?_
            · intro u hu
              go_simp
            try simp only [Act.put, List.setIfInBounds_toArray, List.set_cons_zero, List.set_cons_succ]
            refine wpAnyH_take (i := 3) (oi := ⟨some 37, _, _, _, _, _⟩) (v := .slice (some ⟨g0, o0, none⟩) m cap) rfl (by kernel_rfl) (by kernel_rfl) (by kernel_rfl) (fun _ _ _ h => h) (Or.inl ⟨by rfl, ?_⟩) hHeld ?_
            · intro u hu
              go_simp
            try simp only [Act.put, List.setIfInBounds_toArray, List.set_cons_zero, List.set_cons_succ]
            refine wpAnyH_take (i := 4) (oi := ⟨some 38, _, _, _, _, _⟩) (v := .int .i64 (k : Int)) rfl (by kernel_rfl) (by kernel_rfl) (by kernel_rfl) (fun _ _ _ h => h) (Or.inl ⟨by rfl, ?_⟩) hHeld ?_
            · intro u hu
              go_simp
            try simp only [Act.put, List.setIfInBounds_toArray, List.set_cons_zero, List.set_cons_succ]
            refine wpAnyH_take (i := 5) (oi := ⟨some 39, _, _, _, _, _⟩) (v := .pointer (some ⟨g0, o0 + k * 9, none⟩)) rfl (by kernel_rfl) (by kernel_rfl) (by kernel_rfl) (fun _ _ _ h => h) (Or.inl ⟨by rfl, ?_⟩) hHeld ?_
            · intro u hu
              go_simp
            try simp only [Act.put, List.setIfInBounds_toArray, List.set_cons_zero, List.set_cons_succ]
            refine wpAnyH_take (i := 6) (oi := ⟨some 40, _, _, _, _, _⟩) (v := .pointer (some ⟨g0, o0 + k * 9, none⟩)) rfl (by kernel_rfl) (by kernel_rfl) (by kernel_rfl) (fun _ _ _ h => h) (Or.inl ⟨by rfl, ?_⟩) hHeld ?_
            · intro u hu
              go_simp
            try simp only [Act.put, List.setIfInBounds_toArray, List.set_cons_zero, List.set_cons_succ]
            refine wpAnyH_take (i := 7) (oi := ⟨some 41, _, _, _, _, _⟩) (v := .int .i64 c.day) rfl (by kernel_rfl) (by kernel_rfl) (by kernel_rfl) (fun _ _ _ h => h) (Or.inl ⟨by rfl, ?_⟩) hHeld ?_
            · intro u hu
              go_simp
            try simp only [Act.put, List.setIfInBounds_toArray, List.set_cons_zero, List.set_cons_succ]
            refine wpAnyH_take (i := 8) (oi := ⟨some 42, _, _, _, _, _⟩) (v := .slice (some ⟨g0, o0, none⟩) m cap) rfl (by kernel_rfl) (by kernel_rfl) (by kernel_rfl) (fun _ _ _ h => h) (Or.inl ⟨by rfl, ?_⟩) hHeld ?_
            · intro u hu
              go_simp
            try simp only [Act.put, List.setIfInBounds_toArray, List.set_cons_zero, List.set_cons_succ]
            refine wpAnyH_take (i := 9) (oi := ⟨some 43, _, _, _, _, _⟩) (v := .int .i64 (k : Int)) rfl (by kernel_rfl) (by kernel_rfl) (by kernel_rfl) (fun _ _ _ h => h) (Or.inl ⟨by rfl, ?_⟩) hHeld ?_
            · intro u hu
              go_simp
            try simp only [Act.put, List.setIfInBounds_toArray, List.set_cons_zero, List.set_cons_succ]
            refine wpAnyH_take (i := 10) (oi := ⟨some 44, _, _, _, _, _⟩) (v := .int .i64 ((k : Int) - 1)) rfl (by kernel_rfl) (by kernel_rfl) (by kernel_rfl) (fun _ _ _ h => h) (Or.inl ⟨by rfl, ?_⟩) hHeld ?_
            · intro u hu
              go_simp
            try simp only [Act.put, List.setIfInBounds_toArray, List.set_cons_zero, List.set_cons_succ]
            refine wpAnyH_take (i := 11) (oi := ⟨some 45, _, _, _, _, _⟩) (v := .pointer (some ⟨g0, o0 + (k - 1) * 9, none⟩)) rfl (by kernel_rfl) (by kernel_rfl) (by kernel_rfl) (fun _ _ _ h => h) (Or.inl ⟨by rfl, ?_⟩) hHeld ?_
            · intro u hu
              go_simp
            try simp only [Act.put, List.setIfInBounds_toArray, List.set_cons_zero, List.set_cons_succ]
            refine wpAnyH_take (i := 12) (oi := ⟨some 46, _, _, _, _, _⟩) (v := .pointer (some ⟨g0, o0 + (k - 1) * 9, none⟩)) rfl (by kernel_rfl) (by kernel_rfl) (by kernel_rfl) (fun _ _ _ h => h) (Or.inl ⟨by rfl, ?_⟩) hHeld ?_
            · intro u hu
              go_simp
            try simp only [Act.put, List.setIfInBounds_toArray, List.set_cons_zero, List.set_cons_succ]
            refine wpAnyH_take (i := 13) (oi := ⟨some 47, _, _, _, _, _⟩) (v := .int .i64 p.day) rfl (by kernel_rfl) (by kernel_rfl) (by kernel_rfl) (fun _ _ _ h => h) (Or.inl ⟨by rfl, ?_⟩) hHeld ?_
            · intro u hu
              go_simp
            try simp only [Act.put, List.setIfInBounds_toArray, List.set_cons_zero, List.set_cons_succ]
            refine wpAnyH_take (i := 14) (oi := ⟨some 48, _, _, _, _, _⟩) (v := .bool true) rfl (by kernel_rfl) (by kernel_rfl) (by kernel_rfl) (fun _ _ _ h => h) (Or.inl ⟨by rfl, ?_⟩) hHeld ?_
            · intro u hu
              go_simp
            try simp only [Act.put, List.setIfInBounds_toArray, List.set_cons_zero, List.set_cons_succ]
            refine wpAnyH_take (i := 15) (oi := ⟨some 49, _, _, _, _, _⟩) (v := .bool true) rfl (by kernel_rfl) (by kernel_rfl) (by kernel_rfl) (fun _ _ _ h => h) (Or.inl ⟨by rfl, ?_⟩) hHeld ?_
            · intro u hu
              go_simp
            try simp only [Act.put, List.setIfInBounds_toArray, List.set_cons_zero, List.set_cons_succ]
            refine wpAnyH_done (by kernel_rfl) ?_ _
            clear hHeld
            go_wp2
            go_ret3
            exact ⟨_, _, _, rfl, bt hB.out hw0, fun q => absurd q (by decide)⟩
      · have hk60b : decide ((k : Int) ≥ 60) = true := decide_eq_true (by omega)
        have hk60c : 60 ≤ k := by omega
        go_wp2
        go_ret3
        exact ⟨_, _, _, rfl, hB.out, fun q => absurd q (by decide)⟩
    · have HV : Hid (Sound r) := by
        have h := hS.out
        rw [show k = r.length by have := HM.out; omega] at h
        exact h.all
      go_wp2
      go_ret3
      exact ⟨_, _, _, rfl, hB.out, fun _ => HV.out⟩

end Rg
end Go.Proofs.YtaeljmiklalpnaaGreatDoor

namespace Go.Proofs.YtaeljmiklalpnaaGreatDoor
open Go.RowKit Go.ChangeMaps Gn
namespace Rg

def SmC (c : Ch) : Prop := c.name.length ≤ 100 ∧ c.town.length ≤ 100 ∧ c.code.length ≤ 20
theorem sB_size (x : W) : (sB x).size = x.length := by simp [sB, ByteArray.size]

set_option maxRecDepth 100000 in
set_option maxHeartbeats 4000000 in
theorem rsmallr_any (r : List Ch) (rv : Value) (w : World) (hr : IsChs w rv r) :
    Calls Tryz.prog 21 #[rv] w fun e w' => ∃ b, e = .returned (.bool b) ∧ w = w' ∧ (b = true → r.length ≤ 70 ∧ ∀ c ∈ r, SmC c) := by
  obtain ⟨A, cap, rfl, hR⟩ := hr
  have HR := hid hR
  obtain ⟨m, hm⟩ : ∃ m, m = r.length := ⟨_, rfl⟩
  rw [← hm]
  have HM := hid hm
  clear hm hR
  go_enter Tryz.func21, Tryz.ntmps21
  by_cases h70 : m ≤ 70
  · have hq : decide ((m : Int) > 70) = false := decide_eq_false (by omega)
    have hq2 : ¬ 70 < m := by omega
    go_wp2_with fail
    go_loopw [3] (fun i wr => ∃ k : Nat, k ≤ m ∧ i = .int .i64 k ∧ w = wr ∧ Hid (∀ i c, i < k → r[i]? = some c → SmC c)) (fun i _ => m - (intOf i).toNat)
    case atStart => exact ⟨0, Nat.zero_le _, rfl, rfl, (by intro i c hi; omega)⟩
    case round =>
      obtain ⟨k, hk, rfl, rfl, hI⟩ := hrel
      by_cases hlt : k < m
      · obtain ⟨c, hc⟩ : ∃ c, r[k]? = some c := ⟨_, List.getElem?_eq_getElem (by have := HM.out; omega)⟩
        obtain ⟨g0, o0, rfl, hg0, hch⟩ := slr_ch HR.out hc
        obtain ⟨c0, c1, c2, c3, c4, c5, c6, c7, c8⟩ := hch
        have hk0 : 0 ≤ (k : Int) := by omega
        have hk1 : (k : Int) < (m : Int) := by omega
        have HC := hid hc
        have s3 := sB_size c.code
        have s4 := sB_size c.town
        have s5 := sB_size c.name
        clear hc hg0
        by_cases hA : SmC c
        · obtain ⟨a1, a2, a3⟩ := hA
          have HN : Hid (∀ i c, i < k + 1 → r[i]? = some c → SmC c) := fun i d hi hd => by
            by_cases e : i = k
            · subst e
              have e2 := Option.some.inj (HC.out.symm.trans hd)
              subst e2
              exact ⟨a1, a2, a3⟩
            · exact hI.out i d (by omega) hd
          have b1 : decide ((c.name.length : Int) > 100) = false := decide_eq_false (by omega)
          have b2 : decide ((c.town.length : Int) > 100) = false := decide_eq_false (by omega)
          have b3 : decide ((c.code.length : Int) > 20) = false := decide_eq_false (by omega)
          have d1 : ¬ 100 < c.name.length := by omega
          have d2 : ¬ 100 < c.town.length := by omega
          have d3 : ¬ 20 < c.code.length := by omega
          go_wp2_with fail
          go_roundw
          case rel => exact ⟨k + 1, by omega, by go_num, trivial, HN⟩
          case measure => simp [intOf]; omega
        · by_cases a1 : c.name.length ≤ 100
          · have b1 : decide ((c.name.length : Int) > 100) = false := decide_eq_false (by omega)
            have d1 : ¬ 100 < c.name.length := by omega
            by_cases a2 : c.town.length ≤ 100
            · have b2 : decide ((c.town.length : Int) > 100) = false := decide_eq_false (by omega)
              have d2 : ¬ 100 < c.town.length := by omega
              have b3 : decide ((c.code.length : Int) > 20) = true := decide_eq_true (by have : ¬ c.code.length ≤ 20 := fun q => hA ⟨a1, a2, q⟩; omega)
              have d3 : 20 < c.code.length := by have : ¬ c.code.length ≤ 20 := fun q => hA ⟨a1, a2, q⟩; omega
              clear hA a1 a2
              go_wp2
              go_ret
              exact ⟨_, rfl, rfl, fun q => absurd q (by decide)⟩
            · have b2 : decide ((c.town.length : Int) > 100) = true := decide_eq_true (by omega)
              have d2 : 100 < c.town.length := by omega
              clear hA a1 a2
              go_wp2
              go_ret
              exact ⟨_, rfl, rfl, fun q => absurd q (by decide)⟩
          · have b1 : decide ((c.name.length : Int) > 100) = true := decide_eq_true (by omega)
            have d1 : 100 < c.name.length := by omega
            clear hA a1
            go_wp2
            go_ret
            exact ⟨_, rfl, rfl, fun q => absurd q (by decide)⟩
      · have HV : Hid (m ≤ 70 ∧ ∀ c ∈ r, SmC c) := ⟨h70, fun c hc => by
          obtain ⟨i, hi⟩ := List.getElem?_of_mem hc
          have h := (List.getElem?_eq_some_iff.1 hi).1
          exact hI.out i c (by have := HM.out; omega) hi⟩
        go_wp2
        go_ret
        exact ⟨_, rfl, rfl, fun _ => HV.out⟩
  · have hq : decide ((m : Int) > 70) = true := decide_eq_true (by omega)
    have hq2 : 70 < m := by omega
    clear h70
    go_wp2
    go_ret
    exact ⟨_, rfl, rfl, fun q => absurd q (by decide)⟩

end Rg
end Go.Proofs.YtaeljmiklalpnaaGreatDoor

namespace Go.Proofs.YtaeljmiklalpnaaGreatDoor
open Go.RowKit Go.ChangeMaps Gn
namespace Rg

set_option maxRecDepth 100000 in
set_option maxHeartbeats 4000000 in
theorem rcheck_any (r : List Ch) (rv : Value) (w : World) (hr : IsChs w rv r) (hrl : r.length ≤ 1000) (hsz : ∀ c ∈ r, c.code.length ≤ 1000 ∧ c.town.length ≤ 1000 ∧ c.name.length ≤ 1000) (CL : ClashOk) :
    Calls Tryz.prog 22 #[rv] w fun e w' => ∃ E i, e = .returned (.tuple #[.int .i64 E, .int .i64 i]) ∧ Below w.heap.size w w' ∧ (E = 0 → Sound r) := by
  have CR := hid (fun u hu => rrun_any r rv u hu hrl hsz CL)
  have HR := hid hr
  clear hr hrl hsz
  go_enter Tryz.func22, Tryz.ntmps22
  go_wp2_with fail
  refine (CR.out _ HR.out).mono ?_
  rintro e w2 ⟨v, E, i, rfl, hb, hE⟩
  have HB := hid hb
  have HE := hid hE
  clear hb hE
  go_wp2
  go_ret2
  exact ⟨_, _, rfl, HB.out, HE.out⟩

set_option maxRecDepth 100000 in
set_option maxHeartbeats 4000000 in
theorem rsound_any (r : List Ch) (rv : Value) (w : World) (hr : IsChs w rv r) (CL : ClashOk) :
    Calls Tryz.prog 11 #[rv] w fun e w' => ∃ b, e = .returned (.bool b) ∧ Below w.heap.size w w' ∧ (b = true → Sound r) := by
  have CS := hid (rsmallr_any r rv w hr)
  have HR := hid hr
  have HCL := hid CL
  clear hr CL
  go_enter Tryz.func11, Tryz.ntmps11
  go_wp2_with fail
  refine CS.out.mono ?_
  rintro e w2 ⟨b, rfl, rfl, hb⟩
  cases b
  · clear hb
    go_wp2
    go_ret
    exact ⟨_, rfl, Below.refl _ _, fun q => absurd q (by decide)⟩
  · obtain ⟨h1, h2⟩ := hb rfl
    have CK := hid (rcheck_any r rv w HR.out (by omega) (fun c hc => by have := h2 c hc; unfold SmC at this; omega) HCL.out)
    clear hb h1 h2
    go_wp2_with fail
    refine CK.out.mono ?_
    rintro e w3 ⟨E, i, rfl, hb3, hE⟩
    have HB3 := hid hb3
    have HE := hid hE
    clear hb3 hE
    by_cases hE0 : E = 0
    · have HS := hid (HE.out hE0)
      subst hE0
      clear HE
      go_wp2
      go_ret
      exact ⟨_, rfl, HB3.out, fun _ => HS.out⟩
    · have hE1 : ((E : Int) == 0) = false := by simpa using hE0
      clear hE0
      go_wp2
      go_ret
      exact ⟨_, rfl, HB3.out, fun q => absurd q (by decide)⟩

end Rg
end Go.Proofs.YtaeljmiklalpnaaGreatDoor
