/-
  The contract of the closure that divides words among parts: the loop over a part.
-/
import Derived.Test.YtcaiejbnhjiflaaGreatDoorW9
namespace Go.Proofs.YtcaiejbnhjiflaaGreatDoor
open Go.RowKit Go.ChangeMaps
namespace Fm

theorem St.take {w0 w w2 : World} {S M : Nat} {rv : Value} {a a2 : Ad} {rs : List Ad} (h : St w0 S M rv a rs w) (hlt : S < w0.heap.size) (hs : SB w2 S M rv a2) (hk : Kept w.drew.heap.size S w.drew w2) : St w0 S M rv a2 rs w2 := by
  refine ⟨h.kept.trans ((((Kept.refl w0.heap.size S w).drewN 1).trans (hk.mono h.kept.size))), hs, ?_⟩
  refine ⟨h.own.1, ?_⟩
  rcases h.own.2 with h0 | ⟨g, cap, cur, hv, hB, hg, rest⟩
  · exact .inl h0
  · exact .inr ⟨g, cap, cur, hv, hB, (hk.block g (heap_lt hg) (by omega)).trans hg, rest⟩
/-- A round of the loop over the numbers of words. -/
def RoundAt (w0 : World) (S M : Nat) (p : Pt) (ps : List Pt) (ws : List W) (r : List Ln) (a : Ad) (rs : List Ad) (k : Nat) (w : World) : Prop :=
  ∃ rv' a', St w0 S M rv' a' (rs ++ rdGN k p ps a ws r) w ∧ Off (kinG (p :: ps) r) a a'
theorem len_upto {n : Nat} {p : Pt} {ps : List Pt} {a : Ad} {ws : List W} {r : List Ln} (h : n + 1 ≤ ws.length) (h4 : n < 4) : (rdGN n p ps a ws r).length + (if canB p (ws.take (n + 1)) = true then (rdG ps (setF p.k (ws.take (n + 1)) a) (ws.drop (n + 1)) r).length else 0) ≤ (rdG (p :: ps) a ws r).length := by
  have h1 : (rdGN (n + 1) p ps a ws r).length ≤ (rdG (p :: ps) a ws r).length := by
    rw [← rdGN_all (n := 4) (by omega) (Nat.le_refl _)]
    have : ∀ d, n + 1 + d ≤ 4 → (rdGN (n + 1) p ps a ws r).length ≤ (rdGN (n + 1 + d) p ps a ws r).length := by
      intro d
      induction d with
      | zero => intro _; exact Nat.le_refl _
      | succ d ih =>
        intro hd
        refine Nat.le_trans (ih (by omega)) ?_
        unfold rdGN
        rw [show n + 1 + (d + 1) = n + 1 + d + 1 by omega, rdN_succ, List.flatMap_append, List.length_append]
        omega
    have := this (4 - (n + 1)) (by omega)
    rwa [show n + 1 + (4 - (n + 1)) = 4 by omega] at this
  refine Nat.le_trans ?_ h1
  cases hc : canB p (ws.take (n + 1))
  · rw [rdGN_no hc]; simp
  · rw [rdGN_yes h hc, List.length_append]; simp

set_option maxRecDepth 100000 in
set_option maxHeartbeats 16000000 in
theorem div_part {wS w0 : World} {S M : Nat} {F : Int → Nat} {bs bd bf bl : Nat} {fs : List (List Pt)} {ls : List (List W)} {fv lv : Value} (E : Env wS w0 S M F bs bd bf bl fs ls fv lv) (p : Pt) (ps : List Pt) (r : List Ln) (ih : DivC wS w0 S M bs bd bf bl fs ls ps r) : DivC wS w0 S M bs bd bf bl fs ls (p :: ps) r := by
  intro line ws A A' cap cap' rv a rs w hline hr hws hps hpt hlen hP hW hSt
  have HE := hid E
  have HIH := hid ih
  have HR := hid hr
  have HPT := hid hpt
  have HLEN := hid hlen
  have HP := hid hP
  have HW := hid hW
  have HS := hid hSt
  have hpp : partB p = true := hpt p (List.mem_cons_self ..)
  have HPP := hid hpp
  obtain ⟨pn, hpn⟩ : ∃ pn, pn = (p :: ps).length := ⟨_, rfl⟩
  have hpn1 : pn = ps.length + 1 := by rw [hpn]; rfl
  have hpc : pn ≤ cap' := by rw [hpn]; exact hP.2.1
  have hwc : ws.length ≤ cap := hW.2.1
  have HQ : Hid (∀ (u : World) (rv' : Value) (a' : Ad) (rs' : List Ad) , St w0 S M rv' a' rs' u → Below wS.heap.size wS u) := fun u rv' a' rs' h => E.on h
  rw [← hpn] at hps ⊢
  have e0 : decide ((0 : Int) < (pn : Int)) = true := decide_eq_true (by omega)
  have e0' : decide (0 < pn) = true := decide_eq_true (by omega)
  obtain ⟨gp, op, hA', hgp, hcp1, hcp2⟩ := RdP.at hP (i := 0) (p := p) rfl
  subst hA'
  have HN := hid hpn1
  clear E ih hr hpt hlen hP hW hSt hpp hpn hpn1 hgp hcp1 hcp2
  go_enter Tryz.func62, Tryz.ntmps62
  go_wp2_with fail
  go_loopw [10] (fun i wr => ∃ k : Nat, k ≤ 4 ∧ k ≤ ws.length ∧ i = .int .i64 ((k : Int) + 1) ∧ Hid (RoundAt w0 S M p ps ws r a rs k wr)) (fun i _ => 6 - (intOf i).toNat)
  case atStart => exact ⟨0, by omega, by omega, rfl, rv, a, by rw [rdGN_zero, List.append_nil]; exact HS.out, .refl _ _⟩
  case round =>
    obtain ⟨k, hk4, hkw, rfl, hRd⟩ := hrel
    obtain ⟨rv', a', hst, hoff⟩ := hRd.out
    obtain ⟨m, hm⟩ : ∃ m, m = min 4 ws.length := ⟨_, rfl⟩
    have hmin : min (4 : Int) (ws.length : Int) = (m : Int) := by omega
    by_cases hc : k + 1 ≤ m
    · have d1 : decide ((k : Int) + 1 ≤ (m : Int)) = true := decide_eq_true (by omega)
      have d2 : decide (k + 1 ≤ m) = true := decide_eq_true hc
      have hk1 : k + 1 ≤ ws.length := by omega
      have hk3 : k < 4 := by omega
      obtain ⟨gw, ow, hA, hgw, -⟩ := HW.out.2.2 (by omega)
      have hbr := HE.out.on hst
      have hlt := (List.length_take (i := k + 1) (l := ws)).trans (Nat.min_eq_left hk1)
      have CT := takes_any p HPP.out (ws.take (k + 1)) A cap S M F rv' a' wr.drew (by omega) ((HW.out.upto hk1).on (hbr.trans (Below.refl _ _).drew)) hst.sb (HE.out.k.on (hbr.trans (Below.refl _ _).drew))
      rw [hlt] at CT
      subst hA
      obtain ⟨b, hb⟩ : ∃ b, b = canB p (ws.take (k + 1)) := ⟨_, rfl⟩
      rw [← hb] at CT
      have cs := HE.out.box hst HE.out.xs HE.out.ns.1
      obtain ⟨gp', op', hA2, hgp, hcp1, hcp2⟩ := RdP.at (HP.out.on hbr) (i := 0) (p := p) rfl
      cases hA2
      rw [Nat.zero_mul, Nat.add_zero] at hcp1 hcp2
      unfold sV at hcp2
      have HCT := hid CT
      have HST := hid hst
      have HOFF := hid hoff
      have HB := hid hb
      have HK1 := hid hk1
      have i1 : ((k : Int) + 1).toNat = k + 1 := by omega
      have i2 : (0 : Int) ≤ (k : Int) + 1 := by omega
      have i3 : (k : Int) + 1 ≤ (cap : Int) := by omega
      have i4 : (k : Int) + 1 ≤ (ws.length : Int) := by omega
      have i5 : (0 : Int) < (pn : Int) := by have := HN.out; omega
      have i5' : 0 < pn := by have := HN.out; omega
      clear hst hoff hb hm hlt hbr hgp hgw CT
      cases b
      · go_wp2_with fail
        go_still_tail 7, (by kernel_rfl)
        change wpList _ _ _ _ _ wr.drew
        go_wp2_with fail
        refine HCT.out.mono ?_
        rintro e w2 ⟨rfl, hs2, hk2⟩
        have HR2 : Hid (RoundAt w0 S M p ps ws r a rs (k + 1) w2) := by
          refine ⟨rv', a', ?_, HOFF.out⟩
          rw [rdGN_no HB.out.symm]
          exact HST.out.take HE.out.lt hs2 hk2
        clear hs2 hk2
        go_wp2
        go_roundw
        case rel => exact ⟨k + 1, by omega, by omega, by go_num, HR2⟩
        case measure => simp [intOf]; omega
      · go_wp2_with fail
        go_still_tail 7, (by kernel_rfl)
        change wpList _ _ _ _ _ wr.drew
        go_wp2_with fail
        refine HCT.out.mono ?_
        rintro e w2 ⟨rfl, hs2, hk2⟩
        have HST2 := hid (HST.out.take HE.out.lt hs2 hk2)
        clear hs2 hk2
        have cd := HE.out.box HST2.out HE.out.xd HE.out.ns.2.1
        have hpcap : (1 : Int) ≤ (cap' : Int) := by omega
        have hpn1 : (1 : Int) ≤ (pn : Int) := by omega
        have HEQ : Hid (rdG ps (setF p.k (ws.take (k + 1)) a) (ws.drop (k + 1)) r = rdG ps (setF p.k (ws.take (k + 1)) a') (ws.drop (k + 1)) r) :=
          rdG_off _ _ _ _ _ (set_off (HOFF.out.mono fun x hx => by
            rcases hx with hx | hx
            · rcases (kin_cons ..).1 hx with h | h
              · exact .inl h.symm
              · exact .inr (.inl h)
            · exact .inr (.inr hx)))
        have HC : Hid (∀ (X Y : Option Addr) (cX cY n1 n2 : Nat), n1 = pn - 1 → n2 = ws.length - (k + 1) → RdP wS X ps cX → RdW wS Y (ws.drop (k + 1)) cY → Calls Tryz.prog 62 #[.int .i64 line, .slice X n1 cX, .slice Y n2 cY, .pointer (some ⟨bs, 0, none⟩), .pointer (some ⟨bd, 0, none⟩), .pointer (some ⟨bf, 0, none⟩), .pointer (some ⟨bl, 0, none⟩)] w2.drew (DivPost w0 S M ps (ws.drop (k + 1)) r (setF p.k (ws.take (k + 1)) a') (rs ++ rdGN k p ps a ws r))) := by
          intro X Y cX cY n1 n2 hn1 hn2 hX hY
          have hn := HN.out
          have h := HIH.out line (ws.drop (k + 1)) Y X cY cX rv' (setF p.k (ws.take (k + 1)) a') (rs ++ rdGN k p ps a ws r) w2.drew hline HR.out (by rw [List.length_drop]; omega) (by omega) (fun q hq => HPT.out q (List.mem_cons_of_mem _ hq)) (by
            have h1 := len_upto (p := p) (ps := ps) (a := a) (r := r) HK1.out hk3
            rw [if_pos HB.out.symm, HEQ.out] at h1
            have h2 := HLEN.out
            rw [List.length_append]; omega) hX hY HST2.out.drew
          rw [List.length_drop, show ps.length = n1 by omega, ← hn2] at h
          exact h
        have HXP := hid (RdP.tail HP.out)
        have HYW := hid (RdW.cut HW.out HK1.out)
        clear HCT
        by_cases h1 : cap' = 1
        · have hX : Hid (RdP wS (some ⟨gp, op, none⟩) ps 0) := by have := HXP.out; rw [if_pos h1, h1] at this; exact this
          have hpn2 : pn = 1 := by omega
          have HPN2 := hid hpn2
          subst h1
          clear hpn2
          by_cases h2 : cap = k + 1
          · have hY : Hid (RdW wS (some ⟨gw, ow, none⟩) (ws.drop (k + 1)) 0) := by have := HYW.out; rw [if_pos h2, h2, Nat.sub_self] at this; exact this
            have hwl : ws.length = k + 1 := by omega
            have HWL := hid hwl
            subst h2
            clear hwl
            go_wp2_with fail
            go_still_tail 7, (by kernel_rfl)
            change wpList _ _ _ _ _ w2.drew
            go_wp2_with fail
            ((with_reducible refine (HC.out _ _ _ _ _ _ (by first | omega | (have := HPN2.out; omega)) (by first | omega | (have := HWL.out; omega)) hX.out hY.out).mono ?_))
            rintro e w3 ⟨rfl, rv3, a3, hst3, hoff3⟩
            have HR3 : Hid (RoundAt w0 S M p ps ws r a rs (k + 1) w3) := by
              refine ⟨rv3, a3, ?_, ?_⟩
              · have hx3 := hst3; rw [rdGN_yes HK1.out HB.out.symm, HEQ.out, ← List.append_assoc]; exact hx3
              · refine HOFF.out.trans (Off.trans ((off_set p.k (ws.take (k + 1)) a').mono fun x hx => .inl ((kin_cons ..).2 (.inl hx.symm))) (hoff3.mono fun x hx => ?_))
                exact hx.imp (fun h => (kin_cons ..).2 (.inr h)) id
            clear hst3 hoff3
            go_wp2
            go_roundw
            case rel => exact ⟨k + 1, by omega, by omega, by go_num, HR3⟩
            case measure => simp [intOf]; omega
          · have hY : Hid (RdW wS (some ⟨gw, ow + (k + 1), none⟩) (ws.drop (k + 1)) (cap - (k + 1))) := by have := HYW.out; rw [if_neg h2] at this; show RdW _ _ _ _; simpa [Addr.add] using this
            go_wp2_with fail
            go_still_tail 7, (by kernel_rfl)
            change wpList _ _ _ _ _ w2.drew
            go_wp2_with fail
            ((with_reducible refine (HC.out _ _ _ _ _ _ (by first | omega | (have := HPN2.out; omega)) (by first | omega | (have := HWL.out; omega)) hX.out hY.out).mono ?_))
            rintro e w3 ⟨rfl, rv3, a3, hst3, hoff3⟩
            have HR3 : Hid (RoundAt w0 S M p ps ws r a rs (k + 1) w3) := by
              refine ⟨rv3, a3, ?_, ?_⟩
              · have hx3 := hst3; rw [rdGN_yes HK1.out HB.out.symm, HEQ.out, ← List.append_assoc]; exact hx3
              · refine HOFF.out.trans (Off.trans ((off_set p.k (ws.take (k + 1)) a').mono fun x hx => .inl ((kin_cons ..).2 (.inl hx.symm))) (hoff3.mono fun x hx => ?_))
                exact hx.imp (fun h => (kin_cons ..).2 (.inr h)) id
            clear hst3 hoff3
            go_wp2
            go_roundw
            case rel => exact ⟨k + 1, by omega, by omega, by go_num, HR3⟩
            case measure => simp [intOf]; omega
        · have hX : Hid (RdP wS (some ⟨gp, op + 2, none⟩) ps (cap' - 1)) := by have := HXP.out; rw [if_neg h1] at this; show RdP _ _ _ _; simpa [Addr.add] using this
          by_cases h2 : cap = k + 1
          · have hY : Hid (RdW wS (some ⟨gw, ow, none⟩) (ws.drop (k + 1)) 0) := by have := HYW.out; rw [if_pos h2, h2, Nat.sub_self] at this; exact this
            have hwl : ws.length = k + 1 := by omega
            have HWL := hid hwl
            subst h2
            clear hwl
            go_wp2_with fail
            go_still_tail 7, (by kernel_rfl)
            change wpList _ _ _ _ _ w2.drew
            go_wp2_with fail
            ((with_reducible refine (HC.out _ _ _ _ _ _ (by first | omega | (have := HPN2.out; omega)) (by first | omega | (have := HWL.out; omega)) hX.out hY.out).mono ?_))
            rintro e w3 ⟨rfl, rv3, a3, hst3, hoff3⟩
            have HR3 : Hid (RoundAt w0 S M p ps ws r a rs (k + 1) w3) := by
              refine ⟨rv3, a3, ?_, ?_⟩
              · have hx3 := hst3; rw [rdGN_yes HK1.out HB.out.symm, HEQ.out, ← List.append_assoc]; exact hx3
              · refine HOFF.out.trans (Off.trans ((off_set p.k (ws.take (k + 1)) a').mono fun x hx => .inl ((kin_cons ..).2 (.inl hx.symm))) (hoff3.mono fun x hx => ?_))
                exact hx.imp (fun h => (kin_cons ..).2 (.inr h)) id
            clear hst3 hoff3
            go_wp2
            go_roundw
            case rel => exact ⟨k + 1, by omega, by omega, by go_num, HR3⟩
            case measure => simp [intOf]; omega
          · have hY : Hid (RdW wS (some ⟨gw, ow + (k + 1), none⟩) (ws.drop (k + 1)) (cap - (k + 1))) := by have := HYW.out; rw [if_neg h2] at this; show RdW _ _ _ _; simpa [Addr.add] using this
            go_wp2_with fail
            go_still_tail 7, (by kernel_rfl)
            change wpList _ _ _ _ _ w2.drew
            go_wp2_with fail
            ((with_reducible refine (HC.out _ _ _ _ _ _ (by first | omega | (have := HPN2.out; omega)) (by first | omega | (have := HWL.out; omega)) hX.out hY.out).mono ?_))
            rintro e w3 ⟨rfl, rv3, a3, hst3, hoff3⟩
            have HR3 : Hid (RoundAt w0 S M p ps ws r a rs (k + 1) w3) := by
              refine ⟨rv3, a3, ?_, ?_⟩
              · have hx3 := hst3; rw [rdGN_yes HK1.out HB.out.symm, HEQ.out, ← List.append_assoc]; exact hx3
              · refine HOFF.out.trans (Off.trans ((off_set p.k (ws.take (k + 1)) a').mono fun x hx => .inl ((kin_cons ..).2 (.inl hx.symm))) (hoff3.mono fun x hx => ?_))
                exact hx.imp (fun h => (kin_cons ..).2 (.inr h)) id
            clear hst3 hoff3
            go_wp2
            go_roundw
            case rel => exact ⟨k + 1, by omega, by omega, by go_num, HR3⟩
            case measure => simp [intOf]; omega
    · have d1 : decide ((k : Int) + 1 ≤ (m : Int)) = false := decide_eq_false (by omega)
      have d2 : decide (k + 1 ≤ m) = false := decide_eq_false hc
      have hv : Hid (rdGN k p ps a ws r = rdG (p :: ps) a ws r) := rdGN_all (by omega) hk4
      have HST := hid hst
      have HOFF := hid hoff
      clear hst hoff hm
      go_wp2
      refine bodyPost_ret (results_none rfl _ _ _) rfl ?_
      exact ⟨rfl, rv', a', by rw [← hv.out]; exact HST.out, HOFF.out⟩

end Fm
end Go.Proofs.YtcaiejbnhjiflaaGreatDoor
