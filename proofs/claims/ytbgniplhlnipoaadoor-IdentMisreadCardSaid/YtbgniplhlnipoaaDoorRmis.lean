/-
  The contract of the reference's Misread.
-/
import Derived.Test.YtbgniplhlnipoaaDoorIns
namespace Go.Proofs.YtbgniplhlnipoaaDoor
open Go.RowKit Go.Sort
namespace Id1

def insV (acc : List (List UInt8)) (c : List UInt8) : List (List UInt8) := if validB c = true then insB acc c else acc
def refL (cs : List (List UInt8)) : List (List UInt8) := cs.foldl insV []
theorem refL_append (cs ds : List (List UInt8)) : refL (cs ++ ds) = ds.foldl insV (refL cs) := by unfold refL; rw [List.foldl_append]
theorem insV_len (acc : List (List UInt8)) (c : List UInt8) : (insV acc c).length ≤ acc.length + 1 := by
  unfold insV; split
  · rw [insB_len]; exact Nat.le_refl _
  · omega
theorem refL_len_aux (cs acc : List (List UInt8)) : (cs.foldl insV acc).length ≤ acc.length + cs.length := by
  induction cs generalizing acc with
  | nil => simp
  | cons c cs ih => have := ih (insV acc c); have h := insV_len acc c; simp only [List.foldl_cons, List.length_cons]; omega
theorem refL_len (cs : List (List UInt8)) : (refL cs).length ≤ cs.length := by have := refL_len_aux cs []; simpa [refL] using this

theorem ownsRow_base' {w : World} {b b' : Nat} {e : TypeId} {size : Nat} {v : Value} {k : Nat} {xs : List Value} (h : w.ownsRow b e size v k xs) (hb : b' ≤ b) : w.ownsRow b' e size v k xs := by
  obtain ⟨h1, h2⟩ := h
  refine ⟨h1, ?_⟩
  rcases h2 with h2 | ⟨g, cap, cur, hv, hg, r⟩
  · exact .inl h2
  · exact .inr ⟨g, cap, cur, hv, Nat.le_trans hb hg, r⟩
theorem grownBy_of_below' {W W' : World} (h : Below W.heap.size W W') : W.grownBy W' none := ⟨h.os, h.tape, h.output, h.size, fun k hk _ => h.block k hk⟩

theorem text_put' (s : ByteArray) (p q : Nat) : (s.extract 0 p ++ (⟨#[dgt q]⟩ : ByteArray) ++ s.extract (p + 1) s.size).data.toList = put s.data.toList p q := by
  rw [ByteArray.data_append, ByteArray.data_append, Array.toList_append, Array.toList_append, ex_take, Lib.extract_to_end]
  rfl
theorem put_self (l : List UInt8) (p q : Nat) (h : p < l.length) : put l p q = l ↔ dgt q = l.getD p 0 := by
  unfold put
  constructor
  · intro e
    have := congrArg (fun x => x.getD p 0) e
    simp only [List.getD] at this ⊢
    rw [List.append_assoc, List.getElem?_append_right (by rw [List.length_take]; omega)] at this
    rw [show p - (l.take p).length = 0 by rw [List.length_take]; omega] at this
    simpa using this
  · intro e
    rw [e, List.getD, List.getElem?_eq_getElem h]
    simp

/-- The list so far: a slice of the call's own, not nil. -/
def Holding (w0 : World) (v : Value) (acc : List (List UInt8)) (wr : World) : Prop :=
  v ≠ .slice none 0 0 ∧ wr.ownsRow w0.heap.size 9 1 v acc.length (acc.map encStr) ∧ Below w0.heap.size w0 wr

theorem Holding.mk {w0 : World} {v : Value} {acc : List (List UInt8)} {wr : World} (h1 : v ≠ .slice none 0 0) (h2 : wr.ownsRow w0.heap.size 9 1 v acc.length (acc.map encStr)) (h3 : Below w0.heap.size w0 wr) : Holding w0 v acc wr := ⟨h1, h2, h3⟩
theorem Holding.on {w0 : World} {v : Value} {acc : List (List UInt8)} {wr wr' : World} (h : Holding w0 v acc wr) (hb : Below wr.heap.size wr wr') : Holding w0 v acc wr' :=
  ⟨h.1, h.2.1.kept (grownBy_of_below' hb) (Classical.em _), h.2.2.trans (hb.mono h.2.2.size)⟩

set_option maxRecDepth 100000 in
set_option maxHeartbeats 4000000 in
theorem rmisread_any (s : ByteArray) (w : World) (hs : s.size ≤ maxLen) :
    Calls Tryd.prog 20 #[.string s] w fun e w' => ∃ v, e = .returned v ∧ Holding w v (if shapeB s.data.toList = true then refL (cand s.data.toList) else []) w' := by
  have C1 := hid (fun w => rshape_any s w hs)
  by_cases hsh : shapeB s.data.toList = true
  · obtain ⟨h13, -, -, -⟩ := shape_parts hsh
    have h13s : s.size = 13 := by rw [← h13]; simp
    rw [hsh] at C1
    rw [if_pos hsh]
    have hs13 : 13 ≤ s.size := by omega
    have hs14 : s.size ≤ 13 := by omega
    obtain ⟨L, hL⟩ : ∃ L, L = s.data.toList := ⟨_, rfl⟩
    rw [← hL]
    have HL := hid hL
    have H13 := hid h13
    clear hL h13s h13 hsh hs
    go_enter Tryd.func20, Tryd.ntmps20
    go_wp2_with fail
    refine (C1.out _).mono ?_
    rintro e w1 ⟨rfl, rfl⟩
    go_wp2
    go_loopw [3, 4] (fun v i wr => ∃ (p : Nat), 2 ≤ p ∧ p ≤ 11 ∧ i = .int .i64 p ∧ Holding w v (refL (candTo L (p - 2))) wr) (fun _ i _ => 11 - (intOf i).toNat)
    case atStart => exact ⟨2, by omega, by omega, rfl, Holding.mk (fun e => (by cases e)) (own_empty w _ _ (Nat.le_refl _) rfl _) ((Below.refl _ _).alloc (Nat.le_refl _) _)⟩
    case round =>
      obtain ⟨p, hp2, hp11, rfl, hH⟩ := hrel
      have hpb2 : p ≤ s.size := by omega
      by_cases hp : p < 11
      · have hpb : decide ((p : Int) < 11) = true := by simp; omega
        go_wp2
        obtain ⟨wo, rfl⟩ : ∃ wo : World, wo = wr := ⟨_, rfl⟩
        go_loopw [3, 5] (fun v i wr => ∃ (d : Nat), d ≤ 10 ∧ i = .int .i64 d ∧ Holding w v (refL (candTo L (p - 2) ++ rowTo L p d)) wr) (fun _ i _ => 10 - (intOf i).toNat)
        case atStart => exact ⟨0, by omega, rfl, by rw [rowTo_zero, List.append_nil]; exact hH⟩
        case round =>
          obtain ⟨d, hd10, rfl, hH2⟩ := hrel
          by_cases hd : d < 10
          · have hdb : decide ((d : Int) < 10) = true := by simp; omega
            have hps1 : p ≤ s.size := by omega
            have hps2 : p + 1 ≤ s.size := by omega
            have hw1 : IntKind.i64.wrap ((p : Int) + 1) = (p : Int) + 1 := IntWalk.i64_in _ (by omega)
            have hw0 : 0 ≤ (p : Int) + 1 := by omega
            have hw2 : ((p : Int) + 1).toNat = p + 1 := by omega
            obtain ⟨t1, ht1⟩ : ∃ t1 : ByteArray, t1 = ⟨#[dgt (48 + d)]⟩ := ⟨_, rfl⟩
            have hes : t1.size ≤ 1 := by rw [ht1]; exact Nat.le_refl 1
            have hcc1 : ¬ 9223372036854775807 < p + t1.size := by omega
            have hcc2 : ¬ 9223372036854775807 < p + t1.size + (s.size - (p + 1)) := by omega
            have CC := hid (fun w => rchar_any d w hd)
            rw [← ht1] at CC
            have HT1 := hid ht1
            clear ht1
            obtain ⟨t, ht⟩ : ∃ t : ByteArray, t = s.extract 0 p ++ t1 ++ s.extract (p + 1) s.size := ⟨_, rfl⟩
            have hT := hid ht
            clear ht
            have htl : t.data.toList = put L p (48 + d) := by rw [hT.out, HT1.out, text_put', ← HL.out]
            have htsz : t.size ≤ maxLen := by
              rw [hT.out, ByteArray.size_append, ByteArray.size_append]
              have e1 := ex_size s 0 p
              have e2 := ex_size s (p + 1) s.size
              unfold maxLen; omega
            have hrow := rowTo_succ L p d
            have hself := put_self L p (48 + d) (by have e := HL.out; rw [e, ← Lib.size_eq]; omega)
            by_cases heq : dgt (48 + d) = L.getD p 0
            · have hts : t.toList = s.toList := by rw [Lib.toList_data, Lib.toList_data, htl, hself.2 heq, HL.out]
              have HR : Hid (rowTo L p (d + 1) = rowTo L p d) := by
                show _ = _
                rw [hrow]; unfold cell; rw [if_pos heq, List.append_nil]
              clear heq hself hrow htl htsz
              go_wp2
              go_quiet ((go_at_call 32; exact Calls.quiet_of_same (CC.out _)))
              rw [← hT.out]
              go_wp2
              go_roundw
              case rel => exact ⟨d + 1, by omega, by go_num, by rw [HR.out]; exact hH2.on (below_drewN (Below.refl _ _) _)⟩
              case measure => simp [intOf]; omega
            · have hts : ¬ t.toList = s.toList := by rw [Lib.toList_data, Lib.toList_data, htl, ← HL.out]; exact fun e => heq (hself.1 e)
              have hts2 : (t.toList == s.toList) = false := by simpa using hts
              have HR : Hid (refL (candTo L (p - 2) ++ rowTo L p (d + 1)) = insV (refL (candTo L (p - 2) ++ rowTo L p d)) (put L p (48 + d))) := by
                show _ = _
                rw [hrow, ← List.append_assoc, refL_append]; unfold cell; rw [if_neg heq]; rfl
              obtain ⟨acc, hacc⟩ : ∃ acc, acc = refL (candTo L (p - 2) ++ rowTo L p d) := ⟨_, rfl⟩
              have haccl : acc.length ≤ 200 := by
                rw [hacc]
                have e0 := refL_len (candTo L (p - 2) ++ rowTo L p d)
                have e1 := candTo_len L (p - 2)
                have e2 := rowTo_len L p d
                rw [List.length_append] at e0
                omega
              rw [← hacc] at hH2 HR
              have CV := hid (fun w => rvalid_any t w htsz)
              rw [htl] at CV
              clear heq hself hrow htsz hacc
              by_cases hv : validB (put L p (48 + d)) = true
              · rw [hv] at CV
                have HV : Hid (insV acc (put L p (48 + d)) = insB acc (put L p (48 + d))) := by
                  show _ = _
                  unfold insV; rw [if_pos hv]
                have HTL := hid htl
                clear hv htl
                go_wp2
                go_quiet ((go_at_call 32; exact Calls.quiet_of_same (CC.out _)))
                rw [← hT.out]
                go_wp2_with fail
                refine (CV.out _).mono ?_
                rintro e w2 ⟨rfl, hb2⟩
                have hH3 := (hH2.on (below_drewN (Below.refl _ _) nq)).on hb2
                go_wp2_with fail
                refine (rinsert_any _ acc t w2 w.heap.size hH3.2.1 hH3.1 haccl).mono ?_
                rintro e w3 ⟨v', rfl, hv1, hv2, hv3⟩
                have hH4 : Holding w v' (insB acc t.data.toList) w3 := Holding.mk hv1 (ownsRow_base' hv2 hH3.2.2.size) (hH3.2.2.trans (hv3.mono hH3.2.2.size))
                clear hv1 hv2 hv3 hb2
                go_wp2
                go_roundw
                case rel => exact ⟨d + 1, by omega, by go_num, by rw [HR.out, HV.out, ← HTL.out]; exact hH4⟩
                case measure => simp [intOf]; omega
              · have hv' : validB (put L p (48 + d)) = false := by simpa using hv
                rw [hv'] at CV
                have HV : Hid (insV acc (put L p (48 + d)) = acc) := by
                  show _ = _
                  unfold insV; rw [if_neg hv]
                clear hv hv' htl
                go_wp2
                go_quiet ((go_at_call 32; exact Calls.quiet_of_same (CC.out _)))
                rw [← hT.out]
                go_wp2_with fail
                refine (CV.out _).mono ?_
                rintro e w2 ⟨rfl, hb2⟩
                have hH3 := (hH2.on (below_drewN (Below.refl _ _) nq)).on hb2
                go_wp2
                go_roundw
                case rel => exact ⟨d + 1, by omega, by go_num, by rw [HR.out, HV.out]; exact hH3⟩
                case measure => simp [intOf]; omega
          · have hd2 : d = 10 := by omega
            subst hd2
            have HR : Hid (candTo L (p + 1 - 2) = candTo L (p - 2) ++ rowTo L p 10) := by
              show _ = _
              rw [show p + 1 - 2 = p - 2 + 1 by omega, candTo_succ, show p - 2 + 2 = p by omega]
            go_wp2
            go_roundw
            case rel => exact ⟨p + 1, by omega, by omega, by go_num, by rw [HR.out]; exact hH2⟩
            case measure => simp [intOf]; omega
      · have hp2 : p = 11 := by omega
        subst hp2
        go_wp2
        go_ret
        exact ⟨_, rfl, hH⟩
  · have hf : shapeB s.data.toList = false := by simpa using hsh
    rw [hf] at C1
    rw [if_neg hsh]
    clear hf hsh hs
    go_enter Tryd.func20, Tryd.ntmps20
    go_wp2_with fail
    refine (C1.out _).mono ?_
    rintro e w1 ⟨rfl, rfl⟩
    go_wp2
    go_ret
    exact ⟨_, rfl, Holding.mk (fun e => (by cases e)) (own_empty w _ _ (Nat.le_refl _) rfl _) ((Below.refl _ _).alloc (Nat.le_refl _) _)⟩

end Id1
end Go.Proofs.YtbgniplhlnipoaaDoor
