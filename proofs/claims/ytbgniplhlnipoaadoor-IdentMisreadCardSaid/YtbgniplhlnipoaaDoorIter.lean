/-
  The iterator of misreadings: it hands on every text that differs from the shape in one digit, in order.
-/
import Derived.RangeFuncBox
import Derived.RangeFuncLeaves
import Derived.Shelf.Abstract
import Derived.WalkKit
import Derived.OwnWalkIn
import Derived.TacticsInMore
import Derived.LoopNIn
import Derived.LoopIn
import Derived.Maps.AppendAt
import Derived.Shelf.RegionOpen
import Derived.Test.YtbgniplhlnipoaaDoorCand
import Derived.Test.YtbgniplhlnipoaaDoorWalk6
namespace Go.Proofs.YtbgniplhlnipoaaDoor
open Go.RowKit Go.Shelf
namespace Id1

attribute [local go_sem] Oper.semAt_some

/-- A text of bounded length. -/
abbrev Txt := { x : ByteArray // x.size ≤ 100 }
def vals (ys : List Txt) : List (List UInt8) := ys.map fun x => x.1.data.toList
theorem vals_snoc (ys : List Txt) (x : Txt) : vals (ys ++ [x]) = vals ys ++ [x.1.data.toList] := by simp [vals]
theorem vals_len (ys : List Txt) : (vals ys).length = ys.length := by simp [vals]

theorem text_put (s : ByteArray) (p q : Nat) (h : q < 128) : (s.extract 0 p ++ Utf8.encode (q : Int) ++ s.extract (p + 1) s.size).data.toList = put s.data.toList p q := by
  rw [encode_small q h, ByteArray.data_append, ByteArray.data_append, Array.toList_append, Array.toList_append, ex_take, Lib.extract_to_end]
  rfl

/-- What a round keeps for the iterator: the cell of its shape. -/
def KpB (Bn : Nat) (W W' : World) : Prop := W'.cell? ⟨Bn, 0, none⟩ = W.cell? ⟨Bn, 0, none⟩
/-- How a round ends: it goes on, or it has said 'no more'. -/
def Ends (J Jx : List Txt → World → Prop) (Bn : Nat) (pre : List Txt) (x : Txt) (W : World) (b : Bool) (W' : World) : Prop :=
  (b = true ∧ J (pre ++ [x]) W' ∧ KpB Bn W W') ∨ (b = false ∧ Jx (pre ++ [x]) W')
set_option maxRecDepth 100000 in
set_option maxHeartbeats 2000000 in
theorem iter1_in (n : Nat) (hn : 1 ≤ n) (l Bn : Nat) (s : ByteArray) (hs13 : s.size = 13) (J Jx : List Txt → World → Prop)
    (hJd : ∀ pre W, J pre W → J pre W.drew)
    (hY : ∀ pre x W, J pre W → pre.length < 90 → YieldAt Fence.wide (n - 1) Tryd.prog l #[.string x.1] W fun e W' =>
      (e = .returned (.bool true) ∧ J (pre ++ [x]) W' ∧ KpB Bn W W') ∨ (e = .returned (.bool false) ∧ Jx (pre ++ [x]) W'))
    (W : World) (hBn : W.cell? ⟨Bn, 0, none⟩ = some (.string s)) (h0 : J [] W) :
    CallsIn Fence.wide n Tryd.prog 49 #[.func (.yield l) #[] #[], .pointer (some ⟨Bn, 0, none⟩)] W fun e W' => (∃ v, e = .returned v) ∧
      ((∃ ys, vals ys = cand s.data.toList ∧ J ys W') ∨ (∃ pre, True ∧ Jx pre W')) := by
  have HY := hid hY
  have H13 := hid hs13
  have hs14 : 13 ≤ s.size := by omega
  have hs15 : s.size ≤ 13 := by omega
  clear hY hs13
  obtain ⟨L, hL⟩ : ∃ L, L = s.data.toList := ⟨_, rfl⟩
  rw [← hL]
  have HL := hid hL
  clear hL
  refine callsIn_of_wp Tryd.func49 rfl trivial ?_ rfl
  simp only [Tryd.ntmps49, List.size_toArray, List.length_cons, List.length_nil, Nat.reduceAdd, Nat.reduceSub, Array.replicate_succ, Array.replicate_zero, List.push_toArray, List.append_toArray, List.nil_append, List.cons_append]
  gi_wp2
  gi_loopw [3] (fun a wr => ∃ (p : Nat) (pre : List Txt), 2 ≤ p ∧ p ≤ 11 ∧ a = .int .i64 p ∧ wr.cell? ⟨Bn, 0, none⟩ = some (.string s) ∧ Hid (vals pre = candTo L (p - 2)) ∧ Hid (J pre wr))
    (fun a _ => 11 - (intOf a).toNat)
  case atStart =>
    exact ⟨2, [], by omega, by omega, rfl, hBn, rfl, h0⟩
  case round =>
    obtain ⟨p, pre, hp2, hp11, rfl, hcell, hpre, hJ⟩ := hrel
    by_cases hp : p < 11
    · have hpb : decide ((p : Int) < 11) = true := by simp; omega
      gi_wp2
      obtain ⟨wo, rfl⟩ : ∃ wo : World, wo = wr := ⟨_, rfl⟩
      gi_loopw [4] (fun d wq => ∃ (q : Nat) (pre2 : List Txt), 48 ≤ q ∧ q ≤ 58 ∧ d = .int .u8 q ∧ wq.cell? ⟨Bn, 0, none⟩ = some (.string s) ∧ Hid (vals pre2 = candTo L (p - 2) ++ rowTo L p (q - 48)) ∧ Hid (J pre2 wq))
        (fun d _ => 58 - (intOf d).toNat)
      case atStart => exact ⟨48, pre, by omega, by omega, rfl, hcell, hid (by rw [hpre.out, Nat.sub_self, rowTo_zero, List.append_nil]), hJ⟩
      case round =>
        obtain ⟨q, pre2, hq48, hq58, rfl, hcell2, hpre2, hJ2⟩ := hrel
        by_cases hq : q < 58
        · have hps : p < s.size := by omega
          have hgx : L.getD p 0 = s[p]'hps := by rw [HL.out]; exact (Lib.getD_at s p hps).symm
          by_cases heq : dgt q = L.getD p 0
          · have hb : (((q : Int)) == ((s[p]'hps).toNat : Int)) = true := by
              rw [← hgx, ← heq, dgt_toNat (by omega)]; simp
            have hrow : Hid (rowTo L p (q + 1 - 48) = rowTo L p (q - 48)) := by
              rw [show q + 1 - 48 = q - 48 + 1 by omega]
              show _ = _
              rw [rowTo_succ, show 48 + (q - 48) = q by omega]
              unfold cell
              rw [if_pos heq, List.append_nil]
            clear heq hgx
            gi_wp2
            go_roundw
            case rel => exact ⟨q + 1, pre2, by omega, by omega, by go_num, hcell2, by rw [hrow.out]; exact hpre2, hJ2⟩
            case measure => simp [intOf]; omega
          · have hb : (((q : Int)) == ((s[p]'hps).toNat : Int)) = false := by
              have : (dgt q).toNat ≠ (L.getD p 0).toNat := fun h => heq (UInt8.toNat.inj h)
              rw [dgt_toNat (by omega), hgx] at this
              simp; omega
            have hvals : Hid (∀ h, vals (pre2 ++ [⟨s.extract 0 p ++ Utf8.encode (q : Int) ++ s.extract (p + 1) s.size, h⟩]) = candTo L (p - 2) ++ rowTo L p (q + 1 - 48)) := fun h => by
              rw [vals_snoc, hpre2.out, show q + 1 - 48 = q - 48 + 1 by omega, rowTo_succ, show 48 + (q - 48) = q by omega]
              unfold cell
              rw [if_neg heq, List.append_assoc]
              rw [text_put s p q (by omega), ← HL.out]
            clear heq hgx
            gi_wp2
            have hmx : Tryd.prog.follows .mixedOrders = true := by kernel_rfl
            have hps1 : p ≤ s.size := by omega
            have hps2 : p + 1 ≤ s.size := by omega
            have hw1 : IntKind.i64.wrap ((p : Int) + 1) = (p : Int) + 1 := IntWalk.i64_in _ (by omega)
            have hw0 : 0 ≤ (p : Int) + 1 := by omega
            have hw2 : ((p : Int) + 1).toNat = p + 1 := by omega
            have hes : (Utf8.encode (q : Int)).size ≤ 1 := by rw [encode_small q (by omega)]; exact Nat.le_refl 1
            have hcc1 : ¬ 9223372036854775807 < p + (Utf8.encode (q : Int)).size := by omega
            have hcc2 : ¬ 9223372036854775807 < p + (Utf8.encode (q : Int)).size + (s.size - (p + 1)) := by omega
            have hcsz : (s.extract 0 p ++ Utf8.encode (q : Int) ++ s.extract (p + 1) s.size).size ≤ 100 := by
              have e1 := ex_size s 0 p
              have e2 := ex_size s (p + 1) s.size
              rw [ByteArray.size_append, ByteArray.size_append]; omega
            have hlen2 : pre2.length < 90 := by
              have e1 := candTo_len L (p - 2)
              have e2 := rowTo_len L p (q - 48)
              have e3 := vals_len pre2
              rw [hpre2.out, List.length_append] at e3
              omega
            obtain ⟨fn, tmps, assign, body, hy, hR⟩ := HY.out pre2 ⟨_, hcsz⟩ wr.drew (hJd _ _ hJ2.out) hlen2
            dsimp only at hy
            clear hes hlen2
            have hR2 := hR.mono (R' := fun e W' => ∃ b : Bool, e = .returned (.bool b) ∧ Ends J Jx Bn pre2 ⟨_, hcsz⟩ wr.drew b W') (fun e W' h => by
              rcases h with ⟨rfl, h1, h2⟩ | ⟨rfl, h1⟩
              · exact ⟨true, rfl, .inl ⟨rfl, h1, h2⟩⟩
              · exact ⟨false, rfl, .inr ⟨rfl, h1⟩⟩)
            clear hR
            gi_region_with_o (refine hR2.mono ?_; rintro e W3 ⟨b, rfl, hT⟩)
            all_goals
              rcases hT with ⟨rfl, hJ3, hk3⟩ | ⟨rfl, hJx3⟩
              · have hcell3 : W3.cell? ⟨Bn, 0, none⟩ = some (.string s) := hk3.trans hcell2
                gi_wp2
                go_roundw
                case rel => exact ⟨q + 1, pre2 ++ [⟨_, hcsz⟩], by omega, by omega, by go_num, hcell3, hid (hvals.out _), hid hJ3⟩
                case measure => simp [intOf]; omega
              · gi_wp2
                refine bodyPost_ret (results_none rfl _ _ _) rfl ?_
                exact ⟨⟨_, rfl⟩, .inr ⟨_, trivial, hJx3⟩⟩
        · have hq2 : q = 58 := by omega
          subst hq2
          have hvals : Hid (vals pre2 = candTo L (p + 1 - 2)) := by
            show _ = _
            rw [hpre2.out, show p + 1 - 2 = p - 2 + 1 by omega, candTo_succ, show p - 2 + 2 = p by omega]
          gi_wp2
          go_roundw
          case rel => exact ⟨p + 1, pre2, by omega, by omega, by go_num, hcell2, hvals, hJ2⟩
          case measure => simp [intOf]; omega
    · have hp2 : p = 11 := by omega
      subst hp2
      gi_wp2
      go_end0
      exact ⟨⟨_, rfl⟩, .inl ⟨pre, hpre.out, hJ.out⟩⟩

set_option maxHeartbeats 1000000 in
theorem misreadings_in (n : Nat) (s : ByteArray) (w : World) :
    CallsIn Fence.wide n Tryd.prog 35 #[.string s] w fun e w' => e = .returned (.func (.func 49) #[] #[.pointer (some ⟨w.heap.size, 0, none⟩)]) ∧ w' = w.alloc (.cells #[.string s] 9) := by
  refine callsIn_of_wp Tryd.func35 rfl trivial ?_ rfl
  simp only [Tryd.ntmps35, List.size_toArray, List.length_cons, List.length_nil, Nat.reduceAdd, Nat.reduceSub, Array.replicate_succ, Array.replicate_zero, List.push_toArray, List.append_toArray, List.nil_append, List.cons_append]
  gi_wp2
  go_ret
  exact ⟨rfl, rfl⟩

theorem grownBy_drew' (W : World) : W.grownBy W.drew none := ⟨rfl, rfl, rfl, Nat.le_refl _, fun _ _ _ => rfl⟩

theorem mis_stops (n : Nat) (hn : 1 ≤ n) (Bn : Nat) (s : ByteArray) (hs : s.size = 13) (w : World) (hBn : Bn < w.heap.size) (hc : w.cell? ⟨Bn, 0, none⟩ = some (.string s)) :
    SeqStopsK Fence.wide n Tryd.prog 49 #[.pointer (some ⟨Bn, 0, none⟩)] (fun x : Txt => #[Value.string x.1]) (KpB Bn) (fun ys => vals ys = cand s.data.toList) (fun _ => True) 90 w := fun l J Jx W hW hJ _ hY h0 =>
  iter1_in n hn l Bn s hs J Jx (fun pre W1 h => hJ pre W1 _ none h (grownBy_drew' W1) (fun r e => by cases e)) hY W ((hW.cell (p := ⟨Bn, 0, none⟩) hBn).trans hc) h0

end Id1
end Go.Proofs.YtbgniplhlnipoaaDoor
