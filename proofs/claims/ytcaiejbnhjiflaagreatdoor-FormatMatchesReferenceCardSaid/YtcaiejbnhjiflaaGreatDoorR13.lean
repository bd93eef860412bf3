/-
  The contract of the document's Upper.
-/
import Derived.Test.YtcaiejbnhjiflaaGreatDoorR12
import Derived.Laws.IdiomStrings
import Derived.Laws.BytesArg
namespace Go.Proofs.YtcaiejbnhjiflaaGreatDoor
open Go.RowKit Go.ChangeMaps
namespace Fm

def bU (b : UInt8) : Value := .int .u8 (b.toNat : Int)
theorem infoU8 : (Tryz.prog.info? 5).map (fun i => (i.zero, i.size, i.bytes)) = some (some (.int .u8 0), 1, 1) := by kernel_rfl
theorem up_take {x : W} {k : Nat} {b : UInt8} (h : x[k]? = some b) : upL (x.take (k + 1)) = upL (x.take k) ++ [upB b] := by
  unfold upL; rw [List.take_add_one, h, List.map_append]; rfl
theorem up_len (x : W) (k : Nat) : (upL (x.take k)).length ≤ k := by rw [upL_length, List.length_take]; omega
set_option maxRecDepth 100000 in
set_option maxHeartbeats 8000000 in
theorem rupper_any (x : W) (w : World) (hx : x.length ≤ 1000) :
    Calls Tryz.prog 23 #[.string (sB x)] w fun e w' => e = .returned (.string (sB (upL x))) ∧ Below w.heap.size w w' := by
  have hz := sB_size x
  obtain ⟨s, hs⟩ : ∃ s, s = sB x := ⟨_, rfl⟩
  rw [← hs] at hz ⊢
  have hsl : s.data.toList = x := by rw [hs]; rfl
  have HS := hid hsl
  have HZ := hid hz
  have hs1 : s.size ≤ 1000 := by omega
  clear hs hsl hz hx
  obtain ⟨i0, hi0, hz0, hz1, hz2⟩ := info_parts infoU8
  go_enter Tryz.func23, Tryz.ntmps23
  go_wp2
  go_loopw [3, 4] (fun o i wr => ∃ k : Nat, k ≤ s.size ∧ i = .int .i64 k ∧ Hid (wr.ownsRow w.heap.size 5 1 o (upL (x.take k)).length ((upL (x.take k)).map bU)) ∧ Hid (Below w.heap.size w wr)) (fun _ i _ => s.size - (intOf i).toNat)
  case atStart => exact ⟨0, Nat.zero_le _, rfl, own_empty _ _ _ (Nat.le_refl _) rfl _, b0 _ _⟩
  case round =>
    obtain ⟨k, hk, rfl, ho, hB⟩ := hrel
    have hul := up_len x k
    have hwz := hB.out.size
    by_cases hlt : k < s.size
    · have hk0 : 0 ≤ (k : Int) := by omega
      have hk1 : (k : Int) < (s.size : Int) := by omega
      have HBT := hid (at_get HS.out hlt)
      have HUT := hid (up_take HBT.out)
      have hun := upB_nat s[k]
      have hb := byte_bd s[k]
      by_cases h97 : 97 ≤ (s[k]).toNat ∧ (s[k]).toNat ≤ 122
      · have d1 : decide ((97 : Int) ≤ ((s[k]).toNat : Int)) = true := decide_eq_true (by omega)
        have d2 : decide (((s[k]).toNat : Int) ≤ 122) = true := decide_eq_true (by omega)
        rw [if_pos h97] at hun
        have HV : Hid (Value.int .u8 (((s[k]).toNat : Int) - 32) = bU (upB s[k])) := by show _ = _; unfold bU; rw [hun]; congr 1; omega
        have hr1 : 0 ≤ ((s[k]).toNat : Int) - 32 := by omega
        have hr2 : ((s[k]).toNat : Int) - 32 ≤ 255 := by omega
        clear hun h97
        go_wp2_with (at_builtin; refine wpList_append_lies _ rfl (.tmp 24) (.tmp 26) 75 rfl w.heap.size 5 i0 _ 1 1 Tryz.underlying75 hi0 hz0 hz1 hz2 rfl (by decide) u3 (upL (x.take k)).length ((upL (x.take k)).map bU) rfl (ho.out.alloc _) ⟨wr.heap.size, 0, none⟩ 1 1 [.int .u8 (((s[k]).toNat : Int) - 32)] rfl rfl (cell_one_new wr _ _) (by simp [Value.oneCell']) (by omega) (by unfold maxLen; omega) (by omega) (by simp; omega) (wr.heap.size + 1) (by simp) ?_; intro gg cap2 w4 hown4 hgrow hat hlt4)
        have HO4 : Hid (w4.ownsRow w.heap.size 5 1 (.slice (some ⟨gg, 0, none⟩) ((upL (x.take k)).length + 1) cap2) (upL (x.take (k + 1))).length ((upL (x.take (k + 1))).map bU)) := by
          show World.ownsRow _ _ _ _ _ _ _
          rw [HUT.out, List.length_append, List.map_append]
          rw [HV.out] at hown4
          exact hown4
        have HB4 := hid (grow_below (b0 := w.heap.size) hB.out (Nat.le_refl _) hwz ho.out hgrow)
        clear hown4 hgrow hat hlt4
        go_roundw
        case rel => exact ⟨k + 1, by omega, by go_num, HO4, HB4⟩
        case measure => simp [intOf]; omega
      · rw [if_neg h97] at hun
        have HV : Hid (Value.int .u8 ((s[k]).toNat : Int) = bU (upB s[k])) := by show _ = _; unfold bU; rw [hun]
        by_cases h1 : 97 ≤ (s[k]).toNat
        · have d1 : decide ((97 : Int) ≤ ((s[k]).toNat : Int)) = true := decide_eq_true (by omega)
          have d2 : decide (((s[k]).toNat : Int) ≤ 122) = false := decide_eq_false (by omega)
          clear hun h97 h1
          go_wp2_with (at_builtin; refine wpList_append_lies _ rfl (.tmp 24) (.tmp 26) 75 rfl w.heap.size 5 i0 _ 1 1 Tryz.underlying75 hi0 hz0 hz1 hz2 rfl (by decide) u3 (upL (x.take k)).length ((upL (x.take k)).map bU) rfl (ho.out.alloc _) ⟨wr.heap.size, 0, none⟩ 1 1 [.int .u8 ((s[k]).toNat : Int)] rfl rfl (cell_one_new wr _ _) (by simp [Value.oneCell']) (by omega) (by unfold maxLen; omega) (by omega) (by simp; omega) (wr.heap.size + 1) (by simp) ?_; intro gg cap2 w4 hown4 hgrow hat hlt4)
          have HO4 : Hid (w4.ownsRow w.heap.size 5 1 (.slice (some ⟨gg, 0, none⟩) ((upL (x.take k)).length + 1) cap2) (upL (x.take (k + 1))).length ((upL (x.take (k + 1))).map bU)) := by
            show World.ownsRow _ _ _ _ _ _ _
            rw [HUT.out, List.length_append, List.map_append]
            rw [HV.out] at hown4
            exact hown4
          have HB4 := hid (grow_below (b0 := w.heap.size) hB.out (Nat.le_refl _) hwz ho.out hgrow)
          clear hown4 hgrow hat hlt4
          go_roundw
          case rel => exact ⟨k + 1, by omega, by go_num, HO4, HB4⟩
          case measure => simp [intOf]; omega
        · have d1 : decide ((97 : Int) ≤ ((s[k]).toNat : Int)) = false := decide_eq_false (by omega)
          clear hun h97 h1
          go_wp2_with (at_builtin; refine wpList_append_lies _ rfl (.tmp 24) (.tmp 26) 75 rfl w.heap.size 5 i0 _ 1 1 Tryz.underlying75 hi0 hz0 hz1 hz2 rfl (by decide) u3 (upL (x.take k)).length ((upL (x.take k)).map bU) rfl (ho.out.alloc _) ⟨wr.heap.size, 0, none⟩ 1 1 [.int .u8 ((s[k]).toNat : Int)] rfl rfl (cell_one_new wr _ _) (by simp [Value.oneCell']) (by omega) (by unfold maxLen; omega) (by omega) (by simp; omega) (wr.heap.size + 1) (by simp) ?_; intro gg cap2 w4 hown4 hgrow hat hlt4)
          have HO4 : Hid (w4.ownsRow w.heap.size 5 1 (.slice (some ⟨gg, 0, none⟩) ((upL (x.take k)).length + 1) cap2) (upL (x.take (k + 1))).length ((upL (x.take (k + 1))).map bU)) := by
            show World.ownsRow _ _ _ _ _ _ _
            rw [HUT.out, List.length_append, List.map_append]
            rw [HV.out] at hown4
            exact hown4
          have HB4 := hid (grow_below (b0 := w.heap.size) hB.out (Nat.le_refl _) hwz ho.out hgrow)
          clear hown4 hgrow hat hlt4
          go_roundw
          case rel => exact ⟨k + 1, by omega, by go_num, HO4, HB4⟩
          case measure => simp [intOf]; omega
    · have hkl : x.take k = x := List.take_of_length_le (by have := HZ.out; omega)
      rw [hkl] at ho
      have hcv : ∀ (dst : TypeId), Tryz.prog.underlying dst = some .string → (convert 75 dst u3).run Tryz.prog wr = .ok (.string (sB (upL x))) wr := by
        intro dst hd
        rcases id ho.out.2 with ⟨hv, h0⟩ | ⟨g, cap, cur, hv, -, hg, hnc, -, -, -⟩
        · rw [hv, run_convert_bytes_nil _ _ _ Tryz.underlying75 Tryz.underlying5 0 0 dst hd, List.length_eq_zero_iff.1 h0]; rfl
        · have ho' := ho.out
          rw [hv] at ho' ⊢
          rw [run_convert_bytes_back wr _ dst _ ⟨g, 0, none⟩ cap (upL x) Tryz.underlying75 Tryz.underlying5 hd (fun j hj => by
            rw [addr_add, Nat.zero_add, ho'.cellAt j (by omega), List.getElem?_map, List.getElem?_eq_getElem hj]; rfl)]
          rfl
      have kc := hcv 9 Tryz.underlying9
      clear hcv hkl
      go_wp2
      go_ret
      exact ⟨rfl, hB.out⟩

end Fm
end Go.Proofs.YtcaiejbnhjiflaaGreatDoor
