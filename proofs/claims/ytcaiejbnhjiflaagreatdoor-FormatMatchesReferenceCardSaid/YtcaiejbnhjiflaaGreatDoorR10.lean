/-
  Contracts of the document's joined and Code.
-/
import Derived.Test.YtcaiejbnhjiflaaGreatDoorR3
import Derived.Test.YtcaiejbnhjiflaaGreatDoorR2
namespace Go.Proofs.YtcaiejbnhjiflaaGreatDoor
open Go.RowKit Go.ChangeMaps
namespace Fm

theorem join_take {ws : List W} {k : Nat} {x : W} (hx : ws[k]? = some x) : joinW (ws.take (k + 1)) = if k = 0 then x else joinW (ws.take k) ++ [32] ++ x := by
  rw [List.take_add_one, hx]
  by_cases h : k = 0
  · subst h; rfl
  · rw [if_neg h, List.append_assoc]
    have hl := (List.getElem?_eq_some_iff.1 hx).1
    exact join_snoc _ _ (fun e => by
      rcases List.take_eq_nil_iff.1 e with e | e
      · exact h e
      · rw [e] at hl; simp at hl)
theorem join_sum (ws : List W) (k : Nat) (h : (ws.map List.length).sum ≤ 5000) (hn : ws.length ≤ 5000) : (joinW (ws.take k)).length ≤ 10000 := by
  have h1 := join_len (ws.take k)
  have h2 : ((ws.take k).map List.length).sum ≤ (ws.map List.length).sum := by
    conv => rhs; rw [← List.take_append_drop k ws, List.map_append, List.sum_append]
    omega
  rw [List.length_take] at h1
  omega
set_option maxRecDepth 100000 in
set_option maxHeartbeats 8000000 in
theorem rjoined_any (v : Value) (ws : List W) (w : World) (hW : IsW w v ws) (hs : (ws.map List.length).sum ≤ 5000) (hn : ws.length ≤ 5000) :
    Calls Tryz.prog 36 #[v] w fun e w' => e = .returned (.string (sB (joinW ws))) ∧ w = w' := by
  obtain ⟨A, cap, rfl, hR⟩ := hW
  have HR := hid hR
  have HJ := hid (fun k => join_sum ws k hs hn)
  have HS := hid hs
  clear hR hs
  go_enter Tryz.func36, Tryz.ntmps36
  go_wp2
  go_loop [3, 4] (fun c i => ∃ (k : Nat) (t : ByteArray), k ≤ ws.length ∧ i = .int .i64 k ∧ c = .string t ∧ Hid (t.data.toList = joinW (ws.take k))) (fun _ i => ws.length - (intOf i).toNat)
  case atStart => exact ⟨0, ⟨#[]⟩, Nat.zero_le _, rfl, rfl, rfl⟩
  case round =>
    obtain ⟨k, t, hk, rfl, rfl, hT⟩ := hrel
    have htz : t.size ≤ 10000 := by rw [← size_len, hT.out]; exact HJ.out k
    by_cases hlt : k < ws.length
    · obtain ⟨x, hx⟩ : ∃ x, ws[k]? = some x := ⟨_, List.getElem?_eq_getElem hlt⟩
      obtain ⟨g, o, rfl, hg, hc⟩ := HR.out.at (k := k) (u := sV x) (by rw [List.getElem?_map, hx]; rfl)
      unfold sV at hc
      have hxl : x.length ≤ 5000 := Nat.le_trans (le_sum (List.mem_of_getElem? hx)) HS.out
      have HJT := hid (join_take hx)
      have hsz := sB_size x
      obtain ⟨s, hs⟩ : ∃ s, s = sB x := ⟨_, rfl⟩
      rw [← hs] at hc hsz
      have hsl : s.data.toList = x := by rw [hs]; rfl
      have hs5 : s.size ≤ 5000 := by omega
      have hkk : (k : Int) < (ws.length : Int) := by omega
      have hk0 : 0 ≤ (k : Int) := by omega
      by_cases h0 : k = 0
      · have d0 : decide ((0 : Int) < (k : Int)) = false := decide_eq_false (by omega)
        have HN : Hid ((t ++ s).data.toList = joinW (ws.take (k + 1))) := by
          show _ = _
          rw [HJT.out, if_pos h0, ByteArray.data_append, Array.toList_append, hT.out, hsl, h0]; rfl
        have hng : ¬ 0 < k := by omega
        clear hx hs hsl hsz hxl h0
        go_wp2
        go_round
        case rel => exact ⟨k + 1, t ++ s, by omega, by go_num, rfl, HN⟩
        case measure => simp [intOf]; omega
      · have d0 : decide ((0 : Int) < (k : Int)) = true := decide_eq_true (by omega)
        have HN : Hid ((t ++ ⟨#[32]⟩ ++ s).data.toList = joinW (ws.take (k + 1))) := by
          show _ = _
          rw [HJT.out, if_neg h0, ByteArray.data_append, ByteArray.data_append, Array.toList_append, Array.toList_append, hT.out, hsl]
        have hps : 0 < k := by omega
        clear hx hs hsl hsz hxl h0
        go_wp2
        go_round
        case rel => exact ⟨k + 1, t ++ ⟨#[32]⟩ ++ s, by omega, by go_num, rfl, HN⟩
        case measure => simp [intOf]; omega
    · have HN : Hid (t = sB (joinW ws)) := by
        have := hT.out
        rw [List.take_of_length_le (by omega)] at this
        exact ba_of this
      go_wp2
      go_ret
      exact ⟨by rw [HN.out]; rfl, rfl⟩

end Fm
end Go.Proofs.YtcaiejbnhjiflaaGreatDoor
