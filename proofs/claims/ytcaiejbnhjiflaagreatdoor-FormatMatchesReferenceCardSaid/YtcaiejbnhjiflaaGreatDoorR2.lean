/-
  Contracts of the document's Words and Fit.
-/
import Derived.Test.YtcaiejbnhjiflaaGreatDoorP3
namespace Go.Proofs.YtcaiejbnhjiflaaGreatDoor
open Go.RowKit Go.ChangeMaps
namespace Fm

theorem own_empty (w : World) (B N : Nat) (hB : B ≤ N) (hN : N = w.heap.size) (e : TypeId) : (w.alloc (.cells #[] e)).ownsRow B e 1 (.slice (some ⟨N, 0, none⟩) 0 0) 0 [] :=
  ⟨rfl, .inr ⟨N, 0, #[], rfl, hB, by subst hN; show (w.heap.push (.cells #[] e))[w.heap.size]? = _; simp, Nat.le_refl _, Nat.zero_le _, rfl, rfl⟩⟩
/-- Where Words stands. -/
def RwAt (l : W) (k : Nat) (cur : W) (done : List W) : Prop :=
  cur.length ≤ k ∧ done.length ≤ k ∧ done ++ (if k ≤ l.length then wordsF cur (l.drop k) else []) = wordsL l
theorem RwAt.start (l : W) : RwAt l 0 [] [] := ⟨Nat.le_refl _, Nat.le_refl _, by rw [if_pos (Nat.zero_le _)]; rfl⟩
theorem RwAt.last {l : W} {k : Nat} {cur : W} {done : List W} (h : RwAt l k cur done) (hk : k = l.length) : RwAt l (k + 1) [] (done ++ wordsF cur []) := by
  obtain ⟨h1, h2, h3⟩ := h
  subst hk
  rw [if_pos (Nat.le_refl _), List.drop_length] at h3
  refine ⟨Nat.zero_le _, ?_, by rw [if_neg (by omega), List.append_nil]; exact h3⟩
  rw [List.length_append, wordsF_nil]
  split <;> simp <;> omega
theorem RwAt.blank {l : W} {k : Nat} {cur : W} {done : List W} {b : UInt8} (h : RwAt l k cur done) (hb : l[k]? = some b) (hbb : blkB b = true) : RwAt l (k + 1) [] (done ++ wordsF cur []) := by
  obtain ⟨h1, h2, h3⟩ := h
  obtain ⟨hk, hg⟩ := List.getElem?_eq_some_iff.1 hb
  rw [if_pos (by omega), List.drop_eq_getElem_cons hk, hg, wordsF_blk hbb] at h3
  refine ⟨Nat.zero_le _, ?_, by rw [if_pos (by omega), List.append_assoc]; exact h3⟩
  rw [List.length_append, wordsF_nil]
  split <;> simp <;> omega
theorem RwAt.more {l : W} {k : Nat} {cur : W} {done : List W} {b : UInt8} (h : RwAt l k cur done) (hb : l[k]? = some b) (hbb : blkB b = false) : RwAt l (k + 1) (cur ++ [b]) done := by
  obtain ⟨h1, h2, h3⟩ := h
  obtain ⟨hk, hg⟩ := List.getElem?_eq_some_iff.1 hb
  rw [if_pos (by omega), List.drop_eq_getElem_cons hk, hg, wordsF_cons, if_neg (by rw [hbb]; simp)] at h3
  exact ⟨by simp; omega, by omega, by rw [if_pos (by omega)]; exact h3⟩
theorem RwAt.done {l : W} {k : Nat} {cur : W} {done : List W} (h : RwAt l k cur done) (hk : l.length < k) : done = wordsL l := by
  have := h.2.2
  rw [if_neg (by omega), List.append_nil] at this; exact this
theorem one_byte (s : ByteArray) (k : Nat) (h : k < s.size) : (s.extract k (k + 1)).data.toList = [s[k]] := by
  have : s.data.toList.drop k = s[k] :: s.data.toList.drop (k + 1) := by
    rw [List.drop_eq_getElem_cons (by rw [size_len]; exact h)]; rfl
  rw [ByteArray.data_extract, Array.toList_extract, List.extract_eq_take_drop, this]
  simp
/-- What the document's Words hands back: a row of its own. -/
def RWords (l : W) (w : World) (e : Ending) (w' : World) : Prop :=
  ∃ v, e = .returned v ∧ IsW w' v (wordsL l) ∧ Below w.heap.size w w'


theorem IsW.of_own {w : World} {B : Nat} {v : Value} {ws : List W} (h : w.ownsRow B 9 1 v ws.length (ws.map sV)) : IsW w v ws := by
  obtain ⟨A, cap, rfl, h2⟩ := SlR.of_own h; exact ⟨A, cap, rfl, h2⟩
theorem ba_eq {t : ByteArray} {l : W} (h : t.data.toList = l) : sB l = t := (ba_of h).symm
set_option maxRecDepth 100000 in
set_option maxHeartbeats 8000000 in
theorem rwords_any (s : ByteArray) (w : World) (hs : s.size ≤ 100000) : Calls Tryz.prog 18 #[.string s] w (RWords s.data.toList w) := by
  obtain ⟨i0, hi0, hz0, hz1, hz2⟩ := info_parts infoStr
  have hll := size_len s
  obtain ⟨l, hl⟩ : ∃ l, l = s.data.toList := ⟨_, rfl⟩
  rw [← hl] at hll ⊢
  have HL := hid hl
  clear hl
  go_enter Tryz.func18, Tryz.ntmps18
  go_wp2
  go_loopw [3, 4, 5] (fun o c i wr => ∃ (k : Nat) (cur : W) (done : List W) (t : ByteArray), k ≤ s.size + 1 ∧ i = .int .i64 k ∧ c = .string t ∧ Hid (RwAt l k cur done) ∧ Hid (t.data.toList = cur) ∧ Hid (wr.ownsRow w.heap.size 9 1 o done.length (done.map sV)) ∧ Hid (Below w.heap.size w wr)) (fun _ _ i _ => s.size + 1 - (intOf i).toNat)
  case atStart => exact ⟨0, [], [], ⟨#[]⟩, Nat.zero_le _, rfl, rfl, RwAt.start l, rfl, own_empty _ _ _ (Nat.le_refl _) rfl _, b0 _ _⟩
  case round =>
    obtain ⟨k, cur, done, t, hk, rfl, rfl, hR, hT, ho, hB⟩ := hrel
    have hR1 := hR.out.1
    have hR2 := hR.out.2.1
    have htz : t.size ≤ 100001 := by rw [← size_len, hT.out]; omega
    have hwz := hB.out.size
    by_cases hlt : k < s.size
    · have hk0 : 0 ≤ (k : Int) := by omega
      have hk1 : (k : Int) < (s.size : Int) := by omega
      have hk2 : (k : Int) ≤ (s.size : Int) := by omega
      have e0 : ((k : Int) == (s.size : Int)) = false := by simp; omega
      have hb := at_get HL.out.symm hlt
      have HBT := hid hb
      clear hb
      by_cases h32 : (s[k]).toNat = 32
      · have a32 : (((s[k]).toNat : Int) == 32) = true := by rw [h32]; rfl
        have hbb : blkB s[k] = true := by rw [blkB_iff]; exact .inl h32
        by_cases h0 : cur = []
        · have HN := hid (hR.out.blank HBT.out hbb)
          rw [h0, wordsF_nil, if_pos rfl, List.append_nil] at HN
          have ht : t.toList = (⟨#[]⟩ : ByteArray).toList := by rw [Lib.toList_data, Lib.toList_data, hT.out, h0]
          have ht2 : (t.toList != (⟨#[]⟩ : ByteArray).toList) = false := by rw [ht]; simp
          clear h0 hbb h32
          go_wp2
          go_roundw
          case rel => exact ⟨k + 1, [], done, ⟨#[]⟩, by omega, by go_num, rfl, HN, rfl, ho, hB⟩
          case measure => simp [intOf]; omega
        · have HN := hid (hR.out.blank HBT.out hbb)
          rw [wordsF_nil, if_neg h0] at HN
          have ht : ¬ t.toList = (⟨#[]⟩ : ByteArray).toList := by rw [Lib.toList_data, Lib.toList_data, hT.out]; exact h0
          have ht3 : t.toList.isEmpty = false := by rw [Lib.toList_data, hT.out]; simp [h0]
          clear h0 hbb h32
          go_wp2_with (at_builtin; refine wpList_append_lies _ rfl (.tmp 31) (.tmp 33) 25 rfl w.heap.size 9 i0 _ 1 16 Tryz.underlying25 hi0 hz0 hz1 hz2 rfl (by decide) u3 done.length (done.map sV) rfl (ho.out.alloc _) ⟨wr.heap.size, 0, none⟩ 1 1 [.string t] rfl rfl (cell_one_new wr _ _) (by simp [Value.oneCell']) (by omega) (by unfold maxLen; omega) (by omega) (by simp; omega) (wr.heap.size + 1) (by simp) ?_; intro gg cap2 w4 hown4 hgrow hat hlt4)
          have HO := hid (by rw [show [Value.string t] = [cur].map sV from (by rw [List.map_singleton]; unfold sV; rw [← ba_eq hT.out]), ← List.map_append] at hown4; exact hown4 : w4.ownsRow w.heap.size 9 1 _ (done.length + 1) ((done ++ [cur]).map sV))
          have HB4 := hid (grow_below (b0 := w.heap.size) hB.out (Nat.le_refl _) hB.out.size ho.out hgrow)
          clear hown4 hgrow hat hlt4
          go_wp2
          go_roundw
          case rel => exact ⟨k + 1, [], done ++ [cur], ⟨#[]⟩, by omega, by go_num, rfl, HN, rfl, by rw [List.length_append]; exact HO, HB4⟩
          case measure => simp [intOf]; omega
      · have a32 : (((s[k]).toNat : Int) == 32) = false := by simp; omega
        by_cases h9 : (s[k]).toNat = 9
        · have a9 : (((s[k]).toNat : Int) == 9) = true := by rw [h9]; rfl
          have hbb : blkB s[k] = true := by rw [blkB_iff]; exact .inr h9
          by_cases h0 : cur = []
          · have HN := hid (hR.out.blank HBT.out hbb)
            rw [h0, wordsF_nil, if_pos rfl, List.append_nil] at HN
            have ht : t.toList = (⟨#[]⟩ : ByteArray).toList := by rw [Lib.toList_data, Lib.toList_data, hT.out, h0]
            have ht2 : (t.toList != (⟨#[]⟩ : ByteArray).toList) = false := by rw [ht]; simp
            clear h0 hbb h32 h9
            go_wp2
            go_roundw
            case rel => exact ⟨k + 1, [], done, ⟨#[]⟩, by omega, by go_num, rfl, HN, rfl, ho, hB⟩
            case measure => simp [intOf]; omega
          · have HN := hid (hR.out.blank HBT.out hbb)
            rw [wordsF_nil, if_neg h0] at HN
            have ht : ¬ t.toList = (⟨#[]⟩ : ByteArray).toList := by rw [Lib.toList_data, Lib.toList_data, hT.out]; exact h0
            have ht3 : t.toList.isEmpty = false := by rw [Lib.toList_data, hT.out]; simp [h0]
            clear h0 hbb h32 h9
            go_wp2_with (at_builtin; refine wpList_append_lies _ rfl (.tmp 31) (.tmp 33) 25 rfl w.heap.size 9 i0 _ 1 16 Tryz.underlying25 hi0 hz0 hz1 hz2 rfl (by decide) u3 done.length (done.map sV) rfl (ho.out.alloc _) ⟨wr.heap.size, 0, none⟩ 1 1 [.string t] rfl rfl (cell_one_new wr _ _) (by simp [Value.oneCell']) (by omega) (by unfold maxLen; omega) (by omega) (by simp; omega) (wr.heap.size + 1) (by simp) ?_; intro gg cap2 w4 hown4 hgrow hat hlt4)
            have HO := hid (by rw [show [Value.string t] = [cur].map sV from (by rw [List.map_singleton]; unfold sV; rw [← ba_eq hT.out]), ← List.map_append] at hown4; exact hown4 : w4.ownsRow w.heap.size 9 1 _ (done.length + 1) ((done ++ [cur]).map sV))
            have HB4 := hid (grow_below (b0 := w.heap.size) hB.out (Nat.le_refl _) hB.out.size ho.out hgrow)
            clear hown4 hgrow hat hlt4
            go_wp2
            go_roundw
            case rel => exact ⟨k + 1, [], done ++ [cur], ⟨#[]⟩, by omega, by go_num, rfl, HN, rfl, by rw [List.length_append]; exact HO, HB4⟩
            case measure => simp [intOf]; omega
        · have a9 : (((s[k]).toNat : Int) == 9) = false := by simp; omega
          have hbb : blkB s[k] = false := by rw [Bool.eq_false_iff]; intro h; rw [blkB_iff] at h; omega
          have HN := hid (hR.out.more HBT.out hbb)
          have hx := one_byte s k hlt
          have HX : Hid ((t ++ s.extract k (k + 1)).data.toList = cur ++ [s[k]]) := by
            show _ = _
            rw [ByteArray.data_append, Array.toList_append, hT.out, hx]
          have hez : (s.extract k (k + 1)).size = 1 := by rw [← size_len, hx]; rfl
          clear hbb h32 h9 hx
          go_wp2
          go_roundw
          case rel => exact ⟨k + 1, cur ++ [s[k]], done, _, by omega, by go_num, rfl, HN, HX, ho, hB⟩
          case measure => simp [intOf]; omega
    · by_cases he : k = s.size
      · have hk2 : (k : Int) ≤ (s.size : Int) := by omega
        have e0 : ((k : Int) == (s.size : Int)) = true := by simp; omega
        by_cases h0 : cur = []
        · have HN := hid (hR.out.last (he.trans hll.symm))
          rw [h0, wordsF_nil, if_pos rfl, List.append_nil] at HN
          have ht : t.toList = (⟨#[]⟩ : ByteArray).toList := by rw [Lib.toList_data, Lib.toList_data, hT.out, h0]
          have ht2 : (t.toList != (⟨#[]⟩ : ByteArray).toList) = false := by rw [ht]; simp
          clear h0
          go_wp2
          go_roundw
          case rel => exact ⟨k + 1, [], done, ⟨#[]⟩, by omega, by go_num, rfl, HN, rfl, ho, hB⟩
          case measure => simp [intOf]; omega
        · have HN := hid (hR.out.last (he.trans hll.symm))
          rw [wordsF_nil, if_neg h0] at HN
          have ht : ¬ t.toList = (⟨#[]⟩ : ByteArray).toList := by rw [Lib.toList_data, Lib.toList_data, hT.out]; exact h0
          have ht3 : t.toList.isEmpty = false := by rw [Lib.toList_data, hT.out]; simp [h0]
          clear h0
          go_wp2_with (at_builtin; refine wpList_append_lies _ rfl (.tmp 31) (.tmp 33) 25 rfl w.heap.size 9 i0 _ 1 16 Tryz.underlying25 hi0 hz0 hz1 hz2 rfl (by decide) u3 done.length (done.map sV) rfl (ho.out.alloc _) ⟨wr.heap.size, 0, none⟩ 1 1 [.string t] rfl rfl (cell_one_new wr _ _) (by simp [Value.oneCell']) (by omega) (by unfold maxLen; omega) (by omega) (by simp; omega) (wr.heap.size + 1) (by simp) ?_; intro gg cap2 w4 hown4 hgrow hat hlt4)
          have HO := hid (by rw [show [Value.string t] = [cur].map sV from (by rw [List.map_singleton]; unfold sV; rw [← ba_eq hT.out]), ← List.map_append] at hown4; exact hown4 : w4.ownsRow w.heap.size 9 1 _ (done.length + 1) ((done ++ [cur]).map sV))
          have HB4 := hid (grow_below (b0 := w.heap.size) hB.out (Nat.le_refl _) hB.out.size ho.out hgrow)
          clear hown4 hgrow hat hlt4
          go_wp2
          go_roundw
          case rel => exact ⟨k + 1, [], done ++ [cur], ⟨#[]⟩, by omega, by go_num, rfl, HN, rfl, by rw [List.length_append]; exact HO, HB4⟩
          case measure => simp [intOf]; omega
      · have HN := hid (hR.out.done (by omega))
        go_wp2
        go_ret
        exact ⟨_, rfl, IsW.of_own (by rw [← HN.out]; exact ho.out), hB.out⟩

end Fm
end Go.Proofs.YtcaiejbnhjiflaaGreatDoor
