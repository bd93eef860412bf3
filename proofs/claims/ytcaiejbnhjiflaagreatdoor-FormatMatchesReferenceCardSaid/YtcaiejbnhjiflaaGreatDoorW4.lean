/-
  Contracts of strings.Clone and Words.
-/
import Derived.Test.YtcaiejbnhjiflaaGreatDoorW3
namespace Go.Proofs.YtcaiejbnhjiflaaGreatDoor
open Go.RowKit
namespace Fm

set_option maxHeartbeats 1000000 in
theorem clone_any (s : ByteArray) (w : World) (hs : s.size ≤ 1000000) :
    Calls Tryz.prog 39 #[.string s] w fun e w' => e = .returned (.string s) ∧ Below w.heap.size w w' := by
  have C := hid (Tryz.stringslite_Clone s w (by omega))
  go_enter Tryz.func39, Tryz.ntmps39
  go_wp2_with fail
  refine C.out.mono ?_
  rintro e w' ⟨rfl, hb⟩
  go_wp2
  go_ret
  exact ⟨rfl, hb⟩

theorem blank_pred (w : World) : PredAtRunes Tryz.prog 38 #[] blkR w := fun u x hx _ =>
  (blank_any x hx u).mono fun _ _ ⟨he, hw⟩ => ⟨he, 0, hw.symm⟩
/-- The fields are the words. -/
theorem fields_vals (s : ByteArray) : (Lib.goFieldsP blkR s).map Value.string = (wordsL s.data.toList).map sV := by
  rw [← fields_words, List.map_map]
  exact List.map_congr_left fun x _ => sV_of x
theorem fields_len (s : ByteArray) : (Lib.goFieldsP blkR s).length = (wordsL s.data.toList).length := by
  rw [← fields_words, List.length_map]
theorem set_same {α : Type} {l : List α} {k : Nat} {x : α} (h : l[k]? = some x) : l.set k x = l := by
  apply List.ext_getElem?
  intro i
  rw [List.getElem?_set]
  split
  · rename_i e; subst e
    split
    · exact h.symm
    · rename_i hn; rw [List.getElem?_eq_none (by omega)]
  · rfl
theorem own_below {w w' : World} {B : Nat} {e : TypeId} {sz n : Nat} {v : Value} {xs : List Value} (h : w.ownsRow B e sz v n xs) (hb : Below w.heap.size w w') : w'.ownsRow B e sz v n xs := by
  refine ⟨h.1, ?_⟩
  rcases h.2 with h0 | ⟨g, cap, cur, hv, hB, hg, rest⟩
  · exact .inl h0
  · exact .inr ⟨g, cap, cur, hv, hB, (hb.block g (heap_lt hg)).trans hg, rest⟩
theorem size_set (w : World) (a : Addr) (u : Value) : (w.setCell a u).heap.size = w.heap.size := by simp [World.setCell]
/-- What Words hands back: a row of its own. -/
def WordsPost (s : ByteArray) (w : World) (e : Ending) (w' : World) : Prop :=
  ∃ v, e = .returned v ∧ w'.ownsRow w.heap.size 9 1 v (wordsL s.data.toList).length ((wordsL s.data.toList).map sV) ∧ Below w.heap.size w w'
set_option maxRecDepth 100000 in
set_option maxHeartbeats 4000000 in
theorem words_any (s : ByteArray) (w : World) (hs : s.size ≤ 100000) : Calls Tryz.prog 17 #[.string s] w (WordsPost s w) := by
  have C := hid (Tryz.strings_FieldsFunc_runes 38 #[] (fun _ _ => rfl) blkR s w (by omega) (blank_pred w))
  have hwl := fun x (hx : x ∈ wordsL s.data.toList) => Nat.le_trans (word_len hx) (by rw [size_len]; exact hs)
  have HW := hid hwl
  have hnl : (wordsL s.data.toList).length ≤ 100000 := Nat.le_trans (words_len _) (by rw [size_len]; exact hs)
  rw [fields_len, fields_vals] at C
  unfold WordsPost
  generalize wordsL s.data.toList = ws at C HW hnl ⊢
  clear hwl hs
  go_enter Tryz.func17, Tryz.ntmps17
  go_wp2_with fail
  refine C.out.mono ?_
  rintro e w1 ⟨A, rfl, hA, hown, hb⟩
  have HO := hid hown
  have HB := hid hb
  clear hown hb
  go_wp2
  go_loopw [10] (fun i wr => ∃ k : Nat, k ≤ ws.length ∧ i = .int .i64 k ∧ Hid (wr.ownsRow w.heap.size 9 1 (.slice (some ⟨A, 0, none⟩) ws.length ws.length) ws.length (ws.map sV)) ∧ Hid (Below w.heap.size w wr) ∧ A < wr.heap.size) (fun i _ => ws.length - (intOf i).toNat)
  case atStart => exact ⟨0, Nat.zero_le _, rfl, HO, HB, (HO.out.lt A rfl).2⟩
  case round =>
    obtain ⟨k, hk, rfl, ho, hb, hlA⟩ := hrel
    by_cases hlt : k < ws.length
    · have hx : ws[k]? = some ws[k] := List.getElem?_eq_getElem hlt
      have hxm : ws[k] ∈ ws := List.getElem_mem hlt
      obtain ⟨x, hxx⟩ : ∃ x, x = ws[k] := ⟨_, rfl⟩
      rw [← hxx] at hx hxm
      clear hxx
      have hlt2 : (k : Int) < (ws.length : Int) := by omega
      have hk0 : 0 ≤ (k : Int) := by omega
      have hv : (ws.map sV)[k]? = some (.string (sB x)) := by rw [List.getElem?_map, hx]; rfl
      have hc : wr.cell? ⟨A, k, none⟩ = some (.string (sB x)) := by rw [ho.out.cellAt k (by omega)]; exact hv
      have HV := hid hv
      have C := hid (clone_any (sB x) wr (by rw [sB_size]; have := HW.out x hxm; omega))
      clear hx hxm hv
      go_wp2_with fail
      refine C.out.mono ?_
      rintro e w2 ⟨rfl, hb2⟩
      have HO2 := hid (ho.out)
      have hf : w2.frozen? ⟨A, k, none⟩ = false := by rw [hb2.frozen (p := ⟨A, k, none⟩) hlA]; exact ho.out.frozenAt k
      have hc2 : w2.cell? ⟨A, k, none⟩ = some (.string (sB x)) := by rw [hb2.cell (p := ⟨A, k, none⟩) hlA]; exact hc
      have HB2 := hid hb2
      clear hc hb2
      go_wp2
      go_roundw
      case rel =>
        refine ⟨k + 1, by omega, by go_num, ?_, ?_, ?_⟩
        · have := (own_below HO2.out HB2.out).stored k (.string (sB x))
          rw [set_same HV.out] at this
          exact this.1
        · exact (hb.out.trans (HB2.out.mono hb.out.size)).setCell (p := ⟨A, k, none⟩) hA _
        · rw [size_set]; exact Nat.lt_of_lt_of_le hlA HB2.out.size
      case measure => simp [intOf]; omega
    · obtain rfl : k = ws.length := by omega
      go_wp2
      go_ret
      exact ⟨_, rfl, ho.out, hb.out⟩

end Fm
end Go.Proofs.YtcaiejbnhjiflaaGreatDoor
