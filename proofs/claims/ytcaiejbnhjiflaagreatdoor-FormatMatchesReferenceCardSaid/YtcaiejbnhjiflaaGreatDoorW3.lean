/-
  Contracts of isFit, isPattern, isName, isEmpty; of several and kinds.
-/
import Derived.Test.YtcaiejbnhjiflaaGreatDoorW2
import Derived.Test.YtcaiejbnhjiflaaGreatDoorKd
import Derived.Test.YtcaiejbnhjiflaaGreatDoorVl
import Derived.Lib.AtoiErrMem
import Derived.Laws.NewFold
namespace Go.Proofs.YtcaiejbnhjiflaaGreatDoor
open Go.RowKit Go.ChangeMaps
namespace Fm

theorem str_empty {s : ByteArray} (h : s.size = 0) : s.toList = [] ∧ (!s.toList.isEmpty) = false := by
  have : s.toList = [] := by
    rw [Lib.toList_data]; exact List.length_eq_zero_iff.1 (by rw [size_len]; exact h)
  rw [this]; exact ⟨rfl, rfl⟩
theorem str_some {s : ByteArray} (h : 0 < s.size) : ¬ s.toList = [] ∧ (!s.toList.isEmpty) = true := by
  have : ¬ s.toList = [] := by
    intro e
    rw [Lib.toList_data] at e
    have : s.size = 0 := by rw [← size_len, e]; rfl
    omega
  refine ⟨this, ?_⟩
  cases he : s.toList with
  | nil => exact absurd he this
  | cons => rfl
/-- The bytes of a text, converted. -/
theorem bytes_sl (w : World) (s : ByteArray) : SlR (Lib.bytesWorld w 5 s) (some ⟨w.heap.size, 0, none⟩) s.data.toList.length (grownCap w s.size 0 5) 1 (s.data.toList.map bV) := by
  refine ⟨by simp, by rw [size_len]; exact grownCap_ge _ _ _ _, fun _ => ⟨w.heap.size, 0, rfl, by rw [Lib.bytesWorld_size]; omega, fun j u hu => ?_⟩⟩
  rw [List.getElem?_map] at hu
  obtain ⟨b, hb, rfl⟩ := Option.map_eq_some_iff.1 hu
  have hj := (List.getElem?_eq_some_iff.1 hb).1
  rw [Nat.zero_add, Lib.bytesWorld_cell w _ s j (by rw [← size_len]; exact hj), List.getD, hb]
  rfl
theorem conv_run (w : World) (s : ByteArray) : (convert 9 75 (.string s)).run Tryz.prog w = .ok (.slice (some ⟨w.heap.size, 0, none⟩) s.size (grownCap w s.size 0 5)) (Lib.bytesWorld w 5 s) :=
  Lib.run_convert_string_bytes w _ _ _ s Tryz.underlying9 Tryz.underlying75 Tryz.underlying5
/-- all over the bytes of a text. -/
theorem all_bytes (s : ByteArray) (p : UInt8 → Bool) (g : Nat) (w : World) (hs : s.size ≤ 4096)
    (hc : ∀ (u : World) (bx : Nat) (x : UInt8), bx < u.heap.size → u.cell? ⟨bx, 0, none⟩ = some (fnV g) → Calls Tryz.prog 89 #[bV x, .pointer (some ⟨bx, 0, none⟩)] u fun e w' => e = .returned (.bool (!p x)) ∧ Below u.heap.size u w') :
    Calls Tryz.prog 70 #[.slice (some ⟨w.heap.size, 0, none⟩) s.size (grownCap w s.size 0 5), .func (.func g) #[] #[]] (Lib.bytesWorld w 5 s) fun e w' => e = .returned (.bool (s.data.toList.all p)) ∧ Below w.heap.size w w' := by
  have h := allB_any s.data.toList p g _ _ _ (by rw [size_len]; exact hs) (bytes_sl w s) hc
  rw [size_len] at h
  exact h.mono fun _ _ ⟨he, hb⟩ => ⟨he, bt (Lib.bytesWorld_below w _ s) hb⟩


set_option maxRecDepth 100000 in
set_option maxHeartbeats 2000000 in
theorem isFit_any (s : ByteArray) (w : World) :
    Calls Tryz.prog 48 #[.string s] w fun e w' => e = .returned (.bool (fitW s.data.toList)) ∧ Below w.heap.size w w' := by
  by_cases h0 : 0 < s.size
  · obtain ⟨a0, a1⟩ := str_some h0
    by_cases h1 : s.size ≤ 20
    · have hd : decide ((s.size : Int) ≤ 20) = true := decide_eq_true (by omega)
      have hd2 : decide (s.size ≤ 20) = true := by simpa using h1
      have hv : fitW s.data.toList = s.data.toList.all fitB := by
        unfold fitW
        rw [size_len, hd2, decide_eq_true (show 1 ≤ s.size by omega)]; rfl
      have C := hid (all_bytes s fitB 73 w (by omega) clFit)
      have kc := fun w => conv_run w s
      rw [hv]
      obtain ⟨r, hr⟩ : ∃ r, r = s.data.toList.all fitB := ⟨_, rfl⟩
      rw [← hr] at C ⊢
      clear hr hv h1 h0
      go_enter Tryz.func48, Tryz.ntmps48
      go_wp2_with fail
      refine C.out.mono ?_
      rintro e w1 ⟨rfl, hb⟩
      go_wp2
      go_ret
      exact ⟨rfl, hb⟩
    · have hd : decide ((s.size : Int) ≤ 20) = false := by simp; omega
      have hv : fitW s.data.toList = false := by
        unfold fitW
        rw [size_len, decide_eq_false (show ¬ s.size ≤ 20 from h1)]; simp
      rw [hv]
      clear hv h1 h0
      go_enter Tryz.func48, Tryz.ntmps48
      go_wp2
      go_ret
      exact ⟨rfl, Below.refl _ _⟩
  · have h1 : s.size = 0 := by omega
    obtain ⟨a0, a1⟩ := str_empty h1
    have hv : fitW s.data.toList = false := by
      unfold fitW
      rw [size_len, h1]; simp
    rw [hv]
    clear hv h1 h0
    go_enter Tryz.func48, Tryz.ntmps48
    go_wp2
    go_ret
    exact ⟨rfl, Below.refl _ _⟩


set_option maxRecDepth 100000 in
set_option maxHeartbeats 2000000 in
theorem isPattern_any (s : ByteArray) (w : World) :
    Calls Tryz.prog 55 #[.string s] w fun e w' => e = .returned (.bool (patW s.data.toList)) ∧ Below w.heap.size w w' := by
  by_cases h0 : 0 < s.size
  · obtain ⟨a0, a1⟩ := str_some h0
    by_cases h1 : s.size ≤ 8
    · have hd : decide ((s.size : Int) ≤ 8) = true := decide_eq_true (by omega)
      have hd2 : decide (s.size ≤ 8) = true := by simpa using h1
      have hv : patW s.data.toList = s.data.toList.all patB := by
        unfold patW
        rw [size_len, hd2, decide_eq_true (show 1 ≤ s.size by omega)]; rfl
      have C := hid (all_bytes s patB 78 w (by omega) clPat)
      have kc := fun w => conv_run w s
      rw [hv]
      obtain ⟨r, hr⟩ : ∃ r, r = s.data.toList.all patB := ⟨_, rfl⟩
      rw [← hr] at C ⊢
      clear hr hv h1 h0
      go_enter Tryz.func55, Tryz.ntmps55
      go_wp2_with fail
      refine C.out.mono ?_
      rintro e w1 ⟨rfl, hb⟩
      go_wp2
      go_ret
      exact ⟨rfl, hb⟩
    · have hd : decide ((s.size : Int) ≤ 8) = false := by simp; omega
      have hv : patW s.data.toList = false := by
        unfold patW
        rw [size_len, decide_eq_false (show ¬ s.size ≤ 8 from h1)]; simp
      rw [hv]
      clear hv h1 h0
      go_enter Tryz.func55, Tryz.ntmps55
      go_wp2
      go_ret
      exact ⟨rfl, Below.refl _ _⟩
  · have h1 : s.size = 0 := by omega
    obtain ⟨a0, a1⟩ := str_empty h1
    have hv : patW s.data.toList = false := by
      unfold patW
      rw [size_len, h1]; simp
    rw [hv]
    clear hv h1 h0
    go_enter Tryz.func55, Tryz.ntmps55
    go_wp2
    go_ret
    exact ⟨rfl, Below.refl _ _⟩


set_option maxRecDepth 100000 in
set_option maxHeartbeats 2000000 in
theorem isName_any (s : ByteArray) (w : World) :
    Calls Tryz.prog 40 #[.string s] w fun e w' => e = .returned (.bool (nameW s.data.toList)) ∧ Below w.heap.size w w' := by
  by_cases h0 : 0 < s.size
  · obtain ⟨a0, a1⟩ := str_some h0
    by_cases h1 : s.size ≤ 16
    · have hd : decide ((s.size : Int) ≤ 16) = true := decide_eq_true (by omega)
      have hd2 : decide (s.size ≤ 16) = true := by simpa using h1
      have C0 := hid (fun w => isSmall_any s[0] w)
      have C := hid (all_bytes s namB 71 w (by omega) clName)
      have kc := fun w => conv_run w s
      have hv : nameW s.data.toList = (smaB s[0] && s.data.toList.all namB) := by
        unfold nameW
        have : s.data.toList.getD 0 0 = s[0] := by
          rw [List.getD, List.getElem?_eq_getElem (by rw [size_len]; exact h0)]; rfl
        rw [size_len, hd2, decide_eq_true (show 1 ≤ s.size by omega), this]; rfl
      rw [hv]
      obtain ⟨q, hq⟩ : ∃ q, q = smaB s[0] := ⟨_, rfl⟩
      rw [← hq] at C0 ⊢
      obtain ⟨r, hr⟩ : ∃ r, r = s.data.toList.all namB := ⟨_, rfl⟩
      rw [← hr] at C ⊢
      clear hr hv hq
      have h00 : (0 : Int) < (s.size : Int) := by omega
      cases q
      · go_enter Tryz.func40, Tryz.ntmps40
        go_wp2_with fail
        refine (C0.out _).mono ?_
        rintro e w1 ⟨rfl, rfl⟩
        go_wp2
        go_ret
        exact ⟨rfl, Below.refl _ _⟩
      · go_enter Tryz.func40, Tryz.ntmps40
        go_wp2_with fail
        refine (C0.out _).mono ?_
        rintro e w1 ⟨rfl, rfl⟩
        go_wp2_with fail
        refine C.out.mono ?_
        rintro e w1 ⟨rfl, hb⟩
        go_wp2
        go_ret
        exact ⟨rfl, hb⟩
    · have hd : decide ((s.size : Int) ≤ 16) = false := by simp; omega
      have hv : nameW s.data.toList = false := by
        unfold nameW
        rw [size_len, decide_eq_false (show ¬ s.size ≤ 16 from h1)]; simp
      rw [hv]
      clear hv h1 h0
      go_enter Tryz.func40, Tryz.ntmps40
      go_wp2
      go_ret
      exact ⟨rfl, Below.refl _ _⟩
  · have h1 : s.size = 0 := by omega
    obtain ⟨a0, a1⟩ := str_empty h1
    have hv : nameW s.data.toList = false := by
      unfold nameW
      rw [size_len, h1]; simp
    rw [hv]
    clear hv h1 h0
    go_enter Tryz.func40, Tryz.ntmps40
    go_wp2
    go_ret
    exact ⟨rfl, Below.refl _ _⟩


set_option maxHeartbeats 2000000 in
theorem isEmpty_any (s : ByteArray) (w : World) :
    Calls Tryz.prog 51 #[.string s] w fun e w' => e = .returned (.bool (decide (s.data.toList = []))) ∧ w = w' := by
  by_cases h0 : 0 < s.size
  · obtain ⟨a0, a1⟩ := str_some h0
    have a2 : (!s.toList.isEmpty) = !false := a1
    have a3 : s.toList.isEmpty = false := by simpa using a1
    have hv : decide (s.data.toList = []) = false := by
      rw [decide_eq_false_iff_not, ← Lib.toList_data]; exact a0
    rw [hv]
    clear hv h0 a2
    go_enter Tryz.func51, Tryz.ntmps51
    go_wp2
    go_ret
    exact ⟨rfl, rfl⟩
  · have h1 : s.size = 0 := by omega
    obtain ⟨a0, a1⟩ := str_empty h1
    have a3 : s.toList.isEmpty = true := by rw [a0]; rfl
    have hv : decide (s.data.toList = []) = true := by
      rw [decide_eq_true_eq, ← Lib.toList_data]; exact a0
    rw [hv]
    clear hv h0 h1
    go_enter Tryz.func51, Tryz.ntmps51
    go_wp2
    go_ret
    exact ⟨rfl, rfl⟩

/-- several: a kind whose functions share a box. -/
def SevPost (g : Nat) (w : World) (e : Ending) (w' : World) : Prop :=
  e = .returned (.agg #[.int .i64 4, fnV 51, clV 81 w.heap.size, clV 82 w.heap.size]) ∧ w'.heap[w.heap.size]? = some (.cells #[fnV g] 80 (0, 0)) ∧ Below w.heap.size w w'
set_option maxRecDepth 100000 in
set_option maxHeartbeats 4000000 in
theorem several_any (g : Nat) (w : World) :
    Calls Tryz.prog 58 #[.func (.func g) #[] #[]] w (SevPost g w) := by
  go_enter Tryz.func58, Tryz.ntmps58
  go_wp2
  refine bodyPost_ret (v := .agg #[.int .i64 4, fnV 51, clV 81 w.heap.size, clV 82 w.heap.size]) (by simp [results, Tryz.f58, go_sem, fnV, clV]) rfl ⟨rfl, ?_, ?_⟩
  · rw [Below.heap_alloc _ _ _ (by simp)]; exact heap_new _ _
  · exact (b0 _ _).alloc (by simp) _


/-- kinds: the whole map, new. -/
def KindsPost (w : World) (e : Ending) (w' : World) : Prop := ∃ F, e = .returned (.map (some w.heap.size)) ∧ Kinds w' w.heap.size F allK ∧ (∀ k, 4 ≤ k → k ≤ 6 → w.heap.size < F k) ∧ Below w.heap.size w w'
set_option maxRecDepth 100000 in
set_option maxHeartbeats 8000000 in
theorem kinds_any (w : World) : Calls Tryz.prog 30 #[] w (KindsPost w) := by
  have hmm := @run_makeMap Tryz.prog
  have H0 : (w.alloc (.map #[] 0)).heap[w.heap.size]? = some (.map ([] : List MapEntry).toArray 0) := heap_new _ _
  obtain ⟨w1, r1, m1, z1, o1, b1⟩ := ins_ex H0 1 (.agg #[.int .i64 1, .func (.func 48) #[] #[], .func (.func 49) #[] #[], .func (.func 50) #[] #[]]) rfl
  obtain ⟨w2, r2, m2, z2, o2, b2⟩ := ins_ex m1 2 (.agg #[.int .i64 1, .func (.func 51) #[] #[], .func (.func 52) #[] #[], .func (.func 53) #[] #[]]) rfl
  obtain ⟨w3, r3, m3, z3, o3, b3⟩ := ins_ex m2 3 (.agg #[.int .i64 1, .func (.func 55) #[] #[], .func (.func 56) #[] #[], .func (.func 57) #[] #[]]) rfl
  have B3 := hid ((((b0 w (.map #[] 0)).trans (b1 _ (Nat.le_refl _))).trans (b2 _ (Nat.le_refl _))).trans (b3 _ (Nat.le_refl _)))
  have M3 := hid m3
  have S3 : w3.heap.size = w.heap.size + 1 := by rw [z3, z2, z1]; simp
  have HS3 := hid S3
  clear H0 m1 m2 m3 z1 z2 z3 o1 o2 o3 b1 b2 b3 S3
  go_enter Tryz.func30, Tryz.ntmps30
  go_wp2_with fail
  refine (several_any 59 _).mono ?_
  rintro e w4 ⟨rfl, hx4, hb4⟩
  have HX4 := hid hx4
  have HB4 := hid hb4
  have M4 : w4.heap[w.heap.size]? = _ := (hb4.block _ (by have := HS3.out; omega)).trans M3.out
  obtain ⟨w5, r5, m5, z5, o5, b5⟩ := ins_ex M4 4 (.agg #[.int .i64 4, fnV 51, clV 81 w3.heap.size, clV 82 w3.heap.size]) rfl
  have M5 := hid m5
  have B5 := hid (B3.out.trans ((hb4.mono B3.out.size).trans (b5 _ (Nat.le_refl _))))
  have Z5 := hid z5
  have X5 := hid ((o5 w3.heap.size (by have := HS3.out; omega)).trans hx4)
  clear r1 r2 r3 hx4 hb4 M4 m5 z5 o5 b5
  go_wp2_with fail
  refine (several_any 60 _).mono ?_
  rintro e w6 ⟨rfl, hx6, hb6⟩
  have L5 : w.heap.size < w5.heap.size := by have := Z5.out; have := HB4.out.size; have := HS3.out; omega
  have L53 : w3.heap.size < w5.heap.size := by have := Z5.out; have := heap_lt HX4.out; omega
  have X6 := hid ((hb6.block _ L53).trans X5.out)
  have M6 : w6.heap[w.heap.size]? = _ := (hb6.block _ L5).trans M5.out
  obtain ⟨w7, r7, m7, z7, o7, b7⟩ := ins_ex M6 5 (.agg #[.int .i64 4, fnV 51, clV 81 w5.heap.size, clV 82 w5.heap.size]) rfl
  have M7 := hid m7
  have B7 := hid (B5.out.trans ((hb6.mono B5.out.size).trans (b7 _ (Nat.le_refl _))))
  have Y7 := hid ((o7 w5.heap.size (by omega)).trans hx6)
  have X7 := hid ((o7 w3.heap.size (by have := HS3.out; omega)).trans X6.out)
  have L7 : w5.heap.size < w7.heap.size := by have := heap_lt hx6; omega
  have HL5 := hid L5
  have HL53 := hid L53
  have HL7 := hid L7
  clear r5 hx6 hb6 M6 m7 z7 o7 b7 L5 L53 L7
  go_wp2_with fail
  refine (several_any 61 _).mono ?_
  rintro e w8 ⟨rfl, hx8, hb8⟩
  have L5 := HL5.out
  have L53 := HL53.out
  have L7 := HL7.out
  have X8 := hid ((hb8.block _ (by omega)).trans X7.out)
  have Y8 := hid ((hb8.block _ (by omega)).trans Y7.out)
  have M8 : w8.heap[w.heap.size]? = _ := (hb8.block _ (by omega)).trans M7.out
  obtain ⟨w9, r9, m9, z9, o9, b9⟩ := ins_ex M8 6 (.agg #[.int .i64 4, fnV 51, clV 81 w7.heap.size, clV 82 w7.heap.size]) rfl
  have B9 := hid (B7.out.trans ((hb8.mono B7.out.size).trans (b9 _ (Nat.le_refl _))))
  have S3 := HS3.out
  have HK : Hid (KindsPost w (.returned (.map (some w.heap.size))) w9) := by
    refine ⟨fun k => if k = 4 then w3.heap.size else if k = 5 then w5.heap.size else w7.heap.size, rfl, ⟨m9, fun k h4 h6 => ?_⟩, fun k h4 h6 => ?_, B9.out⟩
    · rcases (show k = 4 ∨ k = 5 ∨ k = 6 by omega) with rfl | rfl | rfl
      · exact (o9 _ (by simp; omega)).trans X8.out
      · exact (o9 _ (by simp; omega)).trans Y8.out
      · exact (o9 _ (by simp; omega)).trans hx8
    · rcases (show k = 4 ∨ k = 5 ∨ k = 6 by omega) with rfl | rfl | rfl <;> simp <;> omega
  clear r7 hx8 hb8 M8 m9 z9 o9 b9 L5 L53 L7 S3
  go_wp2
  go_ret
  exact HK.out


end Fm
end Go.Proofs.YtcaiejbnhjiflaaGreatDoor
