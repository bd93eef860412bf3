/-
  Contracts of the program's consists, isCode, isName.
-/
import Derived.Test.YtaeljmiklalpnaaGreatDoorQf
import Derived.Shelf.Strings.SlTrimAscii
namespace Go.Proofs.YtaeljmiklalpnaaGreatDoor
open Go.RowKit Go.ChangeMaps Gn
namespace Rg

theorem trim_lib (x : W) (p : ByteArray) (w : World) (hx : x.length ≤ 100000) (hp : p.data.toList.all (fun b => decide (b.toNat < 128)) = true) (hp2 : p.size ≤ 1000) :
    Calls Tryz.prog 78 #[.string (sB x), .string p] w fun e w' => e = .returned (.string (sB (Lib.trimS x p.data.toList))) ∧ Below w.heap.size w w' :=
  Any.strings_Trim_laid Tryz.lays160 (by kernel_rfl) (sB x) p w (by rw [sB_size]; omega) (by omega) (ascii_of_all hp)
set_option maxRecDepth 100000 in
set_option maxHeartbeats 1000000 in
theorem pconsists_any (x : W) (nI : Int) (n : Nat) (p : ByteArray) (bs : W) (w : World) (hn : nI = n) (hx : x.length ≤ 100000) (hp : p.data.toList.all (fun b => decide (b.toNat < 128)) = true) (hp2 : p.size ≤ 1000) (hbs : p.data.toList = bs) :
    Calls Tryz.prog 65 #[.string (sB x), .int .i64 nI, .string p] w fun e w' => e = .returned (.bool (goodW n bs x)) ∧ Below w.heap.size w w' := by
  obtain ⟨r, hr⟩ : ∃ r, r = goodW n bs x := ⟨_, rfl⟩
  rw [← hr]
  have C := hid (fun u => trim_lib x p u hx hp hp2)
  rw [hbs] at C
  have z := sB_size x
  obtain ⟨s, hs⟩ : ∃ s, s = sB x := ⟨_, rfl⟩
  rw [← hs] at C z ⊢
  have z1 : s.size ≤ 100000 := by omega
  by_cases h0 : x = []
  · have HV : Hid (r = false) := by show _ = _; rw [hr, h0]; rfl
    obtain ⟨e1, e2⟩ : s.toList = [] ∧ s.toList.isEmpty = true := by rw [hs]; exact (sB_nil (a := x)).1 h0
    clear hr hs z h0 hx hp hp2 hbs hn
    go_enter Tryz.func65, Tryz.ntmps65
    go_wp2
    go_ret
    exact ⟨by rw [HV.out]; try rfl, Below.refl _ _⟩
  · obtain ⟨e1, e2⟩ : ¬ s.toList = [] ∧ s.toList.isEmpty = false := by rw [hs]; exact (sB_nil (a := x)).2 h0
    by_cases h1 : x.length ≤ n
    · have d1 : decide ((s.size : Int) ≤ nI) = true := decide_eq_true (by omega)
      have d1b : (s.size : Int) ≤ nI := by omega
      have HT : Hid (r = decide (Lib.trimS x bs = [])) := by
        show _ = _; rw [hr]; unfold goodW; rw [decide_eq_true h0, decide_eq_true h1]; rfl
      obtain ⟨t, ht⟩ : ∃ t, t = sB (Lib.trimS x bs) := ⟨_, rfl⟩
      rw [← ht] at C
      by_cases h2 : Lib.trimS x bs = []
      · obtain ⟨q1, q2⟩ : t.toList = [] ∧ t.toList.isEmpty = true := by rw [ht]; exact (sB_nil (a := _)).1 h2
        have HV : Hid (r = true) := by show _ = _; rw [HT.out]; exact decide_eq_true h2
        clear hr hs z h0 hx hp hp2 hbs hn h1 h2 ht
        go_enter Tryz.func65, Tryz.ntmps65
        go_wp2_with fail
        refine (C.out _).mono ?_
        rintro e w1 ⟨rfl, hb⟩
        have HB := hid hb
        clear hb
        go_wp2
        go_ret
        exact ⟨by rw [HV.out]; try rfl, HB.out⟩
      · obtain ⟨q1, q2⟩ : ¬ t.toList = [] ∧ t.toList.isEmpty = false := by rw [ht]; exact (sB_nil (a := _)).2 h2
        have HV : Hid (r = false) := by show _ = _; rw [HT.out]; exact decide_eq_false h2
        clear hr hs z h0 hx hp hp2 hbs hn h1 h2 ht
        go_enter Tryz.func65, Tryz.ntmps65
        go_wp2_with fail
        refine (C.out _).mono ?_
        rintro e w1 ⟨rfl, hb⟩
        have HB := hid hb
        clear hb
        go_wp2
        go_ret
        exact ⟨by rw [HV.out]; try rfl, HB.out⟩
    · have d1 : decide ((s.size : Int) ≤ nI) = false := decide_eq_false (by omega)
      have d1b : ¬ (s.size : Int) ≤ nI := by omega
      have HV : Hid (r = false) := by
        show _ = _; rw [hr]; unfold goodW; rw [decide_eq_false h1]; simp
      clear hr hs z h0 hx hp hp2 hbs hn h1
      go_enter Tryz.func65, Tryz.ntmps65
      go_wp2
      go_ret
      exact ⟨by rw [HV.out]; try rfl, Below.refl _ _⟩

set_option maxRecDepth 100000 in
theorem piscode_any (x : W) (w : World) (hx : x.length ≤ 100000) : Calls Tryz.prog 52 #[.string (sB x)] w fun e w' => e = .returned (.bool (goodW 8 codeBs x)) ∧ Below w.heap.size w w' := by
  have C := hid (fun u => pconsists_any x 8 8 ⟨#[65, 66, 67, 68, 69, 70, 71, 72, 73, 74, 75, 76, 77, 78, 79, 80, 81, 82, 83, 84, 85, 86, 87, 88, 89, 90, 48, 49, 50, 51, 52, 53, 54, 55, 56, 57]⟩ codeBs u rfl hx (by kernel_rfl) (by decide) rfl)
  obtain ⟨r, hr⟩ : ∃ r, r = goodW 8 codeBs x := ⟨_, rfl⟩
  rw [← hr] at C ⊢
  obtain ⟨s, hs⟩ : ∃ s, s = sB x := ⟨_, rfl⟩
  rw [← hs] at C ⊢
  clear hr hs hx
  go_enter Tryz.func52, Tryz.ntmps52
  go_wp2_with fail
  refine (C.out _).mono ?_
  rintro e w1 ⟨rfl, hb⟩
  go_wp2
  go_ret
  exact ⟨rfl, hb⟩
set_option maxRecDepth 100000 in
theorem pword_any (x : W) (w : World) (hx : x.length ≤ 100000) : Calls Tryz.prog 67 #[.string (sB x)] w fun e w' => e = .returned (.bool (!goodW 20 wordBs x)) ∧ Below w.heap.size w w' := by
  have C := hid (fun u => pconsists_any x 20 20 ⟨#[65, 66, 67, 68, 69, 70, 71, 72, 73, 74, 75, 76, 77, 78, 79, 80, 81, 82, 83, 84, 85, 86, 87, 88, 89, 90, 48, 49, 50, 51, 52, 53, 54, 55, 56, 57, 97, 98, 99, 100, 101, 102, 103, 104, 105, 106, 107, 108, 109, 110, 111, 112, 113, 114, 115, 116, 117, 118, 119, 120, 121, 122, 45, 39]⟩ wordBs u rfl hx (by kernel_rfl) (by decide) rfl)
  obtain ⟨r, hr⟩ : ∃ r, r = goodW 20 wordBs x := ⟨_, rfl⟩
  rw [← hr] at C ⊢
  obtain ⟨s, hs⟩ : ∃ s, s = sB x := ⟨_, rfl⟩
  rw [← hs] at C ⊢
  clear hr hs hx
  go_enter Tryz.func67, Tryz.ntmps67
  go_wp2_with fail
  refine (C.out _).mono ?_
  rintro e w1 ⟨rfl, hb⟩
  go_wp2
  go_ret
  exact ⟨rfl, hb⟩

/-- What the program asks of a name. -/
def pieces (x : W) : List W := Lib.splitK [32] 0 (min 4 (x.length + 1) - 1) x
def pnameB (x : W) : Bool := !(pieces x).any fun a => !goodW 20 wordBs a
theorem pname_good {x : W} (h : nameW x = true) : pnameB x = true := by
  unfold pnameB
  rw [Bool.not_eq_true', List.any_eq_false]
  intro a ha
  rw [name_good h a ha]; simp
theorem pname_nil : pnameB [] = false := by kernel_rfl
theorem pieces_len (x : W) : (pieces x).length ≤ 4 := by
  unfold pieces
  have h1 := Lib.splitB_length_le ⟨#[32]⟩ 0 (min 4 (x.length + 1) - 1) (sB x)
  have h2 := congrArg List.length (Lib.splitB_data ⟨#[32]⟩ 0 (min 4 (x.length + 1) - 1) (sB x))
  rw [List.length_map] at h2
  have e : Lib.splitK [32] 0 (min 4 (x.length + 1) - 1) x = Lib.splitK (⟨#[32]⟩ : ByteArray).data.toList 0 (min 4 (x.length + 1) - 1) (sB x).data.toList := rfl
  rw [e, ← h2]; omega
theorem splitK_le : ∀ (m : Nat) (l : W) (sep : W), ∀ a ∈ Lib.splitK sep 0 m l, a.length ≤ l.length := by
  intro m
  induction m with
  | zero => intro l sep a ha; rw [Lib.splitK, List.mem_singleton] at ha; rw [ha]; exact Nat.le_refl _
  | succ m ih =>
    intro l sep a ha
    rw [Lib.splitK] at ha
    split at ha
    · rw [List.mem_singleton] at ha; rw [ha]; exact Nat.le_refl _
    · rcases List.mem_cons.1 ha with rfl | ha
      · rw [List.length_take]; omega
      · have := ih _ _ a ha; rw [List.length_drop] at this; omega
theorem split_isW (x : W) (w : World) (T : TypeId) (N : Nat) (hN : (Lib.splitB ⟨#[32]⟩ 0 (min 4 (x.length + 1) - 1) (sB x)).length ≤ N) :
    IsW (w.alloc (.cells (Lib.cellsOf (Lib.splitB ⟨#[32]⟩ 0 (min 4 (x.length + 1) - 1) (sB x)) N) T)) (.slice (some ⟨w.heap.size, 0, none⟩) (Lib.splitB ⟨#[32]⟩ 0 (min 4 (x.length + 1) - 1) (sB x)).length N) (pieces x) := by
  have e : pieces x = (Lib.splitB ⟨#[32]⟩ 0 (min 4 (x.length + 1) - 1) (sB x)).map (·.data.toList) := by
    rw [Lib.splitB_data]; rfl
  rw [e]
  obtain ⟨L, hL⟩ : ∃ L, L = Lib.splitB ⟨#[32]⟩ 0 (min 4 (x.length + 1) - 1) (sB x) := ⟨_, rfl⟩
  rw [← hL] at hN ⊢
  refine ⟨_, N, by rw [List.length_map], by simp, by rw [List.length_map]; exact hN, fun _ => ⟨w.heap.size, 0, rfl, by simp, fun j u hu => ?_⟩⟩
  rw [cell_at (heap_new w _), Nat.zero_add]
  unfold Lib.cellsOf
  rw [List.map_map] at hu
  rw [List.getElem?_toArray, List.getElem?_append_left (by
    have := (List.getElem?_eq_some_iff.1 hu).1; rw [List.length_map] at this ⊢; exact this)]
  rw [← hu, List.getElem?_map, List.getElem?_map]
  congr 1
set_option maxRecDepth 100000 in
set_option maxHeartbeats 1000000 in
theorem pisname_any (x : W) (w : World) (hx : x.length ≤ 100000) (ht : Tb w) : Calls Tryz.prog 53 #[.string (sB x)] w fun e w' => e = .returned (.bool (pnameB x)) ∧ Below w.heap.size w w' := by
  obtain ⟨m, hm⟩ := ht.mx
  have z := sB_size x
  have C := hid (Tryz.strings_SplitN (sB x) ⟨#[32]⟩ 4 m w (by omega) hm (by decide) (by omega) (by omega))
  have hle := Lib.splitB_length_le ⟨#[32]⟩ 0 (min 4 (x.length + 1) - 1) (sB x)
  have hW := split_isW x w 9 (min 4 (x.length + 1)) (by omega)
  rw [z] at C
  obtain ⟨w1, hw1⟩ : ∃ w1, w1 = w.alloc (.cells (Lib.cellsOf (Lib.splitB ⟨#[32]⟩ 0 (min 4 (x.length + 1) - 1) (sB x)) (min 4 (x.length + 1))) 9) := ⟨_, rfl⟩
  have HB1 : Hid (Below w.heap.size w w1) := by show Below _ _ _; rw [hw1]; exact b0 _ _
  rw [← hw1] at C hW
  obtain ⟨v, hv⟩ : ∃ v, v = Value.slice (some ⟨w.heap.size, 0, none⟩) (Lib.splitB ⟨#[32]⟩ 0 (min 4 (x.length + 1) - 1) (sB x)).length (min 4 (x.length + 1)) := ⟨_, rfl⟩
  rw [← hv] at C hW
  have CF := hid (pcontainsf_any v (pieces x) 67 #[] (fun a => !goodW 20 wordBs a) (fun _ _ => by kernel_rfl) w1 hW (by have := pieces_len x; omega)
    (fun y u hy _ => pword_any y u (by have := splitK_le _ _ _ y hy; omega)))
  obtain ⟨r, hr⟩ : ∃ r, r = (pieces x).any fun a => !goodW 20 wordBs a := ⟨_, rfl⟩
  rw [← hr] at CF
  have HV : Hid (pnameB x = !r) := by show _ = _; unfold pnameB; rw [hr]
  rw [HV.out]
  obtain ⟨s, hs⟩ : ∃ s, s = sB x := ⟨_, rfl⟩
  rw [← hs] at C ⊢
  clear hr hs hx ht hm z hle hW hw1 hv
  go_enter Tryz.func53, Tryz.ntmps53
  go_wp2_with fail
  refine (C.out).mono ?_
  rintro e w2 ⟨rfl, rfl⟩
  go_wp2_with fail
  refine (CF.out).mono ?_
  rintro e w3 ⟨rfl, hb3⟩
  have HB3 := hid (bt HB1.out hb3)
  clear hb3
  go_wp2
  go_ret
  exact ⟨rfl, HB3.out⟩

end Rg
end Go.Proofs.YtaeljmiklalpnaaGreatDoor
