/-
  Two addresses compared; what the kinds show of an address; Itoa.
-/
import Derived.Test.YtcaiejbnhjiflaaGreatDoorW9
import Derived.Laws.StructEq
import Derived.Lib.AppendIntMem
namespace Go.Proofs.YtcaiejbnhjiflaaGreatDoor
open Go.RowKit Go.ChangeMaps
namespace Fm

abbrev adV (x : Ad) : Value := .agg #[.string (sB x.person), .string (sB x.street), .int .i64 x.number, .string (sB x.code), .string (sB x.town)]
theorem sB_beq {a b : W} : ((sB a).toList == (sB b).toList) = decide (a = b) := by
  rw [Lib.toList_data, Lib.toList_data, sB_list, sB_list]
  rw [Bool.eq_iff_iff]; simp
theorem sB_eq {a b : W} : ((sB a).toList = (sB b).toList) ↔ a = b := by
  rw [Lib.toList_data, Lib.toList_data, sB_list, sB_list]
theorem fieldsAd : (Tryz.prog.fieldsOf 27).toList = [⟨"Person", 9, 0, false, "", "", 0⟩, ⟨"Street", 9, 1, false, "", "", 16⟩, ⟨"Number", 3, 2, false, "", "", 32⟩, ⟨"Code", 9, 3, false, "", "", 40⟩, ⟨"Town", 9, 4, false, "", "", 56⟩] := by
  unfold Program.fieldsOf
  rw [Tryz.underlying27]
theorem underAd : Tryz.prog.underlying 27 = some (.struct (Tryz.prog.fieldsOf 27)) := by
  unfold Program.fieldsOf
  rw [Tryz.underlying27]
theorem ad_eq (x y : Ad) : decide (x = y) = (decide (x.person = y.person) && decide (x.street = y.street) && (x.number == y.number) && decide (x.code = y.code) && decide (x.town = y.town)) := by
  rw [Bool.eq_iff_iff]
  simp only [Bool.and_eq_true, decide_eq_true_eq, beq_iff_eq]
  constructor
  · rintro rfl; simp
  · rintro ⟨⟨⟨⟨h1, h2⟩, h3⟩, h4⟩, h5⟩; exact ad_ext h1 h2 h3 h4 h5
set_option maxRecDepth 100000 in
set_option maxHeartbeats 4000000 in
theorem equal_run (d : Nat) (x y : Ad) (w : World) : (Op.equalIn (d + 2) 27 (adV x) (adV y)).run Tryz.prog w = .ok (decide (x = y)) w := by
  rw [run_equalIn_agg w (d + 1) _ _ _ underAd (by kernel_rfl), fieldsAd, ad_eq]
  have e1 := run_equalIn_string (P := Tryz.prog) w d 9 (sB x.person) (sB y.person) Tryz.underlying9
  have e2 := run_equalIn_string (P := Tryz.prog) w d 9 (sB x.street) (sB y.street) Tryz.underlying9
  have e3 := run_equalIn_int (P := Tryz.prog) w d 3 .i64 .i64 x.number y.number Tryz.underlying3
  have e4 := run_equalIn_string (P := Tryz.prog) w d 9 (sB x.code) (sB y.code) Tryz.underlying9
  have e5 := run_equalIn_string (P := Tryz.prog) w d 9 (sB x.town) (sB y.town) Tryz.underlying9
  rw [sB_beq] at e1 e2 e4 e5
  simp [Op.eqFields, go_sem]
  simp only [sB_eq]
  by_cases h1 : x.person = y.person
  · by_cases h2 : x.street = y.street
    · by_cases h3 : x.number = y.number
      · by_cases h4 : x.code = y.code
        · by_cases h5 : x.town = y.town <;> simp [h1, h2, h3, h4, h5]
        · simp [h1, h2, h3, h4]
      · simp [h1, h2, h3]
    · simp [h1, h2]
  · simp [h1]
theorem neq_run (x y : Ad) (w : World) : (binOp .neq 27 (adV x) (adV y)).run Tryz.prog w = .ok (.bool (!decide (x = y))) w := by
  rw [run_neq_struct, show (10000 : Nat) = 9998 + 2 from rfl, equal_run]; rfl
theorem eql_run (x y : Ad) (w : World) : (binOp .eql 27 (adV x) (adV y)).run Tryz.prog w = .ok (.bool (decide (x = y))) w := by
  rw [run_eql_struct, show (10000 : Nat) = 9998 + 2 from rfl, equal_run]; rfl

/-- The table of powers of ten. -/
abbrev Tab (w : World) : Prop := Lib.TabIs Tryz.prog w "internal/strconv.uint64pow10" .u64 Lib.pow10Tab
theorem tab_on {w w' : World} (h : Tab w) (hb : Below w.heap.size w w') : Tab w' := Lib.tabBelow_of_tabIs h w' hb
theorem itoa_any (n : Int) (w : World) (h0 : -9223372036854775808 ≤ n) (h1 : n ≤ 9223372036854775807) (hT : Tab w) :
    Calls Tryz.prog 54 #[.int .i64 n] w fun e w' => e = .returned (.string (sB (Lib.itoa n))) ∧ Below w.heap.size w w' :=
  (Tryz.strconv_Itoa n h0 h1 w hT).mono fun _ _ ⟨he, k, os, hw⟩ => ⟨he, by rw [hw]; exact Lib.below_grow _ _ (Nat.le_refl _) k os⟩

set_option maxHeartbeats 2000000 in
theorem show1_any (x : Ad) (t : W) (w : World) : Calls Tryz.prog 50 #[adV x, .string (sB t)] w fun e w' => e = .returned (.string (sB t)) ∧ Below w.heap.size w w' := by
  have HB := hid (b0 w (.cells #[.string (sB x.person), .string (sB x.street), .int .i64 x.number, .string (sB x.code), .string (sB x.town)] 27))
  go_enter Tryz.func50, Tryz.ntmps50
  go_wp2
  go_ret
  exact ⟨rfl, HB.out⟩
set_option maxHeartbeats 2000000 in
theorem show2_any (x : Ad) (t : W) (w : World) (h0 : -9223372036854775808 ≤ x.number) (h1 : x.number ≤ 9223372036854775807) (hT : Tab w) : Calls Tryz.prog 53 #[adV x, .string (sB t)] w fun e w' => e = .returned (.string (sB (Lib.itoa x.number))) ∧ Below w.heap.size w w' := by
  have HB := hid (b0 w (.cells #[.string (sB x.person), .string (sB x.street), .int .i64 x.number, .string (sB x.code), .string (sB x.town)] 27))
  have C := hid (itoa_any x.number _ h0 h1 (tab_on hT HB.out))
  clear hT h0 h1
  go_enter Tryz.func53, Tryz.ntmps53
  go_wp2_with fail
  refine C.out.mono ?_
  rintro e w1 ⟨rfl, hb⟩
  go_wp2
  go_ret
  exact ⟨rfl, bt HB.out hb⟩
set_option maxHeartbeats 2000000 in
theorem show3_any (x : Ad) (t : W) (w : World) : Calls Tryz.prog 57 #[adV x, .string (sB t)] w fun e w' => e = .returned (.string (sB x.code)) ∧ Below w.heap.size w w' := by
  have HB := hid (b0 w (.cells #[.string (sB x.person), .string (sB x.street), .int .i64 x.number, .string (sB x.code), .string (sB x.town)] 27))
  go_enter Tryz.func57, Tryz.ntmps57
  go_wp2
  go_ret
  exact ⟨rfl, HB.out⟩

set_option maxHeartbeats 2000000 in
theorem show4_any (x : Ad) (t : W) (X : Nat) (w : World) (hX : w.heap[X]? = some (.cells #[fnV 59] 80 (0, 0))) :
    Calls Tryz.prog 82 #[adV x, .string (sB t), .pointer (some ⟨X, 0, none⟩)] w fun e w' => e = .returned (.string (sB x.street)) ∧ Below w.heap.size w w' := by
  have hlX := heap_lt hX
  have hc : w.cell? ⟨X, 0, none⟩ = some (.func (.func 59) #[] #[]) := by simp [World.cell?, hX, fnV]
  have HB := hid (b0 w (.cells #[.string (sB x.person), .string (sB x.street), .int .i64 x.number, .string (sB x.code), .string (sB x.town)] 27))
  have C := hid (fun S u => field4_any S u)
  clear hX
  go_enter Tryz.func82, Tryz.ntmps82
  go_wp2_with fail
  refine (C.out _ _).mono ?_
  rintro e w1 ⟨rfl, rfl⟩
  go_wp2
  go_ret
  exact ⟨rfl, HB.out⟩

set_option maxHeartbeats 2000000 in
theorem show5_any (x : Ad) (t : W) (X : Nat) (w : World) (hX : w.heap[X]? = some (.cells #[fnV 60] 80 (0, 0))) :
    Calls Tryz.prog 82 #[adV x, .string (sB t), .pointer (some ⟨X, 0, none⟩)] w fun e w' => e = .returned (.string (sB x.town)) ∧ Below w.heap.size w w' := by
  have hlX := heap_lt hX
  have hc : w.cell? ⟨X, 0, none⟩ = some (.func (.func 60) #[] #[]) := by simp [World.cell?, hX, fnV]
  have HB := hid (b0 w (.cells #[.string (sB x.person), .string (sB x.street), .int .i64 x.number, .string (sB x.code), .string (sB x.town)] 27))
  have C := hid (fun S u => field5_any S u)
  clear hX
  go_enter Tryz.func82, Tryz.ntmps82
  go_wp2_with fail
  refine (C.out _ _).mono ?_
  rintro e w1 ⟨rfl, rfl⟩
  go_wp2
  go_ret
  exact ⟨rfl, HB.out⟩

set_option maxHeartbeats 2000000 in
theorem show6_any (x : Ad) (t : W) (X : Nat) (w : World) (hX : w.heap[X]? = some (.cells #[fnV 61] 80 (0, 0))) :
    Calls Tryz.prog 82 #[adV x, .string (sB t), .pointer (some ⟨X, 0, none⟩)] w fun e w' => e = .returned (.string (sB x.person)) ∧ Below w.heap.size w w' := by
  have hlX := heap_lt hX
  have hc : w.cell? ⟨X, 0, none⟩ = some (.func (.func 61) #[] #[]) := by simp [World.cell?, hX, fnV]
  have HB := hid (b0 w (.cells #[.string (sB x.person), .string (sB x.street), .int .i64 x.number, .string (sB x.code), .string (sB x.town)] 27))
  have C := hid (fun S u => field6_any S u)
  clear hX
  go_enter Tryz.func82, Tryz.ntmps82
  go_wp2_with fail
  refine (C.out _ _).mono ?_
  rintro e w1 ⟨rfl, rfl⟩
  go_wp2
  go_ret
  exact ⟨rfl, HB.out⟩

end Fm
end Go.Proofs.YtcaiejbnhjiflaaGreatDoor
