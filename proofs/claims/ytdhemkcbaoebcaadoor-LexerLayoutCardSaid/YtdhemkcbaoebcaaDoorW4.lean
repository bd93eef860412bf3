/-
  Contracts of symbolLength, over the array of symbols, and of kinds.
-/
import Derived.Test.YtdhemkcbaoebcaaDoorW3
namespace Go.Proofs.YtdhemkcbaoebcaaDoor
open Go.RowKit
namespace Lx

/-- The array of symbols, as the program lays it. -/
structure Syms (w : World) : Prop where
  c0 : w.cell? ⟨0, 0, none⟩ = some (.string ⟨#[45, 62]⟩)
  c1 : w.cell? ⟨0, 1, none⟩ = some (.string ⟨#[123]⟩)
  c2 : w.cell? ⟨0, 2, none⟩ = some (.string ⟨#[125]⟩)
  c3 : w.cell? ⟨0, 3, none⟩ = some (.string ⟨#[40]⟩)
  c4 : w.cell? ⟨0, 4, none⟩ = some (.string ⟨#[41]⟩)
  c5 : w.cell? ⟨0, 5, none⟩ = some (.string ⟨#[91]⟩)
  c6 : w.cell? ⟨0, 6, none⟩ = some (.string ⟨#[93]⟩)
  c7 : w.cell? ⟨0, 7, none⟩ = some (.string ⟨#[44]⟩)
  c8 : w.cell? ⟨0, 8, none⟩ = some (.string ⟨#[59]⟩)
  c9 : w.cell? ⟨0, 9, none⟩ = some (.string ⟨#[58]⟩)
  c10 : w.cell? ⟨0, 10, none⟩ = some (.string ⟨#[61]⟩)
  c11 : w.cell? ⟨0, 11, none⟩ = some (.string ⟨#[46]⟩)
  c12 : w.cell? ⟨0, 12, none⟩ = some (.string ⟨#[45]⟩)
  lt : 0 < w.heap.size
theorem Syms.below {w w' : World} (h : Syms w) (hb : Below w.heap.size w w') : Syms w' where
  c0 := (hb.cell (p := (⟨0, 0, none⟩ : Addr)) h.lt).trans h.c0
  c1 := (hb.cell (p := (⟨0, 1, none⟩ : Addr)) h.lt).trans h.c1
  c2 := (hb.cell (p := (⟨0, 2, none⟩ : Addr)) h.lt).trans h.c2
  c3 := (hb.cell (p := (⟨0, 3, none⟩ : Addr)) h.lt).trans h.c3
  c4 := (hb.cell (p := (⟨0, 4, none⟩ : Addr)) h.lt).trans h.c4
  c5 := (hb.cell (p := (⟨0, 5, none⟩ : Addr)) h.lt).trans h.c5
  c6 := (hb.cell (p := (⟨0, 6, none⟩ : Addr)) h.lt).trans h.c6
  c7 := (hb.cell (p := (⟨0, 7, none⟩ : Addr)) h.lt).trans h.c7
  c8 := (hb.cell (p := (⟨0, 8, none⟩ : Addr)) h.lt).trans h.c8
  c9 := (hb.cell (p := (⟨0, 9, none⟩ : Addr)) h.lt).trans h.c9
  c10 := (hb.cell (p := (⟨0, 10, none⟩ : Addr)) h.lt).trans h.c10
  c11 := (hb.cell (p := (⟨0, 11, none⟩ : Addr)) h.lt).trans h.c11
  c12 := (hb.cell (p := (⟨0, 12, none⟩ : Addr)) h.lt).trans h.c12
  lt := Nat.lt_of_lt_of_le h.lt hb.size
/-- None of the first k symbols stands at the beginning. -/
def noSym (l : List UInt8) (k : Nat) : Prop := ∀ s ∈ syms.take k, Lib.hasPrefix l s = false
theorem noSym_succ {l : List UInt8} {k : Nat} {s : List UInt8} (h : noSym l k) (hs : syms[k]? = some s) (hn : Lib.hasPrefix l s = false) : noSym l (k + 1) := by
  intro x hx
  obtain ⟨hk, he⟩ := List.getElem?_eq_some_iff.1 hs
  rw [List.take_succ_eq_append_getElem hk, List.mem_append, List.mem_singleton] at hx
  rcases hx with hx | rfl
  · exact h x hx
  · rw [he]; exact hn
theorem symL_hit {l : List UInt8} {k : Nat} {s : List UInt8} (h : noSym l k) (hs : syms[k]? = some s) (hn : Lib.hasPrefix l s = true) : symL l = s.length := by
  obtain ⟨hk, he⟩ := List.getElem?_eq_some_iff.1 hs
  unfold symL
  have e : syms = syms.take k ++ (s :: syms.drop (k + 1)) := by
    conv => lhs; rw [← List.take_append_drop k syms, List.drop_eq_getElem_cons hk, he]
  have : syms.find? (fun s => Lib.hasPrefix l s) = some s := by
    rw [e, List.find?_append, List.find?_cons, hn]
    have : (syms.take k).find? (fun s => Lib.hasPrefix l s) = none := List.find?_eq_none.2 fun x hx => by rw [h x hx]; simp
    rw [this]; rfl
  rw [this]
theorem symL_miss {l : List UInt8} (h : noSym l 13) : symL l = 0 := by
  unfold symL
  have : syms.find? (fun s => Lib.hasPrefix l s) = none := List.find?_eq_none.2 fun x hx => by rw [h x hx]; simp
  rw [this]

set_option maxRecDepth 100000 in
set_option maxHeartbeats 8000000 in
theorem sym_any (s : ByteArray) (w : World) (hT : Syms w) :
    Calls Tryd.prog 32 #[.string s] w fun e w' => e = .returned (.int .i64 ((symL s.data.toList : Nat) : Int)) ∧ w = w' := by
  have c0 := hT.c0
  have c1 := hT.c1
  have c2 := hT.c2
  have c3 := hT.c3
  have c4 := hT.c4
  have c5 := hT.c5
  have c6 := hT.c6
  have c7 := hT.c7
  have c8 := hT.c8
  have c9 := hT.c9
  have c10 := hT.c10
  have c11 := hT.c11
  have c12 := hT.c12
  clear hT
  obtain ⟨r, hr⟩ : ∃ r, r = symL s.data.toList := ⟨_, rfl⟩
  rw [← hr]
  have HR := hid hr
  clear hr
  go_enter Tryd.func32, Tryd.ntmps32
  go_wp2
  clear c0 c1 c2 c3 c4 c5 c6 c7 c8 c9 c10 c11 c12
  go_loop [6] (fun i => ∃ k : Nat, k ≤ 13 ∧ i = .int .i64 k ∧ Hid (noSym s.data.toList k)) (fun i => 13 - (intOf i).toNat)
  case atStart => exact ⟨0, Nat.zero_le _, rfl, fun x hx => by cases hx⟩
  case round =>
    obtain ⟨k, hk, rfl, hp⟩ := hrel
    rcases (show k = 0 ∨ k = 1 ∨ k = 2 ∨ k = 3 ∨ k = 4 ∨ k = 5 ∨ k = 6 ∨ k = 7 ∨ k = 8 ∨ k = 9 ∨ k = 10 ∨ k = 11 ∨ k = 12 ∨ k = 13 by omega) with rfl | rfl | rfl | rfl | rfl | rfl | rfl | rfl | rfl | rfl | rfl | rfl | rfl | rfl
    · have ix : ∀ w : World, (Instr.index 54 (.agg #[.string ⟨#[45, 62]⟩, .string ⟨#[123]⟩, .string ⟨#[125]⟩, .string ⟨#[40]⟩, .string ⟨#[41]⟩, .string ⟨#[91]⟩, .string ⟨#[93]⟩, .string ⟨#[44]⟩, .string ⟨#[59]⟩, .string ⟨#[58]⟩, .string ⟨#[61]⟩, .string ⟨#[46]⟩, .string ⟨#[45]⟩]) (.int .i64 0)).run Tryd.prog w = .ok (.string ⟨#[45, 62]⟩) w := fun _ => by kernel_rfl
      have C := has_any s ⟨#[45, 62]⟩ [45, 62] rfl w
      obtain ⟨b, hb⟩ : ∃ b, b = Lib.hasPrefix s.data.toList [45, 62] := ⟨_, rfl⟩
      rw [← hb] at C
      have D := hid C
      clear C
      cases b
      · have HN : Hid (noSym s.data.toList 1) := noSym_succ hp.out rfl hb.symm
        clear hb
        go_wp2_with fail
        refine D.out.mono ?_
        rintro e w' ⟨rfl, rfl⟩
        go_wp2
        go_round
        case rel => exact ⟨1, by omega, by first | rfl | go_num, HN⟩
        case measure => simp [intOf]
      · have HN : Hid (r = 2) := HR.out.trans (symL_hit hp.out (k := 0) rfl hb.symm)
        clear hb
        go_wp2_with fail
        refine D.out.mono ?_
        rintro e w' ⟨rfl, rfl⟩
        go_wp2
        go_ret
        exact ⟨by rw [HN.out]; rfl, rfl⟩
    · have ix : ∀ w : World, (Instr.index 54 (.agg #[.string ⟨#[45, 62]⟩, .string ⟨#[123]⟩, .string ⟨#[125]⟩, .string ⟨#[40]⟩, .string ⟨#[41]⟩, .string ⟨#[91]⟩, .string ⟨#[93]⟩, .string ⟨#[44]⟩, .string ⟨#[59]⟩, .string ⟨#[58]⟩, .string ⟨#[61]⟩, .string ⟨#[46]⟩, .string ⟨#[45]⟩]) (.int .i64 1)).run Tryd.prog w = .ok (.string ⟨#[123]⟩) w := fun _ => by kernel_rfl
      have C := has_any s ⟨#[123]⟩ [123] rfl w
      obtain ⟨b, hb⟩ : ∃ b, b = Lib.hasPrefix s.data.toList [123] := ⟨_, rfl⟩
      rw [← hb] at C
      have D := hid C
      clear C
      cases b
      · have HN : Hid (noSym s.data.toList 2) := noSym_succ hp.out rfl hb.symm
        clear hb
        go_wp2_with fail
        refine D.out.mono ?_
        rintro e w' ⟨rfl, rfl⟩
        go_wp2
        go_round
        case rel => exact ⟨2, by omega, by first | rfl | go_num, HN⟩
        case measure => simp [intOf]
      · have HN : Hid (r = 1) := HR.out.trans (symL_hit hp.out (k := 1) rfl hb.symm)
        clear hb
        go_wp2_with fail
        refine D.out.mono ?_
        rintro e w' ⟨rfl, rfl⟩
        go_wp2
        go_ret
        exact ⟨by rw [HN.out]; rfl, rfl⟩
    · have ix : ∀ w : World, (Instr.index 54 (.agg #[.string ⟨#[45, 62]⟩, .string ⟨#[123]⟩, .string ⟨#[125]⟩, .string ⟨#[40]⟩, .string ⟨#[41]⟩, .string ⟨#[91]⟩, .string ⟨#[93]⟩, .string ⟨#[44]⟩, .string ⟨#[59]⟩, .string ⟨#[58]⟩, .string ⟨#[61]⟩, .string ⟨#[46]⟩, .string ⟨#[45]⟩]) (.int .i64 2)).run Tryd.prog w = .ok (.string ⟨#[125]⟩) w := fun _ => by kernel_rfl
      have C := has_any s ⟨#[125]⟩ [125] rfl w
      obtain ⟨b, hb⟩ : ∃ b, b = Lib.hasPrefix s.data.toList [125] := ⟨_, rfl⟩
      rw [← hb] at C
      have D := hid C
      clear C
      cases b
      · have HN : Hid (noSym s.data.toList 3) := noSym_succ hp.out rfl hb.symm
        clear hb
        go_wp2_with fail
        refine D.out.mono ?_
        rintro e w' ⟨rfl, rfl⟩
        go_wp2
        go_round
        case rel => exact ⟨3, by omega, by first | rfl | go_num, HN⟩
        case measure => simp [intOf]
      · have HN : Hid (r = 1) := HR.out.trans (symL_hit hp.out (k := 2) rfl hb.symm)
        clear hb
        go_wp2_with fail
        refine D.out.mono ?_
        rintro e w' ⟨rfl, rfl⟩
        go_wp2
        go_ret
        exact ⟨by rw [HN.out]; rfl, rfl⟩
    · have ix : ∀ w : World, (Instr.index 54 (.agg #[.string ⟨#[45, 62]⟩, .string ⟨#[123]⟩, .string ⟨#[125]⟩, .string ⟨#[40]⟩, .string ⟨#[41]⟩, .string ⟨#[91]⟩, .string ⟨#[93]⟩, .string ⟨#[44]⟩, .string ⟨#[59]⟩, .string ⟨#[58]⟩, .string ⟨#[61]⟩, .string ⟨#[46]⟩, .string ⟨#[45]⟩]) (.int .i64 3)).run Tryd.prog w = .ok (.string ⟨#[40]⟩) w := fun _ => by kernel_rfl
      have C := has_any s ⟨#[40]⟩ [40] rfl w
      obtain ⟨b, hb⟩ : ∃ b, b = Lib.hasPrefix s.data.toList [40] := ⟨_, rfl⟩
      rw [← hb] at C
      have D := hid C
      clear C
      cases b
      · have HN : Hid (noSym s.data.toList 4) := noSym_succ hp.out rfl hb.symm
        clear hb
        go_wp2_with fail
        refine D.out.mono ?_
        rintro e w' ⟨rfl, rfl⟩
        go_wp2
        go_round
        case rel => exact ⟨4, by omega, by first | rfl | go_num, HN⟩
        case measure => simp [intOf]
      · have HN : Hid (r = 1) := HR.out.trans (symL_hit hp.out (k := 3) rfl hb.symm)
        clear hb
        go_wp2_with fail
        refine D.out.mono ?_
        rintro e w' ⟨rfl, rfl⟩
        go_wp2
        go_ret
        exact ⟨by rw [HN.out]; rfl, rfl⟩
    · have ix : ∀ w : World, (Instr.index 54 (.agg #[.string ⟨#[45, 62]⟩, .string ⟨#[123]⟩, .string ⟨#[125]⟩, .string ⟨#[40]⟩, .string ⟨#[41]⟩, .string ⟨#[91]⟩, .string ⟨#[93]⟩, .string ⟨#[44]⟩, .string ⟨#[59]⟩, .string ⟨#[58]⟩, .string ⟨#[61]⟩, .string ⟨#[46]⟩, .string ⟨#[45]⟩]) (.int .i64 4)).run Tryd.prog w = .ok (.string ⟨#[41]⟩) w := fun _ => by kernel_rfl
      have C := has_any s ⟨#[41]⟩ [41] rfl w
      obtain ⟨b, hb⟩ : ∃ b, b = Lib.hasPrefix s.data.toList [41] := ⟨_, rfl⟩
      rw [← hb] at C
      have D := hid C
      clear C
      cases b
      · have HN : Hid (noSym s.data.toList 5) := noSym_succ hp.out rfl hb.symm
        clear hb
        go_wp2_with fail
        refine D.out.mono ?_
        rintro e w' ⟨rfl, rfl⟩
        go_wp2
        go_round
        case rel => exact ⟨5, by omega, by first | rfl | go_num, HN⟩
        case measure => simp [intOf]
      · have HN : Hid (r = 1) := HR.out.trans (symL_hit hp.out (k := 4) rfl hb.symm)
        clear hb
        go_wp2_with fail
        refine D.out.mono ?_
        rintro e w' ⟨rfl, rfl⟩
        go_wp2
        go_ret
        exact ⟨by rw [HN.out]; rfl, rfl⟩
    · have ix : ∀ w : World, (Instr.index 54 (.agg #[.string ⟨#[45, 62]⟩, .string ⟨#[123]⟩, .string ⟨#[125]⟩, .string ⟨#[40]⟩, .string ⟨#[41]⟩, .string ⟨#[91]⟩, .string ⟨#[93]⟩, .string ⟨#[44]⟩, .string ⟨#[59]⟩, .string ⟨#[58]⟩, .string ⟨#[61]⟩, .string ⟨#[46]⟩, .string ⟨#[45]⟩]) (.int .i64 5)).run Tryd.prog w = .ok (.string ⟨#[91]⟩) w := fun _ => by kernel_rfl
      have C := has_any s ⟨#[91]⟩ [91] rfl w
      obtain ⟨b, hb⟩ : ∃ b, b = Lib.hasPrefix s.data.toList [91] := ⟨_, rfl⟩
      rw [← hb] at C
      have D := hid C
      clear C
      cases b
      · have HN : Hid (noSym s.data.toList 6) := noSym_succ hp.out rfl hb.symm
        clear hb
        go_wp2_with fail
        refine D.out.mono ?_
        rintro e w' ⟨rfl, rfl⟩
        go_wp2
        go_round
        case rel => exact ⟨6, by omega, by first | rfl | go_num, HN⟩
        case measure => simp [intOf]
      · have HN : Hid (r = 1) := HR.out.trans (symL_hit hp.out (k := 5) rfl hb.symm)
        clear hb
        go_wp2_with fail
        refine D.out.mono ?_
        rintro e w' ⟨rfl, rfl⟩
        go_wp2
        go_ret
        exact ⟨by rw [HN.out]; rfl, rfl⟩
    · have ix : ∀ w : World, (Instr.index 54 (.agg #[.string ⟨#[45, 62]⟩, .string ⟨#[123]⟩, .string ⟨#[125]⟩, .string ⟨#[40]⟩, .string ⟨#[41]⟩, .string ⟨#[91]⟩, .string ⟨#[93]⟩, .string ⟨#[44]⟩, .string ⟨#[59]⟩, .string ⟨#[58]⟩, .string ⟨#[61]⟩, .string ⟨#[46]⟩, .string ⟨#[45]⟩]) (.int .i64 6)).run Tryd.prog w = .ok (.string ⟨#[93]⟩) w := fun _ => by kernel_rfl
      have C := has_any s ⟨#[93]⟩ [93] rfl w
      obtain ⟨b, hb⟩ : ∃ b, b = Lib.hasPrefix s.data.toList [93] := ⟨_, rfl⟩
      rw [← hb] at C
      have D := hid C
      clear C
      cases b
      · have HN : Hid (noSym s.data.toList 7) := noSym_succ hp.out rfl hb.symm
        clear hb
        go_wp2_with fail
        refine D.out.mono ?_
        rintro e w' ⟨rfl, rfl⟩
        go_wp2
        go_round
        case rel => exact ⟨7, by omega, by first | rfl | go_num, HN⟩
        case measure => simp [intOf]
      · have HN : Hid (r = 1) := HR.out.trans (symL_hit hp.out (k := 6) rfl hb.symm)
        clear hb
        go_wp2_with fail
        refine D.out.mono ?_
        rintro e w' ⟨rfl, rfl⟩
        go_wp2
        go_ret
        exact ⟨by rw [HN.out]; rfl, rfl⟩
    · have ix : ∀ w : World, (Instr.index 54 (.agg #[.string ⟨#[45, 62]⟩, .string ⟨#[123]⟩, .string ⟨#[125]⟩, .string ⟨#[40]⟩, .string ⟨#[41]⟩, .string ⟨#[91]⟩, .string ⟨#[93]⟩, .string ⟨#[44]⟩, .string ⟨#[59]⟩, .string ⟨#[58]⟩, .string ⟨#[61]⟩, .string ⟨#[46]⟩, .string ⟨#[45]⟩]) (.int .i64 7)).run Tryd.prog w = .ok (.string ⟨#[44]⟩) w := fun _ => by kernel_rfl
      have C := has_any s ⟨#[44]⟩ [44] rfl w
      obtain ⟨b, hb⟩ : ∃ b, b = Lib.hasPrefix s.data.toList [44] := ⟨_, rfl⟩
      rw [← hb] at C
      have D := hid C
      clear C
      cases b
      · have HN : Hid (noSym s.data.toList 8) := noSym_succ hp.out rfl hb.symm
        clear hb
        go_wp2_with fail
        refine D.out.mono ?_
        rintro e w' ⟨rfl, rfl⟩
        go_wp2
        go_round
        case rel => exact ⟨8, by omega, by first | rfl | go_num, HN⟩
        case measure => simp [intOf]
      · have HN : Hid (r = 1) := HR.out.trans (symL_hit hp.out (k := 7) rfl hb.symm)
        clear hb
        go_wp2_with fail
        refine D.out.mono ?_
        rintro e w' ⟨rfl, rfl⟩
        go_wp2
        go_ret
        exact ⟨by rw [HN.out]; rfl, rfl⟩
    · have ix : ∀ w : World, (Instr.index 54 (.agg #[.string ⟨#[45, 62]⟩, .string ⟨#[123]⟩, .string ⟨#[125]⟩, .string ⟨#[40]⟩, .string ⟨#[41]⟩, .string ⟨#[91]⟩, .string ⟨#[93]⟩, .string ⟨#[44]⟩, .string ⟨#[59]⟩, .string ⟨#[58]⟩, .string ⟨#[61]⟩, .string ⟨#[46]⟩, .string ⟨#[45]⟩]) (.int .i64 8)).run Tryd.prog w = .ok (.string ⟨#[59]⟩) w := fun _ => by kernel_rfl
      have C := has_any s ⟨#[59]⟩ [59] rfl w
      obtain ⟨b, hb⟩ : ∃ b, b = Lib.hasPrefix s.data.toList [59] := ⟨_, rfl⟩
      rw [← hb] at C
      have D := hid C
      clear C
      cases b
      · have HN : Hid (noSym s.data.toList 9) := noSym_succ hp.out rfl hb.symm
        clear hb
        go_wp2_with fail
        refine D.out.mono ?_
        rintro e w' ⟨rfl, rfl⟩
        go_wp2
        go_round
        case rel => exact ⟨9, by omega, by first | rfl | go_num, HN⟩
        case measure => simp [intOf]
      · have HN : Hid (r = 1) := HR.out.trans (symL_hit hp.out (k := 8) rfl hb.symm)
        clear hb
        go_wp2_with fail
        refine D.out.mono ?_
        rintro e w' ⟨rfl, rfl⟩
        go_wp2
        go_ret
        exact ⟨by rw [HN.out]; rfl, rfl⟩
    · have ix : ∀ w : World, (Instr.index 54 (.agg #[.string ⟨#[45, 62]⟩, .string ⟨#[123]⟩, .string ⟨#[125]⟩, .string ⟨#[40]⟩, .string ⟨#[41]⟩, .string ⟨#[91]⟩, .string ⟨#[93]⟩, .string ⟨#[44]⟩, .string ⟨#[59]⟩, .string ⟨#[58]⟩, .string ⟨#[61]⟩, .string ⟨#[46]⟩, .string ⟨#[45]⟩]) (.int .i64 9)).run Tryd.prog w = .ok (.string ⟨#[58]⟩) w := fun _ => by kernel_rfl
      have C := has_any s ⟨#[58]⟩ [58] rfl w
      obtain ⟨b, hb⟩ : ∃ b, b = Lib.hasPrefix s.data.toList [58] := ⟨_, rfl⟩
      rw [← hb] at C
      have D := hid C
      clear C
      cases b
      · have HN : Hid (noSym s.data.toList 10) := noSym_succ hp.out rfl hb.symm
        clear hb
        go_wp2_with fail
        refine D.out.mono ?_
        rintro e w' ⟨rfl, rfl⟩
        go_wp2
        go_round
        case rel => exact ⟨10, by omega, by first | rfl | go_num, HN⟩
        case measure => simp [intOf]
      · have HN : Hid (r = 1) := HR.out.trans (symL_hit hp.out (k := 9) rfl hb.symm)
        clear hb
        go_wp2_with fail
        refine D.out.mono ?_
        rintro e w' ⟨rfl, rfl⟩
        go_wp2
        go_ret
        exact ⟨by rw [HN.out]; rfl, rfl⟩
    · have ix : ∀ w : World, (Instr.index 54 (.agg #[.string ⟨#[45, 62]⟩, .string ⟨#[123]⟩, .string ⟨#[125]⟩, .string ⟨#[40]⟩, .string ⟨#[41]⟩, .string ⟨#[91]⟩, .string ⟨#[93]⟩, .string ⟨#[44]⟩, .string ⟨#[59]⟩, .string ⟨#[58]⟩, .string ⟨#[61]⟩, .string ⟨#[46]⟩, .string ⟨#[45]⟩]) (.int .i64 10)).run Tryd.prog w = .ok (.string ⟨#[61]⟩) w := fun _ => by kernel_rfl
      have C := has_any s ⟨#[61]⟩ [61] rfl w
      obtain ⟨b, hb⟩ : ∃ b, b = Lib.hasPrefix s.data.toList [61] := ⟨_, rfl⟩
      rw [← hb] at C
      have D := hid C
      clear C
      cases b
      · have HN : Hid (noSym s.data.toList 11) := noSym_succ hp.out rfl hb.symm
        clear hb
        go_wp2_with fail
        refine D.out.mono ?_
        rintro e w' ⟨rfl, rfl⟩
        go_wp2
        go_round
        case rel => exact ⟨11, by omega, by first | rfl | go_num, HN⟩
        case measure => simp [intOf]
      · have HN : Hid (r = 1) := HR.out.trans (symL_hit hp.out (k := 10) rfl hb.symm)
        clear hb
        go_wp2_with fail
        refine D.out.mono ?_
        rintro e w' ⟨rfl, rfl⟩
        go_wp2
        go_ret
        exact ⟨by rw [HN.out]; rfl, rfl⟩
    · have ix : ∀ w : World, (Instr.index 54 (.agg #[.string ⟨#[45, 62]⟩, .string ⟨#[123]⟩, .string ⟨#[125]⟩, .string ⟨#[40]⟩, .string ⟨#[41]⟩, .string ⟨#[91]⟩, .string ⟨#[93]⟩, .string ⟨#[44]⟩, .string ⟨#[59]⟩, .string ⟨#[58]⟩, .string ⟨#[61]⟩, .string ⟨#[46]⟩, .string ⟨#[45]⟩]) (.int .i64 11)).run Tryd.prog w = .ok (.string ⟨#[46]⟩) w := fun _ => by kernel_rfl
      have C := has_any s ⟨#[46]⟩ [46] rfl w
      obtain ⟨b, hb⟩ : ∃ b, b = Lib.hasPrefix s.data.toList [46] := ⟨_, rfl⟩
      rw [← hb] at C
      have D := hid C
      clear C
      cases b
      · have HN : Hid (noSym s.data.toList 12) := noSym_succ hp.out rfl hb.symm
        clear hb
        go_wp2_with fail
        refine D.out.mono ?_
        rintro e w' ⟨rfl, rfl⟩
        go_wp2
        go_round
        case rel => exact ⟨12, by omega, by first | rfl | go_num, HN⟩
        case measure => simp [intOf]
      · have HN : Hid (r = 1) := HR.out.trans (symL_hit hp.out (k := 11) rfl hb.symm)
        clear hb
        go_wp2_with fail
        refine D.out.mono ?_
        rintro e w' ⟨rfl, rfl⟩
        go_wp2
        go_ret
        exact ⟨by rw [HN.out]; rfl, rfl⟩
    · have ix : ∀ w : World, (Instr.index 54 (.agg #[.string ⟨#[45, 62]⟩, .string ⟨#[123]⟩, .string ⟨#[125]⟩, .string ⟨#[40]⟩, .string ⟨#[41]⟩, .string ⟨#[91]⟩, .string ⟨#[93]⟩, .string ⟨#[44]⟩, .string ⟨#[59]⟩, .string ⟨#[58]⟩, .string ⟨#[61]⟩, .string ⟨#[46]⟩, .string ⟨#[45]⟩]) (.int .i64 12)).run Tryd.prog w = .ok (.string ⟨#[45]⟩) w := fun _ => by kernel_rfl
      have C := has_any s ⟨#[45]⟩ [45] rfl w
      obtain ⟨b, hb⟩ : ∃ b, b = Lib.hasPrefix s.data.toList [45] := ⟨_, rfl⟩
      rw [← hb] at C
      have D := hid C
      clear C
      cases b
      · have HN : Hid (noSym s.data.toList 13) := noSym_succ hp.out rfl hb.symm
        clear hb
        go_wp2_with fail
        refine D.out.mono ?_
        rintro e w' ⟨rfl, rfl⟩
        go_wp2
        go_round
        case rel => exact ⟨13, by omega, by first | rfl | go_num, HN⟩
        case measure => simp [intOf]
      · have HN : Hid (r = 1) := HR.out.trans (symL_hit hp.out (k := 12) rfl hb.symm)
        clear hb
        go_wp2_with fail
        refine D.out.mono ?_
        rintro e w' ⟨rfl, rfl⟩
        go_wp2
        go_ret
        exact ⟨by rw [HN.out]; rfl, rfl⟩
    · have HN : Hid (r = 0) := HR.out.trans (symL_miss hp.out)
      go_wp2
      go_ret
      exact ⟨by rw [HN.out]; rfl, rfl⟩

end Lx
end Go.Proofs.YtdhemkcbaoebcaaDoor
