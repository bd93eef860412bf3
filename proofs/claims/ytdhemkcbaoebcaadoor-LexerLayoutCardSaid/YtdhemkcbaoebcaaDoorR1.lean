/-
  Contracts of the document's own symbol, quoted, run and Kind.
-/
import Derived.Test.YtdhemkcbaoebcaaDoorW5
import Derived.Test.YtdhemkcbaoebcaaDoorLex0
namespace Go.Proofs.YtdhemkcbaoebcaaDoor
open Go.RowKit
namespace Lx

def rsyms : List (List UInt8) := [[123], [125], [40], [41], [91], [93], [44], [59], [58], [61], [45, 62], [46], [45]]
theorem symB_r (p : List UInt8) : symB p = rsyms.contains p := by
  unfold symB
  rw [Bool.eq_iff_iff, List.contains_iff_mem, List.contains_iff_mem]
  simp only [syms, rsyms, List.mem_cons, List.not_mem_nil, or_false]
  grind
def symsBlk : Obj := .cells #[.string ⟨#[123]⟩, .string ⟨#[125]⟩, .string ⟨#[40]⟩, .string ⟨#[41]⟩, .string ⟨#[91]⟩, .string ⟨#[93]⟩, .string ⟨#[44]⟩, .string ⟨#[59]⟩, .string ⟨#[58]⟩, .string ⟨#[61]⟩, .string ⟨#[45, 62]⟩, .string ⟨#[46]⟩, .string ⟨#[45]⟩] 9
theorem syms_cell {w : World} {K : Nat} (h : w.heap[K]? = some symsBlk) (i : Nat) (hi : i < rsyms.length) : w.cell? ⟨K, i, none⟩ = some (.string ⟨(rsyms[i]).toArray⟩) := by
  have hi2 : i < 13 := hi
  unfold symsBlk at h
  rcases (show i = 0 ∨ i = 1 ∨ i = 2 ∨ i = 3 ∨ i = 4 ∨ i = 5 ∨ i = 6 ∨ i = 7 ∨ i = 8 ∨ i = 9 ∨ i = 10 ∨ i = 11 ∨ i = 12 by omega) with rfl | rfl | rfl | rfl | rfl | rfl | rfl | rfl | rfl | rfl | rfl | rfl | rfl <;> simp [World.cell?, h, rsyms]

set_option maxHeartbeats 1000000 in
theorem symbols_any (w : World) :
    Calls Tryd.prog 38 #[] w fun e w' => e = .returned (.slice (some ⟨w.heap.size, 0, none⟩) 13 13) ∧ w' = w.alloc symsBlk := by
  go_enter Tryd.func38, Tryd.ntmps38
  go_wp2
  go_ret
  exact ⟨rfl, rfl⟩

set_option maxRecDepth 100000 in
set_option maxHeartbeats 2000000 in
theorem rsymbol_any (s : ByteArray) (w : World) :
    Calls Tryd.prog 27 #[.string s] w fun e w' => e = .returned (.bool (symB s.data.toList)) ∧ Below w.heap.size w w' := by
  obtain ⟨r, hr⟩ : ∃ r, r = symB s.data.toList := ⟨_, rfl⟩
  rw [← hr]
  rw [symB_r] at hr
  have HR := hid hr
  clear hr
  have CS := hid (symbols_any w)
  go_enter Tryd.func27, Tryd.ntmps27
  go_wp2_with fail
  refine CS.out.mono ?_
  rintro e w1 ⟨rfl, hw1⟩
  have HK : w1.heap[w.heap.size]? = some symsBlk := by rw [hw1]; exact heap_new w _
  have hB : Below w.heap.size w w1 := by rw [hw1]; exact b0 w _
  have HC := hid (syms_cell HK)
  clear hw1 HK
  go_wp2
  go_loop [4] (fun i => ∃ k : Nat, k ≤ 13 ∧ i = .int .i64 k ∧ Hid (¬ s.data.toList ∈ rsyms.take k)) (fun i => 13 - (intOf i).toNat)
  case atStart => exact ⟨0, by omega, rfl, by show ¬ _; simp⟩
  case round =>
    obtain ⟨k, hk, rfl, hno⟩ := hrel
    have hlen : rsyms.length = 13 := rfl
    by_cases hlt : k < 13
    · have hc := HC.out k (by rw [hlen]; exact hlt)
      have hlt' : k < rsyms.length := by rw [hlen]; exact hlt
      obtain ⟨xk, hxk⟩ : ∃ x : ByteArray, x = ⟨(rsyms[k]).toArray⟩ := ⟨_, rfl⟩
      rw [← hxk] at hc
      have hxl : xk.data.toList = rsyms[k] := by rw [hxk]
      by_cases he : rsyms[k] = s.data.toList
      · have ht : xk.toList = s.toList := by rw [Lib.toList_data, Lib.toList_data, hxl, he]
        have hval : Hid (r = true) := by
          show _ = _
          rw [HR.out, List.contains_iff_mem, ← he]; exact List.getElem_mem _
        clear he hxl hxk hlen
        go_wp2
        go_ret
        exact ⟨by rw [hval.out]; rfl, hB⟩
      · have ht : ¬ xk.toList = s.toList := by rw [Lib.toList_data, Lib.toList_data, hxl]; exact he
        have ht2 : (xk.toList == s.toList) = false := by simpa using ht
        have hnext : Hid (¬ s.data.toList ∈ rsyms.take (k + 1)) := by
          show ¬ _
          rw [List.take_succ_eq_append_getElem hlt', List.mem_append, List.mem_singleton]
          rintro (h | h)
          · exact hno.out h
          · exact he h.symm
        clear he hxl hxk hlen
        go_wp2
        go_round
        case rel => exact ⟨k + 1, by omega, by go_num, hnext⟩
        case measure => simp [intOf]; omega
    · have hval : Hid (r = false) := by
        show _ = _
        rw [HR.out]
        have := hno.out
        rw [List.take_of_length_le (by omega)] at this
        rw [Bool.eq_false_iff]
        intro h
        rw [List.contains_iff_mem] at h
        exact this h
      clear hlen
      go_wp2
      go_ret
      exact ⟨by rw [hval.out]; rfl, hB⟩

theorem retB {a b : Bool} (h : a = b) : Ending.returned (.bool b) = .returned (.bool a) := by rw [h]

set_option maxRecDepth 100000 in
set_option maxHeartbeats 4000000 in
theorem rquoted_any (s : ByteArray) (w : World) (hs : s.size ≤ maxLen) :
    Calls Tryd.prog 28 #[.string s] w fun e w' => e = .returned (.bool (quotB s.data.toList)) ∧ w = w' := by
  unfold maxLen at hs
  obtain ⟨r, hr⟩ : ∃ r, r = quotB s.data.toList := ⟨_, rfl⟩
  rw [← hr]
  by_cases h2 : s.size < 2
  · have hf : r = false := by
      rw [hr, Bool.eq_false_iff]; intro h
      have := (quot_head h).1; rw [s_len] at this; omega
    subst hf
    clear hr
    go_enter Tryd.func28, Tryd.ntmps28
    go_wp2
    go_ret
    exact ⟨rfl, rfl⟩
  · by_cases h202 : 202 < s.size
    · have hf : r = false := by
        rw [hr, Bool.eq_false_iff]; intro h
        have := (quot_head h).2.1; rw [s_len] at this; omega
      subst hf
      clear hr
      go_enter Tryd.func28, Tryd.ntmps28
      go_wp2
      go_ret
      exact ⟨rfl, rfl⟩
    · have hml : s.size - 1 < s.size := by omega
      have u1 : decide ((s.size : Int) < 2) = false := by rw [decide_eq_false_iff_not]; omega
      have u2 : decide (202 < (s.size : Int)) = false := by rw [decide_eq_false_iff_not]; omega
      have h0l : 0 < s.size := by omega
      have hx0 := s_at s 0 h0l
      have hxm := s_at s (s.size - 1) hml
      by_cases h34 : s[0].toNat = 34
      · have e34 : (((s[0].toNat : Nat) : Int) != 34) = false := by simp; omega
        by_cases h34m : s[s.size - 1].toNat = 34
        · have e34m : (((s[s.size - 1].toNat : Nat) : Int) != 34) = false := by simp; omega
          have HI : Hid (r = true ↔ ∀ i, 1 ≤ i → i < s.size - 1 → quoB (s.data.toList.getD i 0) = true) := by
            show _ ↔ _
            rw [hr]
            constructor
            · intro h i h1 h3
              exact (quot_head h).2.2.2.2 i h1 (by rw [s_len]; omega)
            · intro h
              refine quot_mk (by rw [s_len]; omega) (by rw [s_len]; omega) (by rw [← hx0]; exact h34) ?_ fun i h1 h3 => h i h1 (by rw [s_len] at h3; omega)
              rw [s_len, ← hxm]; exact h34m
          clear hr hx0 hxm h34 h34m
          go_enter Tryd.func28, Tryd.ntmps28
          go_wp2
          clear e34 e34m
          go_loop [3] (fun i => ∃ k : Nat, 1 ≤ k ∧ k ≤ s.size - 1 ∧ i = .int .i64 k ∧ Hid (∀ i, 1 ≤ i → i < k → quoB (s.data.toList.getD i 0) = true)) (fun i => s.size - (intOf i).toNat)
          case atStart => exact ⟨1, by omega, by omega, rfl, fun i h1 h3 => by omega⟩
          case round =>
            obtain ⟨k, hk1, hk, rfl, hp⟩ := hrel
            by_cases hlt : k < s.size - 1
            · have hks : k < s.size := by omega
              have hx := s_at s k hks
              have hq := quoB_iff s[k]
              by_cases hb : quoB s[k] = true
              · have HN : Hid (∀ i, 1 ≤ i → i < k + 1 → quoB (s.data.toList.getD i 0) = true) := fun i h1 h3 => by
                  rcases Nat.lt_or_ge i k with h4 | h4
                  · exact hp.out i h1 h4
                  · obtain rfl : i = k := by omega
                    rw [← hx]; exact hb
                have hq := hq.1 hb
                have t1 : decide ((s[k].toNat : Int) < 32) = false := by rw [decide_eq_false_iff_not]; omega
                have t2 : decide (126 < (s[k].toNat : Int)) = false := by rw [decide_eq_false_iff_not]; omega
                have t3 : (((s[k].toNat : Nat) : Int) == 34) = false := by simp; omega
                clear hx hq hb hp
                go_wp2
                go_round
                case rel => exact ⟨k + 1, by omega, by omega, by go_num, HN⟩
                case measure => simp [intOf]; omega
              · have HN : Hid (r = false) := by
                  show _ = _
                  rw [Bool.eq_false_iff]; intro h
                  exact hb (by rw [hx]; exact HI.out.1 h k hk1 hlt)
                have hq : s[k].toNat < 32 ∨ (32 ≤ s[k].toNat ∧ 126 < s[k].toNat) ∨ (32 ≤ s[k].toNat ∧ s[k].toNat ≤ 126 ∧ s[k].toNat = 34) := by
                  by_cases h1 : s[k].toNat < 32
                  · exact .inl h1
                  · by_cases h3 : 126 < s[k].toNat
                    · exact .inr (.inl ⟨by omega, h3⟩)
                    · exact .inr (.inr ⟨by omega, by omega, Classical.byContradiction fun h4 => hb (hq.2 ⟨by omega, by omega, h4⟩)⟩)
                clear hx hb hp
                rcases hq with hq | hq | hq
                · have t1 : decide ((s[k].toNat : Int) < 32) = true := by rw [decide_eq_true_eq]; omega
                  clear hq
                  go_wp2
                  go_ret
                  exact ⟨retB HN.out, rfl⟩
                · have t1 : decide ((s[k].toNat : Int) < 32) = false := by rw [decide_eq_false_iff_not]; omega
                  have t2 : decide (126 < (s[k].toNat : Int)) = true := by rw [decide_eq_true_eq]; omega
                  clear hq
                  go_wp2
                  go_ret
                  exact ⟨retB HN.out, rfl⟩
                · have t1 : decide ((s[k].toNat : Int) < 32) = false := by rw [decide_eq_false_iff_not]; omega
                  have t2 : decide (126 < (s[k].toNat : Int)) = false := by rw [decide_eq_false_iff_not]; omega
                  have t3 : (((s[k].toNat : Nat) : Int) == 34) = true := by simp; omega
                  clear hq
                  go_wp2
                  go_ret
                  exact ⟨retB HN.out, rfl⟩
            · have HN : Hid (r = true) := by
                exact HI.out.2 fun i h1 h3 => hp.out i h1 (by omega)
              go_wp2
              go_ret
              exact ⟨retB HN.out, rfl⟩
        · have e34m : (((s[s.size - 1].toNat : Nat) : Int) != 34) = true := by simp; omega
          have hf : r = false := by
            rw [hr, Bool.eq_false_iff]; intro h
            have := (quot_head h).2.2.2.1; rw [s_len, ← hxm] at this; exact h34m this
          subst hf
          clear hr hx0 hxm h34 h34m
          go_enter Tryd.func28, Tryd.ntmps28
          go_wp2
          go_ret
          exact ⟨rfl, rfl⟩
      · have e34 : (((s[0].toNat : Nat) : Int) != 34) = true := by simp; omega
        have hf : r = false := by
          rw [hr, Bool.eq_false_iff]; intro h
          have := (quot_head h).2.2.1; rw [← hx0] at this; exact h34 this
        subst hf
        clear hr hx0 hxm h34
        go_enter Tryd.func28, Tryd.ntmps28
        go_wp2
        go_ret
        exact ⟨rfl, rfl⟩

def allTo (p : UInt8 → Bool) (l : List UInt8) (k : Nat) : Bool := (l.take k).all p
theorem allTo_succ {p : UInt8 → Bool} {l : List UInt8} {k : Nat} (h : k < l.length) : allTo p l (k + 1) = (allTo p l k && p (l.getD k 0)) := by
  unfold allTo
  rw [List.take_succ_eq_append_getElem h, List.all_append]
  simp [List.getD, List.getElem?_eq_getElem h]
theorem allTo_all {p : UInt8 → Bool} {l : List UInt8} {k : Nat} (h : l.length ≤ k) : allTo p l k = l.all p := by
  unfold allTo; rw [List.take_of_length_le h]

set_option maxRecDepth 100000 in
set_option maxHeartbeats 4000000 in
theorem rrun_any (s : ByteArray) (w : World) (hs : s.size ≤ maxLen) :
    Calls Tryd.prog 29 #[.string s] w fun e w' => e = .returned (.int .i64 (runK s.data.toList : Nat)) ∧ w = w' := by
  unfold maxLen at hs
  obtain ⟨r, hr⟩ : ∃ r, r = runK s.data.toList := ⟨_, rfl⟩
  rw [← hr]
  have HR := hid hr
  clear hr
  go_enter Tryd.func29, Tryd.ntmps29
  go_wp2
  go_loop [3, 4] (fun d i => ∃ (k : Nat) (b : Bool), k ≤ s.size ∧ i = .int .i64 k ∧ d = .bool b ∧ Hid (allTo wordB s.data.toList k = true) ∧ Hid (allTo digB s.data.toList k = b)) (fun _ i => s.size - (intOf i).toNat)
  case atStart => exact ⟨0, true, by omega, rfl, rfl, rfl, rfl⟩
  case round =>
    obtain ⟨k, b, hk, rfl, rfl, hw, hd⟩ := hrel
    by_cases hlt : k < s.size
    · have hx := s_at s k hlt
      have CW := hid (rWord_any s[k] w)
      have CD := hid (rDigit_any s[k] w)
      have hll : k < s.data.toList.length := by rw [s_len]; exact hlt
      have hw2 := allTo_succ (p := wordB) hll
      have hd2 := allTo_succ (p := digB) hll
      rw [← hx, hw.out] at hw2
      rw [← hx, hd.out] at hd2
      by_cases hb : wordB s[k] = true
      · rw [hb] at CW hw2
        have HW : Hid (allTo wordB s.data.toList (k + 1) = true) := hw2
        obtain ⟨y, hy⟩ : ∃ y, y = digB s[k] := ⟨_, rfl⟩
        rw [← hy] at CD hd2
        have HD := hid hd2
        clear hw2 hd2 hy hb hx
        go_wp2_with fail
        refine CW.out.mono ?_
        rintro e w' ⟨rfl, rfl⟩
        cases b
        · go_wp2
          go_round
          case rel => exact ⟨k + 1, false, by omega, by go_num, rfl, HW, HD.out⟩
          case measure => simp [intOf]; omega
        · go_wp2_with fail
          refine CD.out.mono ?_
          rintro e w' ⟨rfl, rfl⟩
          go_wp2
          go_round
          case rel => exact ⟨k + 1, y, by omega, by go_num, rfl, HW, HD.out⟩
          case measure => simp [intOf]; omega
      · rw [Bool.not_eq_true] at hb
        rw [hb] at CW hw2
        have HN : Hid (r = 0) := by
          show _ = _
          rw [HR.out]
          unfold runK
          rw [if_pos]
          rw [hx] at hb
          exact all_no hll hb
        clear hw2 hd2 hb hx
        go_wp2_with fail
        refine CW.out.mono ?_
        rintro e w' ⟨rfl, rfl⟩
        go_wp2
        go_ret
        exact ⟨by rw [HN.out]; rfl, rfl⟩
    · have hwa : s.data.toList.all wordB = true := by rw [← allTo_all (k := k) (by rw [s_len]; omega)]; exact hw.out
      have hda : s.data.toList.all digB = b := by rw [← allTo_all (k := k) (by rw [s_len]; omega)]; exact hd.out
      have hrr : r = if s.size = 0 ∨ (s.data.toList.getD 0 0).toNat = 95 then 0 else if b = true ∧ s.size ≤ 8 then 2 else if b = false ∧ s.size ≤ 20 then 1 else 0 := by
        rw [HR.out]; unfold runK
        rw [if_neg (by rw [hwa]; simp), hda, s_len]
      clear hwa hda hw hd
      by_cases h0 : s.size = 0
      · rw [if_pos (.inl h0)] at hrr
        have HN := hid hrr
        have e0 : ((s.size : Int) == 0) = true := by rw [h0]; rfl
        clear hrr h0
        go_wp2
        go_ret
        exact ⟨by rw [HN.out]; rfl, rfl⟩
      · have h0l : 0 < s.size := by omega
        have e0 : ((s.size : Int) == 0) = false := by rw [beq_eq_false_iff_ne]; omega
        have hx0 := s_at s 0 h0l
        rw [← hx0] at hrr
        by_cases h95 : s[0].toNat = 95
        · rw [if_pos (.inr h95)] at hrr
          have HN := hid hrr
          have e95 : (((s[0].toNat : Nat) : Int) == 95) = true := by simp; omega
          clear hrr h0 hx0 h95
          go_wp2
          go_ret
          exact ⟨by rw [HN.out]; rfl, rfl⟩
        · rw [if_neg (by omega)] at hrr
          have e95 : (((s[0].toNat : Nat) : Int) == 95) = false := by simp; omega
          clear h0 hx0 h95
          cases b
          · rw [if_neg (by simp)] at hrr
            by_cases h20 : s.size ≤ 20
            · rw [if_pos ⟨rfl, h20⟩] at hrr
              have HN := hid hrr
              clear hrr
              go_wp2
              go_ret
              exact ⟨by rw [HN.out]; rfl, rfl⟩
            · rw [if_neg (by simp; omega)] at hrr
              have HN := hid hrr
              clear hrr
              go_wp2
              go_ret
              exact ⟨by rw [HN.out]; rfl, rfl⟩
          · by_cases h8 : s.size ≤ 8
            · rw [if_pos ⟨rfl, h8⟩] at hrr
              have HN := hid hrr
              clear hrr
              go_wp2
              go_ret
              exact ⟨by rw [HN.out]; rfl, rfl⟩
            · rw [if_neg (by simp; omega), if_neg (by simp)] at hrr
              have HN := hid hrr
              clear hrr
              go_wp2
              go_ret
              exact ⟨by rw [HN.out]; rfl, rfl⟩

/-- The Text that Kind answers. -/
def kindS (s : ByteArray) : ByteArray := if kindL s.data.toList = 0 then ⟨#[]⟩ else if kindL s.data.toList = 4 then s.extract 1 (s.size - 1) else s
theorem kindS_txt {s : ByteArray} (h : kindL s.data.toList ≠ 0) : (kindS s).data.toList = txt (kindL s.data.toList) s.data.toList := by
  unfold kindS txt
  rw [if_neg h]
  split
  · rw [Lib.extract_data, s_len]
    congr 1
  · rfl
set_option maxRecDepth 100000 in
set_option maxHeartbeats 4000000 in
theorem rkind_any (s : ByteArray) (w : World) (hs : s.size ≤ maxLen) :
    Calls Tryd.prog 17 #[.string s] w fun e w' => e = .returned (.tuple #[.int .i64 (kindL s.data.toList : Nat), .string (kindS s)]) ∧ Below w.heap.size w w' := by
  have C1 := rsymbol_any s w
  have C2 := fun u => rquoted_any s u hs
  have C3 := fun u => rrun_any s u hs
  unfold maxLen at hs
  by_cases h1 : symB s.data.toList = true
  · have hk := sym_piece h1
    have hks : kindS s = s := by unfold kindS; rw [if_neg (by omega), if_neg (by omega)]
    rw [hk, hks]
    rw [h1] at C1
    have D1 := hid C1
    clear C1 C2 C3 hk hks h1
    go_enter Tryd.func17, Tryd.ntmps17
    go_wp2_with fail
    refine D1.out.mono ?_
    rintro e w1 ⟨rfl, hb⟩
    go_wp2
    go_ret2
    exact ⟨rfl, hb⟩
  · rw [Bool.not_eq_true] at h1
    rw [h1] at C1
    have D1 := hid C1
    by_cases h2 : quotB s.data.toList = true
    · have hk := quot_piece h2
      have hks : kindS s = s.extract 1 (s.size - 1) := by unfold kindS; rw [if_neg (by omega), if_pos hk]
      rw [hk, hks]
      rw [h2] at C2
      have D2 := hid C2
      have h2l := (quot_head h2).1
      rw [s_len] at h2l
      obtain ⟨m, hm⟩ : ∃ m, m = s.size - 1 := ⟨_, rfl⟩
      rw [← hm]
      have hm0 : IntKind.i64.wrap ((s.size : Int) - 1) = (m : Int) := by rw [IntWalk.i64_in _ (by omega)]; omega
      have hm1 : 1 ≤ (m : Int) := by omega
      have hm2 : (m : Int) ≤ (s.size : Int) := by omega
      have hm3 : 1 ≤ m := by omega
      have hm4 : m ≤ s.size := by omega
      clear C1 C2 C3 hk hks h1 h2 hm h2l
      go_enter Tryd.func17, Tryd.ntmps17
      go_wp2_with fail
      refine D1.out.mono ?_
      rintro e w1 ⟨rfl, hb⟩
      go_wp2_with fail
      refine (D2.out _).mono ?_
      rintro e w1' ⟨rfl, rfl⟩
      go_wp2
      go_quiet (fail)
      clear hm0 hm1 hm2
      go_wp2
      go_ret2
      exact ⟨rfl, below_drewN hb _⟩
    · rw [Bool.not_eq_true] at h2
      rw [h2] at C2
      have D2 := hid C2
      have D3 := hid C3
      have hk : kindL s.data.toList = runK s.data.toList := by unfold kindL; rw [if_neg (by rw [h1]; simp), if_neg (by rw [h2]; simp)]
      rw [hk]
      by_cases h0 : runK s.data.toList = 0
      · have hks : kindS s = ⟨#[]⟩ := by unfold kindS; rw [if_pos (by omega)]
        rw [hks, h0]
        rw [h0] at D3
        clear C1 C2 C3 hk hks h1 h2 h0
        go_enter Tryd.func17, Tryd.ntmps17
        go_wp2_with fail
        refine D1.out.mono ?_
        rintro e w1 ⟨rfl, hb⟩
        go_wp2_with fail
        refine (D2.out _).mono ?_
        rintro e w1' ⟨rfl, rfl⟩
        go_wp2_with fail
        refine (D3.out _).mono ?_
        rintro e w1' ⟨rfl, rfl⟩
        go_wp2
        go_ret2
        exact ⟨rfl, hb⟩
      · have hks : kindS s = s := by
          have := run_head h0
          unfold kindS; rw [if_neg (by omega), if_neg (by omega)]
        have hc := run_head h0
        rw [hks]
        obtain ⟨q, hq⟩ : ∃ q, q = runK s.data.toList := ⟨_, rfl⟩
        rw [← hq]
        rw [← hq] at D3
        have hne : ((q : Int) == 0) = false := by simp; omega
        clear C1 C2 C3 hk hks h1 h2 h0 hc hq
        go_enter Tryd.func17, Tryd.ntmps17
        go_wp2_with fail
        refine D1.out.mono ?_
        rintro e w1 ⟨rfl, hb⟩
        go_wp2_with fail
        refine (D2.out _).mono ?_
        rintro e w1' ⟨rfl, rfl⟩
        go_wp2_with fail
        refine (D3.out _).mono ?_
        rintro e w1' ⟨rfl, rfl⟩
        go_wp2
        go_ret2
        exact ⟨rfl, hb⟩

end Lx
end Go.Proofs.YtdhemkcbaoebcaaDoor
