/-
  The contract of Lex.
-/
import Derived.Test.YtdhemkcbaoebcaaDoorW5
import Derived.Test.YtdhemkcbaoebcaaDoorLex0
namespace Go.Proofs.YtdhemkcbaoebcaaDoor
open Go.RowKit
namespace Lx

/-- What Lex answers, in memory. -/
def LexPost (B : Nat) (l : List UInt8) (w : World) (e : Ending) (w' : World) : Prop :=
  ∃ v, e = .returned (.tuple #[v, .int .i64 (lexR l).2.1, .int .i64 (lexR l).2.2]) ∧ w'.ownsRow B 31 3 v (lexR l).1.length (encTs (lexR l).1) ∧ Below w.heap.size w w'
theorem LexPost.mk {B : Nat} {l : List UInt8} {w w' : World} {v : Value} {ts : List Tk} {x y : Int} (h : lexR l = (ts, x, y)) (h1 : w'.ownsRow B 31 3 v ts.length (encTs ts)) (h2 : Below w.heap.size w w') :
    LexPost B l w (.returned (.tuple #[v, .int .i64 x, .int .i64 y])) w' := by
  unfold LexPost; rw [h]; exact ⟨v, rfl, h1, h2⟩

theorem kinds_cells {w : World} {K : Nat} (h : w.heap[K]? = some kindsBlk) :
    (w.cell? ⟨K, 0, none⟩ = some (.int .i64 1) ∧ w.cell? ⟨K, 1, none⟩ = some (.func (.func 30) #[] #[]) ∧ w.cell? ⟨K, 2, none⟩ = some (.int .i64 0)) ∧
    (w.cell? ⟨K, 3, none⟩ = some (.int .i64 2) ∧ w.cell? ⟨K, 4, none⟩ = some (.func (.func 31) #[] #[]) ∧ w.cell? ⟨K, 5, none⟩ = some (.int .i64 0)) ∧
    (w.cell? ⟨K, 6, none⟩ = some (.int .i64 3) ∧ w.cell? ⟨K, 7, none⟩ = some (.func (.func 32) #[] #[]) ∧ w.cell? ⟨K, 8, none⟩ = some (.int .i64 0)) ∧
    (w.cell? ⟨K, 9, none⟩ = some (.int .i64 4) ∧ w.cell? ⟨K, 10, none⟩ = some (.func (.func 33) #[] #[]) ∧ w.cell? ⟨K, 11, none⟩ = some (.int .i64 1)) := by
  unfold kindsBlk at h
  simp [World.cell?, h]
theorem own_form {w : World} {B : Nat} {e : TypeId} {sz : Nat} {v : Value} {n : Nat} {xs : List Value} (h : w.ownsRow B e sz v n xs) : ∃ p cap, v = .slice p n cap := by
  rcases h.2 with ⟨rfl, rfl⟩ | ⟨g, cap, cur, rfl, -⟩
  · exact ⟨_, _, rfl⟩
  · exact ⟨_, _, rfl⟩
/-- None of the first j kinds has a token here. -/
def noKind (r : List UInt8) (j : Nat) : Prop := (0 < j → nameL r = 0) ∧ (1 < j → numL r = 0) ∧ (2 < j → symL r = 0) ∧ (3 < j → quoL r = 0)
theorem noKind_zero (r : List UInt8) : noKind r 0 := ⟨fun h => by omega, fun h => by omega, fun h => by omega, fun h => by omega⟩
theorem noKind_1 {r : List UInt8} (h : nameL r = 0) : noKind r 1 := ⟨fun _ => h, fun h => by omega, fun h => by omega, fun h => by omega⟩
theorem noKind_2 {r : List UInt8} (h0 : noKind r 1) (h : numL r = 0) : noKind r 2 := ⟨fun _ => h0.1 (by omega), fun _ => h, fun h => by omega, fun h => by omega⟩
theorem noKind_3 {r : List UInt8} (h0 : noKind r 2) (h : symL r = 0) : noKind r 3 := ⟨fun _ => h0.1 (by omega), fun _ => h0.2.1 (by omega), fun _ => h, fun h => by omega⟩
theorem noKind_4 {r : List UInt8} (h0 : noKind r 3) (h : quoL r = 0) : noKind r 4 := ⟨fun _ => h0.1 (by omega), fun _ => h0.2.1 (by omega), fun _ => h0.2.2.1 (by omega), fun _ => h⟩
theorem tok_1 {r : List UInt8} {n : Nat} (h : nameL r = n) (hn : 0 < n) : tokL r = (1, n) := by unfold tokL; rw [if_pos (by omega), h]
theorem tok_2 {r : List UInt8} {n : Nat} (h0 : noKind r 1) (h : numL r = n) (hn : 0 < n) : tokL r = (2, n) := by
  have := h0.1 (by omega)
  unfold tokL; rw [if_neg (by omega), if_pos (by omega), h]
theorem tok_3 {r : List UInt8} {n : Nat} (h0 : noKind r 2) (h : symL r = n) (hn : 0 < n) : tokL r = (3, n) := by
  have := h0.1 (by omega)
  have := h0.2.1 (by omega)
  unfold tokL; rw [if_neg (by omega), if_neg (by omega), if_pos (by omega), h]
theorem tok_4 {r : List UInt8} {n : Nat} (h0 : noKind r 3) (h : quoL r = n) (hn : 0 < n) : tokL r = (4, n) := by
  have := h0.1 (by omega)
  have := h0.2.1 (by omega)
  have := h0.2.2.1 (by omega)
  unfold tokL; rw [if_neg (by omega), if_neg (by omega), if_neg (by omega), if_pos (by omega), h]
theorem tok_none {r : List UInt8} (h0 : noKind r 4) : tokL r = (0, 0) := by
  have := h0.1 (by omega)
  have := h0.2.1 (by omega)
  have := h0.2.2.1 (by omega)
  have := h0.2.2.2 (by omega)
  unfold tokL; rw [if_neg (by omega), if_neg (by omega), if_neg (by omega), if_neg (by omega)]
theorem quoL_two {r : List UInt8} (h : 0 < quoL r) : 2 ≤ quoL r := by
  unfold quoL at h ⊢
  split
  · rename_i h1; rw [if_pos h1] at h; omega
  · rename_i h1
    rw [if_neg h1] at h
    split
    · rename_i h2; rw [if_pos h2] at h; omega
    · omega
theorem blk_to {w w' : World} {K : Nat} {o : Obj} (h : w.heap[K]? = some o) (hb : Below w.heap.size w w') : w'.heap[K]? = some o := (hb.block K (Array.getElem?_eq_some_iff.1 h).1).trans h
theorem own_below {w w' : World} {B : Nat} {e : TypeId} {sz n : Nat} {v : Value} {xs : List Value} (h : w.ownsRow B e sz v n xs) (hb : Below w.heap.size w w') : w'.ownsRow B e sz v n xs :=
  h.kept (row := none) ⟨hb.os, hb.tape, hb.output, hb.size, fun k hk _ => hb.block k hk⟩ (Classical.em _)
theorem row_snoc {w : World} {B : Nat} {v : Value} {ts : List Tk} {t : Tk} {es : List Value} (h : w.ownsRow B 31 3 v (ts.length + 1) (encTs ts ++ es)) (he : encT t = es) : w.ownsRow B 31 3 v (ts ++ [t]).length (encTs (ts ++ [t])) := by
  rw [List.length_append, encTs_snoc, he]; exact h
theorem enc_of {c k : Nat} {t : List UInt8} {x : ByteArray} (h : x.data.toList = t) : encT ⟨c, t, k⟩ = [.int .i64 (c : Int), .string x, .int .i64 (k : Int)] := by
  unfold encT; rw [ba_of h]
theorem grow_below {w0 w w1 : World} {B : Nat} {v : Value} {n : Nat} {e : TypeId} {sz : Nat} {xs : List Value} {o : Obj} (hB : Below w0.heap.size w0 w) (h0 : w0.heap.size ≤ B) (hrow : w.ownsRow B e sz v n xs) (hg : (w.alloc o).grownBy w1 v.ownBlock) : Below w0.heap.size w0 w1 :=
  (hB.alloc hB.size o).grown hg (by have := hB.size; simp; omega) (fun k e => by have := (hrow.lt k e).1; omega)

set_option maxRecDepth 100000 in
set_option maxHeartbeats 32000000 in
theorem lex_any (s : ByteArray) (w : World) (hs : s.size ≤ maxLen) (hT : Syms w) :
    Calls Tryd.prog 12 #[.string s] w (LexPost (w.heap.size + 1) s.data.toList w) := by
  by_cases h8 : 8000 < s.size
  · have hv := hid (lexR_long (l := s.data.toList) (by rw [s_len]; exact h8))
    unfold maxLen at hs
    clear hT
    go_enter Tryd.func12, Tryd.ntmps12
    go_wp2
    go_step3
    go_wp2
    rw [Exit.noGoto_ret]
    go_ret3
    exact LexPost.mk hv.out (World.ownsRow_nil _ _ _ _) (Below.refl _ _)
  · have HS := hid hs
    have hs8 : s.size ≤ 8000 := by omega
    clear hs h8
    obtain ⟨i0, hi, hz0, hz1, hz2⟩ := info_parts infoTokZ
    have HI := hid (And.intro hi (And.intro hz0 (And.intro hz1 hz2)))
    clear hi hz0 hz1 hz2
    have HT := hid hT
    clear hT
    have CK := hid (kinds_any w)
    have hle0 := gl_le (s.data.toList.drop 0)
    rw [List.drop_zero, s_len] at hle0
    have CS : ∀ u, Calls Tryd.prog 23 #[.string s, .int .i64 0] u fun e w' => e = .returned (.int .i64 ((0 + gl (s.data.toList.drop 0) : Nat) : Int)) ∧ u = w' := fun u => skip_any s 0 u HS.out (Nat.zero_le _)
    have HA := hid (At.start s.data.toList)
    obtain ⟨k0, hk0⟩ : ∃ k0, k0 = 0 + gl (s.data.toList.drop 0) := ⟨_, rfl⟩
    rw [← hk0] at CS HA
    have hk1 : k0 ≤ s.size := by rw [hk0, List.drop_zero]; omega
    have CSh := hid CS
    clear hk0 hle0 CS
    go_enter Tryd.func12, Tryd.ntmps12
    go_wp2
    go_step3
    go_wp2_with fail
    refine (CK.out).mono ?_
    rintro e w1 ⟨rfl, hw1⟩
    have hK : w1.heap[w.heap.size]? = some kindsBlk := by rw [hw1]; exact heap_new w _
    have hB : Below w.heap.size w w1 := by rw [hw1]; exact b0 w _
    have hz1 : w.heap.size + 1 ≤ w1.heap.size := by rw [hw1]; simp
    clear hw1
    have HK := hid hK
    clear hK
    go_wp2
    go_step3
    go_wp2_with fail
    refine (CSh.out _).mono ?_
    rintro e w1' ⟨rfl, rfl⟩
    go_wp2
    go_loopg [5, 7] (s.size - k0) (fun g v a wr => ∃ (k : Nat) (ts : List Tk), k + g = s.size ∧ a = .int .i64 k ∧ Hid (At s.data.toList k ts) ∧ wr.ownsRow (w.heap.size + 1) 31 3 v ts.length (encTs ts) ∧ Hid (wr.heap[w.heap.size]? = some kindsBlk) ∧ Below w.heap.size w wr ∧ w.heap.size + 1 ≤ wr.heap.size)
    case atStart => exact ⟨k0, [], by omega, rfl, HA.out, World.ownsRow_nil _ _ _ _, HK.out, hB, hz1⟩
    case round =>
      obtain ⟨k, ts, hkg, rfl, hA, hrow, hK, hB, hz1⟩ := hrel
      obtain ⟨pv, cv, rfl⟩ := own_form hrow
      have hcnt := hA.out.count
      by_cases hlt : k < s.size
      · have hkl : k < s.data.toList.length := by rw [s_len]; exact hlt
        by_cases h3 : ts.length = 3000
        · have HR : Hid (lexR s.data.toList = ([], 2, (k : Int))) := by
            have h1 := hA.out.many hkl h3
            show _ = _
            rw [lexR_err (by rw [s_len]; exact hs8) (by rw [h1]; exact (show ¬ (2 : Int) = 0 by decide)), h1]
          have hne : ((ts.length : Int) == 3000) = true := by rw [h3]; rfl
          clear h3 hcnt
          go_wp2
          rw [Exit.noGoto_ret]
          go_ret3
          exact LexPost.mk HR.out (World.ownsRow_nil _ _ _ _) hB
        · have hne : ((ts.length : Int) == 3000) = false := by simp; omega
          have hc2 : ts.length < 3000 := by omega
          clear h3 hcnt
          have hrest : 0 < (s.extract k s.size).size := by
            have e := congrArg List.length (ex_drop s k)
            rw [List.length_drop, s_len, s_len] at e
            omega
          have hexs : (s.extract k s.size).size ≤ maxLen := Nat.le_trans (ex_size _ _ _) HS.out
          have HX := hid (And.intro hrest hexs)
          clear hrest hexs
          have hkA : 0 ≤ (k : Int) := by omega
          have hkB : (k : Int) ≤ (s.size : Int) := by omega
          have hkC : k ≤ s.size := by omega
          go_wp2
          clear hne
          go_loopg [5, 7, 30] 4 (fun g v a i wy => ∃ (j : Nat), j + g = 4 ∧ i = .int .i64 j ∧ a = .int .i64 k ∧ v = .slice pv ts.length cv ∧ Hid (noKind (s.data.toList.drop k) j) ∧ wy.ownsRow (w.heap.size + 1) 31 3 v ts.length (encTs ts) ∧ Hid (wy.heap[w.heap.size]? = some kindsBlk) ∧ Below w.heap.size w wy ∧ w.heap.size + 1 ≤ wy.heap.size)
          case atStart => exact ⟨0, rfl, rfl, rfl, rfl, noKind_zero _, hrow, hK, hB, hz1⟩
          case round =>
            clear hrow hK hB hz1
            obtain ⟨j, hj, rfl, rfl, rfl, hno, hrow, hK, hB, hz1⟩ := hrel
            rcases (show j = 0 ∨ j = 1 ∨ j = 2 ∨ j = 3 ∨ j = 4 by omega) with rfl | rfl | rfl | rfl | rfl
            · obtain ⟨⟨c0, c1, c2⟩, -⟩ := kinds_cells hK.out
              obtain ⟨n, hn⟩ : ∃ n, n = nameL (s.data.toList.drop k) := ⟨_, rfl⟩
              have C1 : ∀ u, Calls Tryd.prog 30 #[.string (s.extract k s.size)] u fun e w' => e = .returned (.int .i64 (n : Int)) ∧ u = w' := fun u => by
                have := name_any (s.extract k s.size) u HX.out.2 HX.out.1
                rwa [ex_drop, ← hn] at this
              have D1 := hid C1
              clear C1
              go_wp2
              go_quiet ((go_at_call 30; exact quiet_sym (D1.out _)))
              have HB1 := hid (below_drewN (b0 wr (.cells #[.int .i64 1, .func (.func 30) #[] #[], .int .i64 0] 48)) nq)
              clear D1 c0 c1 c2
              by_cases h0 : 0 < n
              · have htk := tok_1 hn.symm h0
                have hnk : k + n ≤ s.size := by
                  have := tok_len (s.data.toList.drop k)
                  rw [htk, List.length_drop, s_len] at this
                  simp only at this
                  omega
                have HN0 := hA.out.next hkl (by omega) htk h0
                have hrk : k + n + gl (s.data.toList.drop (k + n)) ≤ s.size := by
                  have := gl_le (s.data.toList.drop (k + n))
                  rw [List.length_drop, s_len] at this
                  omega
                have CK1 := fun u => skip_any s (k + n) u HS.out hnk
                have h2m : 2 * 0 ≤ n := by omega
                have HE := hid (enc_of (c := 1) (k := k) (txt_ex s k n 1 0 rfl h2m hnk))
                have CT1 := fun u => token_any s (.func (.func 30) #[] #[]) 1 0 k n u hs8 (by omega) h2m hnk
                obtain ⟨r, hr⟩ : ∃ r, r = k + n + gl (s.data.toList.drop (k + n)) := ⟨_, rfl⟩
                rw [← hr] at CK1 HN0 hrk
                obtain ⟨x, hx⟩ : ∃ x, x = s.extract (k + 0) (k + n - 0) := ⟨_, rfl⟩
                rw [← hx] at CT1 HE
                have HN := hid HN0
                have CT2 : ∀ u, Calls Tryd.prog 24 #[.agg #[.int .i64 1, .func (.func 30) #[] #[], .int .i64 0], .string s, .int .i64 k, .int .i64 n] u fun e w' => e = .returned (.agg #[.int .i64 1, .string x, .int .i64 k]) ∧ Below u.heap.size u w' := CT1
                have CT := hid CT2
                have CK2 : ∀ u, Calls Tryd.prog 23 #[.string s, .int .i64 ((k : Int) + (n : Int))] u fun e w' => e = .returned (.int .i64 (r : Int)) ∧ u = w' := CK1
                have CK3 := hid CK2
                have hkr : k < r := by omega
                clear CK1 HN0 CT1 hr hx htk hn h2m CT2 CK2
                go_wp2_with fail
                refine (CT.out _).mono ?_
                rintro e w2 ⟨rfl, hb2⟩
                have HB2 := hid (bt HB1.out hb2)
                have hrow2 := own_below hrow HB2.out
                have hsz2 := HB2.out.size
                have HBw2 := hid (bt hB HB2.out)
                clear hb2
                go_wp2_with (at_builtin; refine wpList_append_own _ rfl _ _ 24 rfl (w.heap.size + 1) 31 i0 (.agg #[.int .i64 0, .string ⟨#[]⟩, .int .i64 0]) 3 32 Tryd.underlying24 HI.out.1 HI.out.2.1 HI.out.2.2.1 HI.out.2.2.2 rfl (by decide) _ _ _ rfl (hrow2.alloc _) ⟨w2.heap.size, 0, none⟩ 1 1 [.int .i64 1, .string x, .int .i64 k] rfl rfl (cell_three_new _ _ _ _ _) (by simp [Value.oneCell']) (by unfold maxLen; omega) (by omega) (by simp; omega) ?_; intro v3 w3 hrow3 hg3 _)
                have HB3 := hid (grow_below HBw2.out (Nat.le_succ _) hrow2 hg3)
                have HK3 : Hid (w3.heap[w.heap.size]? = some kindsBlk) := by
                  have h1 := blk_to hK.out HB2.out
                  have hlt1 := (Array.getElem?_eq_some_iff.1 h1).1
                  have h2 := hg3.block w.heap.size (by simp; omega) (by
                    intro e
                    have := (hrow2.lt _ e.symm).1
                    omega)
                  rw [(b0 w2 _).block _ hlt1] at h2
                  exact h2.trans h1
                have hsz3 : w.heap.size + 1 ≤ w3.heap.size := by
                  have := hg3.size
                  simp at this
                  omega
                have hrow3' := row_snoc hrow3 HE.out
                clear hrow2 hg3
                refine (CK3.out _).mono ?_
                rintro e w4 ⟨rfl, rfl⟩
                go_wp2
                go_roundg (s.size - r)
                case measure => omega
                case rel => exact ⟨r, _, by omega, rfl, HN, hrow3', HK3, HB3.out, hsz3⟩
              · have HNo : Hid (noKind (s.data.toList.drop k) 1) := noKind_1 (by omega)
                have h00 : n = 0 := by omega
                subst h00
                clear h0 hn
                go_wp2
                go_roundg 3
                case measure => omega
                case rel => exact ⟨1, by omega, by first | rfl | simp, rfl, rfl, HNo, own_below hrow HB1.out, blk_to hK.out HB1.out, bt hB HB1.out, by have := HB1.out.size; omega⟩
            · obtain ⟨-, ⟨c0, c1, c2⟩, -⟩ := kinds_cells hK.out
              obtain ⟨n, hn⟩ : ∃ n, n = numL (s.data.toList.drop k) := ⟨_, rfl⟩
              have C1 : ∀ u, Calls Tryd.prog 31 #[.string (s.extract k s.size)] u fun e w' => e = .returned (.int .i64 (n : Int)) ∧ u = w' := fun u => by
                have := num_any (s.extract k s.size) u HX.out.2
                rwa [ex_drop, ← hn] at this
              have D1 := hid C1
              clear C1
              go_wp2
              go_quiet ((go_at_call 31; exact quiet_sym (D1.out _)))
              have HB1 := hid (below_drewN (b0 wr (.cells #[.int .i64 2, .func (.func 31) #[] #[], .int .i64 0] 48)) nq)
              clear D1 c0 c1 c2
              by_cases h0 : 0 < n
              · have htk := tok_2 hno.out hn.symm h0
                have hnk : k + n ≤ s.size := by
                  have := tok_len (s.data.toList.drop k)
                  rw [htk, List.length_drop, s_len] at this
                  simp only at this
                  omega
                have HN0 := hA.out.next hkl (by omega) htk h0
                have hrk : k + n + gl (s.data.toList.drop (k + n)) ≤ s.size := by
                  have := gl_le (s.data.toList.drop (k + n))
                  rw [List.length_drop, s_len] at this
                  omega
                have CK1 := fun u => skip_any s (k + n) u HS.out hnk
                have h2m : 2 * 0 ≤ n := by omega
                have HE := hid (enc_of (c := 2) (k := k) (txt_ex s k n 2 0 rfl h2m hnk))
                have CT1 := fun u => token_any s (.func (.func 31) #[] #[]) 2 0 k n u hs8 (by omega) h2m hnk
                obtain ⟨r, hr⟩ : ∃ r, r = k + n + gl (s.data.toList.drop (k + n)) := ⟨_, rfl⟩
                rw [← hr] at CK1 HN0 hrk
                obtain ⟨x, hx⟩ : ∃ x, x = s.extract (k + 0) (k + n - 0) := ⟨_, rfl⟩
                rw [← hx] at CT1 HE
                have HN := hid HN0
                have CT2 : ∀ u, Calls Tryd.prog 24 #[.agg #[.int .i64 2, .func (.func 31) #[] #[], .int .i64 0], .string s, .int .i64 k, .int .i64 n] u fun e w' => e = .returned (.agg #[.int .i64 2, .string x, .int .i64 k]) ∧ Below u.heap.size u w' := CT1
                have CT := hid CT2
                have CK2 : ∀ u, Calls Tryd.prog 23 #[.string s, .int .i64 ((k : Int) + (n : Int))] u fun e w' => e = .returned (.int .i64 (r : Int)) ∧ u = w' := CK1
                have CK3 := hid CK2
                have hkr : k < r := by omega
                clear CK1 HN0 CT1 hr hx htk hn h2m CT2 CK2
                go_wp2_with fail
                refine (CT.out _).mono ?_
                rintro e w2 ⟨rfl, hb2⟩
                have HB2 := hid (bt HB1.out hb2)
                have hrow2 := own_below hrow HB2.out
                have hsz2 := HB2.out.size
                have HBw2 := hid (bt hB HB2.out)
                clear hb2
                go_wp2_with (at_builtin; refine wpList_append_own _ rfl _ _ 24 rfl (w.heap.size + 1) 31 i0 (.agg #[.int .i64 0, .string ⟨#[]⟩, .int .i64 0]) 3 32 Tryd.underlying24 HI.out.1 HI.out.2.1 HI.out.2.2.1 HI.out.2.2.2 rfl (by decide) _ _ _ rfl (hrow2.alloc _) ⟨w2.heap.size, 0, none⟩ 1 1 [.int .i64 2, .string x, .int .i64 k] rfl rfl (cell_three_new _ _ _ _ _) (by simp [Value.oneCell']) (by unfold maxLen; omega) (by omega) (by simp; omega) ?_; intro v3 w3 hrow3 hg3 _)
                have HB3 := hid (grow_below HBw2.out (Nat.le_succ _) hrow2 hg3)
                have HK3 : Hid (w3.heap[w.heap.size]? = some kindsBlk) := by
                  have h1 := blk_to hK.out HB2.out
                  have hlt1 := (Array.getElem?_eq_some_iff.1 h1).1
                  have h2 := hg3.block w.heap.size (by simp; omega) (by
                    intro e
                    have := (hrow2.lt _ e.symm).1
                    omega)
                  rw [(b0 w2 _).block _ hlt1] at h2
                  exact h2.trans h1
                have hsz3 : w.heap.size + 1 ≤ w3.heap.size := by
                  have := hg3.size
                  simp at this
                  omega
                have hrow3' := row_snoc hrow3 HE.out
                clear hrow2 hg3
                refine (CK3.out _).mono ?_
                rintro e w4 ⟨rfl, rfl⟩
                go_wp2
                go_roundg (s.size - r)
                case measure => omega
                case rel => exact ⟨r, _, by omega, rfl, HN, hrow3', HK3, HB3.out, hsz3⟩
              · have HNo : Hid (noKind (s.data.toList.drop k) 2) := noKind_2 hno.out (by omega)
                have h00 : n = 0 := by omega
                subst h00
                clear h0 hn
                go_wp2
                go_roundg 2
                case measure => omega
                case rel => exact ⟨2, by omega, by first | rfl | simp, rfl, rfl, HNo, own_below hrow HB1.out, blk_to hK.out HB1.out, bt hB HB1.out, by have := HB1.out.size; omega⟩
            · obtain ⟨-, -, ⟨c0, c1, c2⟩, -⟩ := kinds_cells hK.out
              obtain ⟨n, hn⟩ : ∃ n, n = symL (s.data.toList.drop k) := ⟨_, rfl⟩
              have C1 : ∀ u, Below w.heap.size w u → Calls Tryd.prog 32 #[.string (s.extract k s.size)] u fun e w' => e = .returned (.int .i64 (n : Int)) ∧ u = w' := fun u hu => by
                have := sym_any (s.extract k s.size) u (HT.out.below hu)
                rwa [ex_drop, ← hn] at this
              have D1 := hid C1
              clear C1
              have HBq := hid (fun q => below_drewN (hB.alloc hB.size (.cells #[.int .i64 3, .func (.func 32) #[] #[], .int .i64 0] 48)) q)
              go_wp2
              go_quiet ((go_at_call 32; exact quiet_sym (D1.out _ (by first | exact HBq.out _ | exact HBq.out 0))))
              have HB1 := hid (below_drewN (b0 wr (.cells #[.int .i64 3, .func (.func 32) #[] #[], .int .i64 0] 48)) nq)
              clear D1 c0 c1 c2
              by_cases h0 : 0 < n
              · have htk := tok_3 hno.out hn.symm h0
                have hnk : k + n ≤ s.size := by
                  have := tok_len (s.data.toList.drop k)
                  rw [htk, List.length_drop, s_len] at this
                  simp only at this
                  omega
                have HN0 := hA.out.next hkl (by omega) htk h0
                have hrk : k + n + gl (s.data.toList.drop (k + n)) ≤ s.size := by
                  have := gl_le (s.data.toList.drop (k + n))
                  rw [List.length_drop, s_len] at this
                  omega
                have CK1 := fun u => skip_any s (k + n) u HS.out hnk
                have h2m : 2 * 0 ≤ n := by omega
                have HE := hid (enc_of (c := 3) (k := k) (txt_ex s k n 3 0 rfl h2m hnk))
                have CT1 := fun u => token_any s (.func (.func 32) #[] #[]) 3 0 k n u hs8 (by omega) h2m hnk
                obtain ⟨r, hr⟩ : ∃ r, r = k + n + gl (s.data.toList.drop (k + n)) := ⟨_, rfl⟩
                rw [← hr] at CK1 HN0 hrk
                obtain ⟨x, hx⟩ : ∃ x, x = s.extract (k + 0) (k + n - 0) := ⟨_, rfl⟩
                rw [← hx] at CT1 HE
                have HN := hid HN0
                have CT2 : ∀ u, Calls Tryd.prog 24 #[.agg #[.int .i64 3, .func (.func 32) #[] #[], .int .i64 0], .string s, .int .i64 k, .int .i64 n] u fun e w' => e = .returned (.agg #[.int .i64 3, .string x, .int .i64 k]) ∧ Below u.heap.size u w' := CT1
                have CT := hid CT2
                have CK2 : ∀ u, Calls Tryd.prog 23 #[.string s, .int .i64 ((k : Int) + (n : Int))] u fun e w' => e = .returned (.int .i64 (r : Int)) ∧ u = w' := CK1
                have CK3 := hid CK2
                have hkr : k < r := by omega
                clear CK1 HN0 CT1 hr hx htk hn h2m CT2 CK2
                go_wp2_with fail
                refine (CT.out _).mono ?_
                rintro e w2 ⟨rfl, hb2⟩
                have HB2 := hid (bt HB1.out hb2)
                have hrow2 := own_below hrow HB2.out
                have hsz2 := HB2.out.size
                have HBw2 := hid (bt hB HB2.out)
                clear hb2
                go_wp2_with (at_builtin; refine wpList_append_own _ rfl _ _ 24 rfl (w.heap.size + 1) 31 i0 (.agg #[.int .i64 0, .string ⟨#[]⟩, .int .i64 0]) 3 32 Tryd.underlying24 HI.out.1 HI.out.2.1 HI.out.2.2.1 HI.out.2.2.2 rfl (by decide) _ _ _ rfl (hrow2.alloc _) ⟨w2.heap.size, 0, none⟩ 1 1 [.int .i64 3, .string x, .int .i64 k] rfl rfl (cell_three_new _ _ _ _ _) (by simp [Value.oneCell']) (by unfold maxLen; omega) (by omega) (by simp; omega) ?_; intro v3 w3 hrow3 hg3 _)
                have HB3 := hid (grow_below HBw2.out (Nat.le_succ _) hrow2 hg3)
                have HK3 : Hid (w3.heap[w.heap.size]? = some kindsBlk) := by
                  have h1 := blk_to hK.out HB2.out
                  have hlt1 := (Array.getElem?_eq_some_iff.1 h1).1
                  have h2 := hg3.block w.heap.size (by simp; omega) (by
                    intro e
                    have := (hrow2.lt _ e.symm).1
                    omega)
                  rw [(b0 w2 _).block _ hlt1] at h2
                  exact h2.trans h1
                have hsz3 : w.heap.size + 1 ≤ w3.heap.size := by
                  have := hg3.size
                  simp at this
                  omega
                have hrow3' := row_snoc hrow3 HE.out
                clear hrow2 hg3
                refine (CK3.out _).mono ?_
                rintro e w4 ⟨rfl, rfl⟩
                go_wp2
                go_roundg (s.size - r)
                case measure => omega
                case rel => exact ⟨r, _, by omega, rfl, HN, hrow3', HK3, HB3.out, hsz3⟩
              · have HNo : Hid (noKind (s.data.toList.drop k) 3) := noKind_3 hno.out (by omega)
                have h00 : n = 0 := by omega
                subst h00
                clear h0 hn
                go_wp2
                go_roundg 1
                case measure => omega
                case rel => exact ⟨3, by omega, by first | rfl | simp, rfl, rfl, HNo, own_below hrow HB1.out, blk_to hK.out HB1.out, bt hB HB1.out, by have := HB1.out.size; omega⟩
            · obtain ⟨-, -, -, ⟨c0, c1, c2⟩⟩ := kinds_cells hK.out
              obtain ⟨n, hn⟩ : ∃ n, n = quoL (s.data.toList.drop k) := ⟨_, rfl⟩
              have C1 : ∀ u, Calls Tryd.prog 33 #[.string (s.extract k s.size)] u fun e w' => e = .returned (.int .i64 (n : Int)) ∧ u = w' := fun u => by
                have := quo_any (s.extract k s.size) u HX.out.2 HX.out.1
                rwa [ex_drop, ← hn] at this
              have D1 := hid C1
              clear C1
              go_wp2
              go_quiet ((go_at_call 33; exact quiet_sym (D1.out _)))
              have HB1 := hid (below_drewN (b0 wr (.cells #[.int .i64 4, .func (.func 33) #[] #[], .int .i64 1] 48)) nq)
              clear D1 c0 c1 c2
              by_cases h0 : 0 < n
              · have htk := tok_4 hno.out hn.symm h0
                have hnk : k + n ≤ s.size := by
                  have := tok_len (s.data.toList.drop k)
                  rw [htk, List.length_drop, s_len] at this
                  simp only at this
                  omega
                have HN0 := hA.out.next hkl (by omega) htk h0
                have hrk : k + n + gl (s.data.toList.drop (k + n)) ≤ s.size := by
                  have := gl_le (s.data.toList.drop (k + n))
                  rw [List.length_drop, s_len] at this
                  omega
                have CK1 := fun u => skip_any s (k + n) u HS.out hnk
                have h2m : 2 * 1 ≤ n := by have := quoL_two (r := s.data.toList.drop k) (by omega); omega
                have HE := hid (enc_of (c := 4) (k := k) (txt_ex s k n 4 1 rfl h2m hnk))
                have CT1 := fun u => token_any s (.func (.func 33) #[] #[]) 4 1 k n u hs8 (by omega) h2m hnk
                obtain ⟨r, hr⟩ : ∃ r, r = k + n + gl (s.data.toList.drop (k + n)) := ⟨_, rfl⟩
                rw [← hr] at CK1 HN0 hrk
                obtain ⟨x, hx⟩ : ∃ x, x = s.extract (k + 1) (k + n - 1) := ⟨_, rfl⟩
                rw [← hx] at CT1 HE
                have HN := hid HN0
                have CT2 : ∀ u, Calls Tryd.prog 24 #[.agg #[.int .i64 4, .func (.func 33) #[] #[], .int .i64 1], .string s, .int .i64 k, .int .i64 n] u fun e w' => e = .returned (.agg #[.int .i64 4, .string x, .int .i64 k]) ∧ Below u.heap.size u w' := CT1
                have CT := hid CT2
                have CK2 : ∀ u, Calls Tryd.prog 23 #[.string s, .int .i64 ((k : Int) + (n : Int))] u fun e w' => e = .returned (.int .i64 (r : Int)) ∧ u = w' := CK1
                have CK3 := hid CK2
                have hkr : k < r := by omega
                clear CK1 HN0 CT1 hr hx htk hn h2m CT2 CK2
                go_wp2_with fail
                refine (CT.out _).mono ?_
                rintro e w2 ⟨rfl, hb2⟩
                have HB2 := hid (bt HB1.out hb2)
                have hrow2 := own_below hrow HB2.out
                have hsz2 := HB2.out.size
                have HBw2 := hid (bt hB HB2.out)
                clear hb2
                go_wp2_with (at_builtin; refine wpList_append_own _ rfl _ _ 24 rfl (w.heap.size + 1) 31 i0 (.agg #[.int .i64 0, .string ⟨#[]⟩, .int .i64 0]) 3 32 Tryd.underlying24 HI.out.1 HI.out.2.1 HI.out.2.2.1 HI.out.2.2.2 rfl (by decide) _ _ _ rfl (hrow2.alloc _) ⟨w2.heap.size, 0, none⟩ 1 1 [.int .i64 4, .string x, .int .i64 k] rfl rfl (cell_three_new _ _ _ _ _) (by simp [Value.oneCell']) (by unfold maxLen; omega) (by omega) (by simp; omega) ?_; intro v3 w3 hrow3 hg3 _)
                have HB3 := hid (grow_below HBw2.out (Nat.le_succ _) hrow2 hg3)
                have HK3 : Hid (w3.heap[w.heap.size]? = some kindsBlk) := by
                  have h1 := blk_to hK.out HB2.out
                  have hlt1 := (Array.getElem?_eq_some_iff.1 h1).1
                  have h2 := hg3.block w.heap.size (by simp; omega) (by
                    intro e
                    have := (hrow2.lt _ e.symm).1
                    omega)
                  rw [(b0 w2 _).block _ hlt1] at h2
                  exact h2.trans h1
                have hsz3 : w.heap.size + 1 ≤ w3.heap.size := by
                  have := hg3.size
                  simp at this
                  omega
                have hrow3' := row_snoc hrow3 HE.out
                clear hrow2 hg3
                refine (CK3.out _).mono ?_
                rintro e w4 ⟨rfl, rfl⟩
                go_wp2
                go_roundg (s.size - r)
                case measure => omega
                case rel => exact ⟨r, _, by omega, rfl, HN, hrow3', HK3, HB3.out, hsz3⟩
              · have HNo : Hid (noKind (s.data.toList.drop k) 4) := noKind_4 hno.out (by omega)
                have h00 : n = 0 := by omega
                subst h00
                clear h0 hn
                go_wp2
                go_roundg 0
                case measure => omega
                case rel => exact ⟨4, by omega, by first | rfl | simp, rfl, rfl, HNo, own_below hrow HB1.out, blk_to hK.out HB1.out, bt hB HB1.out, by have := HB1.out.size; omega⟩
            · have HR : Hid (lexR s.data.toList = ([], 30, (k : Int))) := by
                have h1 := hA.out.wrong hkl (by omega) (tok_none hno.out)
                show _ = _
                rw [lexR_err (by rw [s_len]; exact hs8) (by rw [h1]; exact (show ¬ (30 : Int) = 0 by decide)), h1]
              go_wp2
              rw [Exit.noGoto_ret]
              go_ret3
              exact LexPost.mk HR.out (World.ownsRow_nil _ _ _ _) hB
      · have HR : Hid (lexR s.data.toList = (ts, 0, -1)) := by
          have h1 := hA.out.fin (by rw [s_len]; omega)
          show _ = _
          rw [lexR_ok (by rw [s_len]; exact hs8) (by rw [h1]), h1]
        clear hcnt
        go_wp2
        try rw [Exit.noGoto_ret]
        go_ret3
        exact LexPost.mk HR.out hrow hB

end Lx
end Go.Proofs.YtdhemkcbaoebcaaDoor
