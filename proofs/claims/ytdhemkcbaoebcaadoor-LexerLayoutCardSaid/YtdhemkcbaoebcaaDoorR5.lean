/-
  The contract of the document's own Lex.
-/
import Derived.Test.YtdhemkcbaoebcaaDoorR4
import Derived.Test.YtdhemkcbaoebcaaDoorRd
namespace Go.Proofs.YtdhemkcbaoebcaaDoor
open Go.RowKit
namespace Lx

theorem cell_three_two (w : World) (o : Obj) (x y z : Value) (t : TypeId) : ∀ j u, [x, y, z][j]? = some u → ((w.alloc o).alloc (.cells #[x, y, z] t)).cell? ((⟨w.heap.size + 1, 0, none⟩ : Addr).add j) = some u := by
  have h := cell_three_new (w.alloc o) x y z t
  simpa using h

set_option maxRecDepth 100000 in
set_option maxHeartbeats 16000000 in
theorem rlex_any (s : ByteArray) (w : World) (hs : s.size ≤ maxLen) :
    Calls Tryd.prog 13 #[.string s] w (LexPost w.heap.size s.data.toList w) := by
  by_cases h8 : 8000 < s.size
  · have hv := hid (lexR_long (l := s.data.toList) (by rw [s_len]; exact h8))
    unfold maxLen at hs
    go_enter Tryd.func13, Tryd.ntmps13
    go_wp2
    go_ret3
    exact LexPost.mk hv.out (World.ownsRow_nil _ _ _ _) (Below.refl _ _)
  · have HS := hid hs
    have hs8 : s.size ≤ 8000 := by omega
    clear hs h8
    obtain ⟨i0, hi, hz0, hz1, hz2⟩ := info_parts infoTokZ
    have HI := hid (And.intro hi (And.intro hz0 (And.intro hz1 hz2)))
    clear hi hz0 hz1 hz2
    have hle0 := gl_le (s.data.toList.drop 0)
    rw [List.drop_zero, s_len] at hle0
    have CS : ∀ u, Calls Tryd.prog 25 #[.string s, .int .i64 0] u fun e w' => e = .returned (.int .i64 ((gl (s.data.toList.drop 0) : Nat) : Int)) ∧ u = w' := fun u => rgap_any s 0 u HS.out (Nat.zero_le _)
    have HA := hid (At.start s.data.toList)
    obtain ⟨k0, hk0⟩ : ∃ k0, k0 = gl (s.data.toList.drop 0) := ⟨_, rfl⟩
    rw [← hk0, Nat.zero_add] at HA
    rw [← hk0] at CS
    have hk1 : k0 ≤ s.size := by rw [hk0, List.drop_zero]; omega
    have CSh := hid CS
    clear hk0 hle0 CS
    go_enter Tryd.func13, Tryd.ntmps13
    go_wp2_with fail
    refine (CSh.out _).mono ?_
    rintro e w1' ⟨rfl, rfl⟩
    go_wp2
    go_loopg [5, 6] (s.size - k0) (fun g v a wr => ∃ (k : Nat) (ts : List Tk), k + g = s.size ∧ a = .int .i64 k ∧ Hid (At s.data.toList k ts) ∧ wr.ownsRow w.heap.size 31 3 v ts.length (encTs ts) ∧ Below w.heap.size w wr)
    case atStart => exact ⟨k0, [], by omega, rfl, HA.out, World.ownsRow_nil _ _ _ _, Below.refl _ _⟩
    case round =>
      obtain ⟨k, ts, hkg, rfl, hA, hrow, hB⟩ := hrel
      obtain ⟨pv, cv, rfl⟩ := own_form hrow
      have hcnt := hA.out.count
      by_cases hlt : k < s.size
      · have hkl : k < s.data.toList.length := by rw [s_len]; exact hlt
        by_cases h3 : ts.length = 3000
        · have HR : Hid (lexR s.data.toList = ([], 2, (k : Int))) := by
            have h1 := hA.out.many hkl h3
            show _ = _
            rw [lexR_err (by rw [s_len]; exact hs8) (by rw [h1]; exact (show ¬ (2 : Int) = 0 by decide)), h1]
          have hne : ((ts.length : Int) == 3000) = true := by rw [h3]; rfl
          clear h3 hcnt
          go_wp2
          go_ret3
          exact LexPost.mk HR.out (World.ownsRow_nil _ _ _ _) hB
        · have hne : ((ts.length : Int) == 3000) = false := by simp; omega
          have hc2 : ts.length < 3000 := by omega
          clear h3 hcnt
          have CN := fun u => rnext_any (s.extract k s.size) u (Nat.le_trans (ex_size _ _ _) HS.out)
          rw [ex_drop] at CN
          have CNh := hid CN
          obtain ⟨K, hK⟩ : ∃ K, K = (tokL (s.data.toList.drop k)).1 := ⟨_, rfl⟩
          obtain ⟨n, hn⟩ : ∃ n, n = (tokL (s.data.toList.drop k)).2 := ⟨_, rfl⟩
          have HK := hid hK
          have HN := hid hn
          clear CN hK hn
          have hkA : 0 ≤ (k : Int) := by omega
          have hkB : (k : Int) ≤ (s.size : Int) := by omega
          go_wp2_with fail
          refine (CNh.out _).mono ?_
          rintro e w2 ⟨y, hy, rfl, hb'⟩
          rw [← HK.out, ← HN.out]
          have hy1 := hid hy
          have hrow2 := own_below hrow hb'
          have hB2 := bt hB hb'
          clear hy hb' hne
          by_cases h0 : n = 0
          · have HR : Hid (lexR s.data.toList = ([], 30, (k : Int))) := by
              have h1 := hA.out.wrong hkl (by omega) (tok_zero (by rw [← HN.out]; exact h0))
              show _ = _
              rw [lexR_err (by rw [s_len]; exact hs8) (by rw [h1]; exact (show ¬ (30 : Int) = 0 by decide)), h1]
            have e0 : ((n : Int) == 0) = true := by rw [h0]; rfl
            clear h0
            go_wp2
            go_ret3
            exact LexPost.mk HR.out (World.ownsRow_nil _ _ _ _) (bt hB2 (b0 _ _))
          · have e0 : ((n : Int) == 0) = false := by rw [beq_eq_false_iff_ne]; omega
            have htk : tokL (s.data.toList.drop k) = (K, n) := by rw [HK.out, HN.out]
            have hnk : k + n ≤ s.size := by
              have := tok_len (s.data.toList.drop k)
              rw [htk, List.length_drop, s_len] at this
              simp only at this
              omega
            have HN0 := hA.out.next hkl (by omega) htk (by omega)
            have hrk : k + n + gl (s.data.toList.drop (k + n)) ≤ s.size := by
              have := gl_le (s.data.toList.drop (k + n))
              rw [List.length_drop, s_len] at this
              omega
            have HE : Hid (encT ⟨K, txt K ((s.data.toList.drop k).take n), k⟩ = [.int .i64 (K : Int), .string y, .int .i64 (k : Int)]) := by
              have h1 := hy1.out (by rw [← HN.out]; exact h0)
              rw [← HK.out, ← HN.out] at h1
              exact enc_of h1
            have CK1 := fun u => rgap_any s (k + n) u HS.out hnk
            obtain ⟨z, hz⟩ : ∃ z, z = gl (s.data.toList.drop (k + n)) := ⟨_, rfl⟩
            rw [← hz] at CK1 HN0 hrk
            have CK2 : ∀ u, Calls Tryd.prog 25 #[.string s, .int .i64 ((k : Int) + (n : Int))] u fun e w' => e = .returned (.int .i64 (z : Int)) ∧ u = w' := CK1
            have CK3 := hid CK2
            have HAt := hid HN0
            have hkr : 0 < n := by omega
            clear h0 htk HN0 CK1 CK2 hz
            have hsz2 := hB2.size
            go_wp2_with (at_builtin; refine wpList_append_own _ rfl _ _ 24 rfl w.heap.size 31 i0 (.agg #[.int .i64 0, .string ⟨#[]⟩, .int .i64 0]) 3 32 Tryd.underlying24 HI.out.1 HI.out.2.1 HI.out.2.2.1 HI.out.2.2.2 rfl (by decide) _ _ _ rfl ((hrow2.alloc _).alloc _) ⟨w2.heap.size + 1, 0, none⟩ 1 1 [.int .i64 K, .string y, .int .i64 k] rfl rfl (cell_three_two _ _ _ _ _ _) (by simp [Value.oneCell']) (by unfold maxLen; omega) (by omega) (by simp; omega) ?_; intro v3 w3 hrow3 hg3 _)
            have HB3 := hid (grow_below (hB2.alloc hB2.size _) (Nat.le_refl _) (hrow2.alloc _) hg3)
            have hrow3' := row_snoc hrow3 HE.out
            clear hrow2 hg3
            refine (CK3.out _).mono ?_
            rintro e w4 ⟨rfl, rfl⟩
            go_wp2
            go_roundg (s.size - (k + n + z))
            case measure => omega
            case rel => exact ⟨k + n + z, _, by omega, by first | rfl | go_num, HAt, hrow3', HB3.out⟩
      · have HR : Hid (lexR s.data.toList = (ts, 0, -1)) := by
          have h1 := hA.out.fin (by rw [s_len]; omega)
          show _ = _
          rw [lexR_ok (by rw [s_len]; exact hs8) (by rw [h1]), h1]
        clear hcnt
        go_wp2
        go_ret3
        exact LexPost.mk HR.out hrow hB

end Lx
end Go.Proofs.YtdhemkcbaoebcaaDoor
