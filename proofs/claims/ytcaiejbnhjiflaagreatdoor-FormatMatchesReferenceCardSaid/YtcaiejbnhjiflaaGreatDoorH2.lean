/-
  The contract of head: the check at the beginning of each law comes out true.
-/
import Derived.Test.YtcaiejbnhjiflaaGreatDoorH1
import Derived.Test.YtcaiejbnhjiflaaGreatDoorW13
namespace Go.Proofs.YtcaiejbnhjiflaaGreatDoor
open Go.RowKit Go.ChangeMaps
namespace Fm

theorem isW_lit {w : World} {b : Nat} {cs : Array Value} {ty : TypeId} {fz : Nat × Nat} (h : w.heap[b]? = some (.cells cs ty fz)) {ls : List W} (hc : cs.toList = ls.map sV) : IsW w (.slice (some ⟨b, 0, none⟩) ls.length ls.length) ls :=
  ⟨_, _, rfl, by unfold RdW; rw [← hc]; exact SlR.of_block h (by rw [← Array.length_toList, hc, List.length_map, Nat.mul_one])⟩
theorem encAs_len (rs : List Ad) : (encAs rs).length = rs.length * 5 := by
  induction rs with
  | nil => rfl
  | cons a rs ih =>
    have e0 : encAs (a :: rs) = encA a ++ encAs rs := rfl
    have el : (encA a).length = 5 := rfl
    rw [e0, List.length_append, ih, List.length_cons]; omega
theorem isA_lit {w : World} {b : Nat} {cs : Array Value} {ty : TypeId} {fz : Nat × Nat} (h : w.heap[b]? = some (.cells cs ty fz)) {rs : List Ad} (hc : cs.toList = encAs rs) : IsA w (.slice (some ⟨b, 0, none⟩) rs.length rs.length) rs :=
  ⟨_, _, rfl, by rw [← hc]; exact SlR.of_block h (by rw [← Array.length_toList, hc, encAs_len])⟩
theorem info3 : parseR plainN plainF lns1 = ([wantA], 0) := head_1

theorem isW_new (u : World) {cs : Array Value} {ty : TypeId} {ls : List W} {b n : Nat} (hb : b = u.heap.size) (hn : n = ls.length) (hc : cs.toList = ls.map sV) : IsW (u.alloc (.cells cs ty)) (.slice (some ⟨b, 0, none⟩) n n) ls := by
  subst hb hn; exact isW_lit (heap_new _ _) hc
theorem isA_new (u : World) {cs : Array Value} {ty : TypeId} {rs : List Ad} {b n : Nat} (hb : b = u.heap.size) (hn : n = rs.length) (hc : cs.toList = encAs rs) : IsA (u.alloc (.cells cs ty)) (.slice (some ⟨b, 0, none⟩) n n) rs := by
  subst hb hn; exact isA_lit (heap_new _ _) hc
/-- What head knows of a world. -/
structure Hs (w0 : World) (B : Nat) (A : Option Addr) (cap : Nat) (w : World) : Prop where
  fmt : w.heap[B]? = some (.cells #[.string (sB plainN), .slice A 3 cap] 24 (0, 0))
  xb : XB w (B + 1) wantA
  isp : IsPs w (.slice A 3 cap) plainF
  bel : Below w0.heap.size w0 w
section
variable {w0 w w' : World} {B : Nat} {A : Option Addr} {cap : Nat}
theorem Hs.on (h : Hs w0 B A cap w) (hb : Below w.heap.size w w') : Hs w0 B A cap w' := ⟨(hb.block _ (heap_lt h.fmt)).trans h.fmt, h.xb.on hb, h.isp.on hb, bt h.bel hb⟩
theorem Hs.lt (h : Hs w0 B A cap w) : B + 1 < w.heap.size := heap_lt h.xb
theorem Hs.al (h : Hs w0 B A cap w) (o : Obj) : Hs w0 B A cap (w.alloc o) := h.on (b0 _ _)
theorem Hs.cells (h : Hs w0 B A cap w) : w.cell? ⟨B, 0, none⟩ = some (.string (sB plainN)) ∧ w.cell? ⟨B, 1, none⟩ = some (.slice A 3 cap) := by
  have := h.fmt
  constructor <;> simp [World.cell?, this]
end

set_option maxRecDepth 100000 in
set_option maxHeartbeats 16000000 in
theorem head_any (w : World) (hT : Tab w) : Calls Tryz.prog 10 #[] w fun e w' => e = .returned (.bool true) ∧ Below w.heap.size w w' := by
  have HT := hid hT
  clear hT
  go_enter Tryz.func10, Tryz.ntmps10
  go_wp2_with fail
  refine (example_any _).mono ?_
  rintro e w1 ⟨fv, rfl, hF, hb1⟩
  obtain ⟨A, cap, fvs, hfv, -⟩ := id hF.out
  have hfv3 : fv = .slice A 3 cap := hfv
  clear hfv
  subst hfv3
  have HB1 := hid hb1
  clear hb1
  have hS1 : Hid (Hs w w1.heap.size A cap ((w1.alloc (.cells #[.string (sB plainN), .slice A 3 cap] 24)).alloc (.cells #[.string (sB wantA.person), .string (sB wantA.street), .int .i64 12, .string (sB wantA.code), .string (sB wantA.town)] 27))) := ⟨by rw [Below.heap_alloc _ _ _ (by simp)]; exact heap_new _ _, by unfold XB; rw [hpk, if_pos (World.size_alloc w1 _).symm]; rfl, (hF.out.on (b0 _ _)).on (b0 _ _), bt (bt HB1.out (b0 _ _)) (b0 _ _)⟩
  clear hF
  go_wp2_with fail
  have hS2 := hid (hS1.out.al (.cells #[.string (sB lns1[0]), .string (sB lns1[1]), .string (sB lns1[2])] 9))
  refine (parse_any plainN plainF (.slice A 3 cap) lns1 (.slice (some ⟨w1.heap.size + 1 + 1, 0, none⟩) 3 3) _ hS2.out.isp (isW_new _ (by rw [World.size_alloc, World.size_alloc]) rfl rfl) (by decide) (by decide) head_1).mono ?_
  rintro e w3 ⟨va, rfl, hA, hb3⟩
  obtain ⟨aA, acap, rfl, -⟩ := id hA.out
  have hS3 := hid (hS2.out.on hb3)
  obtain ⟨c0, c1⟩ := hS3.out.cells
  have hl3 := hS3.out.lt
  have hl3' : w1.heap.size < w3.heap.size := by omega
  clear hb3 hS2 hS1
  go_wp2_with fail
  have hS4 := hid (hS3.out.al (.cells #[.string (sB lns2[0]), .string (sB lns2[1]), .string (sB lns2[2])] 9))
  refine (parse_any plainN plainF (.slice A 3 cap) lns2 (.slice (some ⟨w3.heap.size, 0, none⟩) 3 3) _ hS4.out.isp (isW_new _ rfl rfl rfl) (by decide) (by decide) head_2).mono ?_
  rintro e w5 ⟨vb, rfl, hB, hb5⟩
  obtain ⟨bA, bcap, rfl, -⟩ := id hB.out
  have hA5 := hid ((hA.out.on (b0 _ _)).on hb5)
  have hS5 := hid (hS4.out.on hb5)
  obtain ⟨d0, d1⟩ := hS5.out.cells
  obtain ⟨x0, x1, x2, x3, x4⟩ := hS5.out.xb.cell
  have hl5 := hS5.out.lt
  have hl5' : w1.heap.size < w5.heap.size := by omega
  clear hb5 hS3 hS4 hA hB c0 c1 hl3 hl3'
  go_wp2_with fail
  refine (print_any plainN plainF (.slice A 3 cap) wantA _ hS5.out.isp ⟨by decide, by decide, by decide, by decide, by decide, by decide⟩ (tab_on HT.out hS5.out.bel) head_3).mono ?_
  rintro e w6 ⟨vc, rfl, hC, hb6⟩
  obtain ⟨cA, ccap, rfl, -⟩ := id hC.out
  have hA6 := hid (hA5.out.on hb6)
  have hS6 := hid (hS5.out.on hb6)
  clear hb6 hS5 hA5 d0 d1 x0 x1 x2 x3 x4 hl5 hl5'
  go_wp2_with fail
  refine (divided_any _).mono ?_
  rintro e w7 ⟨fv, rfl, hG, hb7⟩
  obtain ⟨gA, gcap, gvs, hgv, -⟩ := id hG.out
  have hgv3 : fv = .slice gA 1 gcap := hgv
  clear hgv
  subst hgv3
  have hA7 := hid (hA6.out.on hb7)
  have hC7 := hid (hC.out.on hb7)
  have hS7 := hid (hS6.out.on hb7)
  clear hb7 hS6 hA6 hC
  go_wp2_with fail
  refine (parse_any flatN flatF (.slice gA 1 gcap) lns4 (.slice (some ⟨w7.heap.size, 0, none⟩) 1 1) _ (hG.out.on (b0 _ _)) (isW_new _ rfl rfl rfl) (by decide) (by decide) head_4).mono ?_
  rintro e w8 ⟨vd, rfl, hD, hb8⟩
  obtain ⟨dA, dcap, rfl, -⟩ := id hD.out
  have hA8 := hid ((hA7.out.on (b0 _ _)).on hb8)
  have hC8 := hid ((hC7.out.on (b0 _ _)).on hb8)
  have hS8 := hid ((hS7.out.al _).on hb8)
  clear hb8 hS7 hA7 hC7 hG
  go_wp2_with fail
  refine (parse_any [] [] (.slice none 0 0) [] (.slice none 0 0) _ ⟨none, 0, [], rfl, SlR.nil _ _, fun i ps hi => by simp at hi⟩ ⟨none, 0, rfl, SlR.nil _ _⟩ (by decide) (by decide) head_5).mono ?_
  rintro e w9 ⟨ve, rfl, -, hb9⟩
  have hA9 := hid (hA8.out.on hb9)
  have hC9 := hid (hC8.out.on hb9)
  have hD9 := hid (hD.out.on hb9)
  have hS9 := hid (hS8.out.on hb9)
  obtain ⟨d0, d1⟩ := hS9.out.cells
  have hl9 := hS9.out.lt
  clear hb9 hS8 hA8 hC8 hD
  go_wp2_with fail
  refine (print_any plainN plainF (.slice A 3 cap) adA _ hS9.out.isp ⟨by decide, by decide, by decide, by decide, by decide, by decide⟩ (tab_on HT.out hS9.out.bel) head_6).mono ?_
  rintro e w10 ⟨vf, rfl, -, hb10⟩
  have hA10 := hid (hA9.out.on hb10)
  have hC10 := hid (hC9.out.on hb10)
  have hD10 := hid (hD9.out.on hb10)
  have hS10 := hid (hS9.out.on hb10)
  obtain ⟨x0, x1, x2, x3, x4⟩ := hS10.out.xb.cell
  have hl10 := hS10.out.lt
  clear hb10 hS9 hA9 hC9 hD9 d0 d1 hl9
  go_wp2_with fail
  refine (rsame_any (.slice aA 1 acap) (.slice (some ⟨w10.heap.size, 0, none⟩) 1 1) [wantA] [wantA] _ (hA10.out.on (b0 _ _)) (isA_new _ rfl rfl rfl) (by decide) (by decide)).mono ?_
  rintro e w11 ⟨rfl, hb11⟩
  rw [decide_eq_true (rfl : [wantA] = [wantA])]
  have hC11 := hid ((hC10.out.on (b0 _ _)).on hb11)
  have hD11 := hid ((hD10.out.on (b0 _ _)).on hb11)
  have hS11 := hid ((hS10.out.al _).on hb11)
  clear hb11 hS10 hA10 hC10 hD10 x0 x1 x2 x3 x4 hl10
  go_wp2_with fail
  refine (rstrings_any (.slice cA lns3.length ccap) (.slice (some ⟨w11.heap.size, 0, none⟩) 3 3) lns3 lns3 _ (hC11.out.on (b0 _ _)) (isW_new _ rfl rfl rfl) (by decide) (by decide)).mono ?_
  rintro e w12 ⟨rfl, hb12⟩
  rw [decide_eq_true (rfl : lns3 = lns3)]
  have hD12 := hid ((hD11.out.on (b0 _ _)).on hb12)
  have hS12 := hid ((hS11.out.al _).on hb12)
  clear hb12 hS11 hC11 hD11
  go_wp2_with fail
  refine (rsame_any (.slice dA 2 dcap) (.slice (some ⟨w12.heap.size, 0, none⟩) 2 2) [ad41, ad42] [ad41, ad42] _ (hD12.out.on (b0 _ _)) (isA_new _ rfl rfl rfl) (by decide) (by decide)).mono ?_
  rintro e w13 ⟨rfl, hb13⟩
  rw [decide_eq_true (rfl : [ad41, ad42] = [ad41, ad42])]
  have hS13 := hid ((hS12.out.al _).on hb13)
  obtain ⟨d0, d1⟩ := hS13.out.cells
  have hl13 := hS13.out.lt
  clear hb13 hS12 hD12
  go_wp2_with fail
  refine (valid_any plainN plainF (.slice A 3 cap) _ hS13.out.isp).mono ?_
  rintro e w14 ⟨rfl, hb14⟩
  rw [head_7]
  have hS14 := hid (hS13.out.on hb14)
  clear hb14 hS13 d0 d1 hl13
  go_wp2_with fail
  refine (words_any ⟨#[9, 97, 32, 32, 98, 32]⟩ _ (by decide)).mono ?_
  rintro e w15 ⟨v, rfl, hw, hb15⟩
  have hW : Hid (IsW w15 v [[97], [98]]) := IsW.of_own hw
  obtain ⟨A2, cap2, rfl, -⟩ := id hW.out
  have hS15 := hid (hS14.out.on hb15)
  clear hb15 hS14 hw
  go_wp2_with fail
  refine (rstrings_any (.slice A2 2 cap2) (.slice (some ⟨w15.heap.size, 0, none⟩) 2 2) [[97], [98]] [[97], [98]] _ (hW.out.on (b0 _ _)) (isW_new _ rfl rfl rfl) (by decide) (by decide)).mono ?_
  rintro e w16 ⟨rfl, hb16⟩
  rw [decide_eq_true (rfl : ([[97], [98]] : List W) = [[97], [98]])]
  have hS16 := hid ((hS15.out.al _).on hb16)
  clear hb16 hS15 hW
  go_wp2
  go_ret
  exact ⟨rfl, hS16.out.bel⟩

end Fm
end Go.Proofs.YtcaiejbnhjiflaaGreatDoor
