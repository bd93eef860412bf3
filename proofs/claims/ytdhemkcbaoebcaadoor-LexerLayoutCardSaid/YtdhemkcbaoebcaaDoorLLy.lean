/-
  The walk of LexerLayout.
-/
import Derived.Test.YtdhemkcbaoebcaaDoorLPr
import Derived.Test.YtdhemkcbaoebcaaDoorLMr
namespace Go.Proofs.YtdhemkcbaoebcaaDoor
open Go.RowKit
namespace Lx

def posT (G : Nat → List UInt8) (ts : List Tk) (i : Nat) : Nat := (layT G 0 (ts.take i)).length + (G i).length
def posV (G : Nat → List UInt8) (ts : List Tk) (n : Nat) : List Value := (List.range n).map fun i => .int .i64 (posT G ts i : Int)
theorem posV_len (G : Nat → List UInt8) (ts : List Tk) (n : Nat) : (posV G ts n).length = n := by simp [posV]
theorem posV_succ (G : Nat → List UInt8) (ts : List Tk) (n : Nat) : posV G ts (n + 1) = posV G ts n ++ [.int .i64 (posT G ts n : Int)] := by simp [posV, List.range_succ]
theorem posV_at (G : Nat → List UInt8) (ts : List Tk) (n i : Nat) (h : i < n) : (posV G ts n)[i]? = some (.int .i64 (posT G ts i : Int)) := by simp [posV, h]
theorem layT_snoc (G : Nat → List UInt8) (ts : List Tk) (i : Nat) (h : i < ts.length) : layT G 0 (ts.take (i + 1)) = layT G 0 (ts.take i) ++ G i ++ src ts[i] := by
  rw [List.take_succ_eq_append_getElem h, layT_append, List.length_take, Nat.min_eq_left (by omega), Nat.zero_add]
  simp [layT]
theorem infoInt : (Tryd.prog.info? 3).map (fun i => (i.zero, i.size, i.bytes)) = some (some (.int .i64 0), 1, 8) := by kernel_rfl

/-- The bytes that came in. -/
structure Bytes (w : World) (p : Option Addr) (zs : List Int) : Prop where
  cells : 0 < zs.length → ∃ b o, p = some ⟨b, o, none⟩ ∧ b < w.heap.size ∧ ∀ i, i < zs.length → w.cell? ⟨b, o + i, none⟩ = some (.int .u8 (zs.getD i 0))
  range : ∀ i, 0 ≤ zs.getD i 0 ∧ zs.getD i 0 ≤ 255
  len : zs.length ≤ maxLen
theorem Bytes.on {w w' : World} {p : Option Addr} {zs : List Int} (h : Bytes w p zs) (hb : Below w.heap.size w w') : Bytes w' p zs :=
  ⟨fun h0 => by
    obtain ⟨b, o, hp, hlt, hc⟩ := h.cells h0
    exact ⟨b, o, hp, Nat.lt_of_lt_of_le hlt hb.size, fun i hi => (hb.cell (p := (⟨b, o + i, none⟩ : Addr)) hlt).trans (hc i hi)⟩, h.range, h.len⟩
/-- The gap ahead of a token. -/
def gk (zs : List Int) (i : Nat) : Nat := if i < zs.length then (zs.getD i 0).toNat else i
def gapOf (zs : List Int) (i : Nat) : List UInt8 := rgaps.getD (gk zs i % 6) []
theorem gapOf_good (zs : List Int) (i : Nat) : GoodGap (gapOf zs i) := rgaps_good _ (by omega)
theorem gapOf_len (zs : List Int) (i : Nat) : (gapOf zs i).length ≤ 14 := rgaps_len _
theorem app2 (a b : ByteArray) : (a ++ b).data.toList = a.data.toList ++ b.data.toList := by simp
theorem size_of {x : ByteArray} {l : List UInt8} (h : x.data.toList = l) : x.size = l.length := by rw [← h, s_len]
theorem one_below {w0 w w1 : World} {v : Value} {n : Nat} {e : TypeId} {xs : List Value} {o : Obj} (hB : Below w0.heap.size w0 w) (hrow : w.ownsRow w0.heap.size e 1 v n xs) (hg : (w.alloc o).grownBy w1 v.ownBlock) : Below w0.heap.size w0 w1 :=
  (hB.alloc hB.size o).grown hg (by have := hB.size; simp; omega) (fun k e => (hrow.lt k e).1)

theorem own_cell {w : World} {B : Nat} {e : TypeId} {p : Option Addr} {n cap : Nat} {xs : List Value} (h : w.ownsRow B e 1 (.slice p n cap) n xs) {i : Nat} (hi : i < n) :
    ∃ g, p = some ⟨g, 0, none⟩ ∧ g < w.heap.size ∧ w.cell? ⟨g, i, none⟩ = xs[i]? := by
  rcases h.2 with ⟨h0, _⟩ | ⟨g, cap', cur, h0, hb, hg, _⟩
  · cases h0; omega
  · cases h0
    exact ⟨g, rfl, (Array.getElem?_eq_some_iff.1 hg).1, h.cellAt i (by omega)⟩
theorem lay_at {G : Nat → List UInt8} {ts us : List Tk} (h : us = layR G 0 0 ts) (i : Nat) (hi : i < ts.length) (hi' : i < us.length) : us[i].k = ts[i].k ∧ us[i].t = ts[i].t ∧ us[i].p = posT G ts i := by
  subst h
  rw [layR_at _ _ _ _ _ hi]
  refine ⟨rfl, rfl, ?_⟩
  unfold posT
  simp only [Nat.zero_add]

set_option maxRecDepth 100000 in
set_option maxHeartbeats 16000000 in
theorem lawLy_any (s : ByteArray) (pz : Option Addr) (cz : Nat) (zs : List Int) (w : World) (hs : s.size ≤ maxLen) (hZ : Bytes w pz zs) (hT : Syms w) :
    Calls Tryd.prog 5 #[.string s, .slice pz zs.length cz] w fun e w' => e = .returned (.bool true) ∧ Below w.heap.size w w' := by
  have CH := hid (head_any w hT)
  have HT := hid hT
  have HZ := hid hZ
  have hzl := hZ.len
  unfold maxLen at hzl
  have CM := small_any s
  clear hT hZ
  by_cases h81 : s.size ≤ 8100
  · rw [decide_eq_true h81] at CM
    have CMh := hid CM
    clear CM
    have HS := hid hs
    have early : ∀ (E P : Int) (ts : List Tk), lexR s.data.toList = (ts, E, P) → E ≠ 0 → Calls Tryd.prog 5 #[.string s, .slice pz zs.length cz] w fun e w' => e = .returned (.bool true) ∧ Below w.heap.size w w' := by
      intro E P ts hR hE
      have CL := hid (fun u (h : Syms u) => lex_c s u HS.out h hR)
      have e1 : ((E : Int) != 0) = true := by simp [hE]
      clear hR hE
      go_enter Tryd.func5, Tryd.ntmps5
      go_wp2_with fail
      refine CH.out.mono ?_
      rintro e w1 ⟨rfl, hb1⟩
      go_wp2_with fail
      refine (CMh.out _).mono ?_
      rintro e w1' ⟨rfl, rfl⟩
      go_wp2_with fail
      refine (CL.out _ (HT.out.below hb1)).mono ?_
      rintro e w2 ⟨p, cap, rfl, hr, hb'⟩
      have hb2 := bt hb1 hb'
      clear hb' hr
      go_wp2
      go_ret
      exact ⟨rfl, hb2⟩
    rcases lexR_ways s.data.toList with ⟨-, hR⟩ | ⟨hsl, h0, hR⟩ | ⟨-, er, j, he, hj, h10, h0, hR⟩
    · exact early 2 8000 [] hR (by decide)
    · clear early
      obtain ⟨ts, hts⟩ : ∃ ts, ts = (lexL s.data.toList 0 0).1 := ⟨_, rfl⟩
      have hL : lexL s.data.toList 0 0 = (ts, 0, -1) := by rw [hts, ← h0]
      have hRR := hR.trans hL
      have hcnt := (lex_count s.data.toList 0 0).1 (by omega)
      rw [hL] at hcnt
      simp only [Nat.zero_add] at hcnt
      have hcov := cov_top (l := s.data.toList) (by rw [hL])
      rw [hL] at hcov
      have HCe := hid (cov_end s.data.toList ts 0 hcov)
      have HG := hid (cov_good s.data.toList ts 0 hcov)
      have CL := hid (fun u (h : Syms u) => lex_c s u HS.out h hRR)
      have CGs := hid gaps_any
      obtain ⟨i0, hi, hz0, hz1, hz2⟩ := info_parts infoInt
      have HI := hid (And.intro hi (And.intro hz0 (And.intro hz1 hz2)))
      clear hR h0 hL hRR hts hcov hs hsl hi hz0 hz1 hz2
      go_enter Tryd.func5, Tryd.ntmps5
      go_wp2_with fail
      refine CH.out.mono ?_
      rintro e w1 ⟨rfl, hb1⟩
      go_wp2_with fail
      refine (CMh.out _).mono ?_
      rintro e w1' ⟨rfl, rfl⟩
      go_wp2_with fail
      refine (CL.out _ (HT.out.below hb1)).mono ?_
      rintro e w2 ⟨p, cap, rfl, hr, hb'⟩
      have hb2 := bt hb1 hb'
      clear hb'
      go_wp2_with fail
      refine (CGs.out _).mono ?_
      rintro e w3 ⟨rfl, hw3⟩
      have hgb : w3.heap[w2.heap.size]? = some gapsBlk := by rw [hw3]; exact heap_new w2 _
      have hb23 : Below w2.heap.size w2 w3 := by rw [hw3]; exact b0 w2 _
      have hg3 : w2.heap.size < w3.heap.size := by rw [hw3]; simp
      clear hw3
      have hb3 := bt hb2 hb23
      have hr := hid (hr.out.on hb23)
      have HZ3 := hid (HZ.out.on hb3)
      have HGC := hid (gaps_cell hgb)
      clear hgb hb23
      go_wp2
      go_loopw [10, 11, 12] (fun tx v i wr => ∃ (k : Nat) (T : ByteArray), k ≤ ts.length ∧ i = .int .i64 k ∧ tx = .string T ∧ Hid (T.data.toList = layT (gapOf zs) 0 (ts.take k)) ∧ T.size ≤ k * 220 ∧ wr.ownsRow w3.heap.size 3 1 v k (posV (gapOf zs) ts k) ∧ Below w3.heap.size w3 wr) (fun _ _ i _ => ts.length - (intOf i).toNat)
      case atStart => exact ⟨0, ⟨#[]⟩, Nat.zero_le _, rfl, rfl, rfl, Nat.le_refl 0, World.ownsRow_nil _ _ _ _, Below.refl _ _⟩
      case round =>
        obtain ⟨k, T, hk, rfl, rfl, hTl, hTz, hrow, hbr⟩ := hrel
        obtain ⟨pv, cv, rfl⟩ := own_form hrow
        by_cases hlt : k < ts.length
        · obtain ⟨g, rfl, hg, c0, c1, c2⟩ := hr.out.at hlt
          obtain ⟨he1, he2⟩ := HCe.out k hlt
          obtain ⟨X, hX⟩ : ∃ X : ByteArray, X = ⟨(ts[k].t).toArray⟩ := ⟨_, rfl⟩
          have hXl : X.data.toList = ts[k].t := by rw [hX]
          have hZz := src_size hX
          have hZl : (srcS ts[k].k X).data.toList = src ts[k] := by rw [hX, srcS_list]
          have hXs : X.size ≤ 202 := by
            have h7 : (src ts[k]).length ≥ ts[k].t.length := by
              unfold src; split
              · simp; omega
              · exact Nat.le_refl _
            rw [← hXl, s_len] at h7
            omega
          have CSr := fun u => source_any ts[k].k ts[k].p X u (by omega)
          obtain ⟨P, hP⟩ : ∃ P, P = ts[k].p := ⟨_, rfl⟩
          obtain ⟨K, hK⟩ : ∃ K, K = ts[k].k := ⟨_, rfl⟩
          obtain ⟨Z, hZe⟩ : ∃ Z, Z = srcS ts[k].k X := ⟨_, rfl⟩
          rw [← hZe] at hZz CSr hZl
          rw [← hX] at c1
          rw [← hP] at c2 CSr
          rw [← hK] at c0 CSr
          have CSh := hid CSr
          have hZ202 : Z.size ≤ 202 := by omega
          obtain ⟨q, hq⟩ : ∃ q, q = gk zs k % 6 := ⟨_, rfl⟩
          have hq6 : q < 6 := by omega
          obtain ⟨y, hy⟩ : ∃ y : ByteArray, y = ⟨(gapOf zs k).toArray⟩ := ⟨_, rfl⟩
          have hyl : y.data.toList = gapOf zs k := by rw [hy]
          have hyz : y.size ≤ 14 := by rw [size_of hyl]; exact gapOf_len zs k
          have hgc := HGC.out q hq6
          rw [show rgaps.getD q [] = gapOf zs k by rw [hq]; rfl, ← hy] at hgc
          have hgcr := (hbr.cell (p := (⟨w2.heap.size, q, none⟩ : Addr)) hg3).trans hgc
          have e0 := (hbr.cell (p := (⟨g, k * 3, none⟩ : Addr)) hg).trans c0
          have e1 := (hbr.cell (p := (⟨g, k * 3 + 1, none⟩ : Addr)) hg).trans c1
          have e2 := (hbr.cell (p := (⟨g, k * 3 + 2, none⟩ : Addr)) hg).trans c2
          have hnext : Hid (T.data.toList ++ y.data.toList ++ Z.data.toList = layT (gapOf zs) 0 (ts.take (k + 1))) := by
            show _ = _
            rw [layT_snoc _ _ _ hlt, hTl.out, hyl, hZl]
          have hpos : Hid (posT (gapOf zs) ts k = T.size + y.size) := by
            show _ = _
            unfold posT
            rw [size_of hTl.out, size_of hyl]
          have hi0 : 0 ≤ (k : Int) := by omega
          have hi1 : (k : Int) < (ts.length : Int) := by omega
          have hcc1 : ¬ 9223372036854775807 < T.size + y.size := by omega
          have hcc2 : ¬ 9223372036854775807 < T.size + y.size + Z.size := by omega
          have hsz := hbr.size
          have C0 := hid c0
          have C1 := hid c1
          have C2 := hid c2
          clear c0 c1 c2 hX hXl hZz hZl hXs CSr hP hK hZe hy hyl hgc he1 he2
          by_cases hkz : k < zs.length
          · obtain ⟨bz, oz, hpz, hbz, hcz⟩ := HZ3.out.cells (by omega)
            obtain ⟨r0, r1⟩ := HZ3.out.range k
            have hck := (hbr.cell (p := (⟨bz, oz + k, none⟩ : Addr)) hbz).trans (hcz k hkz)
            obtain ⟨z, hzz⟩ : ∃ z, z = zs.getD k 0 := ⟨_, rfl⟩
            have hzq : z % 6 = (q : Int) := by
              rw [hq, hzz]; unfold gk; rw [if_pos hkz]; omega
            rw [← hzz] at hck r0 r1
            subst hpz
            clear hcz hzz hq
            go_wp2_with (at_builtin; refine wpList_append_own _ rfl _ _ 37 rfl w3.heap.size 3 i0 (.int .i64 0) 1 8 Tryd.underlying37 HI.out.1 HI.out.2.1 HI.out.2.2.1 HI.out.2.2.2 rfl (by decide) _ _ _ rfl (hrow.alloc _) ⟨wr.heap.size, 0, none⟩ 1 1 [.int .i64 ((T.size : Int) + (y.size : Int))] rfl rfl (cell_one_new _ _ _) (by simp [Value.oneCell']) (by unfold maxLen; omega) (by omega) (by simp; omega) ?_; intro v4 w4 hrow4 hg4 _; have HB4 := hid (one_below hbr hrow hg4); have f0 := (HB4.out.cell (p := (⟨g, k * 3, none⟩ : Addr)) hg).trans C0.out; have f1 := (HB4.out.cell (p := (⟨g, k * 3 + 1, none⟩ : Addr)) hg).trans C1.out; have f2 := (HB4.out.cell (p := (⟨g, k * 3 + 2, none⟩ : Addr)) hg).trans C2.out)
            have h4 := hg4.size
            simp at h4
            have hrow5 : Hid (w4.ownsRow w3.heap.size 3 1 v4 (k + 1) (posV (gapOf zs) ts (k + 1))) := by
              show World.ownsRow _ _ _ _ _ _ _
              rw [posV_succ, hpos.out]
              rw [show ((T.size + y.size : Nat) : Int) = (T.size : Int) + (y.size : Int) by omega]
              exact hrow4
            clear hrow hg4 hrow4 h4
            refine (CSh.out _).mono ?_
            rintro e w5 ⟨rfl, hb'⟩
            have hrow6 := own_below hrow5.out hb'
            have hb6 := bt HB4.out hb'
            clear hb' f0 f1 f2
            go_wp2
            go_roundw
            case rel => exact ⟨k + 1, T ++ y ++ Z, by omega, by go_num, rfl, by show _ = _; rw [app2, app2]; exact hnext.out, by rw [ByteArray.size_append, ByteArray.size_append]; omega, hrow6, hb6⟩
            case measure => simp [intOf]; omega
          · have hzq : (k : Int) % 6 = (q : Int) := by
              rw [hq]; unfold gk; rw [if_neg hkz]; omega
            clear hq
            go_wp2_with (at_builtin; refine wpList_append_own _ rfl _ _ 37 rfl w3.heap.size 3 i0 (.int .i64 0) 1 8 Tryd.underlying37 HI.out.1 HI.out.2.1 HI.out.2.2.1 HI.out.2.2.2 rfl (by decide) _ _ _ rfl (hrow.alloc _) ⟨wr.heap.size, 0, none⟩ 1 1 [.int .i64 ((T.size : Int) + (y.size : Int))] rfl rfl (cell_one_new _ _ _) (by simp [Value.oneCell']) (by unfold maxLen; omega) (by omega) (by simp; omega) ?_; intro v4 w4 hrow4 hg4 _; have HB4 := hid (one_below hbr hrow hg4); have f0 := (HB4.out.cell (p := (⟨g, k * 3, none⟩ : Addr)) hg).trans C0.out; have f1 := (HB4.out.cell (p := (⟨g, k * 3 + 1, none⟩ : Addr)) hg).trans C1.out; have f2 := (HB4.out.cell (p := (⟨g, k * 3 + 2, none⟩ : Addr)) hg).trans C2.out)
            have h4 := hg4.size
            simp at h4
            have hrow5 : Hid (w4.ownsRow w3.heap.size 3 1 v4 (k + 1) (posV (gapOf zs) ts (k + 1))) := by
              show World.ownsRow _ _ _ _ _ _ _
              rw [posV_succ, hpos.out]
              rw [show ((T.size + y.size : Nat) : Int) = (T.size : Int) + (y.size : Int) by omega]
              exact hrow4
            clear hrow hg4 hrow4 h4
            refine (CSh.out _).mono ?_
            rintro e w5 ⟨rfl, hb'⟩
            have hrow6 := own_below hrow5.out hb'
            have hb6 := bt HB4.out hb'
            clear hb' f0 f1 f2
            go_wp2
            go_roundw
            case rel => exact ⟨k + 1, T ++ y ++ Z, by omega, by go_num, rfl, by show _ = _; rw [app2, app2]; exact hnext.out, by rw [ByteArray.size_append, ByteArray.size_append]; omega, hrow6, hb6⟩
            case measure => simp [intOf]; omega
        · obtain rfl : k = ts.length := by omega
          have hTl2 : T.data.toList = layT (gapOf zs) 0 ts := by have := hTl.out; rwa [List.take_length] at this
          have hTs : T.size ≤ maxLen := by unfold maxLen; omega
          have hbw := hid (bt hb3 hbr)
          by_cases h8 : 8000 < T.size
          · have u8 : decide (8000 < (T.size : Int)) = true := by rw [decide_eq_true_eq]; omega
            clear hTl2 hTl hTs h8
            go_wp2
            go_ret
            exact ⟨rfl, hbw.out⟩
          · have u8 : decide (8000 < (T.size : Int)) = false := by rw [decide_eq_false_iff_not]; omega
            have hlay := lay_lex (gapOf zs) (gapOf_good zs) ts 0 0 0 HG.out (by omega)
            have hRT := lexR_of (by rw [← hTl2, s_len]; omega) hlay
            rw [← hTl2] at hRT
            obtain ⟨us, hus⟩ : ∃ us, us = layR (gapOf zs) 0 0 ts := ⟨_, rfl⟩
            rw [← hus] at hRT
            have CT := hid (fun u (h : Syms u) => lex_c T u hTs h hRT)
            have hul : us.length = ts.length := by rw [hus, layR_len]
            have HU := hid (lay_at hus)
            have hrow2 := hid hrow
            clear hTl2 hTl hTs h8 hlay hRT hus hrow
            go_wp2_with fail
            refine (CT.out _ (HT.out.below hbw.out)).mono ?_
            rintro e w5 ⟨p5, cap5, rfl, hr5, hb'⟩
            have hb5 := bt hbw.out hb'
            have hrow5 := hid (own_below hrow2.out hb')
            have hr6 := hid ((hr.out.on hbr).on hb')
            clear hb' hrow2
            have CAl := hid (alike_any _ _ ts us w5 hr6.out hr5.out ⟨hul, fun i h h' => ⟨(HU.out i h h').1, (HU.out i h h').2.1⟩⟩ hcnt)
            rw [hul] at CAl
            rw [hul]
            have HUL := hid hul
            clear hr6
            have hr5 := hid hr5.out
            go_wp2_with fail
            refine CAl.out.mono ?_
            rintro e w6 ⟨rfl, hb'⟩
            have hb6 := hid (bt hb5 hb')
            have hrow6 := hid (own_below hrow5.out hb')
            have hr6 := hid (hr5.out.on hb')
            clear hb' hrow5
            go_wp2
            go_loopw [17] (fun i wr => ∃ k : Nat, k ≤ ts.length ∧ i = .int .i64 k ∧ Below w6.heap.size w6 wr) (fun i _ => ts.length - (intOf i).toNat)
            case atStart => exact ⟨0, Nat.zero_le _, rfl, Below.refl _ _⟩
            case round =>
              obtain ⟨q, hq, rfl, hbq⟩ := hrel
              by_cases hql : q < ts.length
              · have hqu : q < us.length := by have := HUL.out; omega
                obtain ⟨g5, rfl, hg5, -, -, c2⟩ := hr6.out.at hqu
                obtain ⟨ga, rfl, hga, ca⟩ := own_cell hrow6.out hql
                rw [(HU.out q hql hqu).2.2] at c2
                rw [posV_at _ _ _ _ hql] at ca
                have e2 := (hbq.cell (p := (⟨g5, q * 3 + 2, none⟩ : Addr)) hg5).trans c2
                have ea := (hbq.cell (p := (⟨ga, q, none⟩ : Addr)) hga).trans ca
                obtain ⟨x, hx⟩ : ∃ x : Int, x = (posT (gapOf zs) ts q : Int) := ⟨_, rfl⟩
                rw [← hx] at e2 ea
                have hq0 : 0 ≤ (q : Int) := by omega
                have hq1 : (q : Int) < (ts.length : Int) := by omega
                clear c2 ca hx
                go_wp2
                go_quiet (fail)
                clear e2 ea
                go_wp2
                go_roundw
                case rel => exact ⟨q + 1, by omega, by go_num, below_drewN hbq _⟩
                case measure => simp [intOf]; omega
              · go_wp2
                go_ret
                exact ⟨rfl, bt hb6.out hbq⟩
    · exact early er j [] hR (by omega)
  · rw [decide_eq_false h81] at CM
    have CMh := hid CM
    clear CM
    go_enter Tryd.func5, Tryd.ntmps5
    go_wp2_with fail
    refine CH.out.mono ?_
    rintro e w1 ⟨rfl, hb1⟩
    go_wp2_with fail
    refine (CMh.out _).mono ?_
    rintro e w1' ⟨rfl, rfl⟩
    go_wp2
    go_ret
    exact ⟨rfl, hb1⟩

end Lx
end Go.Proofs.YtdhemkcbaoebcaaDoor
