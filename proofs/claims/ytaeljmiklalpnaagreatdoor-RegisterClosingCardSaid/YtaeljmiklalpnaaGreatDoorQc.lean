/-
  Contracts of Check, streetsAt, At, Name, Find.
-/
import Derived.Test.YtaeljmiklalpnaaGreatDoorFx
namespace Go.Proofs.YtaeljmiklalpnaaGreatDoor
open Go.RowKit Go.ChangeMaps Gn
namespace Rg

def CPost (E at' : Int) (w : World) (e : Ending) (w' : World) : Prop := e = .returned (.tuple #[.int .i64 E, .int .i64 at']) ∧ Below w.heap.size w w'
set_option maxRecDepth 100000 in
set_option maxHeartbeats 1000000 in
theorem pcheck_any (r : List Ch) (st : Nat) (E at' : Int) (rv : Value) (w : World) (hr : IsChs w rv r) (hs : Fol r st E at') (ht : Tb w) :
    Calls Tryz.prog 12 #[rv] w (CPost E at' w) := by
  have C := hid (pfollow_any r st E at' rv w hr hs ht)
  clear hr hs ht
  go_enter Tryz.func12, Tryz.ntmps12
  go_wp2_with fail
  refine C.out.mono ?_
  rintro e w1 ⟨v, vs, rfl, -, hb⟩
  have HB := hid hb
  clear hb
  go_wp2
  go_ret2
  exact ⟨rfl, HB.out⟩

/-! sort.Search at the days of the changes. -/
set_option maxRecDepth 100000 in
set_option maxHeartbeats 1000000 in
theorem pday_ask (r : List Ch) (A : Option Addr) (cap : Nat) (day : Int) (bR bD i : Nat) (c : Ch) (w : World) (hr : SlR w A r.length cap 9 (cellsC r)) (hc : r[i]? = some c) (h1 : w.cell? ⟨bR, 0, none⟩ = some (.slice A r.length cap)) (h2 : w.cell? ⟨bD, 0, none⟩ = some (.int .i64 day)) :
    Calls Tryz.prog 39 #[.int .i64 (i : Int), .pointer (some ⟨bR, 0, none⟩), .pointer (some ⟨bD, 0, none⟩)] w fun e w' => e = .returned (.bool (decide (day < c.day))) ∧ Below w.heap.size w w' := by
  obtain ⟨g, o, rfl, hg, hch⟩ := slr_ch hr hc
  have c0 := hch.c0
  have hi := (List.getElem?_eq_some_iff.1 hc).1
  have hi0 : 0 ≤ (i : Int) := by omega
  have hi1 : (i : Int) < (r.length : Int) := by omega
  have hb : Below w.heap.size w w.drew := (Below.refl _ _).drew
  have HB := hid hb
  obtain ⟨m, hm⟩ : ∃ m, m = r.length := ⟨_, rfl⟩
  rw [← hm] at h1 hi hi1
  clear hr hc hch hb hm
  go_enter Tryz.func39, Tryz.ntmps39
  go_wp2_with fail
  go_still_tail 7, (by kernel_rfl)
  change wpList _ _ _ _ _ w.drew
  go_wp2
  go_ret
  exact ⟨rfl, HB.out⟩

end Rg
end Go.Proofs.YtaeljmiklalpnaaGreatDoor

namespace Go.Proofs.YtaeljmiklalpnaaGreatDoor
open Go.RowKit Go.ChangeMaps Gn
namespace Rg

theorem at_is {r : List Ch} {day : Int} {k : Nat} (hk : k ≤ r.length) (h1 : ∀ (t : Nat) (c : Ch), t < k → r[t]? = some c → c.day ≤ day) (h2 : ∀ (t : Nat) (c : Ch), k ≤ t → r[t]? = some c → day < c.day) : k = atN r day := by
  have hle := atN_le r day
  rcases Nat.lt_trichotomy k (atN r day) with h | h | h
  · have hc : r[k]? = some r[k] := List.getElem?_eq_getElem (by omega)
    have a := h2 k _ (Nat.le_refl _) hc
    have b := atN_lt h hc
    omega
  · exact h
  · have hc : r[atN r day]? = some r[atN r day] := List.getElem?_eq_getElem (by omega)
    have a := h1 _ _ h hc
    have b := atN_stop hc
    omega
set_option maxRecDepth 100000 in
set_option maxHeartbeats 2000000 in
theorem psearch_any (r : List Ch) (A : Option Addr) (cap : Nat) (day : Int) (bR bD : Nat) (w : World) (hs : Sound r) (hr : SlR w A r.length cap 9 (cellsC r)) (h1 : w.cell? ⟨bR, 0, none⟩ = some (.slice A r.length cap)) (h2 : w.cell? ⟨bD, 0, none⟩ = some (.int .i64 day)) :
    Calls Tryz.prog 38 #[.int .i64 (r.length : Int), .func (.func 39) #[] #[.pointer (some ⟨bR, 0, none⟩), .pointer (some ⟨bD, 0, none⟩)]] w fun e w' => e = .returned (.int .i64 ((atN r day : Nat) : Int)) ∧ Below w.heap.size w w' := by
  have hl := hs.few
  have HS := hid hs
  have HR := hid hr
  have H1 := hid h1
  have H2 := hid h2
  have B1 := hid (cell_lt h1)
  have B2 := hid (cell_lt h2)
  obtain ⟨K, hK⟩ : ∃ K, K = atN r day := ⟨_, rfl⟩
  rw [← hK]
  have HK := hid hK
  clear hr hs h1 h2 hK
  obtain ⟨n, hn⟩ : ∃ n, n = r.length := ⟨_, rfl⟩
  rw [← hn] at hl ⊢
  have HN := hid hn
  clear hn
  go_enter Tryz.func38, Tryz.ntmps38
  go_wp2
  go_loopw [5, 6] (fun s5 s6 wr => ∃ lo hi : Nat, s5 = .int .i64 lo ∧ s6 = .int .i64 hi ∧ lo ≤ hi ∧ hi ≤ n ∧ Hid (Below w.heap.size w wr) ∧ Hid ((∀ (t : Nat) (c : Ch), t < lo → r[t]? = some c → c.day ≤ day) ∧ (∀ (t : Nat) (c : Ch), hi ≤ t → r[t]? = some c → day < c.day)))
    (fun s5 s6 _ => (intOf s6 - intOf s5).toNat)
  case atStart => exact ⟨0, n, rfl, rfl, Nat.zero_le _, Nat.le_refl _, Below.refl _ _, ⟨fun t c ht => absurd ht (Nat.not_lt_zero _), fun t c h1 h2 => by have := (List.getElem?_eq_some_iff.1 h2).1; have := HN.out; omega⟩⟩
  case round =>
    obtain ⟨lo, hi, rfl, rfl, hlh, hin, hB, I⟩ := hrel
    by_cases hlt : lo < hi
    · obtain ⟨c, hc⟩ : ∃ c, r[(lo + hi) / 2]? = some c := ⟨_, List.getElem?_eq_getElem (by have := HN.out; omega)⟩
      have HC := hid (pday_ask r A cap day bR bD ((lo + hi) / 2) c wr (HR.out.on hB.out) hc ((hB.out.cell (p := (⟨bR, 0, none⟩ : Addr)) B1.out).trans H1.out) ((hB.out.cell (p := (⟨bD, 0, none⟩ : Addr)) B2.out).trans H2.out))
      rw [show (((lo + hi) / 2 : Nat) : Int) = ((lo : Int) + (hi : Int)) / 2 by omega] at HC
      have HCC := hid hc
      clear hc
      by_cases hx : day < c.day
      · rw [decide_eq_true hx] at HC
        have I2 : Hid ((∀ (t : Nat) (c : Ch), t < lo → r[t]? = some c → c.day ≤ day) ∧ (∀ (t : Nat) (c : Ch), (lo + hi) / 2 ≤ t → r[t]? = some c → day < c.day)) := ⟨I.out.1, fun t d h1 h2 => by
          have := HS.out.order h1 HCC.out h2
          omega⟩
        clear hx I
        go_wp2_with fail
        refine (HC.out).mono ?_
        rintro e w' ⟨rfl, hb⟩
        have HB2 := hid (bt hB.out hb)
        clear hb
        go_wp2
        go_roundw
        case rel => exact ⟨lo, (lo + hi) / 2, rfl, by go_num, by omega, by omega, HB2, I2⟩
        case measure => simp [intOf]; omega
      · rw [decide_eq_false hx] at HC
        have I2 : Hid ((∀ (t : Nat) (c : Ch), t < (lo + hi) / 2 + 1 → r[t]? = some c → c.day ≤ day) ∧ (∀ (t : Nat) (c : Ch), hi ≤ t → r[t]? = some c → day < c.day)) := ⟨fun t d h1 h2 => by
          have := HS.out.order (Nat.le_of_lt_succ h1) h2 HCC.out
          omega, I.out.2⟩
        clear hx I
        go_wp2_with fail
        refine (HC.out).mono ?_
        rintro e w' ⟨rfl, hb⟩
        have HB2 := hid (bt hB.out hb)
        clear hb
        go_wp2
        go_roundw
        case rel => exact ⟨(lo + hi) / 2 + 1, hi, by go_num, rfl, by omega, by omega, HB2, I2⟩
        case measure => simp [intOf]; omega
    · obtain rfl : hi = lo := by omega
      have HV : Hid (K = hi) := HK.out.trans (at_is (by have := HN.out; omega) I.out.1 I.out.2).symm
      clear I
      go_wp2
      go_ret
      exact ⟨by rw [HV.out]; try rfl, hB.out⟩

def SPost (r : List Ch) (day : Int) (w : World) (e : Ending) (w' : World) : Prop := ∃ v vs, e = .returned (.tuple #[v, .bool true]) ∧ IsSts w' v (atL r day) vs ∧ Below w.heap.size w w'
theorem size9 (w : World) : (sizeOf (Tryz.prog.elem 22)).run Tryz.prog w = .ok 9 w := by kernel_rfl
set_option maxRecDepth 100000 in
set_option maxHeartbeats 2000000 in
theorem pstreets_any (r : List Ch) (day : Int) (rv : Value) (w : World) (hr : IsChs w rv r) (hs : Sound r) (ht : Tb w) :
    Calls Tryz.prog 24 #[rv, .int .i64 day] w (SPost r day w) := by
  obtain ⟨A, cap, rfl, hR⟩ := id hr
  have hmf : ∀ (fn : Fn) (first cap : Array Value) (w : World), (Instr.makeFunc fn first cap).run Tryz.prog w = .ok (.func fn first cap) w := fun _ _ _ _ => rfl
  obtain ⟨w1, hw1⟩ : ∃ w1, w1 = (w.alloc (.cells #[.slice A r.length cap] 22)).alloc (.cells #[.int .i64 day] 3) := ⟨_, rfl⟩
  have hb1 : Below w.heap.size w w1 := by rw [hw1]; exact (b0 _ _).alloc (by simp) _
  have hx0 : w1.heap[w.heap.size]? = some (.cells #[.slice A r.length cap] 22 (0, 0)) := by rw [hw1, hpk, if_neg (by simp), hpk, if_pos rfl]
  have hx1 : w1.heap[w.heap.size + 1]? = some (.cells #[.int .i64 day] 3 (0, 0)) := by rw [hw1, hpk, if_pos (by simp)]
  have HB1 := hid hb1
  have HX0 := hid hx0
  have HX1 := hid hx1
  have HS := hid hs
  have HT := hid ht
  have HR1 := hid (hR.on hb1)
  have SK : Hid (∀ u, Below w1.heap.size w1 u → u.cell? ⟨w.heap.size, 0, none⟩ = some (.slice A r.length cap) ∧ u.cell? ⟨w.heap.size + 1, 0, none⟩ = some (.int .i64 day)) := fun u hu =>
    ⟨by rw [cell_at ((hu.block _ (heap_lt HX0.out)).trans HX0.out)]; rfl, by rw [cell_at ((hu.block _ (heap_lt HX1.out)).trans HX1.out)]; rfl⟩
  have CC := hid (pcheck_any r r.length 0 (-1) (.slice A r.length cap) w1 ⟨A, cap, rfl, hR.on hb1⟩ hs.fol (ht.on hb1))
  have CS := hid (fun u (hu : Below w1.heap.size w1 u) => psearch_any r A cap day w.heap.size (w.heap.size + 1) u HS.out (HR1.out.on hu) (SK.out u hu).1 (SK.out u hu).2)
  have hka := atN_le r day
  have hsl := fun u => run_upto (P := Tryz.prog) 22 Tryz.underlying22 9 size9 A r.length cap (atN r day) (by have := hR.2.1; omega) u
  simp only [upto_same] at hsl
  have CF := hid (fun u (hu : Below w1.heap.size w1 u) => pfollow_any (r.take (atN r day)) _ 0 (-1) (.slice A (atN r day) cap) u ⟨A, cap, by rw [List.length_take, Nat.min_eq_left (atN_le r day)], slr_upto (HR1.out.on hu) (atN_le r day)⟩ (HS.out.take _).fol (HT.out.on (bt HB1.out hu)))
  obtain ⟨c0, c1⟩ := SK.out _ (Below.refl _ _)
  obtain ⟨K, hK⟩ : ∃ K, K = atN r day := ⟨_, rfl⟩
  have HK := hid hK
  rw [← hK] at CS CF hsl
  obtain ⟨m, hm⟩ : ∃ m, m = r.length := ⟨_, rfl⟩
  rw [← hm] at CC CS hsl hw1 SK c0 ⊢
  clear hr hR hs ht hb1 hx0 hx1 hka hK hm
  go_enter Tryz.func24, Tryz.ntmps24
  go_wp2_with fail
  rw [← hw1]
  clear hw1
  refine CC.out.mono ?_
  rintro e w2 ⟨rfl, hb2⟩
  have HB2 := hid hb2
  clear hb2 c0 c1
  obtain ⟨c0, c1⟩ := SK.out _ HB2.out
  go_wp2_with fail
  refine (CS.out _ HB2.out).mono ?_
  rintro e w3 ⟨rfl, hb3⟩
  have HB3 := hid (bt HB2.out hb3)
  clear hb3 c0 c1
  obtain ⟨c0, c1⟩ := SK.out _ HB3.out
  go_wp2_with fail
  refine (CF.out _ HB3.out).mono ?_
  rintro e w4 ⟨v, vs, rfl, hst, hb4⟩
  have HST := hid (hst rfl)
  have HB4 := hid (bt HB3.out hb4)
  clear hst hb4 c0 c1
  go_wp2
  go_ret2
  exact ⟨v, vs, rfl, by unfold atL; rw [← HK.out]; exact HST.out.isSts, bt HB1.out HB4.out⟩
set_option maxRecDepth 100000 in
theorem pat_any (r : List Ch) (day : Int) (rv : Value) (w : World) (hr : IsChs w rv r) (hs : Sound r) (ht : Tb w) :
    Calls Tryz.prog 13 #[rv, .int .i64 day] w fun e w' => ∃ v vs, e = .returned v ∧ IsSts w' v (atL r day) vs ∧ Below w.heap.size w w' := by
  have C := hid (pstreets_any r day rv w hr hs ht)
  clear hr hs ht
  go_enter Tryz.func13, Tryz.ntmps13
  go_wp2_with fail
  refine C.out.mono ?_
  rintro e w1 ⟨v, vs, rfl, hv, hb⟩
  have HV := hid hv
  have HB := hid hb
  clear hv hb
  go_wp2
  go_ret
  exact ⟨v, vs, rfl, HV.out, HB.out⟩

end Rg
end Go.Proofs.YtaeljmiklalpnaaGreatDoor

namespace Go.Proofs.YtaeljmiklalpnaaGreatDoor
open Go.RowKit Go.ChangeMaps Gn
namespace Rg

/-- An address as a value; none: the zero address. -/
def adV (o : Option (W × Int × W × W)) : Value := match o with
  | some (a, m, c, t) => .agg #[.string ⟨#[]⟩, .string (sB a), .int .i64 m, .string (sB c), .string (sB t)]
  | none => .agg #[.string ⟨#[]⟩, .string ⟨#[]⟩, .int .i64 0, .string ⟨#[]⟩, .string ⟨#[]⟩]
def adE (o : Option (W × Int × W × W)) : Int := match o with | some _ => 0 | none => 3
def NPost (o : Option (W × Int × W × W)) (w : World) (e : Ending) (w' : World) : Prop := e = .returned (.tuple #[adV o, .int .i64 (adE o)]) ∧ Below w.heap.size w w'
theorem wrap_house {n sh lo hi : Int} (h1 : -9223372036854775808 ≤ n) (h2 : n ≤ 9223372036854775807) (h3 : -100000 ≤ sh ∧ sh ≤ 100000) (h4 : 1 ≤ lo) (h5 : hi ≤ 9999) :
    (lo ≤ IntKind.i64.wrap (n + sh) ∧ IntKind.i64.wrap (n + sh) ≤ hi ↔ lo - sh ≤ n ∧ n ≤ hi - sh) ∧ (lo - sh ≤ n ∧ n ≤ hi - sh → IntKind.i64.wrap (n + sh) = n + sh) := by
  rw [IntKind.wrap_i64]
  constructor
  · constructor <;> intro h <;> omega
  · intro h; omega
theorem name_not {l : List St} {k n : Int} (h : hasB l k = false) : nameR l k n = none := by
  unfold nameR
  by_cases h0 : 0 ≤ k
  · rw [if_pos h0]
    cases hs : l[k.toNat]? with
    | none => rfl
    | some s =>
      have : s.isOpen = false := by
        rw [hasB_at h0 hs] at h; exact h
      simp [this]
  · rw [if_neg h0]
theorem name_out {l : List St} {k n : Int} {s : St} (h0 : 0 ≤ k) (hs : l[k.toNat]? = some s) (h : ¬ (s.low - s.shift ≤ n ∧ n ≤ s.high - s.shift)) : nameR l k n = none := by
  unfold nameR
  rw [if_pos h0, hs]
  simp only
  rw [if_neg (fun q => h q.2)]
theorem name_in {l : List St} {k n : Int} {s : St} (h0 : 0 ≤ k) (hs : l[k.toNat]? = some s) (ho : s.isOpen = true) (h : s.low - s.shift ≤ n ∧ n ≤ s.high - s.shift) : nameR l k n = some (s.name, n + s.shift, s.code, s.town) := by
  unfold nameR
  rw [if_pos h0, hs]
  simp only
  rw [if_pos ⟨ho, h⟩]
theorem GoodS.shift {s : St} (h : GoodS s) : -100000 ≤ s.shift ∧ s.shift ≤ 100000 := by have := h.lo; have := h.le; have := h.hi; have := h.o1; have := h.o2; omega
theorem blk5 {u : World} {g : Nat} {c0 c1 c2 c3 c4 : Value} {T : TypeId} (h : u.heap[g]? = some (.cells #[c0, c1, c2, c3, c4] T (0, 0))) :
    (u.cell? ⟨g, 0, none⟩ = some c0 ∧ u.cell? ⟨g, 1, none⟩ = some c1 ∧ u.cell? ⟨g, 2, none⟩ = some c2 ∧ u.cell? ⟨g, 3, none⟩ = some c3 ∧ u.cell? ⟨g, 4, none⟩ = some c4) ∧ (u.frozen? ⟨g, 0, none⟩ = false ∧ u.frozen? ⟨g, 1, none⟩ = false ∧ u.frozen? ⟨g, 2, none⟩ = false ∧ u.frozen? ⟨g, 3, none⟩ = false ∧ u.frozen? ⟨g, 4, none⟩ = false) := by
  refine ⟨⟨?_, ?_, ?_, ?_, ?_⟩, free_at h rfl, free_at h rfl, free_at h rfl, free_at h rfl, free_at h rfl⟩ <;> (rw [cell_at h]; rfl)
theorem st5 {w0 u : World} {g : Nat} {c0 c1 c2 c3 c4 v0 v1 v2 v3 v4 : Value} {T : TypeId} (h : u.heap[g]? = some (.cells #[c0, c1, c2, c3, c4] T (0, 0))) (hb : Below w0.heap.size w0 u) (hg : w0.heap.size ≤ g) {W : World} (hW : W = ((((u.setCell ⟨g, 0, none⟩ v0).setCell ⟨g, 1, none⟩ v1).setCell ⟨g, 2, none⟩ v2).setCell ⟨g, 3, none⟩ v3).setCell ⟨g, 4, none⟩ v4) :
    (W.cell? ⟨g, 0, none⟩ = some v0 ∧ W.cell? ⟨g, 1, none⟩ = some v1 ∧ W.cell? ⟨g, 2, none⟩ = some v2 ∧ W.cell? ⟨g, 3, none⟩ = some v3 ∧ W.cell? ⟨g, 4, none⟩ = some v4) ∧ Below w0.heap.size w0 W := by
  have e : W = setN u g 0 [v0, v1, v2, v3, v4] := hW
  have h1 := setN_row (vs := [v0, v1, v2, v3, v4]) u 0 _ h rfl
  rw [← e] at h1
  exact ⟨(blk5 h1).1, by rw [e]; exact setN_below hg u 0 hb⟩
set_option maxRecDepth 100000 in
set_option maxHeartbeats 4000000 in
theorem pname_any (r : List Ch) (day k n : Int) (rv : Value) (w : World) (hr : IsChs w rv r) (hs : Sound r) (ht : Tb w) (n1 : -9223372036854775808 ≤ n) (n2 : n ≤ 9223372036854775807) :
    Calls Tryz.prog 15 #[rv, .int .i64 day, .agg #[.int .i64 k, .int .i64 n]] w (NPost (nameR (atL r day) k n) w) := by
  obtain ⟨w1, hw1⟩ : ∃ w1, w1 = (w.alloc (.cells #[.int .i64 k, .int .i64 n] 35)).alloc (.cells #[.string ⟨#[]⟩, .string ⟨#[]⟩, .int .i64 0, .string ⟨#[]⟩, .string ⟨#[]⟩] 37) := ⟨_, rfl⟩
  have hb1 : Below w.heap.size w w1 := by rw [hw1]; exact (b0 _ _).alloc (by simp) _
  have hx0 : w1.heap[w.heap.size]? = some (.cells #[.int .i64 k, .int .i64 n] 35 (0, 0)) := by rw [hw1, hpk, if_neg (by simp), hpk, if_pos rfl]
  have hx1 : w1.heap[w.heap.size + 1]? = some (.cells #[.string ⟨#[]⟩, .string ⟨#[]⟩, .int .i64 0, .string ⟨#[]⟩, .string ⟨#[]⟩] 37 (0, 0)) := by rw [hw1, hpk, if_pos (by simp)]
  have HB1 := hid hb1
  have HX0 := hid hx0
  have HX1 := hid hx1
  have C := hid (pstreets_any r day rv w1 (hr.on hb1) hs (ht.on hb1))
  have HINV := hid (hs.atInv day)
  have hl0 : (atL r day).length ≤ 1000 := by
    have := run_few (r.take (atN r day)); have h2 := hs.few
    have h3 := atN_le r day
    rw [List.length_take] at this
    unfold atL; omega
  obtain ⟨l, hl⟩ : ∃ l, l = atL r day := ⟨_, rfl⟩
  unfold SPost at C
  rw [← hl] at C HINV hl0 ⊢
  have HL0 := hid hl0
  clear hr hs ht hb1 hx0 hx1 hl hl0
  go_enter Tryz.func15, Tryz.ntmps15
  go_wp2_with fail
  rw [← hw1]
  clear hw1
  refine C.out.mono ?_
  rintro e w2 ⟨v, vs, rfl, hv, hb2⟩
  have HV := hid hv
  have HB2 := hid hb2
  have hy0 : w2.heap[w.heap.size]? = _ := (hb2.block _ (heap_lt HX0.out)).trans HX0.out
  have hy1 : w2.heap[w.heap.size + 1]? = _ := (hb2.block _ (heap_lt HX1.out)).trans HX1.out
  have p0 : w2.cell? ⟨w.heap.size, 0, none⟩ = some (.int .i64 k) := by rw [cell_at hy0]; rfl
  have p1 : w2.cell? ⟨w.heap.size, 1, none⟩ = some (.int .i64 n) := by rw [cell_at hy0]; rfl
  have a0 : w2.cell? ⟨w.heap.size + 1, 0, none⟩ = some (.string ⟨#[]⟩) := by rw [cell_at hy1]; rfl
  have a1 : w2.cell? ⟨w.heap.size + 1, 1, none⟩ = some (.string ⟨#[]⟩) := by rw [cell_at hy1]; rfl
  have a2 : w2.cell? ⟨w.heap.size + 1, 2, none⟩ = some (.int .i64 0) := by rw [cell_at hy1]; rfl
  have a3 : w2.cell? ⟨w.heap.size + 1, 3, none⟩ = some (.string ⟨#[]⟩) := by rw [cell_at hy1]; rfl
  have a4 : w2.cell? ⟨w.heap.size + 1, 4, none⟩ = some (.string ⟨#[]⟩) := by rw [cell_at hy1]; rfl
  have HY0 := hid hy0
  have HYw2 := hid hy1
  have HY1 := hid hy1
  have CO := hid (popen_any l vs v k w2 hv HL0.out)
  clear hv hb2 hy0 hy1
  cases hh : hasB l k
  · rw [hh] at CO
    have HN : Hid (nameR l k n = none) := name_not hh
    clear hh
    obtain ⟨-, z0, z1, z2, z3, z4⟩ := blk5 HYw2.out
    go_wp2_with fail
    refine CO.out.mono ?_
    rintro e y1 ⟨rfl, rfl⟩
    go_wp2
    obtain ⟨W, hW⟩ : ∃ W, W = ((((w2.setCell ⟨w.heap.size + 1, 0, none⟩ (.string ⟨#[]⟩)).setCell ⟨w.heap.size + 1, 1, none⟩ (.string ⟨#[]⟩)).setCell ⟨w.heap.size + 1, 2, none⟩ (.int .i64 0)).setCell ⟨w.heap.size + 1, 3, none⟩ (.string ⟨#[]⟩)).setCell ⟨w.heap.size + 1, 4, none⟩ (.string ⟨#[]⟩) := ⟨_, rfl⟩
    rw [← hW]
    obtain ⟨⟨f0, f1, f2, f3, f4⟩, fb⟩ := st5 HYw2.out (bt HB1.out HB2.out) (by omega : w.heap.size ≤ w.heap.size + 1) hW
    refine bodyPost_ret (v := .tuple #[.agg #[.string ⟨#[]⟩, .string ⟨#[]⟩, .int .i64 0, .string ⟨#[]⟩, .string ⟨#[]⟩], .int .i64 3]) (by simp [results, Tryz.results15, go_sem, f0, f1, f2, f3, f4]) rfl ?_
    exact ⟨by rw [HN.out]; rfl, fb⟩
  · rw [hh] at CO
    obtain ⟨hk0, s, hsk, hso⟩ := (hasB_iff _ _).1 hh
    obtain ⟨A, cap, rfl, hL⟩ := HV.out.parts
    obtain ⟨g, o, su, rfl, hg, hu, hst, hsl⟩ := hL.at hsk
    obtain ⟨sA, sc, rfl, hsR⟩ := hsl
    have hkl := (List.getElem?_eq_some_iff.1 hsk).1
    have hgs := HINV.out.good s (List.mem_of_getElem? hsk)
    obtain ⟨q, hq⟩ : ∃ q : Nat, k = q := ⟨k.toNat, by omega⟩
    subst hq
    obtain ⟨x0, x1, x2, x3, x4, x5, x6, x7⟩ := hst
    have eq : (q : Int).toNat = q := by omega
    rw [eq] at x0 x1 x2 x3 x4 x5 x6 x7 hsk hkl
    have hq1 : (q : Int) < (l.length : Int) := by omega
    have hq0 : 0 ≤ (q : Int) := by omega
    have hsh := hgs.shift
    obtain ⟨w1', w2'⟩ := wrap_house n1 n2 hsh hgs.lo hgs.hi
    have HSK := hid hsk
    have HSO := hid hso
    have hb3 : Below w2.heap.size w2 (w2.alloc (.cells #[.string (sB s.code), .string (sB s.town), .string (sB s.name), .slice sA s.al.length sc, .int .i64 s.low, .int .i64 s.high, .int .i64 s.shift, .bool s.isOpen] 44)) := b0 _ _
    obtain ⟨w3, hw3⟩ : ∃ w3, w3 = w2.alloc (.cells #[.string (sB s.code), .string (sB s.town), .string (sB s.name), .slice sA s.al.length sc, .int .i64 s.low, .int .i64 s.high, .int .i64 s.shift, .bool s.isOpen] 44) := ⟨_, rfl⟩
    rw [← hw3] at hb3
    have hz3 : w3.heap[w2.heap.size]? = some (.cells #[.string (sB s.code), .string (sB s.town), .string (sB s.name), .slice sA s.al.length sc, .int .i64 s.low, .int .i64 s.high, .int .i64 s.shift, .bool s.isOpen] 44 (0, 0)) := by rw [hw3]; exact heap_new _ _
    have HZ3 := hid hz3
    have HB3 := hid hb3
    obtain ⟨h, hhn⟩ : ∃ h, h = IntKind.i64.wrap (n + s.shift) := ⟨_, rfl⟩
    have hwr : IntKind.i64.wrap (n + s.shift) = h := hhn.symm
    have hwr2 : wrap64 (n + s.shift) = h := by rw [hhn, IntKind.wrap_i64]; unfold wrap64; rfl
    rw [← hhn] at w1' w2'
    have CH := hid (phas_any s (.slice sA s.al.length sc) h w3)
    unfold stA at CH
    obtain ⟨m, hm⟩ : ∃ m, m = l.length := ⟨_, rfl⟩
    rw [← hm] at CO hq1 hkl HV ⊢
    have hin : inB s h = decide (s.low - s.shift ≤ n ∧ n ≤ s.high - s.shift) := by
      unfold inB
      rw [Bool.eq_iff_iff]; simp only [Bool.and_eq_true, decide_eq_true_eq]; exact w1'
    rw [hin] at CH
    have p1' : w2.cell? ⟨w.heap.size, 1, none⟩ = some (.int .i64 n) := p1
    have hszw : w.heap.size < w2.heap.size := heap_lt HY0.out
    have p1'' : (w2.alloc (.cells #[.string (sB s.code), .string (sB s.town), .string (sB s.name), .slice sA s.al.length sc, .int .i64 s.low, .int .i64 s.high, .int .i64 s.shift, .bool s.isOpen] 44)).cell? ⟨w.heap.size, 1, none⟩ = some (.int .i64 n) := by rw [← hw3, cell_at ((hb3.block _ (heap_lt HY0.out)).trans HY0.out)]; rfl
    clear hh hsk hso hu hsR hL hgs hsh hb3 hz3 hhn hm hin eq w1' hq0
    by_cases hr : s.low - s.shift ≤ n ∧ n ≤ s.high - s.shift
    · rw [decide_eq_true hr] at CH
      have HN : Hid (nameR l q n = some (s.name, n + s.shift, s.code, s.town)) := name_in (by omega) (by simpa using HSK.out) HSO.out hr
      have HH : Hid (h = n + s.shift) := w2' hr
      clear hr w2'
      go_wp2_with fail
      refine CO.out.mono ?_
      rintro e y1 ⟨rfl, rfl⟩
      go_wp2_with fail
      rw [← hw3]
      clear hw3
      refine CH.out.mono ?_
      rintro e w4 ⟨rfl, hb4⟩
      have HB4 := hid hb4
      have HYw4 : Hid (w4.heap[w.heap.size + 1]? = some (.cells #[.string ⟨#[]⟩, .string ⟨#[]⟩, .int .i64 0, .string ⟨#[]⟩, .string ⟨#[]⟩] 37 (0, 0))) := (bt HB3.out HB4.out |>.block _ (heap_lt HYw2.out)).trans HYw2.out
      have hz4 : w4.heap[w2.heap.size]? = _ := (HB4.out.block _ (heap_lt HZ3.out)).trans HZ3.out
      obtain ⟨⟨b0', b1', b2', b3', b4'⟩, z0, z1, z2, z3, z4⟩ := blk5 HYw4.out
      obtain ⟨y0, y1, y2, y3, y4, y5, y6, y7⟩ := blk_cells hz4
      clear hz4 a0 a1 a2 a3 a4 p0 p1 x0 x1 x2 x3 x4 x5 x6 x7 p1' p1''
      go_wp2
      obtain ⟨W, hW⟩ : ∃ W, W = ((((w4.setCell ⟨w.heap.size + 1, 0, none⟩ (.string ⟨#[]⟩)).setCell ⟨w.heap.size + 1, 1, none⟩ (.string (sB s.name))).setCell ⟨w.heap.size + 1, 2, none⟩ (.int .i64 h)).setCell ⟨w.heap.size + 1, 3, none⟩ (.string (sB s.code))).setCell ⟨w.heap.size + 1, 4, none⟩ (.string (sB s.town)) := ⟨_, rfl⟩
      rw [← hW]
      obtain ⟨⟨f0, f1, f2, f3, f4⟩, fb⟩ := st5 HYw4.out (bt HB1.out (bt HB2.out (bt HB3.out HB4.out))) (by omega : w.heap.size ≤ w.heap.size + 1) hW
      refine bodyPost_ret (v := .tuple #[.agg #[.string ⟨#[]⟩, .string (sB s.name), .int .i64 h, .string (sB s.code), .string (sB s.town)], .int .i64 0]) (by simp [results, Tryz.results15, go_sem, f0, f1, f2, f3, f4]) rfl ?_
      exact ⟨by rw [HN.out, HH.out]; rfl, fb⟩
    · rw [decide_eq_false hr] at CH
      have HN : Hid (nameR l q n = none) := name_out (by omega) (by simpa using HSK.out) hr
      clear hr w2'
      go_wp2_with fail
      refine CO.out.mono ?_
      rintro e y1 ⟨rfl, rfl⟩
      go_wp2_with fail
      rw [← hw3]
      clear hw3
      refine CH.out.mono ?_
      rintro e w4 ⟨rfl, hb4⟩
      have HB4 := hid hb4
      have HYw4 : Hid (w4.heap[w.heap.size + 1]? = some (.cells #[.string ⟨#[]⟩, .string ⟨#[]⟩, .int .i64 0, .string ⟨#[]⟩, .string ⟨#[]⟩] 37 (0, 0))) := (bt HB3.out HB4.out |>.block _ (heap_lt HYw2.out)).trans HYw2.out
      have hz4 : w4.heap[w2.heap.size]? = _ := (HB4.out.block _ (heap_lt HZ3.out)).trans HZ3.out
      obtain ⟨⟨b0', b1', b2', b3', b4'⟩, z0, z1, z2, z3, z4⟩ := blk5 HYw4.out
      obtain ⟨y0, y1, y2, y3, y4, y5, y6, y7⟩ := blk_cells hz4
      clear hz4 a0 a1 a2 a3 a4 p0 p1 x0 x1 x2 x3 x4 x5 x6 x7 p1' p1''
      go_wp2
      obtain ⟨W, hW⟩ : ∃ W, W = ((((w4.setCell ⟨w.heap.size + 1, 0, none⟩ (.string ⟨#[]⟩)).setCell ⟨w.heap.size + 1, 1, none⟩ (.string ⟨#[]⟩)).setCell ⟨w.heap.size + 1, 2, none⟩ (.int .i64 0)).setCell ⟨w.heap.size + 1, 3, none⟩ (.string ⟨#[]⟩)).setCell ⟨w.heap.size + 1, 4, none⟩ (.string ⟨#[]⟩) := ⟨_, rfl⟩
      rw [← hW]
      obtain ⟨⟨f0, f1, f2, f3, f4⟩, fb⟩ := st5 HYw4.out (bt HB1.out (bt HB2.out (bt HB3.out HB4.out))) (by omega : w.heap.size ≤ w.heap.size + 1) hW
      refine bodyPost_ret (v := .tuple #[.agg #[.string ⟨#[]⟩, .string ⟨#[]⟩, .int .i64 0, .string ⟨#[]⟩, .string ⟨#[]⟩], .int .i64 3]) (by simp [results, Tryz.results15, go_sem, f0, f1, f2, f3, f4]) rfl ?_
      exact ⟨by rw [HN.out]; rfl, fb⟩

end Rg
end Go.Proofs.YtaeljmiklalpnaaGreatDoor

namespace Go.Proofs.YtaeljmiklalpnaaGreatDoor
open Go.RowKit Go.ChangeMaps Gn
namespace Rg

def ptV (o : Option (Nat × Int)) : Value := match o with | some (i, n) => .agg #[.int .i64 (i : Int), .int .i64 n] | none => .agg #[.int .i64 0, .int .i64 0]
def ptE (o : Option (Nat × Int)) : Int := match o with | some _ => 0 | none => 3
def DPost (o : Option (Nat × Int)) (w : World) (e : Ending) (w' : World) : Prop := e = .returned (.tuple #[ptV o, .int .i64 (ptE o)]) ∧ Below w.heap.size w w'
theorem blk2 {u : World} {g : Nat} {c0 c1 : Value} {T : TypeId} (h : u.heap[g]? = some (.cells #[c0, c1] T (0, 0))) :
    (u.cell? ⟨g, 0, none⟩ = some c0 ∧ u.cell? ⟨g, 1, none⟩ = some c1) ∧ (u.frozen? ⟨g, 0, none⟩ = false ∧ u.frozen? ⟨g, 1, none⟩ = false) := by
  refine ⟨⟨?_, ?_⟩, free_at h rfl, free_at h rfl⟩ <;> (rw [cell_at h]; rfl)
theorem st2 {w0 u : World} {g : Nat} {c0 c1 v0 v1 : Value} {T : TypeId} (h : u.heap[g]? = some (.cells #[c0, c1] T (0, 0))) (hb : Below w0.heap.size w0 u) (hg : w0.heap.size ≤ g) {W : World} (hW : W = (u.setCell ⟨g, 0, none⟩ v0).setCell ⟨g, 1, none⟩ v1) :
    (W.cell? ⟨g, 0, none⟩ = some v0 ∧ W.cell? ⟨g, 1, none⟩ = some v1) ∧ Below w0.heap.size w0 W := by
  have e : W = setN u g 0 [v0, v1] := hW
  have h1 := setN_row (vs := [v0, v1]) u 0 _ h rfl
  rw [← e] at h1
  exact ⟨(blk2 h1).1, by rw [e]; exact setN_below hg u 0 hb⟩
theorem find_hit {l : List St} {code street : W} {num : Int} {k : Nat} {s : St} (hb : ∀ t ∈ l.take k, hitB code street num t = false) (hs : l[k]? = some s) (h : hitB code street num s = true) : findR l code street num = some (k, num - s.shift) := by
  have hk := (List.getElem?_eq_some_iff.1 hs).1
  have e : l.findIdx? (hitB code street num) = some k := by
    rw [List.findIdx?_eq_some_iff_getElem]
    refine ⟨hk, by rw [(List.getElem?_eq_some_iff.1 hs).2]; exact h, fun j hj => ?_⟩
    have := hb l[j] (List.mem_iff_getElem?.2 ⟨j, by rw [List.getElem?_take, if_pos hj, List.getElem?_eq_getElem (by omega)]⟩)
    simpa using this
  unfold findR
  rw [e]
  simp only [List.getD, hs, Option.getD_some]
theorem find_miss {l : List St} {code street : W} {num : Int} (hb : ∀ t ∈ l, hitB code street num t = false) : findR l code street num = none := by
  have e : l.findIdx? (hitB code street num) = none := by
    rw [List.findIdx?_eq_none_iff]; exact fun x hx => by simpa using hb x hx
  unfold findR; rw [e]
theorem take_next {l : List St} {k : Nat} {s : St} {p : St → Bool} (hs : l[k]? = some s) (hb : ∀ t ∈ l.take k, p t = false) (h : p s = false) : ∀ t ∈ l.take (k + 1), p t = false := fun t ht => by
  rw [List.take_add_one, hs] at ht
  rcases List.mem_append.1 ht with ht | ht
  · exact hb t ht
  · simp at ht; rw [ht]; exact h
set_option maxRecDepth 100000 in
set_option maxHeartbeats 8000000 in
theorem pfind_any (r : List Ch) (day num : Int) (pe st co to' : W) (rv : Value) (w : World) (hr : IsChs w rv r) (hs : Sound r) (ht : Tb w) (hst : st.length ≤ 100000) :
    Calls Tryz.prog 16 #[rv, .int .i64 day, .agg #[.string (sB pe), .string (sB st), .int .i64 num, .string (sB co), .string (sB to')]] w (DPost (findR (atL r day) co st num) w) := by
  obtain ⟨tp, htp⟩ : ∃ x, x = sB pe := ⟨_, rfl⟩
  obtain ⟨ts, hts⟩ : ∃ x, x = sB st := ⟨_, rfl⟩
  obtain ⟨tc, htc⟩ : ∃ x, x = sB co := ⟨_, rfl⟩
  obtain ⟨tt, htt⟩ : ∃ x, x = sB to' := ⟨_, rfl⟩
  rw [← htp, ← hts, ← htc, ← htt]
  have HTC := hid htc
  have HTS := hid hts
  obtain ⟨w1, hw1⟩ : ∃ w1, w1 = (w.alloc (.cells #[.string tp, .string ts, .int .i64 num, .string tc, .string tt] 37)).alloc (.cells #[.int .i64 0, .int .i64 0] 35) := ⟨_, rfl⟩
  have hb1 : Below w.heap.size w w1 := by rw [hw1]; exact (b0 _ _).alloc (by simp) _
  have hx0 : w1.heap[w.heap.size]? = some (.cells #[.string tp, .string ts, .int .i64 num, .string tc, .string tt] 37 (0, 0)) := by rw [hw1, hpk, if_neg (by simp), hpk, if_pos rfl]
  have hx1 : w1.heap[w.heap.size + 1]? = some (.cells #[.int .i64 0, .int .i64 0] 35 (0, 0)) := by rw [hw1, hpk, if_pos (by simp)]
  have HB1 := hid hb1
  have HX0 := hid hx0
  have HX1 := hid hx1
  have HT := hid ht
  have C := hid (pstreets_any r day rv w1 (hr.on hb1) hs (ht.on hb1))
  have HINV := hid (hs.atInv day)
  have hokS := ok_streets (r := r.take (atN r day)) (hs.atInv day) (by rw [List.length_take]; have := hs.few; omega)
  have hl0 : (atL r day).length ≤ 1000 := by
    have := run_few (r.take (atN r day)); have h2 := hs.few
    have h3 := atN_le r day
    rw [List.length_take] at this
    unfold atL; omega
  obtain ⟨l, hl⟩ : ∃ l, l = atL r day := ⟨_, rfl⟩
  unfold SPost at C
  have hokS2 : OkS (atL r day) := hokS
  rw [← hl] at C HINV hl0 hokS2 ⊢
  have HOS := hid hokS2
  obtain ⟨R, hR⟩ : ∃ R, R = findR l co st num := ⟨_, rfl⟩
  rw [← hR]
  have HR := hid hR
  clear hr hs ht hb1 hx0 hx1 hl hokS hokS2 htp hts htc htt hR
  go_enter Tryz.func16, Tryz.ntmps16
  go_wp2_with fail
  rw [← hw1]
  clear hw1
  refine C.out.mono ?_
  rintro e w2 ⟨v, vs, rfl, hv, hb2⟩
  obtain ⟨A, cap, rfl, hL⟩ := hv.parts
  have HL := hid hL
  have HB2 := hid hb2
  have HY0 : Hid (∀ u, Below w2.heap.size w2 u → u.heap[w.heap.size]? = some (.cells #[.string tp, .string ts, .int .i64 num, .string tc, .string tt] 37 (0, 0)) ∧ u.heap[w.heap.size + 1]? = some (.cells #[.int .i64 0, .int .i64 0] 35 (0, 0))) := fun u hu =>
    ⟨((bt HB2.out hu).block _ (heap_lt HX0.out)).trans HX0.out, ((bt HB2.out hu).block _ (heap_lt HX1.out)).trans HX1.out⟩
  obtain ⟨m, hm⟩ : ∃ m, m = l.length := ⟨_, rfl⟩
  rw [← hm] at hl0 HL ⊢
  have HM := hid hm
  clear hv hb2 hL hm
  go_wp2_with fail
  go_loopw [10, 11, 23] (fun _ _ i wr => ∃ k : Nat, k ≤ m ∧ i = .int .i64 k ∧ Hid (∀ t ∈ l.take k, hitB co st num t = false) ∧ Hid (Below w2.heap.size w2 wr)) (fun _ _ i _ => m - (intOf i).toNat)
  case atStart => exact ⟨0, Nat.zero_le _, rfl, (by intro t ht; simp at ht), Below.refl _ _⟩
  case round =>
    obtain ⟨k, hk, rfl, hN, hB⟩ := hrel
    by_cases hlt : k < m
    · obtain ⟨s, hs⟩ : ∃ s, l[k]? = some s := ⟨_, List.getElem?_eq_getElem (by have := HM.out; omega)⟩
      have hLr := HL.out.on hB.out
      rw [HM.out] at hLr
      obtain ⟨g, o, su, rfl, hg', hsu, hsc, hsl⟩ := hLr.at hs
      obtain ⟨sA, sc, rfl, hsR⟩ := hsl
      have hsl : IsW wr (.slice sA s.al.length sc) s.al := ⟨sA, sc, rfl, hsR⟩
      obtain ⟨x0, x1, x2, x3, x4, x5, x6, x7⟩ := hsc
      have hk0 : 0 ≤ (k : Int) := by omega
      have hk1 : (k : Int) < (m : Int) := by omega
      have HS := hid hs
      have hmem := List.mem_of_getElem? hs
      have hgs := HINV.out.good s hmem
      have HGS := hid hgs
      obtain ⟨wa, hwa⟩ : ∃ wa, wa = wr.alloc (.cells #[.string (sB s.code), .string (sB s.town), .string (sB s.name), .slice sA s.al.length sc, .int .i64 s.low, .int .i64 s.high, .int .i64 s.shift, .bool s.isOpen] 44) := ⟨_, rfl⟩
      have hba : Below wr.heap.size wr wa := by rw [hwa]; exact b0 _ _
      have hra : wa.heap[wr.heap.size]? = some (.cells #[.string (sB s.code), .string (sB s.town), .string (sB s.name), .slice sA s.al.length sc, .int .i64 s.low, .int .i64 s.high, .int .i64 s.shift, .bool s.isOpen] 44 (0, 0)) := by rw [hwa]; exact heap_new _ _
      have HBA := hid (bt hB.out hba)
      have HRA := hid hra
      have HSL := hid (hsl.on hba)
      obtain ⟨p0, p1, p2, p3, p4, p5, p6, p7⟩ := blk_cells hra
      obtain ⟨⟨q0, q1, q2, q3, q4⟩, -⟩ := blk5 (HY0.out wa HBA.out).1
      have CH := hid (fun u => phas_any s (.slice sA s.al.length sc) num u)
      have CC := hid (fun u (hu : Below wa.heap.size wa u) => pcalled_any s (.slice sA s.al.length sc) st u (HSL.out.on hu) (HOS.out.sm s hmem) hst (HT.out.on (bt HB1.out (bt HB2.out (bt HBA.out hu)))))
      rw [called_named (HOS.out.asc s hmem), ← HTS.out] at CC
      clear hs hLr hsu hsl hsR hba hra hmem hgs q0 q4
      rw [hwa] at p0 p1 p2 p3 p4 p5 p6 p7 q1 q2 q3
      obtain ⟨so, hso⟩ : ∃ b, b = s.isOpen := ⟨_, rfl⟩
      rw [← hso] at x7 p0 p1 p2 p3 p4 p5 p6 p7 q1 q2 q3 hwa HRA
      have HSO := hid hso
      clear hso
      cases so
      · have HN2 : Hid (∀ t ∈ l.take (k + 1), hitB co st num t = false) := take_next HS.out hN.out (by unfold hitB; rw [← HSO.out]; rfl)
        go_wp2_with fail
        try rw [← hwa]
        clear hwa
        go_roundw
        case rel => exact ⟨k + 1, by omega, by go_num, HN2, HBA⟩
        case measure => simp [intOf]; omega
      rcases (Decidable.em (s.code = co)).symm with hcd | hcd
      · have d1 : ¬ (sB s.code).toList = tc.toList := by rw [HTC.out]; exact fun q => hcd (sB_eq.1 q)
        have d1b : ((sB s.code).toList == tc.toList) = false := by rw [HTC.out, sB_beq]; simpa using hcd
        have HN2 : Hid (∀ t ∈ l.take (k + 1), hitB co st num t = false) := take_next HS.out hN.out (by unfold hitB; rw [decide_eq_false hcd]; simp)
        clear hcd
        go_wp2_with fail
        try rw [← hwa]
        clear hwa
        go_roundw
        case rel => exact ⟨k + 1, by omega, by go_num, HN2, HBA⟩
        case measure => simp [intOf]; omega
      have d1 : (sB s.code).toList = tc.toList := by rw [HTC.out, hcd]
      have d1b : ((sB s.code).toList == tc.toList) = true := by rw [HTC.out, hcd]; simp
      have HCD := hid hcd
      clear hcd
      obtain ⟨hb, hhb⟩ : ∃ x, x = inB s num := ⟨_, rfl⟩
      rw [← hhb] at CH
      obtain ⟨nb, hnb⟩ : ∃ x, x = named s st := ⟨_, rfl⟩
      rw [← hnb] at CC
      have HIT : Hid (hitB co st num s = (hb && nb)) := by
        show _ = _
        unfold hitB
        rw [← HSO.out, decide_eq_true HCD.out, hhb, hnb]
        unfold inB
        cases named s st <;> cases decide (s.low ≤ num) <;> cases decide (num ≤ s.high) <;> rfl
      have HHB := hid hhb
      unfold stA at CH CC
      rw [← HSO.out] at CH CC
      clear hhb hnb
      go_wp2_with fail
      rw [← hwa]
      clear hwa p0 p1 p2 p3 p4 p5 p6 p7 q1 q2 q3 x0 x1 x2 x3 x4 x5 x6 x7
      refine (CH.out _).mono ?_
      rintro e w5 ⟨rfl, hb5⟩
      have HB5 := hid hb5
      have h5 : w5.heap[wr.heap.size]? = _ := (hb5.block _ (heap_lt HRA.out)).trans HRA.out
      obtain ⟨p0, p1, p2, p3, p4, p5, p6, p7⟩ := blk_cells h5
      obtain ⟨⟨q0, q1, q2, q3, q4⟩, -⟩ := blk5 (HY0.out w5 (bt HBA.out hb5)).1
      have H5 := hid h5
      clear h5 hb5
      cases hb
      · have HN2 : Hid (∀ t ∈ l.take (k + 1), hitB co st num t = false) := take_next HS.out hN.out (by rw [HIT.out]; rfl)
        have HB6 := hid (bt HBA.out HB5.out)
        go_wp2_with fail
        go_roundw
        case rel => exact ⟨k + 1, by omega, by go_num, HN2, HB6⟩
        case measure => simp [intOf]; omega
      go_wp2_with fail
      refine (CC.out _ HB5.out).mono ?_
      rintro e w6 ⟨rfl, hb6⟩
      have HB6 := hid (bt HBA.out (bt HB5.out hb6))
      have h6 : w6.heap[wr.heap.size]? = _ := (hb6.block _ (heap_lt H5.out)).trans H5.out
      clear hb6 p0 p1 p2 p3 p4 p5 p6 p7 q0 q1 q2 q3 q4
      obtain ⟨p0, p1, p2, p3, p4, p5, p6, p7⟩ := blk_cells h6
      obtain ⟨⟨q0, q1, q2, q3, q4⟩, -⟩ := blk5 (HY0.out w6 HB6.out).1
      clear h6
      cases nb
      · have HN2 : Hid (∀ t ∈ l.take (k + 1), hitB co st num t = false) := take_next HS.out hN.out (by rw [HIT.out]; rfl)
        go_wp2_with fail
        go_roundw
        case rel => exact ⟨k + 1, by omega, by go_num, HN2, HB6⟩
        case measure => simp [intOf]; omega
      have HV : Hid (R = some (k, num - s.shift)) := HR.out.trans (find_hit hN.out HS.out (by rw [HIT.out]; rfl))
      have hin : s.low ≤ num ∧ num ≤ s.high := by have h := HHB.out.symm; unfold inB at h; simpa using h
      have e1 := HGS.out.lo; have e2 := HGS.out.hi; have e3 := HGS.out.shift
      obtain ⟨i1, i2⟩ := hin
      have j1 : -9223372036854775808 ≤ num - s.shift := by omega
      have j2 : num - s.shift ≤ 9223372036854775807 := by omega
      obtain ⟨-, z0, z1⟩ := blk2 (HY0.out w6 HB6.out).2
      obtain ⟨⟨f0', f1'⟩, -⟩ := blk2 (HY0.out w6 HB6.out).2
      have kw : IntKind.i64.wrap (num - s.shift) = num - s.shift := IntWalk.i64_in _ ⟨j1, j2⟩
      obtain ⟨nv, hnv⟩ : ∃ x, x = num - s.shift := ⟨_, rfl⟩
      rw [← hnv] at HV
      have kw2 : IntKind.i64.wrap (num - s.shift) = nv := by rw [kw, hnv]
      have kw3 : wrap64 (num - s.shift) = nv := by rw [← kw2, IntKind.wrap_i64]; unfold wrap64; rfl
      clear e1 e2 e3 i1 i2 j1 j2 kw hnv
      go_wp2
      obtain ⟨W, hW⟩ : ∃ W, W = (w6.setCell ⟨w.heap.size + 1, 0, none⟩ (.int .i64 (k : Int))).setCell ⟨w.heap.size + 1, 1, none⟩ (.int .i64 nv) := ⟨_, rfl⟩
      rw [← hW]
      obtain ⟨⟨f0, f1⟩, fb⟩ := st2 (HY0.out w6 HB6.out).2 (bt HB1.out (bt HB2.out HB6.out)) (by omega : w.heap.size ≤ w.heap.size + 1) hW
      refine bodyPost_ret (v := .tuple #[.agg #[.int .i64 (k : Int), .int .i64 nv], .int .i64 0]) (by simp [results, Tryz.results16, go_sem, f0, f1]) rfl ?_
      exact ⟨by rw [HV.out]; rfl, fb⟩
    · have HV : Hid (R = none) := by
        show _ = _
        rw [HR.out]
        exact find_miss (by have := hN.out; rwa [List.take_of_length_le (by have := HM.out; omega)] at this)
      obtain ⟨-, z0, z1⟩ := blk2 (HY0.out wr hB.out).2
      obtain ⟨⟨f0', f1'⟩, -⟩ := blk2 (HY0.out wr hB.out).2
      go_wp2
      obtain ⟨W, hW⟩ : ∃ W, W = (wr.setCell ⟨w.heap.size + 1, 0, none⟩ (.int .i64 0)).setCell ⟨w.heap.size + 1, 1, none⟩ (.int .i64 0) := ⟨_, rfl⟩
      rw [← hW]
      obtain ⟨⟨f0, f1⟩, fb⟩ := st2 (HY0.out wr hB.out).2 (bt HB1.out (bt HB2.out hB.out)) (by omega : w.heap.size ≤ w.heap.size + 1) hW
      refine bodyPost_ret (v := .tuple #[.agg #[.int .i64 0, .int .i64 0], .int .i64 3]) (by simp [results, Tryz.results16, go_sem, f0, f1]) rfl ?_
      exact ⟨by rw [HV.out]; rfl, fb⟩

end Rg
end Go.Proofs.YtaeljmiklalpnaaGreatDoor

namespace Go.Proofs.YtaeljmiklalpnaaGreatDoor
open Go.RowKit Go.ChangeMaps Gn
namespace Rg

def SOwn (r : List Ch) (day : Int) (w : World) (e : Ending) (w' : World) : Prop := ∃ v vs B, e = .returned (.tuple #[v, .bool true]) ∧ Strs B w' v (atL r day) vs ∧ w.heap.size ≤ B ∧ Below w.heap.size w w'
set_option maxRecDepth 100000 in
set_option maxHeartbeats 2000000 in
theorem pstreets_own (r : List Ch) (day : Int) (rv : Value) (w : World) (hr : IsChs w rv r) (hs : Sound r) (ht : Tb w) :
    Calls Tryz.prog 24 #[rv, .int .i64 day] w (SOwn r day w) := by
  obtain ⟨A, cap, rfl, hR⟩ := id hr
  have hmf : ∀ (fn : Fn) (first cap : Array Value) (w : World), (Instr.makeFunc fn first cap).run Tryz.prog w = .ok (.func fn first cap) w := fun _ _ _ _ => rfl
  obtain ⟨w1, hw1⟩ : ∃ w1, w1 = (w.alloc (.cells #[.slice A r.length cap] 22)).alloc (.cells #[.int .i64 day] 3) := ⟨_, rfl⟩
  have hb1 : Below w.heap.size w w1 := by rw [hw1]; exact (b0 _ _).alloc (by simp) _
  have hx0 : w1.heap[w.heap.size]? = some (.cells #[.slice A r.length cap] 22 (0, 0)) := by rw [hw1, hpk, if_neg (by simp), hpk, if_pos rfl]
  have hx1 : w1.heap[w.heap.size + 1]? = some (.cells #[.int .i64 day] 3 (0, 0)) := by rw [hw1, hpk, if_pos (by simp)]
  have HB1 := hid hb1
  have HX0 := hid hx0
  have HX1 := hid hx1
  have HS := hid hs
  have HT := hid ht
  have HR1 := hid (hR.on hb1)
  have SK : Hid (∀ u, Below w1.heap.size w1 u → u.cell? ⟨w.heap.size, 0, none⟩ = some (.slice A r.length cap) ∧ u.cell? ⟨w.heap.size + 1, 0, none⟩ = some (.int .i64 day)) := fun u hu =>
    ⟨by rw [cell_at ((hu.block _ (heap_lt HX0.out)).trans HX0.out)]; rfl, by rw [cell_at ((hu.block _ (heap_lt HX1.out)).trans HX1.out)]; rfl⟩
  have CC := hid (pcheck_any r r.length 0 (-1) (.slice A r.length cap) w1 ⟨A, cap, rfl, hR.on hb1⟩ hs.fol (ht.on hb1))
  have CS := hid (fun u (hu : Below w1.heap.size w1 u) => psearch_any r A cap day w.heap.size (w.heap.size + 1) u HS.out (HR1.out.on hu) (SK.out u hu).1 (SK.out u hu).2)
  have hka := atN_le r day
  have hsl := fun u => run_upto (P := Tryz.prog) 22 Tryz.underlying22 9 size9 A r.length cap (atN r day) (by have := hR.2.1; omega) u
  simp only [upto_same] at hsl
  have CF := hid (fun u (hu : Below w1.heap.size w1 u) => pfollow_any (r.take (atN r day)) _ 0 (-1) (.slice A (atN r day) cap) u ⟨A, cap, by rw [List.length_take, Nat.min_eq_left (atN_le r day)], slr_upto (HR1.out.on hu) (atN_le r day)⟩ (HS.out.take _).fol (HT.out.on (bt HB1.out hu)))
  obtain ⟨c0, c1⟩ := SK.out _ (Below.refl _ _)
  obtain ⟨K, hK⟩ : ∃ K, K = atN r day := ⟨_, rfl⟩
  have HK := hid hK
  rw [← hK] at CS CF hsl
  obtain ⟨m, hm⟩ : ∃ m, m = r.length := ⟨_, rfl⟩
  rw [← hm] at CC CS hsl hw1 SK c0 ⊢
  clear hr hR hs ht hb1 hx0 hx1 hka hK hm
  go_enter Tryz.func24, Tryz.ntmps24
  go_wp2_with fail
  rw [← hw1]
  clear hw1
  refine CC.out.mono ?_
  rintro e w2 ⟨rfl, hb2⟩
  have HB2 := hid hb2
  clear hb2 c0 c1
  obtain ⟨c0, c1⟩ := SK.out _ HB2.out
  go_wp2_with fail
  refine (CS.out _ HB2.out).mono ?_
  rintro e w3 ⟨rfl, hb3⟩
  have HB3 := hid (bt HB2.out hb3)
  clear hb3 c0 c1
  obtain ⟨c0, c1⟩ := SK.out _ HB3.out
  go_wp2_with fail
  refine (CF.out _ HB3.out).mono ?_
  rintro e w4 ⟨v, vs, rfl, hst, hb4⟩
  have HST := hid (hst rfl)
  have HB4 := hid (bt HB3.out hb4)
  clear hst hb4 c0 c1
  go_wp2
  go_ret2
  exact ⟨v, vs, _, rfl, by unfold atL; rw [← HK.out]; exact HST.out, Nat.le_trans HB1.out.size HB3.out.size, bt HB1.out HB4.out⟩
set_option maxRecDepth 100000 in
theorem pat_own (r : List Ch) (day : Int) (rv : Value) (w : World) (hr : IsChs w rv r) (hs : Sound r) (ht : Tb w) :
    Calls Tryz.prog 13 #[rv, .int .i64 day] w fun e w' => ∃ v vs B, e = .returned v ∧ Strs B w' v (atL r day) vs ∧ w.heap.size ≤ B ∧ Below w.heap.size w w' := by
  have C := hid (pstreets_own r day rv w hr hs ht)
  clear hr hs ht
  go_enter Tryz.func13, Tryz.ntmps13
  go_wp2_with fail
  refine C.out.mono ?_
  rintro e w1 ⟨v, vs, B, rfl, hv, hB, hb⟩
  have HV := hid hv
  have HB := hid hb
  clear hv hb
  go_wp2
  go_ret
  exact ⟨v, vs, B, rfl, HV.out, hB, HB.out⟩

end Rg
end Go.Proofs.YtaeljmiklalpnaaGreatDoor
