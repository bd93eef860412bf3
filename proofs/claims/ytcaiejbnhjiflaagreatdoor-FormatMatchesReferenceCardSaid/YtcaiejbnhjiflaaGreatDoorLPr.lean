/-
  FormatPrinting: the walk.
-/
import Derived.Test.YtcaiejbnhjiflaaGreatDoorH2
import Derived.Test.YtcaiejbnhjiflaaGreatDoorR5
import Derived.Test.YtcaiejbnhjiflaaGreatDoorMp
namespace Go.Proofs.YtcaiejbnhjiflaaGreatDoor
open Go.RowKit Go.ChangeMaps
namespace Fm

/-- The box of a format. -/
structure Fx (w0 : World) (B : Nat) (name : W) (fs : List (List Pt)) (A : Option Addr) (cap : Nat) (w : World) : Prop where
  fmt : w.heap[B]? = some (.cells #[.string (sB name), .slice A fs.length cap] 24 (0, 0))
  isp : IsPs w (.slice A fs.length cap) fs
  bel : Below w0.heap.size w0 w
section
variable {w0 w w' : World} {B : Nat} {name : W} {fs : List (List Pt)} {A : Option Addr} {cap : Nat}
theorem Fx.on (h : Fx w0 B name fs A cap w) (hb : Below w.heap.size w w') : Fx w0 B name fs A cap w' := ⟨(hb.block _ (heap_lt h.fmt)).trans h.fmt, h.isp.on hb, bt h.bel hb⟩
theorem Fx.lt (h : Fx w0 B name fs A cap w) : B < w.heap.size := heap_lt h.fmt
theorem Fx.cells (h : Fx w0 B name fs A cap w) : w.cell? ⟨B, 0, none⟩ = some (.string (sB name)) ∧ w.cell? ⟨B, 1, none⟩ = some (.slice A fs.length cap) := by
  have := h.fmt
  constructor <;> simp [World.cell?, this]
end
/-- An address that came in. -/
structure BigAd (x : Ad) : Prop where
  p : x.person.length ≤ 140737488351232
  s : x.street.length ≤ 140737488351232
  c : x.code.length ≤ 140737488351232
  t : x.town.length ≤ 140737488351232
  n0 : -9223372036854775808 ≤ x.number
  n1 : x.number ≤ 9223372036854775807
theorem mem_take {α : Type} [DecidableEq α] {l : List α} {k : Nat} {x y : α} (h : l[k]? = some y) : decide (x ∈ l.take (k + 1)) = (decide (x ∈ l.take k) || decide (y = x)) := by
  rw [List.take_add_one, h, Bool.eq_iff_iff, Bool.or_eq_true, decide_eq_true_iff, decide_eq_true_iff, decide_eq_true_iff, List.mem_append]
  simp [eq_comm]

set_option maxRecDepth 100000 in
set_option maxHeartbeats 16000000 in
theorem printing_law (name : W) (fs : List (List Pt)) (fv : Value) (x : Ad) (w : World) (hT : Tab w) (hF : IsPs w fv fs) (hx : BigAd x) :
    Calls Tryz.prog 4 #[.agg #[.string (sB name), fv], adV x] w fun e w' => e = .returned (.bool true) ∧ Below w.heap.size w w' := by
  obtain ⟨A, cap, fvs, hfv, -⟩ := id hF
  subst hfv
  have HT := hid hT
  obtain ⟨w1, hw1⟩ : ∃ w1, w1 = (w.alloc (.cells #[.string (sB name), .slice A fs.length cap] 24)).alloc (.cells #[.string (sB x.person), .string (sB x.street), .int .i64 x.number, .string (sB x.code), .string (sB x.town)] 27) := ⟨_, rfl⟩
  have hb1 : Below w.heap.size w w1 := by rw [hw1]; exact (b0 _ _).alloc (by simp) _
  have HX1 : Hid (XB w1 (w.heap.size + 1) x) := by
    show XB _ _ _
    rw [hw1]; unfold XB; rw [hpk, if_pos (World.size_alloc w _).symm]
  have HS1 : Hid (Fx w w.heap.size name fs A cap w1) := ⟨by rw [hw1, Below.heap_alloc _ _ _ (by simp)]; exact heap_new _ _, hF.on hb1, hb1⟩
  have BX := hid hx
  have CFew := hid (fun u (h : Fx w w.heap.size name fs A cap u) => few_any name fs (.slice A fs.length cap) [] (.slice none 0 0) u h.isp ⟨none, 0, rfl, SlR.nil _ _⟩)
  have CPr := hid (fun u (h : Fx w w.heap.size name fs A cap u) (hs : Small x) (ls : List W) (er : Int) (hp : printR name fs x = (ls, er)) => print_any name fs (.slice A fs.length cap) x u h.isp hs (tab_on HT.out h.bel) hp)
  have CPa := hid (fun u (h : Fx w w.heap.size name fs A cap u) (lns : List W) (lA : Option Addr) (lc : Nat) (hl : IsW u (.slice lA lns.length lc) lns) (hn : lns.length ≤ 1000) (hz : ∀ l ∈ lns, l.length ≤ 5000) (rs : List Ad) (er : Int) (hp : parseR name fs lns = (rs, er)) => parse_any name fs (.slice A fs.length cap) lns (.slice lA lns.length lc) u h.isp hl hn hz hp)
  have HXC := hid (fun (u : World) (h : XB u (w.heap.size + 1) x) => h.cell)
  have HSC := hid (fun (u : World) (h : Fx w w.heap.size name fs A cap u) => h.cells)
  have bp := sB_size x.person
  have bs := sB_size x.street
  have bc := sB_size x.code
  have bt' := sB_size x.town
  have hx1 := hx.p
  have hx2 := hx.s
  have hx3 := hx.c
  have hx4 := hx.t
  unfold adV at CPr ⊢
  have HEq := hid (fun (y : Ad) => eql_run y x)
  unfold adV at HEq
  clear hT hF hx hb1
  obtain ⟨nm, hnm⟩ : ∃ nm, nm = sB name := ⟨_, rfl⟩
  obtain ⟨p, hp⟩ : ∃ p, p = sB x.person := ⟨_, rfl⟩
  obtain ⟨s, hs⟩ : ∃ s, s = sB x.street := ⟨_, rfl⟩
  obtain ⟨c, hc⟩ : ∃ c, c = sB x.code := ⟨_, rfl⟩
  obtain ⟨t, ht⟩ : ∃ t, t = sB x.town := ⟨_, rfl⟩
  rw [← hnm] at hw1 CFew CPr CPa HSC ⊢
  rw [← hp] at hw1 CPr HXC HEq bp ⊢
  rw [← hs] at hw1 CPr HXC HEq bs ⊢
  rw [← hc] at hw1 CPr HXC HEq bc ⊢
  rw [← ht] at hw1 CPr HXC HEq bt' ⊢
  clear hnm hp hs hc ht
  go_enter Tryz.func4, Tryz.ntmps4
  go_wp2_with fail
  rw [← hw1]
  clear hw1
  refine (head_any _ (tab_on HT.out HS1.out.bel)).mono ?_
  rintro e w2 ⟨rfl, hb2⟩
  have HS2 := hid (HS1.out.on hb2)
  have HX2 := hid (HX1.out.on hb2)
  obtain ⟨d0, d1⟩ := HSC.out _ HS2.out
  have hl2 := HS2.out.lt
  clear hb2 HS1 HX1
  go_wp2_with fail
  refine (CFew.out _ HS2.out).mono ?_
  rintro e w3 ⟨b, rfl, hFew, hb3⟩
  have HS3 := hid (HS2.out.on hb3)
  have HX3 := hid (HX2.out.on hb3)
  obtain ⟨d0, d1⟩ := HSC.out _ HS3.out
  obtain ⟨x0, x1, x2, x3, x4⟩ := HXC.out _ HX3.out
  have hl3 := HS3.out.lt
  have hl3' : w.heap.size + 1 < w3.heap.size := heap_lt HX3.out
  clear hb3 HS2 HX2 hl2
  cases b
  · go_wp2
    go_ret
    exact ⟨rfl, HS3.out.bel⟩
  · have HFew := hid (hFew.out rfl)
    clear hFew
    by_cases h400 : 400 < s.size + t.size + p.size + c.size
    · have d400 : decide ((400 : Int) < (s.size : Int) + (t.size : Int) + (p.size : Int) + (c.size : Int)) = true := decide_eq_true (by omega)
      have z1 : s.size ≤ 140737488355328 := by omega
      have z2 : t.size ≤ 140737488355328 := by omega
      have z3 : p.size ≤ 140737488355328 := by omega
      have z4 : c.size ≤ 140737488355328 := by omega
      clear bp bs bc bt' hx1 hx2 hx3 hx4 h400
      go_wp2
      go_ret
      exact ⟨rfl, HS3.out.bel⟩
    · have d400 : decide ((400 : Int) < (s.size : Int) + (t.size : Int) + (p.size : Int) + (c.size : Int)) = false := decide_eq_false (by omega)
      have z1 : s.size ≤ 400 := by omega
      have z2 : t.size ≤ 400 := by omega
      have z3 : p.size ≤ 400 := by omega
      have z4 : c.size ≤ 400 := by omega
      have HSm : Hid (Small x) := ⟨by omega, by omega, by omega, by omega, BX.out.n0, BX.out.n1⟩
      clear bp bs bc bt' hx1 hx2 hx3 hx4 h400
      by_cases hok : validB name fs = true ∧ fitsB fs.flatten x = true
      · have hpr := print_ok hok.1 hok.2
        have hpi := print_is hok.1 hok.2
        obtain ⟨ls, hls⟩ : ∃ ls, ls = fs.map fun ps => joinW (lineW x ps) := ⟨_, rfl⟩
        rw [← hls] at hpr hpi
        have HPI := hid hpi
        have HPR := hid hpr
        clear hls hpr hpi hok
        go_wp2_with fail
        refine (CPr.out _ HS3.out HSm.out ls 0 HPR.out).mono ?_
        rintro e w4 ⟨v, rfl, hV, hb4⟩
        obtain ⟨lA, lc, rfl, -⟩ := id hV.out
        have HS4 := hid (HS3.out.on hb4)
        have HX4 := hid (HX3.out.on hb4)
        clear d0 d1 x0 x1 x2 x3 x4
        obtain ⟨d0, d1⟩ := HSC.out _ HS4.out
        have hl4 := HS4.out.lt
        clear hb4 HS3 HX3 hl3 hl3' d400
        have hlen : ((ls.length : Int) == (fs.length : Int)) = true := by rw [HPI.out.len]; simp
        rcases HPI.out.back with hpa | ⟨rs, hpa, hmem, h16⟩
        · have HPA := hid hpa
          clear hpa
          go_wp2_with fail
          refine (CPa.out _ HS4.out ls lA lc hV.out (by have := HPI.out.few; omega) HPI.out.short [] 2 HPA.out).mono ?_
          rintro e w5 ⟨v5, rfl, hV5, hb5⟩
          have HS5 := hid (HS4.out.on hb5)
          clear hb5
          go_wp2
          go_ret
          exact ⟨rfl, HS5.out.bel⟩
        · have HPA := hid hpa
          have HMEM := hid hmem
          clear hpa hmem
          go_wp2_with fail
          refine (CPa.out _ HS4.out ls lA lc hV.out (by have := HPI.out.few; omega) HPI.out.short rs 0 HPA.out).mono ?_
          rintro e w5 ⟨v5, rfl, hV5, hb5⟩
          obtain ⟨rA, rc, rfl, hR5⟩ := id hV5.out
          have HR5 := hid hR5
          have HS5 := hid (HS4.out.on hb5)
          have HX5 := hid (HX4.out.on hb5)
          clear hb5 HS4 HX4 hl4 hR5 d0 d1
          go_wp2
          go_loopw [10, 11] (fun f i wr => ∃ k : Nat, k ≤ rs.length ∧ i = .int .i64 k ∧ f = .bool (decide (x ∈ rs.take k)) ∧ Hid (Below w5.heap.size w5 wr)) (fun _ i _ => rs.length - (intOf i).toNat)
          case atStart => exact ⟨0, Nat.zero_le _, rfl, by simp, Below.refl _ _⟩
          case round =>
            obtain ⟨k, hk, rfl, rfl, hB⟩ := hrel
            have HS6 := hid (HS5.out.on hB.out)
            obtain ⟨d0, d1⟩ := HSC.out _ HS6.out
            have hl6 := HS6.out.lt
            by_cases hlt : k < rs.length
            · obtain ⟨y, hy⟩ : ∃ y, rs[k]? = some y := ⟨_, List.getElem?_eq_getElem hlt⟩
              have HX6 := hid (HX5.out.on hB.out)
              obtain ⟨x0, x1, x2, x3, x4⟩ := HXC.out _ HX6.out
              have hl6' : w.heap.size + 1 < wr.heap.size := heap_lt HX6.out
              obtain ⟨g, o, rfl, hg, a0, a1, a2, a3, a4⟩ := ad_at (HR5.out.on hB.out) hy
              have hi0 : 0 ≤ (k : Int) := by omega
              have hi1 : (k : Int) < (rs.length : Int) := by omega
              have hmt := mem_take (x := x) hy
              have HMT := hid hmt
              have hq := HEq.out y
              clear hmt hy
              obtain ⟨q, hqd⟩ : ∃ q, q = decide (y = x) := ⟨_, rfl⟩
              rw [← hqd] at hq HMT
              obtain ⟨f, hf⟩ : ∃ f, f = decide (x ∈ rs.take k) := ⟨_, rfl⟩
              rw [← hf] at HMT
              rw [← hf]
              clear hqd hf
              cases f
              · go_wp2
                go_quiet (fail)
                go_wp2
                go_roundw
                case rel => exact ⟨k + 1, by omega, by go_num, by rw [HMT.out]; rfl, below_drewN hB.out _⟩
                case measure => simp [intOf]; omega
              · go_wp2
                go_quiet (fail)
                go_wp2
                go_roundw
                case rel => exact ⟨k + 1, by omega, by go_num, by rw [HMT.out]; rfl, below_drewN hB.out _⟩
                case measure => simp [intOf]; omega
            · have hfd : decide (x ∈ rs.take k) = true := by
                rw [List.take_of_length_le (by omega), decide_eq_true_iff]; exact HMEM.out
              rw [hfd]
              clear hfd
              go_wp2
              go_ret
              exact ⟨rfl, HS6.out.bel⟩
      · have HPR := hid (print_bad (x := x) hok)
        clear hok
        go_wp2_with fail
        refine (CPr.out _ HS3.out HSm.out [] 1 HPR.out).mono ?_
        rintro e w4 ⟨v, rfl, hV, hb4⟩
        obtain ⟨lA, lc, rfl, -⟩ := id hV.out
        have HS4 := hid (HS3.out.on hb4)
        clear hb4
        go_wp2
        go_ret
        exact ⟨rfl, HS4.out.bel⟩

end Fm
end Go.Proofs.YtcaiejbnhjiflaaGreatDoor
