/-
  The contract of the document's Few.
-/
import Derived.Test.YtcaiejbnhjiflaaGreatDoorR4
namespace Go.Proofs.YtcaiejbnhjiflaaGreatDoor
open Go.RowKit Go.ChangeMaps
namespace Fm

/-- A small format, few lines. -/
structure FewP (name : W) (fs : List (List Pt)) (lns : List W) : Prop where
  ln : lns.length ≤ 8
  fn : fs.length ≤ 10
  nm : name.length ≤ 40
  ps : ∀ ps ∈ fs, ps.length ≤ 10
  ts : ∀ p ∈ fs.flatten, p.t.length ≤ 40
  ls : ∀ l ∈ lns, l.length ≤ 200
/-- What Few says when it says yes. -/
def FewPost (name : W) (fs : List (List Pt)) (lns : List W) (w : World) (e : Ending) (w' : World) : Prop := ∃ b, e = .returned (.bool b) ∧ Hid (b = true → FewP name fs lns) ∧ Below w.heap.size w w'
theorem few_no {name : W} {fs : List (List Pt)} {lns : List W} {w w' : World} (h : Below w.heap.size w w') : FewPost name fs lns w (.returned (.bool false)) w' := by
  refine ⟨false, rfl, ?_, h⟩
  intro h; cases h
theorem mem_snoc {α : Type} {P : α → Prop} {l : List α} {k : Nat} {x : α} (h : ∀ y ∈ l.take k, P y) (hx : l[k]? = some x) (hp : P x) : ∀ y ∈ l.take (k + 1), P y := by
  intro y hy
  rw [List.take_add_one, hx] at hy
  rcases List.mem_append.1 hy with hy | hy
  · exact h y hy
  · simp at hy; rw [hy]; exact hp

set_option maxRecDepth 100000 in
set_option maxHeartbeats 16000000 in
theorem few_any (name : W) (fs : List (List Pt)) (fv : Value) (lns : List W) (lv : Value) (w : World) (hF : IsPs w fv fs) (hL : IsW w lv lns) :
    Calls Tryz.prog 11 #[.agg #[.string (sB name), fv], lv] w (FewPost name fs lns w) := by
  obtain ⟨A, cap, fvs, hfv, -⟩ := id hF
  subst hfv
  obtain ⟨lA, lcap, hlv, hlS⟩ := id hL
  subst hlv
  have HF := hid hF
  have HLS := hid hlS
  clear hF hL hlS
  have hnz := sB_size name
  obtain ⟨s, hs⟩ : ∃ s, s = sB name := ⟨_, rfl⟩
  rw [← hs] at hnz ⊢
  have HS := hid hs
  have HNZ := hid hnz
  clear hs hnz
  obtain ⟨w1, hw1⟩ : ∃ w1, w1 = w.alloc (.cells #[.string s, .slice A fs.length cap] 24) := ⟨_, rfl⟩
  have hb1 : Below w.heap.size w w1 := by rw [hw1]; exact b0 _ _
  have hsz1 : w.heap.size < w1.heap.size := by rw [hw1]; simp
  have c0 : w1.cell? ⟨w.heap.size, 0, none⟩ = some (.string s) := by rw [hw1]; simp
  have c1 : w1.cell? ⟨w.heap.size, 1, none⟩ = some (.slice A fs.length cap) := by rw [hw1]; simp
  have HB1 := hid hb1
  have HF1 := hid (HF.out.on hb1)
  have HL1 := hid (HLS.out.on hb1)
  clear hb1
  by_cases h8 : 8 < lns.length
  · have d8 : decide ((8 : Int) < (lns.length : Int)) = true := decide_eq_true (by omega)
    go_enter Tryz.func11, Tryz.ntmps11
    go_wp2
    rw [← hw1]
    go_ret
    exact few_no HB1.out
  · have d8 : decide ((8 : Int) < (lns.length : Int)) = false := decide_eq_false (by omega)
    by_cases h10 : 10 < fs.length
    · have d10 : decide ((10 : Int) < (fs.length : Int)) = true := decide_eq_true (by omega)
      go_enter Tryz.func11, Tryz.ntmps11
      go_wp2
      rw [← hw1]
      go_ret
      exact few_no HB1.out
    · have d10 : decide ((10 : Int) < (fs.length : Int)) = false := decide_eq_false (by omega)
      by_cases h40 : 40 < s.size
      · have d40 : decide ((40 : Int) < (s.size : Int)) = true := decide_eq_true (by omega)
        go_enter Tryz.func11, Tryz.ntmps11
        go_wp2
        rw [← hw1]
        go_ret
        exact few_no HB1.out
      · have d40 : decide ((40 : Int) < (s.size : Int)) = false := decide_eq_false (by omega)
        go_enter Tryz.func11, Tryz.ntmps11
        go_wp2
        rw [← hw1]
        clear hw1 d8 d10 d40
        go_loop [5] (fun i => ∃ k : Nat, k ≤ fs.length ∧ i = .int .i64 k ∧ Hid (∀ ps ∈ fs.take k, ps.length ≤ 10)) (fun i => fs.length - (intOf i).toNat)
        case atStart => exact ⟨0, Nat.zero_le _, rfl, by intro ps hps; simp at hps⟩
        case round =>
          obtain ⟨k, hk, rfl, hP⟩ := hrel
          by_cases hlt : k < fs.length
          · obtain ⟨ps, hps⟩ : ∃ ps, fs[k]? = some ps := ⟨_, List.getElem?_eq_getElem hlt⟩
            obtain ⟨g, o, A', cap', rfl, hg, hc, -⟩ := isPs_at HF1.out hps
            have hkk : (k : Int) < (fs.length : Int) := by omega
            have hk0 : 0 ≤ (k : Int) := by omega
            have HPS := hid hps
            clear hps
            by_cases hp : 10 < ps.length
            · have dp : decide ((10 : Int) < (ps.length : Int)) = true := decide_eq_true (by omega)
              go_wp2
              go_ret
              exact few_no HB1.out
            · have dp : decide ((10 : Int) < (ps.length : Int)) = false := decide_eq_false (by omega)
              have HN : Hid (∀ q ∈ fs.take (k + 1), q.length ≤ 10) := mem_snoc (P := fun q : List Pt => q.length ≤ 10) hP.out HPS.out (by omega)
              go_wp2
              go_round
              case rel => exact ⟨k + 1, by omega, by go_num, HN⟩
              case measure => simp [intOf]; omega
          · obtain rfl : k = fs.length := by omega
            have HP : Hid (∀ ps ∈ fs, ps.length ≤ 10) := by have := hP.out; rwa [List.take_length] at this
            clear hP
            have hfl := flat_le HP.out fs.length
            rw [List.take_length] at hfl
            obtain ⟨qs, hqs⟩ : ∃ qs, qs = fs.flatten := ⟨_, rfl⟩
            have CP : Hid (Calls Tryz.prog 29 #[.agg #[.string s, .slice A fs.length cap]] w1 fun e w' => ∃ v, e = .returned v ∧ Hid (IsP w' v qs) ∧ Below w1.heap.size w1 w') := by
              rw [HS.out, hqs]; exact parts_any name fs (.slice A fs.length cap) w1 HF1.out (by omega) HP.out
            rw [← hqs] at hfl
            have HQS := hid hqs
            clear hqs
            go_wp2_with fail
            refine CP.out.mono ?_
            rintro e w2 ⟨v, rfl, hV, hb2⟩
            obtain ⟨vA, vcap, rfl, hvR⟩ := id hV.out
            have HVR := hid hvR
            have HB2 := hid (bt HB1.out hb2)
            have HL2 := hid (HL1.out.on hb2)
            clear hb2 hV hvR c0 c1
            go_wp2
            go_loop [7] (fun i => ∃ k : Nat, k ≤ qs.length ∧ i = .int .i64 k ∧ Hid (∀ p ∈ qs.take k, p.t.length ≤ 40)) (fun i => qs.length - (intOf i).toNat)
            case atStart => exact ⟨0, Nat.zero_le _, rfl, by intro p hp; simp at hp⟩
            case round =>
              obtain ⟨k, hk, rfl, hT⟩ := hrel
              by_cases hlt : k < qs.length
              · obtain ⟨p, hp⟩ : ∃ p, qs[k]? = some p := ⟨_, List.getElem?_eq_getElem hlt⟩
                obtain ⟨g, o, rfl, hg, -, hc⟩ := RdP.at HVR.out hp
                have hkk : (k : Int) < (qs.length : Int) := by omega
                have hk0 : 0 ≤ (k : Int) := by omega
                have HPP := hid hp
                have hz := sB_size p.t
                unfold sV at hc
                obtain ⟨u, hu⟩ : ∃ u, u = sB p.t := ⟨_, rfl⟩
                rw [← hu] at hc hz
                clear hp hu
                by_cases h41 : 40 < u.size
                · have dp : decide ((40 : Int) < (u.size : Int)) = true := decide_eq_true (by omega)
                  clear hz
                  go_wp2
                  go_ret
                  exact few_no HB2.out
                · have dp : decide ((40 : Int) < (u.size : Int)) = false := decide_eq_false (by omega)
                  have HN : Hid (∀ q ∈ qs.take (k + 1), q.t.length ≤ 40) := mem_snoc (P := fun q : Pt => q.t.length ≤ 40) hT.out HPP.out (by omega)
                  clear hz
                  go_wp2
                  go_round
                  case rel => exact ⟨k + 1, by omega, by go_num, HN⟩
                  case measure => simp [intOf]; omega
              · obtain hkl : k = qs.length := by omega
                have HT : Hid (∀ p ∈ qs, p.t.length ≤ 40) := by have := hT.out; rw [hkl, List.take_length] at this; exact this
                clear hT hkl
                go_wp2
                go_loop [8] (fun i => ∃ k : Nat, k ≤ lns.length ∧ i = .int .i64 k ∧ Hid (∀ l ∈ lns.take k, l.length ≤ 200)) (fun i => lns.length - (intOf i).toNat)
                case atStart => exact ⟨0, Nat.zero_le _, rfl, by intro p hp; simp at hp⟩
                case round =>
                  obtain ⟨m, hm, rfl, hQ⟩ := hrel
                  by_cases hltm : m < lns.length
                  · obtain ⟨l, hl⟩ : ∃ l, lns[m]? = some l := ⟨_, List.getElem?_eq_getElem hltm⟩
                    obtain ⟨g, o, rfl, hg, hc⟩ := HL2.out.at (k := m) (u := sV l) (by rw [List.getElem?_map, hl]; rfl)
                    have hkk : (m : Int) < (lns.length : Int) := by omega
                    have hk0 : 0 ≤ (m : Int) := by omega
                    have HLL := hid hl
                    have hz := sB_size l
                    unfold sV at hc
                    obtain ⟨u, hu⟩ : ∃ u, u = sB l := ⟨_, rfl⟩
                    rw [← hu] at hc hz
                    clear hl hu
                    by_cases h200 : 200 < u.size
                    · have dp : decide ((200 : Int) < (u.size : Int)) = true := decide_eq_true (by omega)
                      clear hz
                      go_wp2
                      go_ret
                      exact few_no HB2.out
                    · have dp : decide ((200 : Int) < (u.size : Int)) = false := decide_eq_false (by omega)
                      have HN : Hid (∀ q ∈ lns.take (m + 1), q.length ≤ 200) := mem_snoc (P := fun q : W => q.length ≤ 200) hQ.out HLL.out (by omega)
                      clear hz
                      go_wp2
                      go_round
                      case rel => exact ⟨m + 1, by omega, by go_num, HN⟩
                      case measure => simp [intOf]; omega
                  · obtain hml : m = lns.length := by omega
                    have HQ : Hid (∀ l ∈ lns, l.length ≤ 200) := by have := hQ.out; rw [hml, List.take_length] at this; exact this
                    clear hQ hml
                    go_wp2
                    go_ret
                    exact ⟨true, rfl, fun _ => ⟨by omega, by omega, by have := HNZ.out; omega, HP.out, by rw [← HQS.out]; exact HT.out, HQ.out⟩, HB2.out⟩

end Fm
end Go.Proofs.YtcaiejbnhjiflaaGreatDoor
