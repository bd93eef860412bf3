/-
  The walk of LexerRuns.
-/
import Derived.Test.YtdhemkcbaoebcaaDoorLPr
import Derived.Test.YtdhemkcbaoebcaaDoorR1
namespace Go.Proofs.YtdhemkcbaoebcaaDoor
open Go.RowKit
namespace Lx

/-- What is known of a token of a text. -/
structure TokP (L : List UInt8) (t : Tk) : Prop where
  kind : kindL (src t) = t.k
  ne : t.k ≠ 0
  text : txt t.k (src t) = t.t
  nx : okNext t.k (src t) ((L.drop (t.p + (src t).length)).head?)
  pv : (t.k = 1 ∨ t.k = 2) → 0 < t.p → wordB (L.getD (t.p - 1) 0) = false
  le : t.p + (src t).length ≤ L.length
  len : (src t).length ≤ 202
  pos : 0 < (src t).length
  piece : (L.drop t.p).take (src t).length = src t
theorem cov_tok (L : List UInt8) : ∀ (ts : List Tk) (a : Nat), Cov L a ts → ∀ i (h : i < ts.length), TokP L ts[i] := by
  intro ts
  induction ts with
  | nil => intro a _ i h; simp at h
  | cons x ts ih =>
    intro a h i hi
    unfold Cov at h
    obtain ⟨h1, h2, h3, h4, h5, h6, h7, h8, h9, h10⟩ := h
    match i with
    | 0 =>
      obtain ⟨k1, k2, -⟩ := kind_head (p := src x) (by rw [h5]; exact h6)
      exact ⟨h5, h6, h7, h8, h9, h2, k2, k1, h3⟩
    | i + 1 => exact ih _ h10 i (by simpa using hi)
theorem TokP.k4 {L : List UInt8} {t : Tk} (h : TokP L t) : t.k = 1 ∨ t.k = 2 ∨ t.k = 3 ∨ t.k = 4 := by
  have := (kind_head (p := src t) (by rw [h.kind]; exact h.ne)).2.2.2.2.2
  have := h.ne
  have := h.kind
  omega
theorem TokP.word {L : List UInt8} {t : Tk} (h : TokP L t) (hk : t.k = 1 ∨ t.k = 2) : t.t.all digB = decide (t.k = 2) := by
  have hs : src t = t.t := by unfold src; rw [if_neg (by omega)]
  have hkk := h.kind
  rw [hs] at hkk
  rcases kind_ways (p := t.t) (by rw [hkk]; exact h.ne) with ⟨_, h2⟩ | ⟨_, h2⟩ | ⟨h1, _, h2⟩
  · omega
  · omega
  · rcases (run_head h1).2.2.2 with ⟨d1, d2, -⟩ | ⟨d1, d2, -⟩
    · rw [d2, decide_eq_true (by omega)]
    · rw [d2, decide_eq_false (by omega)]
theorem TokP.next {L : List UInt8} {t : Tk} (h : TokP L t) (hk : t.k = 1 ∨ t.k = 2) {j : Nat} (hj : j = t.p + (src t).length) (hl : j < L.length) : wordB (L.getD j 0) = false := by
  refine h.nx.1 hk _ ?_
  rw [← hj, head_drop, if_pos hl]
theorem TokP.dash {L : List UInt8} {t : Tk} (h : TokP L t) (hk : t.k = 3) (ht : t.t = [45]) {j : Nat} (hj : j = t.p + (src t).length) (hl : j < L.length) : L.getD j 0 ≠ 62 := by
  have hs : src t = [45] := by unfold src; rw [if_neg (by omega)]; exact ht
  have := h.nx.2 hs
  rw [← hj, head_drop, if_pos hl] at this
  exact fun e => this (by rw [e])

set_option maxRecDepth 100000 in
set_option maxHeartbeats 16000000 in
theorem lawRn_any (s : ByteArray) (w : World) (hs : s.size ≤ maxLen) (hT : Syms w) :
    Calls Tryd.prog 6 #[.string s] w fun e w' => e = .returned (.bool true) ∧ Below w.heap.size w w' := by
  have CH := hid (head_any w hT)
  have HT := hid hT
  have CM := small_any s
  clear hT
  by_cases h81 : s.size ≤ 8100
  · rw [decide_eq_true h81] at CM
    have CMh := hid CM
    clear CM
    have HS := hid hs
    have early : ∀ (E P : Int) (ts : List Tk), lexR s.data.toList = (ts, E, P) → E ≠ 0 → Calls Tryd.prog 6 #[.string s] w fun e w' => e = .returned (.bool true) ∧ Below w.heap.size w w' := by
      intro E P ts hR hE
      have CL := hid (fun u (h : Syms u) => lex_c s u HS.out h hR)
      have e1 : ((E : Int) != 0) = true := by simp [hE]
      clear hR hE
      go_enter Tryd.func6, Tryd.ntmps6
      go_wp2_with fail
      refine CH.out.mono ?_
      rintro e w1 ⟨rfl, hb1⟩
      go_wp2_with fail
      refine (CMh.out _).mono ?_
      rintro e w1' ⟨rfl, rfl⟩
      go_wp2_with fail
      refine (CL.out _ (HT.out.below hb1)).mono ?_
      rintro e w2 ⟨p, cap, rfl, hr, hb'⟩
      have hb2 := bt hb1 hb'
      clear hb' hr
      go_wp2
      go_ret
      exact ⟨rfl, hb2⟩
    rcases lexR_ways s.data.toList with ⟨-, hR⟩ | ⟨hsl, h0, hR⟩ | ⟨-, er, j, he, hj, h10, h0, hR⟩
    · exact early 2 8000 [] hR (by decide)
    · clear early
      obtain ⟨ts, hts⟩ : ∃ ts, ts = (lexL s.data.toList 0 0).1 := ⟨_, rfl⟩
      have hL : lexL s.data.toList 0 0 = (ts, 0, -1) := by rw [hts, ← h0]
      have hRR := hR.trans hL
      have hcnt := (lex_count s.data.toList 0 0).1 (by omega)
      rw [hL] at hcnt
      simp only at hcnt
      have hcov := cov_top (l := s.data.toList) (by rw [hL])
      rw [hL] at hcov
      have HC := hid (cov_tok s.data.toList ts 0 hcov)
      have CL := hid (fun u (h : Syms u) => lex_c s u HS.out h hRR)
      have hs8 : s.size ≤ 8000 := by rw [s_len] at hsl; exact hsl
      clear hR h0 hL hRR hts hcov hs hsl
      go_enter Tryd.func6, Tryd.ntmps6
      go_wp2_with fail
      refine CH.out.mono ?_
      rintro e w1 ⟨rfl, hb1⟩
      go_wp2_with fail
      refine (CMh.out _).mono ?_
      rintro e w1' ⟨rfl, rfl⟩
      go_wp2_with fail
      refine (CL.out _ (HT.out.below hb1)).mono ?_
      rintro e w2 ⟨p, cap, rfl, hr, hb'⟩
      have hb2 := bt hb1 hb'
      clear hb'
      go_wp2
      go_loopw [7] (fun i wr => ∃ k : Nat, k ≤ ts.length ∧ i = .int .i64 k ∧ Below w2.heap.size w2 wr) (fun i _ => ts.length - (intOf i).toNat)
      case atStart => exact ⟨0, by omega, rfl, Below.refl _ _⟩
      case round =>
        obtain ⟨k, hk, rfl, hbr⟩ := hrel
        by_cases hlt : k < ts.length
        · obtain ⟨g, rfl, hg, c0, c1, c2⟩ := hr.out.at hlt
          have hTP := HC.out k hlt
          obtain ⟨X, hX⟩ : ∃ X : ByteArray, X = ⟨(ts[k].t).toArray⟩ := ⟨_, rfl⟩
          have hZ := src_size hX
          have hXl : X.data.toList = ts[k].t := by rw [hX]
          have hXs : X.size ≤ 202 := by
            have h7 : (src ts[k]).length ≥ ts[k].t.length := by
              unfold src; split
              · simp; omega
              · exact Nat.le_refl _
            have := hTP.len
            rw [← hXl, s_len] at h7
            omega
          have CSr := fun u => source_any ts[k].k ts[k].p X u (by omega)
          obtain ⟨j, hj⟩ : ∃ j, j = ts[k].p + (src ts[k]).length := ⟨_, rfl⟩
          have hjs : j ≤ s.size := by have := hTP.le; rw [s_len] at this; omega
          have hpj : ts[k].p < j := by have := hTP.pos; omega
          have hK4 := hTP.k4
          have hW := hTP.word
          have hN := fun h12 => hTP.next h12 hj
          have hD := fun h3 => hTP.dash h3 (j := j)
          have hPv := hTP.pv
          rw [← hXl] at hW hD
          obtain ⟨P, hP⟩ : ∃ P, P = ts[k].p := ⟨_, rfl⟩
          obtain ⟨K, hK⟩ : ∃ K, K = ts[k].k := ⟨_, rfl⟩
          obtain ⟨Z, hZe⟩ : ∃ Z, Z = srcS ts[k].k X := ⟨_, rfl⟩
          have hD2 : K = 3 → X.data.toList = [45] → j < s.data.toList.length → s.data.toList.getD j 0 ≠ 62 := fun h3 hx hl => hD (by rw [← hK]; exact h3) hx hj hl
          rw [← hZe] at hZ CSr
          rw [← hX] at c1
          rw [← hP] at c2 CSr hPv hpj hj
          rw [← hK] at c0 CSr hK4 hW hN hPv
          have hwr : IntKind.i64.wrap ((P : Int) + (Z.size : Int)) = (j : Int) := by rw [IntWalk.i64_in _ (by omega)]; omega
          have CSh := hid CSr
          have HW := hid hW
          have HN := hid hN
          have HD := hid hD2
          have HPv := hid hPv
          have HK4 := hid hK4
          have hgr : g < wr.heap.size := Nat.lt_of_lt_of_le hg hbr.size
          have e0 := (hbr.cell (p := (⟨g, k * 3, none⟩ : Addr)) hg).trans c0
          have e1 := (hbr.cell (p := (⟨g, k * 3 + 1, none⟩ : Addr)) hg).trans c1
          have e2 := (hbr.cell (p := (⟨g, k * 3 + 2, none⟩ : Addr)) hg).trans c2
          have d0 : ∀ u : Near wr, u.w.cell? ⟨g, k * 3, none⟩ = some (.int .i64 (K : Int)) := fun u => (u.below.cell (p := (⟨g, k * 3, none⟩ : Addr)) hgr).trans e0
          have d1 : ∀ u : Near wr, u.w.cell? ⟨g, k * 3 + 1, none⟩ = some (.string X) := fun u => (u.below.cell (p := (⟨g, k * 3 + 1, none⟩ : Addr)) hgr).trans e1
          have d2 : ∀ u : Near wr, u.w.cell? ⟨g, k * 3 + 2, none⟩ = some (.int .i64 (P : Int)) := fun u => (u.below.cell (p := (⟨g, k * 3 + 2, none⟩ : Addr)) hgr).trans e2
          have D5 := hid (fun (u : Near wr) => near_calls u (CSh.out u.w))
          have hi0 : 0 ≤ (k : Int) := by omega
          have hi1 : (k : Int) < (ts.length : Int) := by omega
          clear hTP hX hZ hXl hP hK hZe hD hD2 hW hN hPv c0 c1 c2 e0 e1 e2 CSr hj hK4
          go_wp2
          refine wp_region_near (wM := wr) (by kernel_rfl) (by kernel_rfl) (Below.refl _ _) ?_
          repeat (go_big_quiet_step ((go_at_call 15; with_reducible exact D5.out _)))
          refine wpQuiet_nil ?_
          rintro _ ⟨u, rfl⟩
          have f0 := d0 u
          have f1 := d1 u
          have f2 := d2 u
          have hbu := hbr.trans (u.below.mono hbr.size)
          clear hwr d0 d1 d2 D5
          have q0 : decide ((P : Int) < 0) = false := by rw [decide_eq_false_iff_not]; omega
          have q1 : decide ((s.size : Int) < (j : Int)) = false := by rw [decide_eq_false_iff_not]; omega
          have q1n : decide (s.size < j) = false := by rw [decide_eq_false_iff_not]; omega
          rcases HK4.out with h1 | h2 | h3 | h4
          · have h12 : K = 1 ∨ K = 2 := by omega
            have hW := hid (HW.out h12)
            have hWk : Hid (decide (K = 2) = false) := by show _ = _; subst h1; rfl
            have x1 : ((K : Int) == 1) = true := by simp; omega
            have y1 : ((K : Int) != 1) = false := by simp; omega
            have x2 : ((K : Int) == 2) = false := by simp; omega
            have y2 : ((K : Int) != 2) = true := by simp; omega
            have x3 : ((K : Int) == 3) = false := by simp; omega
            have y3 : ((K : Int) != 3) = true := by simp; omega
            clear h1
            by_cases hp0 : 0 < P
            · have hwp := HPv.out h12 hp0
              have hpl : P - 1 < s.size := by omega
              rw [← s_at s (P - 1) hpl] at hwp
              have CW1 := rWord_any s[P - 1] u.w
              rw [hwp] at CW1
              have CWp := hid CW1
              have t1 : decide (0 < (P : Int)) = true := by rw [decide_eq_true_eq]; omega
              clear CW1 hwp
              by_cases hjl : j < s.size
              · have hwj := HN.out h12 (by rw [s_len]; exact hjl)
                rw [← s_at s j hjl] at hwj
                have CW2 := rWord_any s[j] u.w
                rw [hwj] at CW2
                have CWj := hid CW2
                have t2 : decide ((j : Int) < (s.size : Int)) = true := by rw [decide_eq_true_eq]; omega
                clear CW2 hwj
                go_wp2_with fail
                refine CWp.out.mono ?_
                rintro e w' ⟨rfl, rfl⟩
                go_wp2_with fail
                refine CWj.out.mono ?_
                rintro e w' ⟨rfl, rfl⟩
                go_wp2
                (try clear CWp)
                (try clear CWj)
                clear t1 t2 q0 q1 q1n
                (try clear hjl)
                (try clear hp0)
                go_loop [9, 10] (fun d i => ∃ (m : Nat) (b : Bool), m ≤ X.size ∧ i = .int .i64 m ∧ d = .bool b ∧ Hid (allTo digB X.data.toList m = b)) (fun _ i => X.size - (intOf i).toNat)
                case atStart => exact ⟨0, true, Nat.zero_le _, rfl, rfl, rfl⟩
                case round =>
                  obtain ⟨m, b, hm, rfl, rfl, hd⟩ := hrel
                  by_cases hml : m < X.size
                  · have hx := s_at X m hml
                    have hd2 := allTo_succ (p := digB) (l := X.data.toList) (k := m) (by rw [s_len]; exact hml)
                    rw [← hx, hd.out] at hd2
                    have CD0 := rDigit_any X[m] u.w
                    obtain ⟨y, hy⟩ : ∃ y, y = digB X[m] := ⟨_, rfl⟩
                    rw [← hy] at hd2 CD0
                    have CD := hid CD0
                    have HD2 := hid hd2
                    have hm0 : 0 ≤ (m : Int) := by omega
                    have hm1 : (m : Int) < (X.size : Int) := by omega
                    clear hd2 hx hy CD0
                    cases b
                    · go_wp2
                      go_round
                      case rel => exact ⟨m + 1, false, by omega, by go_num, rfl, HD2.out⟩
                      case measure => simp [intOf]; omega
                    · go_wp2_with fail
                      refine CD.out.mono ?_
                      rintro e w' ⟨rfl, rfl⟩
                      go_wp2
                      go_round
                      case rel => first | exact ⟨m + 1, y, by omega, by go_num, rfl, HD2.out⟩ | (refine ⟨trivial, ?_⟩; (repeat apply Exists.intro); refine ⟨?_, rfl⟩; exact ⟨m + 1, y, by omega, by go_num, rfl, HD2.out⟩)
                      case measure => simp [intOf]; omega
                  · have hb : b = false := by
                      have h5 := allTo_all (p := digB) (l := X.data.toList) (k := m) (by rw [s_len]; omega)
                      rw [hd.out, hW.out, hWk.out] at h5
                      exact h5
                    subst hb
                    go_wp2
                    go_roundw
                    case rel => exact ⟨k + 1, by omega, by go_num, hbu⟩
                    case measure => simp [intOf]; omega
              · have t2 : decide ((j : Int) < (s.size : Int)) = false := by rw [decide_eq_false_iff_not]; omega
                go_wp2_with fail
                refine CWp.out.mono ?_
                rintro e w' ⟨rfl, rfl⟩
                go_wp2
                (try clear CWp)
                (try clear CWj)
                clear t1 t2 q0 q1 q1n
                (try clear hjl)
                (try clear hp0)
                go_loop [9, 10] (fun d i => ∃ (m : Nat) (b : Bool), m ≤ X.size ∧ i = .int .i64 m ∧ d = .bool b ∧ Hid (allTo digB X.data.toList m = b)) (fun _ i => X.size - (intOf i).toNat)
                case atStart => exact ⟨0, true, Nat.zero_le _, rfl, rfl, rfl⟩
                case round =>
                  obtain ⟨m, b, hm, rfl, rfl, hd⟩ := hrel
                  by_cases hml : m < X.size
                  · have hx := s_at X m hml
                    have hd2 := allTo_succ (p := digB) (l := X.data.toList) (k := m) (by rw [s_len]; exact hml)
                    rw [← hx, hd.out] at hd2
                    have CD0 := rDigit_any X[m] u.w
                    obtain ⟨y, hy⟩ : ∃ y, y = digB X[m] := ⟨_, rfl⟩
                    rw [← hy] at hd2 CD0
                    have CD := hid CD0
                    have HD2 := hid hd2
                    have hm0 : 0 ≤ (m : Int) := by omega
                    have hm1 : (m : Int) < (X.size : Int) := by omega
                    clear hd2 hx hy CD0
                    cases b
                    · go_wp2
                      go_round
                      case rel => exact ⟨m + 1, false, by omega, by go_num, rfl, HD2.out⟩
                      case measure => simp [intOf]; omega
                    · go_wp2_with fail
                      refine CD.out.mono ?_
                      rintro e w' ⟨rfl, rfl⟩
                      go_wp2
                      go_round
                      case rel => first | exact ⟨m + 1, y, by omega, by go_num, rfl, HD2.out⟩ | (refine ⟨trivial, ?_⟩; (repeat apply Exists.intro); refine ⟨?_, rfl⟩; exact ⟨m + 1, y, by omega, by go_num, rfl, HD2.out⟩)
                      case measure => simp [intOf]; omega
                  · have hb : b = false := by
                      have h5 := allTo_all (p := digB) (l := X.data.toList) (k := m) (by rw [s_len]; omega)
                      rw [hd.out, hW.out, hWk.out] at h5
                      exact h5
                    subst hb
                    go_wp2
                    go_roundw
                    case rel => exact ⟨k + 1, by omega, by go_num, hbu⟩
                    case measure => simp [intOf]; omega
            · have t1 : decide (0 < (P : Int)) = false := by rw [decide_eq_false_iff_not]; omega
              by_cases hjl : j < s.size
              · have hwj := HN.out h12 (by rw [s_len]; exact hjl)
                rw [← s_at s j hjl] at hwj
                have CW2 := rWord_any s[j] u.w
                rw [hwj] at CW2
                have CWj := hid CW2
                have t2 : decide ((j : Int) < (s.size : Int)) = true := by rw [decide_eq_true_eq]; omega
                clear CW2 hwj
                go_wp2_with fail
                refine CWj.out.mono ?_
                rintro e w' ⟨rfl, rfl⟩
                go_wp2
                (try clear CWp)
                (try clear CWj)
                clear t1 t2 q0 q1 q1n
                (try clear hjl)
                (try clear hp0)
                go_loop [9, 10] (fun d i => ∃ (m : Nat) (b : Bool), m ≤ X.size ∧ i = .int .i64 m ∧ d = .bool b ∧ Hid (allTo digB X.data.toList m = b)) (fun _ i => X.size - (intOf i).toNat)
                case atStart => exact ⟨0, true, Nat.zero_le _, rfl, rfl, rfl⟩
                case round =>
                  obtain ⟨m, b, hm, rfl, rfl, hd⟩ := hrel
                  by_cases hml : m < X.size
                  · have hx := s_at X m hml
                    have hd2 := allTo_succ (p := digB) (l := X.data.toList) (k := m) (by rw [s_len]; exact hml)
                    rw [← hx, hd.out] at hd2
                    have CD0 := rDigit_any X[m] u.w
                    obtain ⟨y, hy⟩ : ∃ y, y = digB X[m] := ⟨_, rfl⟩
                    rw [← hy] at hd2 CD0
                    have CD := hid CD0
                    have HD2 := hid hd2
                    have hm0 : 0 ≤ (m : Int) := by omega
                    have hm1 : (m : Int) < (X.size : Int) := by omega
                    clear hd2 hx hy CD0
                    cases b
                    · go_wp2
                      go_round
                      case rel => exact ⟨m + 1, false, by omega, by go_num, rfl, HD2.out⟩
                      case measure => simp [intOf]; omega
                    · go_wp2_with fail
                      refine CD.out.mono ?_
                      rintro e w' ⟨rfl, rfl⟩
                      go_wp2
                      go_round
                      case rel => first | exact ⟨m + 1, y, by omega, by go_num, rfl, HD2.out⟩ | (refine ⟨trivial, ?_⟩; (repeat apply Exists.intro); refine ⟨?_, rfl⟩; exact ⟨m + 1, y, by omega, by go_num, rfl, HD2.out⟩)
                      case measure => simp [intOf]; omega
                  · have hb : b = false := by
                      have h5 := allTo_all (p := digB) (l := X.data.toList) (k := m) (by rw [s_len]; omega)
                      rw [hd.out, hW.out, hWk.out] at h5
                      exact h5
                    subst hb
                    go_wp2
                    go_roundw
                    case rel => exact ⟨k + 1, by omega, by go_num, hbu⟩
                    case measure => simp [intOf]; omega
              · have t2 : decide ((j : Int) < (s.size : Int)) = false := by rw [decide_eq_false_iff_not]; omega
                go_wp2
                (try clear CWp)
                (try clear CWj)
                clear t1 t2 q0 q1 q1n
                (try clear hjl)
                (try clear hp0)
                go_loop [9, 10] (fun d i => ∃ (m : Nat) (b : Bool), m ≤ X.size ∧ i = .int .i64 m ∧ d = .bool b ∧ Hid (allTo digB X.data.toList m = b)) (fun _ i => X.size - (intOf i).toNat)
                case atStart => exact ⟨0, true, Nat.zero_le _, rfl, rfl, rfl⟩
                case round =>
                  obtain ⟨m, b, hm, rfl, rfl, hd⟩ := hrel
                  by_cases hml : m < X.size
                  · have hx := s_at X m hml
                    have hd2 := allTo_succ (p := digB) (l := X.data.toList) (k := m) (by rw [s_len]; exact hml)
                    rw [← hx, hd.out] at hd2
                    have CD0 := rDigit_any X[m] u.w
                    obtain ⟨y, hy⟩ : ∃ y, y = digB X[m] := ⟨_, rfl⟩
                    rw [← hy] at hd2 CD0
                    have CD := hid CD0
                    have HD2 := hid hd2
                    have hm0 : 0 ≤ (m : Int) := by omega
                    have hm1 : (m : Int) < (X.size : Int) := by omega
                    clear hd2 hx hy CD0
                    cases b
                    · go_wp2
                      go_round
                      case rel => exact ⟨m + 1, false, by omega, by go_num, rfl, HD2.out⟩
                      case measure => simp [intOf]; omega
                    · go_wp2_with fail
                      refine CD.out.mono ?_
                      rintro e w' ⟨rfl, rfl⟩
                      go_wp2
                      go_round
                      case rel => first | exact ⟨m + 1, y, by omega, by go_num, rfl, HD2.out⟩ | (refine ⟨trivial, ?_⟩; (repeat apply Exists.intro); refine ⟨?_, rfl⟩; exact ⟨m + 1, y, by omega, by go_num, rfl, HD2.out⟩)
                      case measure => simp [intOf]; omega
                  · have hb : b = false := by
                      have h5 := allTo_all (p := digB) (l := X.data.toList) (k := m) (by rw [s_len]; omega)
                      rw [hd.out, hW.out, hWk.out] at h5
                      exact h5
                    subst hb
                    go_wp2
                    go_roundw
                    case rel => exact ⟨k + 1, by omega, by go_num, hbu⟩
                    case measure => simp [intOf]; omega
          · have h12 : K = 1 ∨ K = 2 := by omega
            have hW := hid (HW.out h12)
            have hWk : Hid (decide (K = 2) = true) := by show _ = _; subst h2; rfl
            have x1 : ((K : Int) == 1) = false := by simp; omega
            have y1 : ((K : Int) != 1) = true := by simp; omega
            have x2 : ((K : Int) == 2) = true := by simp; omega
            have y2 : ((K : Int) != 2) = false := by simp; omega
            have x3 : ((K : Int) == 3) = false := by simp; omega
            have y3 : ((K : Int) != 3) = true := by simp; omega
            clear h2
            by_cases hp0 : 0 < P
            · have hwp := HPv.out h12 hp0
              have hpl : P - 1 < s.size := by omega
              rw [← s_at s (P - 1) hpl] at hwp
              have CW1 := rWord_any s[P - 1] u.w
              rw [hwp] at CW1
              have CWp := hid CW1
              have t1 : decide (0 < (P : Int)) = true := by rw [decide_eq_true_eq]; omega
              clear CW1 hwp
              by_cases hjl : j < s.size
              · have hwj := HN.out h12 (by rw [s_len]; exact hjl)
                rw [← s_at s j hjl] at hwj
                have CW2 := rWord_any s[j] u.w
                rw [hwj] at CW2
                have CWj := hid CW2
                have t2 : decide ((j : Int) < (s.size : Int)) = true := by rw [decide_eq_true_eq]; omega
                clear CW2 hwj
                go_wp2_with fail
                refine CWp.out.mono ?_
                rintro e w' ⟨rfl, rfl⟩
                go_wp2_with fail
                refine CWj.out.mono ?_
                rintro e w' ⟨rfl, rfl⟩
                go_wp2
                (try clear CWp)
                (try clear CWj)
                clear t1 t2 q0 q1 q1n
                (try clear hjl)
                (try clear hp0)
                go_loop [9, 10] (fun d i => ∃ (m : Nat) (b : Bool), m ≤ X.size ∧ i = .int .i64 m ∧ d = .bool b ∧ Hid (allTo digB X.data.toList m = b)) (fun _ i => X.size - (intOf i).toNat)
                case atStart => exact ⟨0, true, Nat.zero_le _, rfl, rfl, rfl⟩
                case round =>
                  obtain ⟨m, b, hm, rfl, rfl, hd⟩ := hrel
                  by_cases hml : m < X.size
                  · have hx := s_at X m hml
                    have hd2 := allTo_succ (p := digB) (l := X.data.toList) (k := m) (by rw [s_len]; exact hml)
                    rw [← hx, hd.out] at hd2
                    have CD0 := rDigit_any X[m] u.w
                    obtain ⟨y, hy⟩ : ∃ y, y = digB X[m] := ⟨_, rfl⟩
                    rw [← hy] at hd2 CD0
                    have CD := hid CD0
                    have HD2 := hid hd2
                    have hm0 : 0 ≤ (m : Int) := by omega
                    have hm1 : (m : Int) < (X.size : Int) := by omega
                    clear hd2 hx hy CD0
                    cases b
                    · go_wp2
                      go_round
                      case rel => exact ⟨m + 1, false, by omega, by go_num, rfl, HD2.out⟩
                      case measure => simp [intOf]; omega
                    · go_wp2_with fail
                      refine CD.out.mono ?_
                      rintro e w' ⟨rfl, rfl⟩
                      go_wp2
                      go_round
                      case rel => first | exact ⟨m + 1, y, by omega, by go_num, rfl, HD2.out⟩ | (refine ⟨trivial, ?_⟩; (repeat apply Exists.intro); refine ⟨?_, rfl⟩; exact ⟨m + 1, y, by omega, by go_num, rfl, HD2.out⟩)
                      case measure => simp [intOf]; omega
                  · have hb : b = true := by
                      have h5 := allTo_all (p := digB) (l := X.data.toList) (k := m) (by rw [s_len]; omega)
                      rw [hd.out, hW.out, hWk.out] at h5
                      exact h5
                    subst hb
                    go_wp2
                    go_roundw
                    case rel => exact ⟨k + 1, by omega, by go_num, hbu⟩
                    case measure => simp [intOf]; omega
              · have t2 : decide ((j : Int) < (s.size : Int)) = false := by rw [decide_eq_false_iff_not]; omega
                go_wp2_with fail
                refine CWp.out.mono ?_
                rintro e w' ⟨rfl, rfl⟩
                go_wp2
                (try clear CWp)
                (try clear CWj)
                clear t1 t2 q0 q1 q1n
                (try clear hjl)
                (try clear hp0)
                go_loop [9, 10] (fun d i => ∃ (m : Nat) (b : Bool), m ≤ X.size ∧ i = .int .i64 m ∧ d = .bool b ∧ Hid (allTo digB X.data.toList m = b)) (fun _ i => X.size - (intOf i).toNat)
                case atStart => exact ⟨0, true, Nat.zero_le _, rfl, rfl, rfl⟩
                case round =>
                  obtain ⟨m, b, hm, rfl, rfl, hd⟩ := hrel
                  by_cases hml : m < X.size
                  · have hx := s_at X m hml
                    have hd2 := allTo_succ (p := digB) (l := X.data.toList) (k := m) (by rw [s_len]; exact hml)
                    rw [← hx, hd.out] at hd2
                    have CD0 := rDigit_any X[m] u.w
                    obtain ⟨y, hy⟩ : ∃ y, y = digB X[m] := ⟨_, rfl⟩
                    rw [← hy] at hd2 CD0
                    have CD := hid CD0
                    have HD2 := hid hd2
                    have hm0 : 0 ≤ (m : Int) := by omega
                    have hm1 : (m : Int) < (X.size : Int) := by omega
                    clear hd2 hx hy CD0
                    cases b
                    · go_wp2
                      go_round
                      case rel => exact ⟨m + 1, false, by omega, by go_num, rfl, HD2.out⟩
                      case measure => simp [intOf]; omega
                    · go_wp2_with fail
                      refine CD.out.mono ?_
                      rintro e w' ⟨rfl, rfl⟩
                      go_wp2
                      go_round
                      case rel => first | exact ⟨m + 1, y, by omega, by go_num, rfl, HD2.out⟩ | (refine ⟨trivial, ?_⟩; (repeat apply Exists.intro); refine ⟨?_, rfl⟩; exact ⟨m + 1, y, by omega, by go_num, rfl, HD2.out⟩)
                      case measure => simp [intOf]; omega
                  · have hb : b = true := by
                      have h5 := allTo_all (p := digB) (l := X.data.toList) (k := m) (by rw [s_len]; omega)
                      rw [hd.out, hW.out, hWk.out] at h5
                      exact h5
                    subst hb
                    go_wp2
                    go_roundw
                    case rel => exact ⟨k + 1, by omega, by go_num, hbu⟩
                    case measure => simp [intOf]; omega
            · have t1 : decide (0 < (P : Int)) = false := by rw [decide_eq_false_iff_not]; omega
              by_cases hjl : j < s.size
              · have hwj := HN.out h12 (by rw [s_len]; exact hjl)
                rw [← s_at s j hjl] at hwj
                have CW2 := rWord_any s[j] u.w
                rw [hwj] at CW2
                have CWj := hid CW2
                have t2 : decide ((j : Int) < (s.size : Int)) = true := by rw [decide_eq_true_eq]; omega
                clear CW2 hwj
                go_wp2_with fail
                refine CWj.out.mono ?_
                rintro e w' ⟨rfl, rfl⟩
                go_wp2
                (try clear CWp)
                (try clear CWj)
                clear t1 t2 q0 q1 q1n
                (try clear hjl)
                (try clear hp0)
                go_loop [9, 10] (fun d i => ∃ (m : Nat) (b : Bool), m ≤ X.size ∧ i = .int .i64 m ∧ d = .bool b ∧ Hid (allTo digB X.data.toList m = b)) (fun _ i => X.size - (intOf i).toNat)
                case atStart => exact ⟨0, true, Nat.zero_le _, rfl, rfl, rfl⟩
                case round =>
                  obtain ⟨m, b, hm, rfl, rfl, hd⟩ := hrel
                  by_cases hml : m < X.size
                  · have hx := s_at X m hml
                    have hd2 := allTo_succ (p := digB) (l := X.data.toList) (k := m) (by rw [s_len]; exact hml)
                    rw [← hx, hd.out] at hd2
                    have CD0 := rDigit_any X[m] u.w
                    obtain ⟨y, hy⟩ : ∃ y, y = digB X[m] := ⟨_, rfl⟩
                    rw [← hy] at hd2 CD0
                    have CD := hid CD0
                    have HD2 := hid hd2
                    have hm0 : 0 ≤ (m : Int) := by omega
                    have hm1 : (m : Int) < (X.size : Int) := by omega
                    clear hd2 hx hy CD0
                    cases b
                    · go_wp2
                      go_round
                      case rel => exact ⟨m + 1, false, by omega, by go_num, rfl, HD2.out⟩
                      case measure => simp [intOf]; omega
                    · go_wp2_with fail
                      refine CD.out.mono ?_
                      rintro e w' ⟨rfl, rfl⟩
                      go_wp2
                      go_round
                      case rel => first | exact ⟨m + 1, y, by omega, by go_num, rfl, HD2.out⟩ | (refine ⟨trivial, ?_⟩; (repeat apply Exists.intro); refine ⟨?_, rfl⟩; exact ⟨m + 1, y, by omega, by go_num, rfl, HD2.out⟩)
                      case measure => simp [intOf]; omega
                  · have hb : b = true := by
                      have h5 := allTo_all (p := digB) (l := X.data.toList) (k := m) (by rw [s_len]; omega)
                      rw [hd.out, hW.out, hWk.out] at h5
                      exact h5
                    subst hb
                    go_wp2
                    go_roundw
                    case rel => exact ⟨k + 1, by omega, by go_num, hbu⟩
                    case measure => simp [intOf]; omega
              · have t2 : decide ((j : Int) < (s.size : Int)) = false := by rw [decide_eq_false_iff_not]; omega
                go_wp2
                (try clear CWp)
                (try clear CWj)
                clear t1 t2 q0 q1 q1n
                (try clear hjl)
                (try clear hp0)
                go_loop [9, 10] (fun d i => ∃ (m : Nat) (b : Bool), m ≤ X.size ∧ i = .int .i64 m ∧ d = .bool b ∧ Hid (allTo digB X.data.toList m = b)) (fun _ i => X.size - (intOf i).toNat)
                case atStart => exact ⟨0, true, Nat.zero_le _, rfl, rfl, rfl⟩
                case round =>
                  obtain ⟨m, b, hm, rfl, rfl, hd⟩ := hrel
                  by_cases hml : m < X.size
                  · have hx := s_at X m hml
                    have hd2 := allTo_succ (p := digB) (l := X.data.toList) (k := m) (by rw [s_len]; exact hml)
                    rw [← hx, hd.out] at hd2
                    have CD0 := rDigit_any X[m] u.w
                    obtain ⟨y, hy⟩ : ∃ y, y = digB X[m] := ⟨_, rfl⟩
                    rw [← hy] at hd2 CD0
                    have CD := hid CD0
                    have HD2 := hid hd2
                    have hm0 : 0 ≤ (m : Int) := by omega
                    have hm1 : (m : Int) < (X.size : Int) := by omega
                    clear hd2 hx hy CD0
                    cases b
                    · go_wp2
                      go_round
                      case rel => exact ⟨m + 1, false, by omega, by go_num, rfl, HD2.out⟩
                      case measure => simp [intOf]; omega
                    · go_wp2_with fail
                      refine CD.out.mono ?_
                      rintro e w' ⟨rfl, rfl⟩
                      go_wp2
                      go_round
                      case rel => first | exact ⟨m + 1, y, by omega, by go_num, rfl, HD2.out⟩ | (refine ⟨trivial, ?_⟩; (repeat apply Exists.intro); refine ⟨?_, rfl⟩; exact ⟨m + 1, y, by omega, by go_num, rfl, HD2.out⟩)
                      case measure => simp [intOf]; omega
                  · have hb : b = true := by
                      have h5 := allTo_all (p := digB) (l := X.data.toList) (k := m) (by rw [s_len]; omega)
                      rw [hd.out, hW.out, hWk.out] at h5
                      exact h5
                    subst hb
                    go_wp2
                    go_roundw
                    case rel => exact ⟨k + 1, by omega, by go_num, hbu⟩
                    case measure => simp [intOf]; omega
          · have x1 : ((K : Int) == 1) = false := by simp; omega
            have y1 : ((K : Int) != 1) = true := by simp; omega
            have x2 : ((K : Int) == 2) = false := by simp; omega
            have y2 : ((K : Int) != 2) = true := by simp; omega
            have x3 : ((K : Int) == 3) = true := by simp; omega
            have y3 : ((K : Int) != 3) = false := by simp; omega
            by_cases hx : X.data.toList = [45]
            · obtain rfl : X = ⟨#[45]⟩ := ba_of hx
              by_cases hjl : j < s.size
              · have hne := HD.out h3 hx (by rw [s_len]; exact hjl)
                rw [← s_at s j hjl] at hne
                have t2 : decide ((j : Int) < (s.size : Int)) = true := by rw [decide_eq_true_eq]; omega
                have hne2 : s[j].toNat ≠ 62 := fun e => hne ((byte_eq (n := 62) e (by omega)).trans rfl)
                have t3 : (((s[j].toNat : Nat) : Int) == 62) = false := by simp; omega
                have hj0 : 0 ≤ (j : Int) := by omega
                clear hne hne2 h3 hx
                go_wp2
                go_roundw
                case rel => exact ⟨k + 1, by omega, by go_num, hbu⟩
                case measure => simp [intOf]; omega
              · have t2 : decide ((j : Int) < (s.size : Int)) = false := by rw [decide_eq_false_iff_not]; omega
                clear h3 hx
                go_wp2
                go_roundw
                case rel => exact ⟨k + 1, by omega, by go_num, hbu⟩
                case measure => simp [intOf]; omega
            · have hx1 : ¬ X.toList = [45] := by rw [Lib.toList_data]; exact hx
              have hx2 : (X.toList == [45]) = false := by simpa using hx1
              clear h3 hx
              go_wp2
              go_roundw
              case rel => exact ⟨k + 1, by omega, by go_num, hbu⟩
              case measure => simp [intOf]; omega
          · have x1 : ((K : Int) == 1) = false := by simp; omega
            have y1 : ((K : Int) != 1) = true := by simp; omega
            have x2 : ((K : Int) == 2) = false := by simp; omega
            have y2 : ((K : Int) != 2) = true := by simp; omega
            have x3 : ((K : Int) == 3) = false := by simp; omega
            have y3 : ((K : Int) != 3) = true := by simp; omega
            clear h4
            go_wp2
            go_roundw
            case rel => exact ⟨k + 1, by omega, by go_num, hbu⟩
            case measure => simp [intOf]; omega
        · go_wp2
          go_ret
          exact ⟨rfl, bt hb2 hbr⟩
    · exact early er j [] hR (by omega)
  · rw [decide_eq_false h81] at CM
    have CMh := hid CM
    clear CM
    go_enter Tryd.func6, Tryd.ntmps6
    go_wp2_with fail
    refine CH.out.mono ?_
    rintro e w1 ⟨rfl, hb1⟩
    go_wp2_with fail
    refine (CMh.out _).mono ?_
    rintro e w1' ⟨rfl, rfl⟩
    go_wp2
    go_ret
    exact ⟨rfl, hb1⟩

end Lx
end Go.Proofs.YtdhemkcbaoebcaaDoor
