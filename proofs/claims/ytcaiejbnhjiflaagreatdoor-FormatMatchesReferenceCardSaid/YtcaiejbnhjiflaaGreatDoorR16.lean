/-
  The contract of the document's take.
-/
import Derived.Test.YtcaiejbnhjiflaaGreatDoorR15
import Derived.Test.YtcaiejbnhjiflaaGreatDoorR13
import Derived.Test.YtcaiejbnhjiflaaGreatDoorR10
import Derived.Test.YtcaiejbnhjiflaaGreatDoorR6
import Derived.Deep.RegionHeld3
namespace Go.Proofs.YtcaiejbnhjiflaaGreatDoor
open Go.RowKit Go.ChangeMaps
namespace Fm

/-- The three blocks of take: the address, the part, the result. -/
abbrev adQ (s0 s1 : ByteArray) (n : Int) (s3 s4 : ByteArray) : Array Value := #[.string s0, .string s1, .int .i64 n, .string s3, .string s4]
structure Tk (w0 : World) (B : Nat) (cs : Array Value) (k : Int) (t : ByteArray) (u : World) : Prop where
  a : u.heap[B]? = some (.cells cs 27 (0, 0))
  p : u.heap[B + 1]? = some (.cells #[.int .i64 k, .string t] 49 (0, 0))
  r : u.heap[B + 1 + 1]? = some (.cells #[.string ⟨#[]⟩, .string ⟨#[]⟩, .int .i64 0, .string ⟨#[]⟩, .string ⟨#[]⟩] 27 (0, 0))
  bel : Below w0.heap.size w0 u
theorem cell_at {u : World} {g i : Nat} {cs : Array Value} {T : TypeId} (h : u.heap[g]? = some (.cells cs T (0, 0))) : u.cell? ⟨g, i, none⟩ = cs[i]? := by simp [World.cell?, h]
theorem free_at {u : World} {g i : Nat} {cs : Array Value} {T : TypeId} {v : Value} (h : u.heap[g]? = some (.cells cs T (0, 0))) (_hi : cs[i]? = some v) : u.frozen? ⟨g, i, none⟩ = false := by simp [World.frozen?, h]
section
variable {w0 u u' : World} {B : Nat} {cs : Array Value} {k : Int} {t : ByteArray} {s0 s1 s3 s4 : ByteArray} {n : Int}
theorem Tk.on (h : Tk w0 B cs k t u) (hb : Below u.heap.size u u') : Tk w0 B cs k t u' :=
  ⟨(hb.block _ (heap_lt h.a)).trans h.a, (hb.block _ (heap_lt h.p)).trans h.p, (hb.block _ (heap_lt h.r)).trans h.r, bt h.bel hb⟩
theorem Tk.acell (h : Tk w0 B (adQ s0 s1 n s3 s4) k t u) : u.cell? ⟨B, 0, none⟩ = some (.string s0) ∧ u.cell? ⟨B, 1, none⟩ = some (.string s1) ∧ u.cell? ⟨B, 2, none⟩ = some (.int .i64 n) ∧ u.cell? ⟨B, 3, none⟩ = some (.string s3) ∧ u.cell? ⟨B, 4, none⟩ = some (.string s4) := by
  refine ⟨?_, ?_, ?_, ?_, ?_⟩ <;> (rw [cell_at h.a]; rfl)
theorem Tk.pcell (h : Tk w0 B cs k t u) : u.cell? ⟨B + 1, 0, none⟩ = some (.int .i64 k) ∧ u.cell? ⟨B + 1, 1, none⟩ = some (.string t) := by
  refine ⟨?_, ?_⟩ <;> (rw [cell_at h.p]; rfl)
theorem Tk.rcell (h : Tk w0 B cs k t u) : u.cell? ⟨B + 1 + 1, 0, none⟩ = some (.string ⟨#[]⟩) ∧ u.cell? ⟨B + 1 + 1, 1, none⟩ = some (.string ⟨#[]⟩) ∧ u.cell? ⟨B + 1 + 1, 2, none⟩ = some (.int .i64 0) ∧ u.cell? ⟨B + 1 + 1, 3, none⟩ = some (.string ⟨#[]⟩) ∧ u.cell? ⟨B + 1 + 1, 4, none⟩ = some (.string ⟨#[]⟩) := by
  refine ⟨?_, ?_, ?_, ?_, ?_⟩ <;> (rw [cell_at h.r]; rfl)
theorem Tk.rfree (h : Tk w0 B cs k t u) : u.frozen? ⟨B + 1 + 1, 0, none⟩ = false ∧ u.frozen? ⟨B + 1 + 1, 1, none⟩ = false ∧ u.frozen? ⟨B + 1 + 1, 2, none⟩ = false ∧ u.frozen? ⟨B + 1 + 1, 3, none⟩ = false ∧ u.frozen? ⟨B + 1 + 1, 4, none⟩ = false :=
  ⟨free_at (v := .string ⟨#[]⟩) h.r rfl, free_at (v := .string ⟨#[]⟩) h.r rfl, free_at (v := .int .i64 0) h.r rfl, free_at (v := .string ⟨#[]⟩) h.r rfl, free_at (v := .string ⟨#[]⟩) h.r rfl⟩
theorem Tk.afree (h : Tk w0 B (adQ s0 s1 n s3 s4) k t u) : u.frozen? ⟨B, 0, none⟩ = false ∧ u.frozen? ⟨B, 1, none⟩ = false ∧ u.frozen? ⟨B, 2, none⟩ = false ∧ u.frozen? ⟨B, 3, none⟩ = false ∧ u.frozen? ⟨B, 4, none⟩ = false :=
  ⟨free_at (v := .string s0) h.a rfl, free_at (v := .string s1) h.a rfl, free_at (v := .int .i64 n) h.a rfl, free_at (v := .string s3) h.a rfl, free_at (v := .string s4) h.a rfl⟩
/-- A field of the address is set. -/
theorem Tk.put (h : Tk w0 B cs k t u) (hB : w0.heap.size ≤ B) (i : Nat) (v : Value) : Tk w0 B (cs.setIfInBounds i v) k t (u.setCell ⟨B, i, none⟩ v) := by
  refine ⟨heap_setCell_same _ B i _ _ v h.a, ?_, ?_, h.bel.setCell (p := ⟨B, i, none⟩) hB v⟩
  · rw [Below.heap_setCell _ _ _ _ (by simp)]; exact h.p
  · rw [Below.heap_setCell _ _ _ _ (by simp; omega)]; exact h.r
end
/-- Five cells are written. -/
abbrev set5 (u : World) (B : Nat) (a b c d e : Value) : World := ((((u.setCell ⟨B, 0, none⟩ a).setCell ⟨B, 1, none⟩ b).setCell ⟨B, 2, none⟩ c).setCell ⟨B, 3, none⟩ d).setCell ⟨B, 4, none⟩ e
theorem row5 (u : World) (g : Nat) (T : TypeId) (a0 a1 a2 a3 a4 b0 b1 b2 b3 b4 : Value) (h : u.heap[g]? = some (.cells #[a0, a1, a2, a3, a4] T (0, 0))) : (set5 u g b0 b1 b2 b3 b4).heap[g]? = some (.cells #[b0, b1, b2, b3, b4] T (0, 0)) := by
  have r0 := heap_setCell_same _ g 0 _ T b0 h
  have r1 := heap_setCell_same _ g 1 _ T b1 r0
  have r2 := heap_setCell_same _ g 2 _ T b2 r1
  have r3 := heap_setCell_same _ g 3 _ T b3 r2
  have r4 := heap_setCell_same _ g 4 _ T b4 r3
  simpa using r4
theorem bel5 {w0 u : World} {B : Nat} (h : Below w0.heap.size w0 u) (hB : w0.heap.size ≤ B) (a b c d e : Value) : Below w0.heap.size w0 (set5 u B a b c d e) :=
  ((((h.setCell (p := ⟨B, 0, none⟩) hB a).setCell (p := ⟨B, 1, none⟩) hB b).setCell (p := ⟨B, 2, none⟩) hB c).setCell (p := ⟨B, 3, none⟩) hB d).setCell (p := ⟨B, 4, none⟩) hB e
theorem far5 (u : World) (B : Nat) (a b c d e : Value) (q : Addr) (hq : B ≠ q.block) : (set5 u B a b c d e).cell? q = u.cell? q := by
  unfold set5
  rw [World.cell?_setCell_far _ _ _ _ hq, World.cell?_setCell_far _ _ _ _ hq, World.cell?_setCell_far _ _ _ _ hq, World.cell?_setCell_far _ _ _ _ hq, World.cell?_setCell_far _ _ _ _ hq]
/-- What take leaves as its result. -/
theorem Tk.end {w0 u : World} {B : Nat} {cs : Array Value} {k : Int} {t : ByteArray} (h : Tk w0 B cs k t u) (hB : w0.heap.size ≤ B) (s0 s1 : ByteArray) (n : Int) (s3 s4 : ByteArray) :
    (set5 u (B + 1 + 1) (.string s0) (.string s1) (.int .i64 n) (.string s3) (.string s4)).cell? ⟨B + 1 + 1, 0, none⟩ = some (.string s0) ∧ (set5 u (B + 1 + 1) (.string s0) (.string s1) (.int .i64 n) (.string s3) (.string s4)).cell? ⟨B + 1 + 1, 1, none⟩ = some (.string s1) ∧ (set5 u (B + 1 + 1) (.string s0) (.string s1) (.int .i64 n) (.string s3) (.string s4)).cell? ⟨B + 1 + 1, 2, none⟩ = some (.int .i64 n) ∧ (set5 u (B + 1 + 1) (.string s0) (.string s1) (.int .i64 n) (.string s3) (.string s4)).cell? ⟨B + 1 + 1, 3, none⟩ = some (.string s3) ∧ (set5 u (B + 1 + 1) (.string s0) (.string s1) (.int .i64 n) (.string s3) (.string s4)).cell? ⟨B + 1 + 1, 4, none⟩ = some (.string s4) ∧ Below w0.heap.size w0 (set5 u (B + 1 + 1) (.string s0) (.string s1) (.int .i64 n) (.string s3) (.string s4)) := by
  have hr := row5 u (B + 1 + 1) _ _ _ _ _ _ (.string s0) (.string s1) (.int .i64 n) (.string s3) (.string s4) h.r
  refine ⟨?_, ?_, ?_, ?_, ?_, bel5 h.bel (by omega) _ _ _ _ _⟩ <;> (rw [cell_at hr]; rfl)
theorem sum_four (ws : List W) (h : ∀ y ∈ ws, y.length ≤ 1000) (h4 : ws.length ≤ 4) : (ws.map List.length).sum ≤ 5000 := by
  have H : ∀ l : List W, (∀ y ∈ l, y.length ≤ 1000) → (l.map List.length).sum ≤ l.length * 1000 := by
    intro l
    induction l with
    | nil => intro _; simp
    | cons a l ih =>
      intro hl
      have h1 := hl a (List.mem_cons_self ..)
      have h2 := ih fun y hy => hl y (List.mem_cons_of_mem _ hy)
      rw [List.map_cons, List.sum_cons, List.length_cons]; omega
  have := H ws h
  omega
theorem one_at {ws : List W} {z : W} (h : ws[0]? = some z) : ws.getD 0 [] = z := by rw [List.getD, h]; rfl
theorem set_k1 (ws : List W) (a : Ad) : setF 1 ws a = a := by simp [setF]
theorem set_k2 {ws : List W} {z : W} (h : ws.getD 0 [] = z) (a : Ad) : setF 2 ws a = { a with number := (numW z : Nat) } := by simp [setF, ← h]
theorem set_k3 {ws : List W} {z : W} (h : ws.getD 0 [] = z) (a : Ad) : setF 3 ws a = { a with code := upL z } := by simp [setF, ← h]
theorem set_k4 (ws : List W) (a : Ad) : setF 4 ws a = { a with street := joinW ws } := by simp [setF]
theorem set_k5 (ws : List W) (a : Ad) : setF 5 ws a = { a with town := joinW ws } := by simp [setF]
theorem set_k6 (ws : List W) (a : Ad) : setF 6 ws a = { a with person := joinW ws } := by simp [setF]

theorem can_all {p : Pt} {ws : List W} (h1 : 1 ≤ ws.length) (h2 : ws.length ≤ if 4 ≤ p.k then 4 else 1) (h3 : ws.all fitW = true) : canB p ws = (if p.k = 1 then decide (upL (ws.getD 0 []) = upL p.t) else if p.k = 2 then isNum (ws.getD 0 []) else if p.k = 3 then codeW (ws.getD 0 []) p.t else true) := by
  unfold canB; rw [decide_eq_true h1, decide_eq_true h2, h3]; simp
theorem can_unfit {p : Pt} {ws : List W} {x : W} (hx : x ∈ ws) (h : fitW x = false) : canB p ws = false := by
  rw [Bool.eq_false_iff]; intro hc
  have := can_fit hc x hx
  rw [h] at this; cases this
theorem can_short {p : Pt} {ws : List W} (h : ¬ 1 ≤ ws.length) : canB p ws = false := by unfold canB; rw [decide_eq_false h]; rfl
theorem can_long {p : Pt} {ws : List W} (h : ¬ ws.length ≤ if 4 ≤ p.k then 4 else 1) : canB p ws = false := by unfold canB; rw [decide_eq_false h]; simp

def RTake (p : Pt) (ws : List W) (a : Ad) (w : World) (e : Ending) (w' : World) : Prop :=
  ∃ y : Ad, e = .returned (.tuple #[adV y, .bool (canB p ws)]) ∧ (canB p ws = true → y = setF p.k ws a) ∧ Below w.heap.size w w'
set_option maxRecDepth 100000 in
set_option maxHeartbeats 32000000 in
theorem rtake_any (x : Ad) (p : Pt) (ws : List W) (A : Option Addr) (cap : Nat) (w : World) (hp : partB p = true) (hW : RdW w A ws cap) (hz : ∀ y ∈ ws, y.length ≤ 1000) (ht : p.t.length ≤ 1000) (hn : ws.length ≤ 1000) :
    Calls Tryz.prog 63 #[adV x, .agg #[.int .i64 p.k, .string (sB p.t)], .slice A ws.length cap] w (RTake p ws x w) := by
  have h16 := wfp hp
  obtain ⟨k1, k6, -⟩ := h16
  obtain ⟨w1, hw1⟩ : ∃ w1, w1 = ((w.alloc (.cells #[.string (sB x.person), .string (sB x.street), .int .i64 x.number, .string (sB x.code), .string (sB x.town)] 27)).alloc (.cells #[.int .i64 p.k, .string (sB p.t)] 49)).alloc (.cells #[.string ⟨#[]⟩, .string ⟨#[]⟩, .int .i64 0, .string ⟨#[]⟩, .string ⟨#[]⟩] 27) := ⟨_, rfl⟩
  have hb1 : Below w.heap.size w w1 := by rw [hw1]; exact ((b0 _ _).alloc (by simp) _).alloc (by simp; omega) _
  have HK1 : Hid (Tk w w.heap.size (adQ (sB x.person) (sB x.street) x.number (sB x.code) (sB x.town)) p.k (sB p.t) w1) := by
    refine ⟨?_, ?_, ?_, hb1⟩ <;> (rw [hw1]; simp only [hpk'', World.size_alloc]; (repeat rw [if_neg (by omega)]); first | rfl | (rw [if_pos rfl]; rfl) | rw [if_pos rfl])
  have HW1 := hid (hW.on hb1)
  have HW0 := hid hW
  have HZ := hid hz
  have CU := hid (fun (y : W) (hy : y.length ≤ 1000) u => rupper_any y u hy)
  have CN := hid (fun (y : W) (hy : y.length ≤ 1000) u => rnumber_any y u (by omega))
  have CC : Hid (∀ y : W, y.length ≤ 1000 → ∀ u, Calls Tryz.prog 44 #[.string (sB y), .string (sB p.t)] u fun e w' => e = .returned (.bool (codeW y p.t)) ∧ u = w') := fun y hy u => rcode_any (sB y) (sB p.t) u (by rw [sB_size]; omega) (by rw [sB_size]; omega)
  have CUT := hid (fun u => rupper_any p.t u ht)
  have CJ := hid (fun u (hu : Below w1.heap.size w1 u) (h5 : ws.length ≤ 4) => rjoined_any (.slice A ws.length cap) ws u ⟨_, _, rfl, HW1.out.on hu⟩ (sum_four ws HZ.out h5) (by omega))
  have hcap := hW.2.1
  obtain ⟨kk, hkk⟩ : ∃ kk, kk = p.k := ⟨_, rfl⟩
  obtain ⟨tt, htt⟩ : ∃ tt, tt = sB p.t := ⟨_, rfl⟩
  obtain ⟨r, hr⟩ : ∃ r, r = canB p ws := ⟨_, rfl⟩
  unfold RTake
  rw [← hr]
  rw [← hkk] at hw1 HK1 k1 k6 ⊢
  rw [← htt] at hw1 HK1 CC CUT ⊢
  have HKD : Hid (p.k = kk) := hkk.symm
  have HR := hid hr
  clear hkk htt hr hb1 hW hz hp ht
  go_enter Tryz.func63, Tryz.ntmps63
  go_wp2_with fail
  rw [← hw1]
  clear hw1
  obtain ⟨a0, a1, a2, a3, a4⟩ := HK1.out.acell
  obtain ⟨p0, p1⟩ := HK1.out.pcell
  obtain ⟨r0, r1, r2, r3, r4⟩ := HK1.out.rcell
  obtain ⟨f0, f1, f2, f3, f4⟩ := HK1.out.rfree
  go_loop [8] (fun i => ∃ j : Nat, j ≤ ws.length ∧ i = .int .i64 j ∧ Hid ((ws.take j).all fitW = true)) (fun i => ws.length - (intOf i).toNat)
  case atStart => exact ⟨0, Nat.zero_le _, rfl, rfl⟩
  case round =>
    obtain ⟨j, hj, rfl, hA⟩ := hrel
    by_cases hlt : j < ws.length
    · obtain ⟨z, hz⟩ : ∃ z, ws[j]? = some z := ⟨_, List.getElem?_eq_getElem hlt⟩
      obtain ⟨g, o, rfl, hg, hc⟩ := HW1.out.at (k := j) (u := sV z) (by rw [List.getElem?_map, hz]; rfl)
      unfold sV at hc
      have hzl := HZ.out z (List.mem_of_getElem? hz)
      have CF : Hid (∀ u, Calls Tryz.prog 26 #[.string (sB z)] u fun e w' => e = .returned (.bool (fitW z)) ∧ u = w') := fun u => by have := rfit_any (sB z) u (by rw [sB_size]; omega); rwa [sB_list] at this
      have hk0 : 0 ≤ (j : Int) := by omega
      have hk1 : (j : Int) < (ws.length : Int) := by omega
      obtain ⟨s, hs⟩ : ∃ s, s = sB z := ⟨_, rfl⟩
      rw [← hs] at hc CF
      have HZZ := hid hz
      clear hz hs hzl
      cases hf : fitW z
      · rw [hf] at CF
        have HV : Hid (r = false) := HR.out.trans (can_unfit (List.mem_of_getElem? HZZ.out) hf)
        clear hf
        go_wp2_with fail
        refine (CF.out _).mono ?_
        rintro e w2 ⟨rfl, rfl⟩
        go_wp2
        obtain ⟨e0, e1, e2, e3, e4, hbe⟩ := HK1.out.end (Nat.le_refl _) (sB x.person) (sB x.street) x.number (sB x.code) (sB x.town)
        (try simp only [Exit.inBlock, Exit.then])
        refine bodyPost_ret (v := .tuple #[.agg #[.string (sB x.person), .string (sB x.street), .int .i64 x.number, .string (sB x.code), .string (sB x.town)], .bool false]) ?_ rfl ?_
        · simp [results, Tryz.f63, go_sem, e0, e1, e2, e3, e4]
        · exact ⟨x, by rw [HV.out]; try rfl, fun h => absurd (HV.out.symm.trans h) (by decide), hbe⟩
      · rw [hf] at CF
        have HN : Hid ((ws.take (j + 1)).all fitW = true) := by
          show _ = _
          rw [List.take_add_one, HZZ.out, List.all_append, hA.out]; simp [hf]
        clear hf
        go_wp2_with fail
        refine (CF.out _).mono ?_
        rintro e w2 ⟨rfl, rfl⟩
        go_wp2
        go_round
        case rel => exact ⟨j + 1, by omega, by go_num, HN⟩
        case measure => simp [intOf]; omega
    · obtain rfl : j = ws.length := by omega
      have HALL : Hid (ws.all fitW = true) := by have := hA.out; rwa [List.take_length] at this
      clear hA
      by_cases h1 : 1 ≤ ws.length
      · have n1 : decide ((ws.length : Int) < 1) = false := decide_eq_false (by omega)
        obtain rfl | rfl | rfl | rfl | rfl | rfl : kk = 1 ∨ kk = 2 ∨ kk = 3 ∨ kk = 4 ∨ kk = 5 ∨ kk = 6 := by omega
        · clear k1 k6
          by_cases h2 : 1 < ws.length
          · have n2 : decide ((1 : Int) < (ws.length : Int)) = true := decide_eq_true (by omega)
            have HV : Hid (r = false) := HR.out.trans (can_long (by rw [HKD.out, if_neg (by decide)]; omega))
            by_cases h5 : 4 < ws.length
            · have n4 : decide ((4 : Int) < (ws.length : Int)) = true := decide_eq_true (by omega)
              clear h1 h2 h5 hlt
              go_wp2
              obtain ⟨e0, e1, e2, e3, e4, hbe⟩ := HK1.out.end (Nat.le_refl _) (sB x.person) (sB x.street) x.number (sB x.code) (sB x.town)
              (try simp only [Exit.inBlock, Exit.then])
              refine bodyPost_ret (v := .tuple #[.agg #[.string (sB x.person), .string (sB x.street), .int .i64 x.number, .string (sB x.code), .string (sB x.town)], .bool false]) ?_ rfl ?_
              · simp [results, Tryz.f63, go_sem, e0, e1, e2, e3, e4]
              · exact ⟨x, by rw [HV.out]; try rfl, fun h => absurd (HV.out.symm.trans h) (by decide), hbe⟩
            · have n4 : decide ((4 : Int) < (ws.length : Int)) = false := decide_eq_false (by omega)
              clear h1 h2 h5 hlt
              go_wp2
              obtain ⟨e0, e1, e2, e3, e4, hbe⟩ := HK1.out.end (Nat.le_refl _) (sB x.person) (sB x.street) x.number (sB x.code) (sB x.town)
              (try simp only [Exit.inBlock, Exit.then])
              refine bodyPost_ret (v := .tuple #[.agg #[.string (sB x.person), .string (sB x.street), .int .i64 x.number, .string (sB x.code), .string (sB x.town)], .bool false]) ?_ rfl ?_
              · simp [results, Tryz.f63, go_sem, e0, e1, e2, e3, e4]
              · exact ⟨x, by rw [HV.out]; try rfl, fun h => absurd (HV.out.symm.trans h) (by decide), hbe⟩
          · have n2 : decide ((1 : Int) < (ws.length : Int)) = false := decide_eq_false (by omega)
            have n4 : decide ((4 : Int) < (ws.length : Int)) = false := decide_eq_false (by omega)
            obtain ⟨z, hz⟩ : ∃ z, ws[0]? = some z := ⟨_, List.getElem?_eq_getElem (by omega)⟩
            have HG := hid (one_at hz)
            have hzl := HZ.out z (List.mem_of_getElem? hz)
            obtain ⟨g, o, rfl, hg0, hc0⟩ := HW0.out.at (k := 0) (u := sV z) (by rw [List.getElem?_map, hz]; rfl)
            obtain ⟨_, _, e9, hg, hc⟩ := HW1.out.at (k := 0) (u := sV z) (by rw [List.getElem?_map, hz]; rfl)
            cases e9
            rw [Nat.add_zero] at hc
            unfold sV at hc
            have hall := can_all (p := p) (ws := ws) h1 (by rw [HKD.out, if_neg (by decide)]; omega) HALL.out
            rw [HKD.out, HG.out] at hall
            rw [if_pos rfl] at hall
            have HVAL := hid (HR.out.trans hall)
            have i0 : (0 : Int) < (ws.length : Int) := by omega
            have i1 : 0 < ws.length := by omega
            obtain ⟨s, hs⟩ : ∃ s, s = sB z := ⟨_, rfl⟩
            rw [← hs] at hc
            have CU1 := hid (CU.out z hzl)
            rw [← hs] at CU1
            obtain ⟨su, hsu⟩ : ∃ su, su = sB (upL z) := ⟨_, rfl⟩
            obtain ⟨st, hst⟩ : ∃ st, st = sB (upL p.t) := ⟨_, rfl⟩
            rw [← hsu] at CU1
            rw [← hst] at CUT
            obtain ⟨q, hq⟩ : ∃ q, (su.toList == st.toList) = q := ⟨_, rfl⟩
            have HQ : Hid (r = q) := by show _ = _; rw [HVAL.out, ← hq, hsu, hst, sB_beq]
            have hcs := hc
            have SK : Hid (∀ u, Below w1.heap.size w1 u → u.cell? ⟨w.heap.size, 0, none⟩ = some (.string (sB x.person)) ∧ u.cell? ⟨w.heap.size, 1, none⟩ = some (.string (sB x.street)) ∧ u.cell? ⟨w.heap.size, 2, none⟩ = some (.int .i64 x.number) ∧ u.cell? ⟨w.heap.size, 3, none⟩ = some (.string (sB x.code)) ∧ u.cell? ⟨w.heap.size, 4, none⟩ = some (.string (sB x.town)) ∧ u.cell? ⟨w.heap.size + 1, 1, none⟩ = some (.string tt) ∧ u.cell? ⟨g, o, none⟩ = some (.string s)) := fun u hu => by
              obtain ⟨a0, a1, a2, a3, a4⟩ := (HK1.out.on hu).acell
              exact ⟨a0, a1, a2, a3, a4, (HK1.out.on hu).pcell.2, (hu.cell (p := (⟨g, o, none⟩ : Addr)) (Nat.lt_of_lt_of_le hg0 HK1.out.bel.size)).trans hcs⟩
            have SF : Hid (∀ u, u.cell? ⟨w.heap.size, 0, none⟩ = some (.string (sB x.person)) ∧ u.cell? ⟨w.heap.size, 1, none⟩ = some (.string (sB x.street)) ∧ u.cell? ⟨w.heap.size, 2, none⟩ = some (.int .i64 x.number) ∧ u.cell? ⟨w.heap.size, 3, none⟩ = some (.string (sB x.code)) ∧ u.cell? ⟨w.heap.size, 4, none⟩ = some (.string (sB x.town)) ∧ u.cell? ⟨w.heap.size + 1, 1, none⟩ = some (.string tt) ∧ u.cell? ⟨g, o, none⟩ = some (.string s) → (set5 u (w.heap.size + 1 + 1) (.string (sB x.person)) (.string (sB x.street)) (.int .i64 x.number) (.string (sB x.code)) (.string (sB x.town))).cell? ⟨w.heap.size, 0, none⟩ = some (.string (sB x.person)) ∧ (set5 u (w.heap.size + 1 + 1) (.string (sB x.person)) (.string (sB x.street)) (.int .i64 x.number) (.string (sB x.code)) (.string (sB x.town))).cell? ⟨w.heap.size, 1, none⟩ = some (.string (sB x.street)) ∧ (set5 u (w.heap.size + 1 + 1) (.string (sB x.person)) (.string (sB x.street)) (.int .i64 x.number) (.string (sB x.code)) (.string (sB x.town))).cell? ⟨w.heap.size, 2, none⟩ = some (.int .i64 x.number) ∧ (set5 u (w.heap.size + 1 + 1) (.string (sB x.person)) (.string (sB x.street)) (.int .i64 x.number) (.string (sB x.code)) (.string (sB x.town))).cell? ⟨w.heap.size, 3, none⟩ = some (.string (sB x.code)) ∧ (set5 u (w.heap.size + 1 + 1) (.string (sB x.person)) (.string (sB x.street)) (.int .i64 x.number) (.string (sB x.code)) (.string (sB x.town))).cell? ⟨w.heap.size, 4, none⟩ = some (.string (sB x.town)) ∧ (set5 u (w.heap.size + 1 + 1) (.string (sB x.person)) (.string (sB x.street)) (.int .i64 x.number) (.string (sB x.code)) (.string (sB x.town))).cell? ⟨w.heap.size + 1, 1, none⟩ = some (.string tt) ∧ (set5 u (w.heap.size + 1 + 1) (.string (sB x.person)) (.string (sB x.street)) (.int .i64 x.number) (.string (sB x.code)) (.string (sB x.town))).cell? ⟨g, o, none⟩ = some (.string s)) := fun u ⟨q0, q1, q2, q3, q4, q5, q6⟩ =>
              ⟨(far5 _ _ _ _ _ _ _ _ (show w.heap.size + 1 + 1 ≠ w.heap.size from by omega)).trans q0, (far5 _ _ _ _ _ _ _ _ (show w.heap.size + 1 + 1 ≠ w.heap.size from by omega)).trans q1, (far5 _ _ _ _ _ _ _ _ (show w.heap.size + 1 + 1 ≠ w.heap.size from by omega)).trans q2, (far5 _ _ _ _ _ _ _ _ (show w.heap.size + 1 + 1 ≠ w.heap.size from by omega)).trans q3, (far5 _ _ _ _ _ _ _ _ (show w.heap.size + 1 + 1 ≠ w.heap.size from by omega)).trans q4, (far5 _ _ _ _ _ _ _ _ (show w.heap.size + 1 + 1 ≠ w.heap.size + 1 from by omega)).trans q5, (far5 _ _ _ _ _ _ _ _ (show w.heap.size + 1 + 1 ≠ g from by omega)).trans q6⟩
            clear hs hsu hst hz hzl hc0 hall h1 h2 hlt hc
            go_wp2
            refine wp_region_held_drew (S := fun w' => w'.cell? ⟨w.heap.size, 0, none⟩ = some (.string (sB x.person)) ∧ w'.cell? ⟨w.heap.size, 1, none⟩ = some (.string (sB x.street)) ∧ w'.cell? ⟨w.heap.size, 2, none⟩ = some (.int .i64 x.number) ∧ w'.cell? ⟨w.heap.size, 3, none⟩ = some (.string (sB x.code)) ∧ w'.cell? ⟨w.heap.size, 4, none⟩ = some (.string (sB x.town)) ∧ w'.cell? ⟨w.heap.size + 1, 1, none⟩ = some (.string tt) ∧ w'.cell? ⟨g, o, none⟩ = some (.string s)) (by kernel_rfl) (SK.out _ (Below.refl _ _).drew) (fun hHeld => ?_)
            refine wpAnyH_take (i := 0) (oi := ⟨some 61, _, _, _, _, _⟩) (v := .agg #[.string (sB x.person), .string (sB x.street), .int .i64 x.number, .string (sB x.code), .string (sB x.town)]) rfl (by kernel_rfl) (by kernel_rfl) (by kernel_rfl) (fun _ _ _ h => h) (Or.inl ⟨by rfl, ?_⟩) hHeld ?_
            · intro u hu
              go_simp
            try simp only [Act.put, List.setIfInBounds_toArray, List.set_cons_zero, List.set_cons_succ]
            refine wpAnyH_take (i := 1) (oi := ⟨some 62, _, _, _, _, _⟩) (v := .slice (some ⟨g, o, none⟩) ws.length cap) rfl (by kernel_rfl) (by kernel_rfl) (by kernel_rfl) (fun _ _ _ h => h) (Or.inl ⟨by rfl, ?_⟩) hHeld ?_
            · intro u hu
              go_simp
            try simp only [Act.put, List.setIfInBounds_toArray, List.set_cons_zero, List.set_cons_succ]
            refine wpAnyH_take (i := 2) (oi := ⟨some 63, _, _, _, _, _⟩) (v := .pointer (some ⟨g, o, none⟩)) rfl (by kernel_rfl) (by kernel_rfl) (by kernel_rfl) (fun _ _ _ h => h) (Or.inl ⟨by rfl, ?_⟩) hHeld ?_
            · intro u hu
              go_simp
            try simp only [Act.put, List.setIfInBounds_toArray, List.set_cons_zero, List.set_cons_succ]
            refine wpAnyH_take (i := 3) (oi := ⟨some 64, _, _, _, _, _⟩) (v := .string s) rfl (by kernel_rfl) (by kernel_rfl) (by kernel_rfl) (fun _ _ _ h => h) (Or.inl ⟨by rfl, ?_⟩) hHeld ?_
            · intro u hu
              go_simp
            try simp only [Act.put, List.setIfInBounds_toArray, List.set_cons_zero, List.set_cons_succ]
            refine wpAnyH_take (i := 5) (oi := ⟨some 66, _, _, _, _, _⟩) (v := .pointer (some ⟨w.heap.size + 1, 1, none⟩)) rfl (by kernel_rfl) (by kernel_rfl) (by kernel_rfl) (fun _ _ _ h => h) (Or.inl ⟨by rfl, ?_⟩) hHeld ?_
            · intro u hu
              go_simp
            try simp only [Act.put, List.setIfInBounds_toArray, List.set_cons_zero, List.set_cons_succ]
            refine wpAnyH_take (i := 6) (oi := ⟨some 67, _, _, _, _, _⟩) (v := .string tt) rfl (by kernel_rfl) (by kernel_rfl) (by kernel_rfl) (fun _ _ _ h => h) (Or.inl ⟨by rfl, ?_⟩) hHeld ?_
            · intro u hu
              go_simp
            try simp only [Act.put, List.setIfInBounds_toArray, List.set_cons_zero, List.set_cons_succ]
            refine wpAnyH_ready (rs := [4]) (by kernel_rfl) (by simp) ?_
            refine AllReadyH.cons (o := ⟨some 65, _, _, _, _, _⟩) rfl (fun K hK => ?_) AllReadyH.nil
            go_simp
            go_at_call 23
            refine (CU1.out _).mono ?_
            rintro e y1 ⟨rfl, h9⟩
            have Y1 : Below w1.heap.size w1 y1 := bt (Below.refl _ w1).drew h9
            clear h9
            refine hK.out _ _ (SK.out _ Y1) (fun hHeld => ?_)
            clear hK K
            try simp only [Act.put, List.setIfInBounds_toArray, List.set_cons_zero, List.set_cons_succ]
            refine wpAnyH_ready (rs := [7]) (by kernel_rfl) (by simp) ?_
            refine AllReadyH.cons (o := ⟨some 68, _, _, _, _, _⟩) rfl (fun K hK => ?_) AllReadyH.nil
            go_simp
            go_at_call 23
            refine (CUT.out _).mono ?_
            rintro e y2 ⟨rfl, h9⟩
            have Y2 : Below w1.heap.size w1 y2 := bt Y1 h9
            clear h9
            refine hK.out _ _ (SK.out _ Y2) (fun hHeld => ?_)
            clear hK K
            try simp only [Act.put, List.setIfInBounds_toArray, List.set_cons_zero, List.set_cons_succ]
            refine wpAnyH_take (i := 8) (oi := ⟨some 69, _, _, _, _, _⟩) (v := .bool q) rfl (by kernel_rfl) (by kernel_rfl) (by kernel_rfl) (fun _ _ _ h => h) (Or.inl ⟨by rfl, ?_⟩) hHeld ?_
            · intro u hu
              go_simp
            try simp only [Act.put, List.setIfInBounds_toArray, List.set_cons_zero, List.set_cons_succ]
            have HK2 := hid (HK1.out.on Y2)
            clear r0 r1 r2 r3 r4 f0 f1 f2 f3 f4
            obtain ⟨r0, r1, r2, r3, r4⟩ := HK2.out.rcell
            obtain ⟨f0, f1, f2, f3, f4⟩ := HK2.out.rfree
            refine wpAnyH_ready (rs := [9]) (by kernel_rfl) (by simp) ?_
            refine AllReadyH.cons (o := ⟨none, _, _, _, _, _⟩) rfl (fun K hK => ?_) AllReadyH.nil
            go_simp
            refine hK.out _ _ (SF.out _ hHeld) (fun hHeld => ?_)
            clear hK K
            try simp only [Act.put, List.setIfInBounds_toArray, List.set_cons_zero, List.set_cons_succ]
            refine wpAnyH_take (i := 10) (oi := ⟨some 7, _, _, _, _, _⟩) (v := .bool q) rfl (by kernel_rfl) (by kernel_rfl) (by kernel_rfl) (fun _ _ _ h => h) (Or.inl ⟨by rfl, ?_⟩) hHeld ?_
            · intro u hu
              go_simp
            try simp only [Act.put, List.setIfInBounds_toArray, List.set_cons_zero, List.set_cons_succ]
            refine wpAnyH_done (by kernel_rfl) ?_ _
            clear hHeld
            go_wp2
            obtain ⟨e0, e1, e2, e3, e4, hbe⟩ := HK2.out.end (Nat.le_refl _) (sB x.person) (sB x.street) x.number (sB x.code) (sB x.town)
            (try simp only [Exit.inBlock, Exit.then])
            refine bodyPost_ret (v := .tuple #[.agg #[.string (sB x.person), .string (sB x.street), .int .i64 x.number, .string (sB x.code), .string (sB x.town)], .bool q]) ?_ rfl ?_
            · simp [results, Tryz.f63, go_sem, e0, e1, e2, e3, e4]
            · exact ⟨x, by rw [HQ.out]; try rfl, fun _ => (set_k1 ws x).symm, hbe⟩
        · clear k1 k6
          by_cases h2 : 1 < ws.length
          · have n2 : decide ((1 : Int) < (ws.length : Int)) = true := decide_eq_true (by omega)
            have HV : Hid (r = false) := HR.out.trans (can_long (by rw [HKD.out, if_neg (by decide)]; omega))
            by_cases h5 : 4 < ws.length
            · have n4 : decide ((4 : Int) < (ws.length : Int)) = true := decide_eq_true (by omega)
              clear h1 h2 h5 hlt
              go_wp2
              obtain ⟨e0, e1, e2, e3, e4, hbe⟩ := HK1.out.end (Nat.le_refl _) (sB x.person) (sB x.street) x.number (sB x.code) (sB x.town)
              (try simp only [Exit.inBlock, Exit.then])
              refine bodyPost_ret (v := .tuple #[.agg #[.string (sB x.person), .string (sB x.street), .int .i64 x.number, .string (sB x.code), .string (sB x.town)], .bool false]) ?_ rfl ?_
              · simp [results, Tryz.f63, go_sem, e0, e1, e2, e3, e4]
              · exact ⟨x, by rw [HV.out]; try rfl, fun h => absurd (HV.out.symm.trans h) (by decide), hbe⟩
            · have n4 : decide ((4 : Int) < (ws.length : Int)) = false := decide_eq_false (by omega)
              clear h1 h2 h5 hlt
              go_wp2
              obtain ⟨e0, e1, e2, e3, e4, hbe⟩ := HK1.out.end (Nat.le_refl _) (sB x.person) (sB x.street) x.number (sB x.code) (sB x.town)
              (try simp only [Exit.inBlock, Exit.then])
              refine bodyPost_ret (v := .tuple #[.agg #[.string (sB x.person), .string (sB x.street), .int .i64 x.number, .string (sB x.code), .string (sB x.town)], .bool false]) ?_ rfl ?_
              · simp [results, Tryz.f63, go_sem, e0, e1, e2, e3, e4]
              · exact ⟨x, by rw [HV.out]; try rfl, fun h => absurd (HV.out.symm.trans h) (by decide), hbe⟩
          · have n2 : decide ((1 : Int) < (ws.length : Int)) = false := decide_eq_false (by omega)
            have n4 : decide ((4 : Int) < (ws.length : Int)) = false := decide_eq_false (by omega)
            obtain ⟨z, hz⟩ : ∃ z, ws[0]? = some z := ⟨_, List.getElem?_eq_getElem (by omega)⟩
            have HG := hid (one_at hz)
            have hzl := HZ.out z (List.mem_of_getElem? hz)
            obtain ⟨g, o, rfl, hg0, hc0⟩ := HW0.out.at (k := 0) (u := sV z) (by rw [List.getElem?_map, hz]; rfl)
            obtain ⟨_, _, e9, hg, hc⟩ := HW1.out.at (k := 0) (u := sV z) (by rw [List.getElem?_map, hz]; rfl)
            cases e9
            rw [Nat.add_zero] at hc
            unfold sV at hc
            have hall := can_all (p := p) (ws := ws) h1 (by rw [HKD.out, if_neg (by decide)]; omega) HALL.out
            rw [HKD.out, HG.out] at hall
            rw [if_neg (by decide), if_pos rfl] at hall
            have HVAL := hid (HR.out.trans hall)
            have i0 : (0 : Int) < (ws.length : Int) := by omega
            have i1 : 0 < ws.length := by omega
            obtain ⟨s, hs⟩ : ∃ s, s = sB z := ⟨_, rfl⟩
            rw [← hs] at hc
            have CN1 := hid (CN.out z hzl)
            rw [← hs] at CN1
            have hps := numW_gt z
            have hm9 := numW_le z
            obtain ⟨m, hm⟩ : ∃ m, m = numW z := ⟨_, rfl⟩
            rw [← hm] at CN1 hps hm9
            have HM := hid hm
            obtain ⟨q, hq⟩ : ∃ q, decide ((0 : Int) < (m : Int)) = q := ⟨_, rfl⟩
            have hq2 : decide (0 < m) = q := by rw [← hq]; simp
            have HQ : Hid (r = q) := by show _ = _; rw [HVAL.out, ← hq, hps]
            obtain ⟨b0, b1, b2, b3, b4⟩ := HK1.out.afree
            have hcw := hc
            clear hs hz hc0 hzl hall h1 h2 hlt hm hps
            go_wp2_with fail
            refine (CN1.out _).mono ?_
            rintro e u2 ⟨rfl, rfl⟩
            clear CN1
            go_upto_region 15 with fail
            obtain ⟨w3, hw3⟩ : ∃ w3, w3 = w1.setCell ⟨w.heap.size, 2, none⟩ (.int .i64 (m : Int)) := ⟨_, rfl⟩
            rw [← hw3]
            have HK3 : Hid (Tk w w.heap.size (adQ (sB x.person) (sB x.street) (m : Int) (sB x.code) (sB x.town)) 2 tt w3) := by rw [hw3]; exact HK1.out.put (Nat.le_refl _) 2 _
            have hcs : w3.cell? ⟨g, o, none⟩ = some (.string s) := by rw [hw3, World.cell?_setCell_far _ _ _ _ (by simp; omega)]; exact hcw
            clear hw3 hcw hc b0 b1 b2 b3 b4
            clear a0 a1 a2 a3 a4 r0 r1 r2 r3 r4 f0 f1 f2 f3 f4
            have SK : Hid (∀ u, Below w3.heap.size w3 u → u.cell? ⟨w.heap.size, 0, none⟩ = some (.string (sB x.person)) ∧ u.cell? ⟨w.heap.size, 1, none⟩ = some (.string (sB x.street)) ∧ u.cell? ⟨w.heap.size, 2, none⟩ = some (.int .i64 (m : Int)) ∧ u.cell? ⟨w.heap.size, 3, none⟩ = some (.string (sB x.code)) ∧ u.cell? ⟨w.heap.size, 4, none⟩ = some (.string (sB x.town)) ∧ u.cell? ⟨w.heap.size + 1, 1, none⟩ = some (.string tt) ∧ u.cell? ⟨g, o, none⟩ = some (.string s)) := fun u hu => by
              obtain ⟨a0, a1, a2, a3, a4⟩ := (HK3.out.on hu).acell
              exact ⟨a0, a1, a2, a3, a4, (HK3.out.on hu).pcell.2, (hu.cell (p := (⟨g, o, none⟩ : Addr)) (Nat.lt_of_lt_of_le hg0 HK3.out.bel.size)).trans hcs⟩
            have SF : Hid (∀ u, u.cell? ⟨w.heap.size, 0, none⟩ = some (.string (sB x.person)) ∧ u.cell? ⟨w.heap.size, 1, none⟩ = some (.string (sB x.street)) ∧ u.cell? ⟨w.heap.size, 2, none⟩ = some (.int .i64 (m : Int)) ∧ u.cell? ⟨w.heap.size, 3, none⟩ = some (.string (sB x.code)) ∧ u.cell? ⟨w.heap.size, 4, none⟩ = some (.string (sB x.town)) ∧ u.cell? ⟨w.heap.size + 1, 1, none⟩ = some (.string tt) ∧ u.cell? ⟨g, o, none⟩ = some (.string s) → (set5 u (w.heap.size + 1 + 1) (.string (sB x.person)) (.string (sB x.street)) (.int .i64 (m : Int)) (.string (sB x.code)) (.string (sB x.town))).cell? ⟨w.heap.size, 0, none⟩ = some (.string (sB x.person)) ∧ (set5 u (w.heap.size + 1 + 1) (.string (sB x.person)) (.string (sB x.street)) (.int .i64 (m : Int)) (.string (sB x.code)) (.string (sB x.town))).cell? ⟨w.heap.size, 1, none⟩ = some (.string (sB x.street)) ∧ (set5 u (w.heap.size + 1 + 1) (.string (sB x.person)) (.string (sB x.street)) (.int .i64 (m : Int)) (.string (sB x.code)) (.string (sB x.town))).cell? ⟨w.heap.size, 2, none⟩ = some (.int .i64 (m : Int)) ∧ (set5 u (w.heap.size + 1 + 1) (.string (sB x.person)) (.string (sB x.street)) (.int .i64 (m : Int)) (.string (sB x.code)) (.string (sB x.town))).cell? ⟨w.heap.size, 3, none⟩ = some (.string (sB x.code)) ∧ (set5 u (w.heap.size + 1 + 1) (.string (sB x.person)) (.string (sB x.street)) (.int .i64 (m : Int)) (.string (sB x.code)) (.string (sB x.town))).cell? ⟨w.heap.size, 4, none⟩ = some (.string (sB x.town)) ∧ (set5 u (w.heap.size + 1 + 1) (.string (sB x.person)) (.string (sB x.street)) (.int .i64 (m : Int)) (.string (sB x.code)) (.string (sB x.town))).cell? ⟨w.heap.size + 1, 1, none⟩ = some (.string tt) ∧ (set5 u (w.heap.size + 1 + 1) (.string (sB x.person)) (.string (sB x.street)) (.int .i64 (m : Int)) (.string (sB x.code)) (.string (sB x.town))).cell? ⟨g, o, none⟩ = some (.string s)) := fun u ⟨q0, q1, q2, q3, q4, q5, q6⟩ =>
              ⟨(far5 _ _ _ _ _ _ _ _ (show w.heap.size + 1 + 1 ≠ w.heap.size from by omega)).trans q0, (far5 _ _ _ _ _ _ _ _ (show w.heap.size + 1 + 1 ≠ w.heap.size from by omega)).trans q1, (far5 _ _ _ _ _ _ _ _ (show w.heap.size + 1 + 1 ≠ w.heap.size from by omega)).trans q2, (far5 _ _ _ _ _ _ _ _ (show w.heap.size + 1 + 1 ≠ w.heap.size from by omega)).trans q3, (far5 _ _ _ _ _ _ _ _ (show w.heap.size + 1 + 1 ≠ w.heap.size from by omega)).trans q4, (far5 _ _ _ _ _ _ _ _ (show w.heap.size + 1 + 1 ≠ w.heap.size + 1 from by omega)).trans q5, (far5 _ _ _ _ _ _ _ _ (show w.heap.size + 1 + 1 ≠ g from by omega)).trans q6⟩
            obtain ⟨r0, r1, r2, r3, r4⟩ := HK3.out.rcell
            obtain ⟨f0, f1, f2, f3, f4⟩ := HK3.out.rfree
            refine wp_region_held_drew (S := fun w' => w'.cell? ⟨w.heap.size, 0, none⟩ = some (.string (sB x.person)) ∧ w'.cell? ⟨w.heap.size, 1, none⟩ = some (.string (sB x.street)) ∧ w'.cell? ⟨w.heap.size, 2, none⟩ = some (.int .i64 (m : Int)) ∧ w'.cell? ⟨w.heap.size, 3, none⟩ = some (.string (sB x.code)) ∧ w'.cell? ⟨w.heap.size, 4, none⟩ = some (.string (sB x.town)) ∧ w'.cell? ⟨w.heap.size + 1, 1, none⟩ = some (.string tt) ∧ w'.cell? ⟨g, o, none⟩ = some (.string s)) (by kernel_rfl) (SK.out _ (Below.refl _ _).drew) (fun hHeld => ?_)
            obtain ⟨wd, hwd⟩ : ∃ u, u = w3.drew := ⟨_, rfl⟩
            have bd : Below w3.heap.size w3 wd := by rw [hwd]; exact (Below.refl _ _).drew
            rw [← hwd] at hHeld ⊢
            have HK4 := hid (HK3.out.on bd)
            clear hwd r0 r1 r2 r3 r4 f0 f1 f2 f3 f4
            obtain ⟨r0, r1, r2, r3, r4⟩ := HK4.out.rcell
            obtain ⟨f0, f1, f2, f3, f4⟩ := HK4.out.rfree
            refine wpAnyH_take (i := 0) (oi := ⟨some 77, _, _, _, _, _⟩) (v := .agg #[.string (sB x.person), .string (sB x.street), .int .i64 (m : Int), .string (sB x.code), .string (sB x.town)]) rfl (by kernel_rfl) (by kernel_rfl) (by kernel_rfl) (fun _ _ _ h => h) (Or.inl ⟨by rfl, ?_⟩) hHeld ?_
            · intro u hu
              go_simp
            try simp only [Act.put, List.setIfInBounds_toArray, List.set_cons_zero, List.set_cons_succ]
            refine wpAnyH_take (i := 1) (oi := ⟨some 78, _, _, _, _, _⟩) (v := .pointer (some ⟨w.heap.size, 2, none⟩)) rfl (by kernel_rfl) (by kernel_rfl) (by kernel_rfl) (fun _ _ _ h => h) (Or.inl ⟨by rfl, ?_⟩) hHeld ?_
            · intro u hu
              go_simp
            try simp only [Act.put, List.setIfInBounds_toArray, List.set_cons_zero, List.set_cons_succ]
            refine wpAnyH_take (i := 2) (oi := ⟨some 79, _, _, _, _, _⟩) (v := .int .i64 (m : Int)) rfl (by kernel_rfl) (by kernel_rfl) (by kernel_rfl) (fun _ _ _ h => h) (Or.inl ⟨by rfl, ?_⟩) hHeld ?_
            · intro u hu
              go_simp
            try simp only [Act.put, List.setIfInBounds_toArray, List.set_cons_zero, List.set_cons_succ]
            refine wpAnyH_take (i := 3) (oi := ⟨some 80, _, _, _, _, _⟩) (v := .bool q) rfl (by kernel_rfl) (by kernel_rfl) (by kernel_rfl) (fun _ _ _ h => h) (Or.inl ⟨by rfl, ?_⟩) hHeld ?_
            · intro u hu
              go_simp
            try simp only [Act.put, List.setIfInBounds_toArray, List.set_cons_zero, List.set_cons_succ]
            refine wpAnyH_ready (rs := [4]) (by kernel_rfl) (by simp) ?_
            refine AllReadyH.cons (o := ⟨none, _, _, _, _, _⟩) rfl (fun K hK => ?_) AllReadyH.nil
            go_simp
            refine hK.out _ _ (SF.out _ hHeld) (fun hHeld => ?_)
            clear hK K
            try simp only [Act.put, List.setIfInBounds_toArray, List.set_cons_zero, List.set_cons_succ]
            refine wpAnyH_take (i := 5) (oi := ⟨some 7, _, _, _, _, _⟩) (v := .bool q) rfl (by kernel_rfl) (by kernel_rfl) (by kernel_rfl) (fun _ _ _ h => h) (Or.inl ⟨by rfl, ?_⟩) hHeld ?_
            · intro u hu
              go_simp
            try simp only [Act.put, List.setIfInBounds_toArray, List.set_cons_zero, List.set_cons_succ]
            refine wpAnyH_done (by kernel_rfl) ?_ _
            clear hHeld
            go_wp2
            obtain ⟨e0, e1, e2, e3, e4, hbe⟩ := HK4.out.end (Nat.le_refl _) (sB x.person) (sB x.street) (m : Int) (sB x.code) (sB x.town)
            (try simp only [Exit.inBlock, Exit.then])
            refine bodyPost_ret (v := .tuple #[.agg #[.string (sB x.person), .string (sB x.street), .int .i64 (m : Int), .string (sB x.code), .string (sB x.town)], .bool q]) ?_ rfl ?_
            · simp [results, Tryz.f63, go_sem, e0, e1, e2, e3, e4]
            · exact ⟨{ x with number := (m : Int) }, by rw [HQ.out]; try rfl, fun _ => by rw [set_k2 HG.out x, HM.out], hbe⟩
        · clear k1 k6
          by_cases h2 : 1 < ws.length
          · have n2 : decide ((1 : Int) < (ws.length : Int)) = true := decide_eq_true (by omega)
            have HV : Hid (r = false) := HR.out.trans (can_long (by rw [HKD.out, if_neg (by decide)]; omega))
            by_cases h5 : 4 < ws.length
            · have n4 : decide ((4 : Int) < (ws.length : Int)) = true := decide_eq_true (by omega)
              clear h1 h2 h5 hlt
              go_wp2
              obtain ⟨e0, e1, e2, e3, e4, hbe⟩ := HK1.out.end (Nat.le_refl _) (sB x.person) (sB x.street) x.number (sB x.code) (sB x.town)
              (try simp only [Exit.inBlock, Exit.then])
              refine bodyPost_ret (v := .tuple #[.agg #[.string (sB x.person), .string (sB x.street), .int .i64 x.number, .string (sB x.code), .string (sB x.town)], .bool false]) ?_ rfl ?_
              · simp [results, Tryz.f63, go_sem, e0, e1, e2, e3, e4]
              · exact ⟨x, by rw [HV.out]; try rfl, fun h => absurd (HV.out.symm.trans h) (by decide), hbe⟩
            · have n4 : decide ((4 : Int) < (ws.length : Int)) = false := decide_eq_false (by omega)
              clear h1 h2 h5 hlt
              go_wp2
              obtain ⟨e0, e1, e2, e3, e4, hbe⟩ := HK1.out.end (Nat.le_refl _) (sB x.person) (sB x.street) x.number (sB x.code) (sB x.town)
              (try simp only [Exit.inBlock, Exit.then])
              refine bodyPost_ret (v := .tuple #[.agg #[.string (sB x.person), .string (sB x.street), .int .i64 x.number, .string (sB x.code), .string (sB x.town)], .bool false]) ?_ rfl ?_
              · simp [results, Tryz.f63, go_sem, e0, e1, e2, e3, e4]
              · exact ⟨x, by rw [HV.out]; try rfl, fun h => absurd (HV.out.symm.trans h) (by decide), hbe⟩
          · have n2 : decide ((1 : Int) < (ws.length : Int)) = false := decide_eq_false (by omega)
            have n4 : decide ((4 : Int) < (ws.length : Int)) = false := decide_eq_false (by omega)
            obtain ⟨z, hz⟩ : ∃ z, ws[0]? = some z := ⟨_, List.getElem?_eq_getElem (by omega)⟩
            have HG := hid (one_at hz)
            have hzl := HZ.out z (List.mem_of_getElem? hz)
            obtain ⟨g, o, rfl, hg0, hc0⟩ := HW0.out.at (k := 0) (u := sV z) (by rw [List.getElem?_map, hz]; rfl)
            obtain ⟨_, _, e9, hg, hc⟩ := HW1.out.at (k := 0) (u := sV z) (by rw [List.getElem?_map, hz]; rfl)
            cases e9
            rw [Nat.add_zero] at hc
            unfold sV at hc
            have hall := can_all (p := p) (ws := ws) h1 (by rw [HKD.out, if_neg (by decide)]; omega) HALL.out
            rw [HKD.out, HG.out] at hall
            rw [if_neg (by decide), if_neg (by decide), if_pos rfl] at hall
            have HVAL := hid (HR.out.trans hall)
            have i0 : (0 : Int) < (ws.length : Int) := by omega
            have i1 : 0 < ws.length := by omega
            obtain ⟨s, hs⟩ : ∃ s, s = sB z := ⟨_, rfl⟩
            rw [← hs] at hc
            have CU1 := hid (CU.out z hzl)
            have CC1 := hid (CC.out z hzl)
            rw [← hs] at CU1 CC1
            obtain ⟨uz, huz⟩ : ∃ uz, uz = sB (upL z) := ⟨_, rfl⟩
            rw [← huz] at CU1
            obtain ⟨q, hq⟩ : ∃ q, q = codeW z p.t := ⟨_, rfl⟩
            have HQ : Hid (r = q) := HVAL.out.trans hq.symm
            have CC2 : Hid (∀ u, Calls Tryz.prog 44 #[.string s, .string tt] u fun e w' => e = .returned (.bool q) ∧ u = w') := fun u => by rw [hq]; exact CC1.out u
            have HUZ := hid huz
            clear CC1 hs huz hq hz hc0 hzl hall h1 h2 hlt
            go_wp2_with fail
            refine (CU1.out _).mono ?_
            rintro e u2 ⟨rfl, hu2⟩
            have HK2 := hid (HK1.out.on hu2)
            have hcw := (hu2.cell (p := (⟨g, o, none⟩ : Addr)) hg).trans hc
            clear CU1 hu2 hc
            obtain ⟨b0, b1, b2, b3, b4⟩ := HK2.out.afree
            clear a0 a1 a2 a3 a4 p0 p1 r0 r1 r2 r3 r4 f0 f1 f2 f3 f4
            obtain ⟨a0, a1, a2, a3, a4⟩ := HK2.out.acell
            go_upto_region 18 with fail
            obtain ⟨w3, hw3⟩ : ∃ w3, w3 = u2.setCell ⟨w.heap.size, 3, none⟩ (.string uz) := ⟨_, rfl⟩
            rw [← hw3]
            have HK3 : Hid (Tk w w.heap.size (adQ (sB x.person) (sB x.street) x.number uz (sB x.town)) 3 tt w3) := by rw [hw3]; exact HK2.out.put (Nat.le_refl _) 3 _
            have hcs : w3.cell? ⟨g, o, none⟩ = some (.string s) := by rw [hw3, World.cell?_setCell_far _ _ _ _ (by simp; omega)]; exact hcw
            clear hw3 hcw b0 b1 b2 b3 b4 a0 a1 a2 a3 a4
            have SK : Hid (∀ u, Below w3.heap.size w3 u → u.cell? ⟨w.heap.size, 0, none⟩ = some (.string (sB x.person)) ∧ u.cell? ⟨w.heap.size, 1, none⟩ = some (.string (sB x.street)) ∧ u.cell? ⟨w.heap.size, 2, none⟩ = some (.int .i64 x.number) ∧ u.cell? ⟨w.heap.size, 3, none⟩ = some (.string uz) ∧ u.cell? ⟨w.heap.size, 4, none⟩ = some (.string (sB x.town)) ∧ u.cell? ⟨w.heap.size + 1, 1, none⟩ = some (.string tt) ∧ u.cell? ⟨g, o, none⟩ = some (.string s)) := fun u hu => by
              obtain ⟨a0, a1, a2, a3, a4⟩ := (HK3.out.on hu).acell
              exact ⟨a0, a1, a2, a3, a4, (HK3.out.on hu).pcell.2, (hu.cell (p := (⟨g, o, none⟩ : Addr)) (Nat.lt_of_lt_of_le hg0 HK3.out.bel.size)).trans hcs⟩
            have SF : Hid (∀ u, u.cell? ⟨w.heap.size, 0, none⟩ = some (.string (sB x.person)) ∧ u.cell? ⟨w.heap.size, 1, none⟩ = some (.string (sB x.street)) ∧ u.cell? ⟨w.heap.size, 2, none⟩ = some (.int .i64 x.number) ∧ u.cell? ⟨w.heap.size, 3, none⟩ = some (.string uz) ∧ u.cell? ⟨w.heap.size, 4, none⟩ = some (.string (sB x.town)) ∧ u.cell? ⟨w.heap.size + 1, 1, none⟩ = some (.string tt) ∧ u.cell? ⟨g, o, none⟩ = some (.string s) → (set5 u (w.heap.size + 1 + 1) (.string (sB x.person)) (.string (sB x.street)) (.int .i64 x.number) (.string uz) (.string (sB x.town))).cell? ⟨w.heap.size, 0, none⟩ = some (.string (sB x.person)) ∧ (set5 u (w.heap.size + 1 + 1) (.string (sB x.person)) (.string (sB x.street)) (.int .i64 x.number) (.string uz) (.string (sB x.town))).cell? ⟨w.heap.size, 1, none⟩ = some (.string (sB x.street)) ∧ (set5 u (w.heap.size + 1 + 1) (.string (sB x.person)) (.string (sB x.street)) (.int .i64 x.number) (.string uz) (.string (sB x.town))).cell? ⟨w.heap.size, 2, none⟩ = some (.int .i64 x.number) ∧ (set5 u (w.heap.size + 1 + 1) (.string (sB x.person)) (.string (sB x.street)) (.int .i64 x.number) (.string uz) (.string (sB x.town))).cell? ⟨w.heap.size, 3, none⟩ = some (.string uz) ∧ (set5 u (w.heap.size + 1 + 1) (.string (sB x.person)) (.string (sB x.street)) (.int .i64 x.number) (.string uz) (.string (sB x.town))).cell? ⟨w.heap.size, 4, none⟩ = some (.string (sB x.town)) ∧ (set5 u (w.heap.size + 1 + 1) (.string (sB x.person)) (.string (sB x.street)) (.int .i64 x.number) (.string uz) (.string (sB x.town))).cell? ⟨w.heap.size + 1, 1, none⟩ = some (.string tt) ∧ (set5 u (w.heap.size + 1 + 1) (.string (sB x.person)) (.string (sB x.street)) (.int .i64 x.number) (.string uz) (.string (sB x.town))).cell? ⟨g, o, none⟩ = some (.string s)) := fun u ⟨q0, q1, q2, q3, q4, q5, q6⟩ =>
              ⟨(far5 _ _ _ _ _ _ _ _ (show w.heap.size + 1 + 1 ≠ w.heap.size from by omega)).trans q0, (far5 _ _ _ _ _ _ _ _ (show w.heap.size + 1 + 1 ≠ w.heap.size from by omega)).trans q1, (far5 _ _ _ _ _ _ _ _ (show w.heap.size + 1 + 1 ≠ w.heap.size from by omega)).trans q2, (far5 _ _ _ _ _ _ _ _ (show w.heap.size + 1 + 1 ≠ w.heap.size from by omega)).trans q3, (far5 _ _ _ _ _ _ _ _ (show w.heap.size + 1 + 1 ≠ w.heap.size from by omega)).trans q4, (far5 _ _ _ _ _ _ _ _ (show w.heap.size + 1 + 1 ≠ w.heap.size + 1 from by omega)).trans q5, (far5 _ _ _ _ _ _ _ _ (show w.heap.size + 1 + 1 ≠ g from by omega)).trans q6⟩
            obtain ⟨r0, r1, r2, r3, r4⟩ := HK3.out.rcell
            obtain ⟨f0, f1, f2, f3, f4⟩ := HK3.out.rfree
            refine wp_region_held_drew (S := fun w' => w'.cell? ⟨w.heap.size, 0, none⟩ = some (.string (sB x.person)) ∧ w'.cell? ⟨w.heap.size, 1, none⟩ = some (.string (sB x.street)) ∧ w'.cell? ⟨w.heap.size, 2, none⟩ = some (.int .i64 x.number) ∧ w'.cell? ⟨w.heap.size, 3, none⟩ = some (.string uz) ∧ w'.cell? ⟨w.heap.size, 4, none⟩ = some (.string (sB x.town)) ∧ w'.cell? ⟨w.heap.size + 1, 1, none⟩ = some (.string tt) ∧ w'.cell? ⟨g, o, none⟩ = some (.string s)) (by kernel_rfl) (SK.out _ (Below.refl _ _).drew) (fun hHeld => ?_)
            obtain ⟨wd, hwd⟩ : ∃ u, u = w3.drew := ⟨_, rfl⟩
            have bd : Below w3.heap.size w3 wd := by rw [hwd]; exact (Below.refl _ _).drew
            rw [← hwd] at hHeld ⊢
            have HK4 := hid (HK3.out.on bd)
            clear hwd r0 r1 r2 r3 r4 f0 f1 f2 f3 f4
            obtain ⟨r0, r1, r2, r3, r4⟩ := HK4.out.rcell
            obtain ⟨f0, f1, f2, f3, f4⟩ := HK4.out.rfree
            refine wpAnyH_take (i := 0) (oi := ⟨some 88, _, _, _, _, _⟩) (v := .agg #[.string (sB x.person), .string (sB x.street), .int .i64 x.number, .string uz, .string (sB x.town)]) rfl (by kernel_rfl) (by kernel_rfl) (by kernel_rfl) (fun _ _ _ h => h) (Or.inl ⟨by rfl, ?_⟩) hHeld ?_
            · intro u hu
              go_simp
            try simp only [Act.put, List.setIfInBounds_toArray, List.set_cons_zero, List.set_cons_succ]
            refine wpAnyH_take (i := 1) (oi := ⟨some 89, _, _, _, _, _⟩) (v := .slice (some ⟨g, o, none⟩) ws.length cap) rfl (by kernel_rfl) (by kernel_rfl) (by kernel_rfl) (fun _ _ _ h => h) (Or.inl ⟨by rfl, ?_⟩) hHeld ?_
            · intro u hu
              go_simp
            try simp only [Act.put, List.setIfInBounds_toArray, List.set_cons_zero, List.set_cons_succ]
            refine wpAnyH_take (i := 2) (oi := ⟨some 90, _, _, _, _, _⟩) (v := .pointer (some ⟨g, o, none⟩)) rfl (by kernel_rfl) (by kernel_rfl) (by kernel_rfl) (fun _ _ _ h => h) (Or.inl ⟨by rfl, ?_⟩) hHeld ?_
            · intro u hu
              go_simp
            try simp only [Act.put, List.setIfInBounds_toArray, List.set_cons_zero, List.set_cons_succ]
            refine wpAnyH_take (i := 3) (oi := ⟨some 91, _, _, _, _, _⟩) (v := .string s) rfl (by kernel_rfl) (by kernel_rfl) (by kernel_rfl) (fun _ _ _ h => h) (Or.inl ⟨by rfl, ?_⟩) hHeld ?_
            · intro u hu
              go_simp
            try simp only [Act.put, List.setIfInBounds_toArray, List.set_cons_zero, List.set_cons_succ]
            refine wpAnyH_take (i := 4) (oi := ⟨some 92, _, _, _, _, _⟩) (v := .pointer (some ⟨w.heap.size + 1, 1, none⟩)) rfl (by kernel_rfl) (by kernel_rfl) (by kernel_rfl) (fun _ _ _ h => h) (Or.inl ⟨by rfl, ?_⟩) hHeld ?_
            · intro u hu
              go_simp
            try simp only [Act.put, List.setIfInBounds_toArray, List.set_cons_zero, List.set_cons_succ]
            refine wpAnyH_take (i := 5) (oi := ⟨some 93, _, _, _, _, _⟩) (v := .string tt) rfl (by kernel_rfl) (by kernel_rfl) (by kernel_rfl) (fun _ _ _ h => h) (Or.inl ⟨by rfl, ?_⟩) hHeld ?_
            · intro u hu
              go_simp
            try simp only [Act.put, List.setIfInBounds_toArray, List.set_cons_zero, List.set_cons_succ]
            refine wpAnyH_ready (rs := [6]) (by kernel_rfl) (by simp) ?_
            refine AllReadyH.cons (o := ⟨some 94, _, _, _, _, _⟩) rfl (fun K hK => ?_) AllReadyH.nil
            go_simp
            go_at_call 44
            refine (CC2.out _).mono ?_
            rintro e y1 ⟨rfl, rfl⟩
            refine hK.out _ _ hHeld (fun hHeld => ?_)
            clear hK K
            try simp only [Act.put, List.setIfInBounds_toArray, List.set_cons_zero, List.set_cons_succ]
            refine wpAnyH_ready (rs := [7]) (by kernel_rfl) (by simp) ?_
            refine AllReadyH.cons (o := ⟨none, _, _, _, _, _⟩) rfl (fun K hK => ?_) AllReadyH.nil
            go_simp
            refine hK.out _ _ (SF.out _ hHeld) (fun hHeld => ?_)
            clear hK K
            try simp only [Act.put, List.setIfInBounds_toArray, List.set_cons_zero, List.set_cons_succ]
            refine wpAnyH_take (i := 8) (oi := ⟨some 7, _, _, _, _, _⟩) (v := .bool q) rfl (by kernel_rfl) (by kernel_rfl) (by kernel_rfl) (fun _ _ _ h => h) (Or.inl ⟨by rfl, ?_⟩) hHeld ?_
            · intro u hu
              go_simp
            try simp only [Act.put, List.setIfInBounds_toArray, List.set_cons_zero, List.set_cons_succ]
            refine wpAnyH_done (by kernel_rfl) ?_ _
            clear hHeld
            go_wp2
            obtain ⟨e0, e1, e2, e3, e4, hbe⟩ := HK4.out.end (Nat.le_refl _) (sB x.person) (sB x.street) x.number uz (sB x.town)
            (try simp only [Exit.inBlock, Exit.then])
            refine bodyPost_ret (v := .tuple #[.agg #[.string (sB x.person), .string (sB x.street), .int .i64 x.number, .string uz, .string (sB x.town)], .bool q]) ?_ rfl ?_
            · simp [results, Tryz.f63, go_sem, e0, e1, e2, e3, e4]
            · exact ⟨{ x with code := upL z }, by rw [HQ.out, HUZ.out]; try rfl, fun _ => (set_k3 HG.out x).symm, hbe⟩
        · clear k1 k6
          by_cases h5 : 4 < ws.length
          · have n4 : decide ((4 : Int) < (ws.length : Int)) = true := decide_eq_true (by omega)
            have HV : Hid (r = false) := HR.out.trans (can_long (by rw [HKD.out, if_pos (by decide)]; omega))
            clear h1 h5 hlt
            go_wp2
            obtain ⟨e0, e1, e2, e3, e4, hbe⟩ := HK1.out.end (Nat.le_refl _) (sB x.person) (sB x.street) x.number (sB x.code) (sB x.town)
            (try simp only [Exit.inBlock, Exit.then])
            refine bodyPost_ret (v := .tuple #[.agg #[.string (sB x.person), .string (sB x.street), .int .i64 x.number, .string (sB x.code), .string (sB x.town)], .bool false]) ?_ rfl ?_
            · simp [results, Tryz.f63, go_sem, e0, e1, e2, e3, e4]
            · exact ⟨x, by rw [HV.out]; try rfl, fun h => absurd (HV.out.symm.trans h) (by decide), hbe⟩
          · have n4 : decide ((4 : Int) < (ws.length : Int)) = false := decide_eq_false (by omega)
            have hall := can_all (p := p) (ws := ws) h1 (by rw [HKD.out, if_pos (by decide)]; omega) HALL.out
            rw [HKD.out, if_neg (by decide), if_neg (by decide), if_neg (by decide)] at hall
            have HV : Hid (r = true) := HR.out.trans hall
            have CJ1 := hid (CJ.out w1 (Below.refl _ _) (by omega))
            obtain ⟨js, hjs⟩ : ∃ js, js = sB (joinW ws) := ⟨_, rfl⟩
            rw [← hjs] at CJ1
            have HJS := hid hjs
            obtain ⟨b0, b1, b2, b3, b4⟩ := HK1.out.afree
            clear hall h1 h5 hjs hlt
            go_wp2_with fail
            refine CJ1.out.mono ?_
            rintro e u2 ⟨rfl, rfl⟩
            clear CJ1
            go_upto_region 23 with fail
            obtain ⟨w3, hw3⟩ : ∃ w3, w3 = w1.setCell ⟨w.heap.size, 1, none⟩ (.string js) := ⟨_, rfl⟩
            rw [← hw3]
            have HK3 : Hid (Tk w w.heap.size (adQ (sB x.person) js x.number (sB x.code) (sB x.town)) 4 tt w3) := by rw [hw3]; exact HK1.out.put (Nat.le_refl _) 1 _
            clear hw3 b0 b1 b2 b3 b4
            clear a0 a1 a2 a3 a4 r0 r1 r2 r3 r4 f0 f1 f2 f3 f4
            obtain ⟨a0, a1, a2, a3, a4⟩ := HK3.out.acell
            obtain ⟨r0, r1, r2, r3, r4⟩ := HK3.out.rcell
            obtain ⟨f0, f1, f2, f3, f4⟩ := HK3.out.rfree
            go_wp2
            obtain ⟨e0, e1, e2, e3, e4, hbe⟩ := HK3.out.end (Nat.le_refl _) (sB x.person) js x.number (sB x.code) (sB x.town)
            (try simp only [Exit.inBlock, Exit.then])
            refine bodyPost_ret (v := .tuple #[.agg #[.string (sB x.person), .string js, .int .i64 x.number, .string (sB x.code), .string (sB x.town)], .bool true]) ?_ rfl ?_
            · simp [results, Tryz.f63, go_sem, e0, e1, e2, e3, e4]
            · exact ⟨{ x with street := joinW ws }, by rw [HV.out, HJS.out]; try rfl, fun _ => (set_k4 ws x).symm, hbe⟩
        · clear k1 k6
          by_cases h5 : 4 < ws.length
          · have n4 : decide ((4 : Int) < (ws.length : Int)) = true := decide_eq_true (by omega)
            have HV : Hid (r = false) := HR.out.trans (can_long (by rw [HKD.out, if_pos (by decide)]; omega))
            clear h1 h5 hlt
            go_wp2
            obtain ⟨e0, e1, e2, e3, e4, hbe⟩ := HK1.out.end (Nat.le_refl _) (sB x.person) (sB x.street) x.number (sB x.code) (sB x.town)
            (try simp only [Exit.inBlock, Exit.then])
            refine bodyPost_ret (v := .tuple #[.agg #[.string (sB x.person), .string (sB x.street), .int .i64 x.number, .string (sB x.code), .string (sB x.town)], .bool false]) ?_ rfl ?_
            · simp [results, Tryz.f63, go_sem, e0, e1, e2, e3, e4]
            · exact ⟨x, by rw [HV.out]; try rfl, fun h => absurd (HV.out.symm.trans h) (by decide), hbe⟩
          · have n4 : decide ((4 : Int) < (ws.length : Int)) = false := decide_eq_false (by omega)
            have hall := can_all (p := p) (ws := ws) h1 (by rw [HKD.out, if_pos (by decide)]; omega) HALL.out
            rw [HKD.out, if_neg (by decide), if_neg (by decide), if_neg (by decide)] at hall
            have HV : Hid (r = true) := HR.out.trans hall
            have CJ1 := hid (CJ.out w1 (Below.refl _ _) (by omega))
            obtain ⟨js, hjs⟩ : ∃ js, js = sB (joinW ws) := ⟨_, rfl⟩
            rw [← hjs] at CJ1
            have HJS := hid hjs
            obtain ⟨b0, b1, b2, b3, b4⟩ := HK1.out.afree
            clear hall h1 h5 hjs hlt
            go_wp2_with fail
            refine CJ1.out.mono ?_
            rintro e u2 ⟨rfl, rfl⟩
            clear CJ1
            go_upto_region 23 with fail
            obtain ⟨w3, hw3⟩ : ∃ w3, w3 = w1.setCell ⟨w.heap.size, 4, none⟩ (.string js) := ⟨_, rfl⟩
            rw [← hw3]
            have HK3 : Hid (Tk w w.heap.size (adQ (sB x.person) (sB x.street) x.number (sB x.code) js) 5 tt w3) := by rw [hw3]; exact HK1.out.put (Nat.le_refl _) 4 _
            clear hw3 b0 b1 b2 b3 b4
            clear a0 a1 a2 a3 a4 r0 r1 r2 r3 r4 f0 f1 f2 f3 f4
            obtain ⟨a0, a1, a2, a3, a4⟩ := HK3.out.acell
            obtain ⟨r0, r1, r2, r3, r4⟩ := HK3.out.rcell
            obtain ⟨f0, f1, f2, f3, f4⟩ := HK3.out.rfree
            go_wp2
            obtain ⟨e0, e1, e2, e3, e4, hbe⟩ := HK3.out.end (Nat.le_refl _) (sB x.person) (sB x.street) x.number (sB x.code) js
            (try simp only [Exit.inBlock, Exit.then])
            refine bodyPost_ret (v := .tuple #[.agg #[.string (sB x.person), .string (sB x.street), .int .i64 x.number, .string (sB x.code), .string js], .bool true]) ?_ rfl ?_
            · simp [results, Tryz.f63, go_sem, e0, e1, e2, e3, e4]
            · exact ⟨{ x with town := joinW ws }, by rw [HV.out, HJS.out]; try rfl, fun _ => (set_k5 ws x).symm, hbe⟩
        · clear k1 k6
          by_cases h5 : 4 < ws.length
          · have n4 : decide ((4 : Int) < (ws.length : Int)) = true := decide_eq_true (by omega)
            have HV : Hid (r = false) := HR.out.trans (can_long (by rw [HKD.out, if_pos (by decide)]; omega))
            clear h1 h5 hlt
            go_wp2
            obtain ⟨e0, e1, e2, e3, e4, hbe⟩ := HK1.out.end (Nat.le_refl _) (sB x.person) (sB x.street) x.number (sB x.code) (sB x.town)
            (try simp only [Exit.inBlock, Exit.then])
            refine bodyPost_ret (v := .tuple #[.agg #[.string (sB x.person), .string (sB x.street), .int .i64 x.number, .string (sB x.code), .string (sB x.town)], .bool false]) ?_ rfl ?_
            · simp [results, Tryz.f63, go_sem, e0, e1, e2, e3, e4]
            · exact ⟨x, by rw [HV.out]; try rfl, fun h => absurd (HV.out.symm.trans h) (by decide), hbe⟩
          · have n4 : decide ((4 : Int) < (ws.length : Int)) = false := decide_eq_false (by omega)
            have hall := can_all (p := p) (ws := ws) h1 (by rw [HKD.out, if_pos (by decide)]; omega) HALL.out
            rw [HKD.out, if_neg (by decide), if_neg (by decide), if_neg (by decide)] at hall
            have HV : Hid (r = true) := HR.out.trans hall
            have CJ1 := hid (CJ.out w1 (Below.refl _ _) (by omega))
            obtain ⟨js, hjs⟩ : ∃ js, js = sB (joinW ws) := ⟨_, rfl⟩
            rw [← hjs] at CJ1
            have HJS := hid hjs
            obtain ⟨b0, b1, b2, b3, b4⟩ := HK1.out.afree
            clear hall h1 h5 hjs hlt
            go_wp2_with fail
            refine CJ1.out.mono ?_
            rintro e u2 ⟨rfl, rfl⟩
            clear CJ1
            go_upto_region 23 with fail
            obtain ⟨w3, hw3⟩ : ∃ w3, w3 = w1.setCell ⟨w.heap.size, 0, none⟩ (.string js) := ⟨_, rfl⟩
            rw [← hw3]
            have HK3 : Hid (Tk w w.heap.size (adQ js (sB x.street) x.number (sB x.code) (sB x.town)) 6 tt w3) := by rw [hw3]; exact HK1.out.put (Nat.le_refl _) 0 _
            clear hw3 b0 b1 b2 b3 b4
            clear a0 a1 a2 a3 a4 r0 r1 r2 r3 r4 f0 f1 f2 f3 f4
            obtain ⟨a0, a1, a2, a3, a4⟩ := HK3.out.acell
            obtain ⟨r0, r1, r2, r3, r4⟩ := HK3.out.rcell
            obtain ⟨f0, f1, f2, f3, f4⟩ := HK3.out.rfree
            go_wp2
            obtain ⟨e0, e1, e2, e3, e4, hbe⟩ := HK3.out.end (Nat.le_refl _) js (sB x.street) x.number (sB x.code) (sB x.town)
            (try simp only [Exit.inBlock, Exit.then])
            refine bodyPost_ret (v := .tuple #[.agg #[.string js, .string (sB x.street), .int .i64 x.number, .string (sB x.code), .string (sB x.town)], .bool true]) ?_ rfl ?_
            · simp [results, Tryz.f63, go_sem, e0, e1, e2, e3, e4]
            · exact ⟨{ x with person := joinW ws }, by rw [HV.out, HJS.out]; try rfl, fun _ => (set_k6 ws x).symm, hbe⟩
      · have n1 : decide ((ws.length : Int) < 1) = true := decide_eq_true (by omega)
        have HV : Hid (r = false) := HR.out.trans (can_short h1)
        clear h1
        obtain rfl | rfl | rfl | rfl | rfl | rfl : kk = 1 ∨ kk = 2 ∨ kk = 3 ∨ kk = 4 ∨ kk = 5 ∨ kk = 6 := by omega
        all_goals
          go_wp2
          obtain ⟨e0, e1, e2, e3, e4, hbe⟩ := HK1.out.end (Nat.le_refl _) (sB x.person) (sB x.street) x.number (sB x.code) (sB x.town)
          (try simp only [Exit.inBlock, Exit.then])
          refine bodyPost_ret (v := .tuple #[.agg #[.string (sB x.person), .string (sB x.street), .int .i64 x.number, .string (sB x.code), .string (sB x.town)], .bool false]) ?_ rfl ?_
          · simp [results, Tryz.f63, go_sem, e0, e1, e2, e3, e4]
          · exact ⟨x, by rw [HV.out]; try rfl, fun h => absurd (HV.out.symm.trans h) (by decide), hbe⟩

end Fm
end Go.Proofs.YtcaiejbnhjiflaaGreatDoor
