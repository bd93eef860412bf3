/-
  The contracts of the document's read, Parse, decimal and Print.
-/
import Derived.Test.YtcaiejbnhjiflaaGreatDoorR16
import Derived.Test.YtcaiejbnhjiflaaGreatDoorR4
import Derived.Deep.AppendLies
import Derived.Deep.RegionHeld3
import Derived.Deep.DeepCutAuto
import Derived.Test.YtcaiejbnhjiflaaGreatDoorR9
import Derived.Test.YtcaiejbnhjiflaaGreatDoorLPr
import Derived.Test.YtcaiejbnhjiflaaGreatDoorMo
import Derived.Test.YtcaiejbnhjiflaaGreatDoorMq
import Derived.Test.YtcaiejbnhjiflaaGreatDoorR3
import Derived.Test.YtcaiejbnhjiflaaGreatDoorMd
import Derived.Test.YtcaiejbnhjiflaaGreatDoorR14
import Derived.Test.YtcaiejbnhjiflaaGreatDoorR10
namespace Go.Proofs.YtcaiejbnhjiflaaGreatDoor
open Go.RowKit Go.ChangeMaps
namespace Fm

/-- Elements appended to a row of the call's own: none at all, too. -/
theorem run_app_gen {P : Program} {w : World} (t ty e : TypeId) (i : TypeInfo) (z : Value) (size bytes : Nat) (ht : P.underlying t = some (.slice e)) (hi : P.info? e = some i) (hz : i.zero = some z) (hsize : i.size = size) (hby : i.bytes = bytes) (hzs : z.cells.size = size) (hsz : 0 < size)
    {B n : Nat} {v : Value} {xs : List Value} (hown : w.ownsRow B e size v n xs) (hB : B ≤ w.heap.size) {A : Option Addr} {m c : Nat} {ys : List Value} (hS : SlR w A m c size ys) (h1 : ∀ u ∈ ys, u.oneCell' = true) (hn : n + m ≤ 100000) (hb : bytes ≤ 1000) :
    ∃ v' w1, (Builtin.append_ #[t, t] ty #[v, .slice A m c]).run P w = .ok v' w1 ∧ w1.ownsRow B e size v' (n + m) (xs ++ ys) ∧ w.grownBy w1 v.ownBlock := by
  by_cases h0 : m = 0
  · subst h0
    have hx : ys = [] := List.length_eq_zero_iff.1 (by have := hS.1; simpa using this)
    subst hx
    refine ⟨v, w, ?_, by simpa using hown, World.grownBy.refl _ _⟩
    rcases hown.2 with ⟨rfl, rfl⟩ | ⟨g, cap, cur, rfl, _, _, hnc, _⟩
    · cases A <;> simp [Builtin.append_, run_underlying ht, sizeOf, typeInfo, hi, Builtin.lenOf, Builtin.firstCells, loadCells, loadCellsFrom]
    · cases A <;> simp [Builtin.append_, run_underlying ht, sizeOf, typeInfo, hi, Builtin.lenOf, Builtin.firstCells, hnc, storeCells, loadCells, loadCellsFrom]
  · obtain ⟨g', o, rfl, hg, hc⟩ := hS.2.2 (by omega)
    obtain ⟨g, cap, w1, hr, h2, h3, h4, h5⟩ := run_append_lies (P := P) w t ty B e i z size bytes ht hi hz hsize hby hzs hsz v n xs hown ⟨g', o, none⟩ m c ys hS.1 (fun j u hu => by rw [addr_add]; exact hc j u hu) h1 (by omega) (by unfold maxLen; omega) (by have := Nat.mul_le_mul hn hb; omega) hB _ rfl
    exact ⟨_, w1, hr, h2, h3⟩
theorem step_app_gen {P : Program} {w : World} {ops : Array Oper} {o : Oper} {a : Act} {K : Act → World → Prop} {Q : Exit → Act → World → Prop} {E : Prop} (hgd : o.guard = none) (s x : Operand) (t : TypeId)
    (ho : o.op = .call { callee := .builtin .append, args := #[s, x], argTypes := #[t, t] }) (e : TypeId) (i : TypeInfo) (z : Value) (size bytes : Nat) (ht : P.underlying t = some (.slice e)) (hi : P.info? e = some i) (hz : i.zero = some z) (hsize : i.size = size) (hby : i.bytes = bytes) (hzs : z.cells.size = size) (hsz : 0 < size)
    (B n : Nat) (v : Value) (xs : List Value) (hs : a.eval s = v) (hown : w.ownsRow B e size v n xs) (hB : B ≤ w.heap.size) (A : Option Addr) (m c : Nat) (ys : List Value) (hx : a.eval x = .slice A m c) (hS : SlR w A m c size ys) (h1 : ∀ u ∈ ys, u.oneCell' = true) (hn : n + m ≤ 100000) (hb : bytes ≤ 1000)
    (h : ∀ v' w1, w1.ownsRow B e size v' (n + m) (xs ++ ys) → w.grownBy w1 v.ownBlock → K (a.put o.dst v') w1) :
    if Region.wanted o (yielded ops a.tmps) = true then Oper.wp P o a w K Q else E := by
  have hw : Region.wanted o (yielded ops a.tmps) = true := by simp [Region.wanted, hgd]
  rw [if_pos hw]
  obtain ⟨v', w1, hr, h2, h3⟩ := run_app_gen (P := P) t o.type e i z size bytes ht hi hz hsize hby hzs hsz hown hB hS h1 hn hb
  unfold Oper.wp execOp
  simp only [ho, resolve, invoke, builtin, Sem.run_bind, Sem.run_pure, Result.andThen_ok, List.map_toArray, List.map_cons, List.map_nil, hs, hx, hr]
  exact h v' w1 h2 h3
theorem one_ads (rs : List Ad) : ∀ u ∈ encAs rs, u.oneCell' = true := fun u hu => by
  obtain ⟨a, _, ha⟩ := List.mem_flatMap.1 hu
  simp only [encA, List.mem_cons, List.not_mem_nil, or_false] at ha
  rcases ha with rfl | rfl | rfl | rfl | rfl <;> rfl
theorem encAs_append (a b : List Ad) : encAs (a ++ b) = encAs a ++ encAs b := by unfold encAs; rw [List.flatMap_append]
theorem run_from {P : Program} (T : TypeId) (ht : P.underlying T = some (.slice (P.elem T))) (size : Nat) (hsz : ∀ w, (sizeOf (P.elem T)).run P w = .ok size w) (A : Option Addr) (n c k : Nat) (hk : k ≤ n) (w : World) :
    (Instr.slice T (.slice A n c) (some (.int .i64 (k : Int))) none none).run P w = .ok (.slice (if c = k then A else A.map (·.add (k * size))) (n - k) (c - k)) w := by
  rw [run_slice_l w T A n c ht .i64 (k : Int) (by omega) (by omega), hsz]
  simp [Result.andThen, sliced]
theorem run_upto {P : Program} (T : TypeId) (ht : P.underlying T = some (.slice (P.elem T))) (size : Nat) (hsz : ∀ w, (sizeOf (P.elem T)).run P w = .ok size w) (A : Option Addr) (n c k : Nat) (hk : k ≤ c) (w : World) :
    (Instr.slice T (.slice A n c) none (some (.int .i64 (k : Int))) none).run P w = .ok (.slice (if c = 0 then A else A.map (·.add (0 * size))) k c) w := by
  rw [run_slice_h w T A n c ht .i64 (k : Int) (by omega) (by omega), hsz]
  simp [Result.andThen, sliced]
theorem sizePt (w : World) : (sizeOf (Tryz.prog.elem 47)).run Tryz.prog w = .ok 2 w := by kernel_rfl
theorem sizeStr (w : World) : (sizeOf (Tryz.prog.elem 25)).run Tryz.prog w = .ok 1 w := by kernel_rfl
theorem upto_same (A : Option Addr) (c s : Nat) : (if c = 0 then A else A.map (·.add (0 * s))) = A := by
  split
  · rfl
  · cases A with
    | none => rfl
    | some a => rw [Nat.zero_mul]; simp [Addr.add]
theorem zero5 {u : World} {g : Nat} {T : TypeId} (h : u.heap[g]? = some (.cells #[.string ⟨#[]⟩, .string ⟨#[]⟩, .int .i64 0, .string ⟨#[]⟩, .string ⟨#[]⟩] T (0, 0))) :
    u.cell? ⟨g, 0, none⟩ = some (.string ⟨#[]⟩) ∧ u.cell? ⟨g, 1, none⟩ = some (.string ⟨#[]⟩) ∧ u.cell? ⟨g, 2, none⟩ = some (.int .i64 0) ∧ u.cell? ⟨g, 3, none⟩ = some (.string ⟨#[]⟩) ∧ u.cell? ⟨g, 4, none⟩ = some (.string ⟨#[]⟩) ∧
    u.frozen? ⟨g, 0, none⟩ = false ∧ u.frozen? ⟨g, 1, none⟩ = false ∧ u.frozen? ⟨g, 2, none⟩ = false ∧ u.frozen? ⟨g, 3, none⟩ = false ∧ u.frozen? ⟨g, 4, none⟩ = false := by
  refine ⟨?_, ?_, ?_, ?_, ?_, free_at (v := .string ⟨#[]⟩) h rfl, free_at (v := .string ⟨#[]⟩) h rfl, free_at (v := .int .i64 0) h rfl, free_at (v := .string ⟨#[]⟩) h rfl, free_at (v := .string ⟨#[]⟩) h rfl⟩ <;> (rw [cell_at h]; rfl)
theorem ad5 {u : World} {g : Nat} {T : TypeId} {s0 s1 s3 s4 : ByteArray} {n : Int} (h : u.heap[g]? = some (.cells (adQ s0 s1 n s3 s4) T (0, 0))) :
    u.cell? ⟨g, 0, none⟩ = some (.string s0) ∧ u.cell? ⟨g, 1, none⟩ = some (.string s1) ∧ u.cell? ⟨g, 2, none⟩ = some (.int .i64 n) ∧ u.cell? ⟨g, 3, none⟩ = some (.string s3) ∧ u.cell? ⟨g, 4, none⟩ = some (.string s4) := by
  refine ⟨?_, ?_, ?_, ?_, ?_⟩ <;> (rw [cell_at h]; rfl)
theorem part_text {p : Pt} (h : partB p = true) : p.t.length ≤ 1000 := by
  obtain ⟨_, _, h1, h3, h0⟩ := wfp h
  by_cases k1 : p.k = 1
  · have := (fitW_iff _).1 (h1 k1); omega
  · by_cases k3 : p.k = 3
    · have := (patW_iff _).1 (h3 k3); omega
    · rw [h0 k1 k3]; simp
theorem rd_few {ps : List Pt} (x : Ad) (ws : List W) (hu : uniq ps) (hp : ∀ p ∈ ps, partB p = true) : (rdL ps x ws).length ≤ 16 := by
  have h := rdA_few [(ps, ws)] x (by simpa [partsR] using hu) (by simpa [partsR] using hp)
  have e : rdA [(ps, ws)] x = rdL ps x ws := by
    rw [rdA_cons]
    show (rdL ps x ws).flatMap (rdA []) = _
    rw [show (rdA [] : Ad → List Ad) = fun a => [a] from funext rdA_nil]; simp
  rwa [e] at h
theorem rdN_few {p : Pt} {ps : List Pt} (x : Ad) (ws : List W) {j : Nat} (hj : j ≤ 4) : (rdN j p ps x ws).length ≤ (rdL (p :: ps) x ws).length := by
  rw [rdL_cons]
  have h1 : (rdN 1 p ps x ws).length = (rdN 0 p ps x ws).length + _ := (congrArg List.length (rdN_succ 0 p ps x ws)).trans (List.length_append ..)
  have h2 : (rdN 2 p ps x ws).length = (rdN 1 p ps x ws).length + _ := (congrArg List.length (rdN_succ 1 p ps x ws)).trans (List.length_append ..)
  have h3 : (rdN 3 p ps x ws).length = (rdN 2 p ps x ws).length + _ := (congrArg List.length (rdN_succ 2 p ps x ws)).trans (List.length_append ..)
  have h4 : (rdN 4 p ps x ws).length = (rdN 3 p ps x ws).length + _ := (congrArg List.length (rdN_succ 3 p ps x ws)).trans (List.length_append ..)
  match j, hj with
  | 0, _ => omega
  | 1, _ => omega
  | 2, _ => omega
  | 3, _ => omega
  | 4, _ => omega
theorem rdN_yes {j k : Nat} {p : Pt} {ps : List Pt} {x : Ad} {ws : List W} (hk : k = j + 1) (hl : k ≤ ws.length) (hc : canB p (ws.take k) = true) : rdN k p ps x ws = rdN j p ps x ws ++ rdL ps (setF p.k (ws.take k) x) (ws.drop k) := by
  subst hk; rw [rdN_succ, if_pos ⟨hl, hc⟩]
theorem rdN_nope {j k : Nat} {p : Pt} {ps : List Pt} {x : Ad} {ws : List W} (hk : k = j + 1) (hc : canB p (ws.take k) = false) : rdN k p ps x ws = rdN j p ps x ws := by
  subst hk; rw [rdN_succ, if_neg (fun h => by rw [hc] at h; exact absurd h.2 (by simp)), List.append_nil]

theorem heap_new' (w : World) (o : Obj) (n : Nat) (h : n = w.heap.size) : (w.alloc o).heap[n]? = some o := by subst h; exact heap_new w o
def RRead (rs : List Ad) (w : World) (e : Ending) (w' : World) : Prop := ∃ v, e = .returned v ∧ Hid (IsA w' v rs) ∧ Below w.heap.size w w'
set_option maxRecDepth 100000 in
set_option maxHeartbeats 16000000 in
theorem rread_nil (x : Ad) (ws : List W) (pA : Option Addr) (pc : Nat) (wA : Option Addr) (wc : Nat) (w : World) :
    Calls Tryz.prog 32 #[adV x, .slice pA 0 pc, .slice wA ws.length wc] w (RRead (rdL [] x ws) w) := by
  rw [rdL_nil]
  unfold RRead
  by_cases h0 : ws = []
  · have e0 : ((ws.length : Int) == 0) = true := by rw [h0]; rfl
    rw [if_pos h0]
    clear h0
    go_enter Tryz.func32, Tryz.ntmps32
    go_wp2
    go_ret
    refine ⟨_, rfl, ⟨_, _, rfl, ?_⟩, (b0 _ _).alloc (by simp) _⟩
    refine ⟨rfl, Nat.le_refl _, fun _ => ⟨_, _, rfl, by simp, fun j u hu => ?_⟩⟩
    rw [Nat.zero_add, cell_at (heap_new' _ _ _ (by simp))]
    simpa [encAs, encA] using hu
  · have e0 : ((ws.length : Int) == 0) = false := by
      rw [beq_eq_false_iff_ne]; intro h; exact h0 (List.length_eq_zero_iff.1 (by omega))
    rw [if_neg h0]
    clear h0
    go_enter Tryz.func32, Tryz.ntmps32
    go_wp2
    go_ret
    exact ⟨_, rfl, IsA.nil _, b0 _ _⟩

set_option maxRecDepth 100000 in
set_option maxHeartbeats 32000000 in
theorem rread_any (ps : List Pt) : ∀ (x : Ad) (ws : List W) (pA : Option Addr) (pc : Nat) (wA : Option Addr) (wk : Nat) (w : World), RdP w pA ps pc → RdW w wA ws wk → uniq ps → (∀ p ∈ ps, partB p = true) → (∀ y ∈ ws, y.length ≤ 1000) → ws.length ≤ 1000 → ps.length ≤ 1000 →
    Calls Tryz.prog 32 #[adV x, .slice pA ps.length pc, .slice wA ws.length wk] w (RRead (rdL ps x ws) w) := by
  induction ps with
  | nil => intro x ws pA pc wA wk w _ _ _ _ _ _ _; exact rread_nil x ws pA pc wA wk w
  | cons p ps ih =>
    intro x ws pA pc wA wk w hP hW hu hp hz hn hpn
    have HIH := hid ih
    clear ih
    have hcP := hP.2.1
    have hcW := hW.2.1
    have h16 := rd_few x ws hu hp
    have hpt := part_text (hp p (List.mem_cons_self ..))
    have HPB := hid (hp p (List.mem_cons_self ..))
    have HPS := hid (fun q (hq : q ∈ ps) => hp q (List.mem_cons_of_mem _ hq))
    have HUS := hid (uniq_append (a := [p]) (b := ps) hu).2.1
    have HZ0 := hid hz
    obtain ⟨pn, hpnd⟩ : ∃ pn, pn = (p :: ps).length := ⟨_, rfl⟩
    have HPN : Hid (pn = ps.length + 1) := hpnd
    have hpn1 : 1 ≤ pn := by have := HPN.out; omega
    have hpn0 : ((pn : Int) == 0) = false := by rw [beq_eq_false_iff_ne]; omega
    obtain ⟨gp, op, rfl, hgp, hc0, hc1⟩ := RdP.at hP (i := 0) (p := p) rfl
    rw [Nat.zero_mul, Nat.add_zero] at hc0 hc1
    unfold sV at hc1
    have HP0 := hid hP
    have HW0 := hid hW
    rw [← hpnd] at hcP hpn ⊢
    obtain ⟨rs, hrs⟩ : ∃ rs, rs = rdL (p :: ps) x ws := ⟨_, rfl⟩
    have HRS := hid hrs
    rw [← hrs] at h16 ⊢
    obtain ⟨w1, hw1⟩ : ∃ w1, w1 = w.alloc (.cells #[.string (sB x.person), .string (sB x.street), .int .i64 x.number, .string (sB x.code), .string (sB x.town)] 27) := ⟨_, rfl⟩
    obtain ⟨w2, hw2⟩ : ∃ w2, w2 = w1.alloc (.cells #[] 27) := ⟨_, rfl⟩
    have hb1 : Below w.heap.size w w1 := by rw [hw1]; exact b0 _ _
    have hs1 : w.heap.size + 1 = w1.heap.size := by rw [hw1]; simp
    have HS1 := hid hs1
    have HB1 := hid hb1
    have HAD : Hid (w1.heap[w.heap.size]? = some (.cells (adQ (sB x.person) (sB x.street) x.number (sB x.code) (sB x.town)) 27 (0, 0))) := by show _ = _; rw [hw1]; exact heap_new _ _
    have HB2 : Hid (Below w1.heap.size w1 w2) := by show Below _ _ _; rw [hw2]; exact b0 _ _
    have HO2 : Hid (w2.ownsRow w1.heap.size 27 5 (.slice (some ⟨w.heap.size + 1, 0, none⟩) 0 0) 0 []) := by show World.ownsRow _ _ _ _ _ _ _; rw [hw2]; exact own_empty2 w1 _ _ _ (by omega) hs1 _
    have hlt1 : w.heap.size < w1.heap.size := by omega
    have SK0 : Hid (∀ u, Below w1.heap.size w1 u → u.cell? ⟨w.heap.size, 0, none⟩ = some (.string (sB x.person)) ∧ u.cell? ⟨w.heap.size, 1, none⟩ = some (.string (sB x.street)) ∧ u.cell? ⟨w.heap.size, 2, none⟩ = some (.int .i64 x.number) ∧ u.cell? ⟨w.heap.size, 3, none⟩ = some (.string (sB x.code)) ∧ u.cell? ⟨w.heap.size, 4, none⟩ = some (.string (sB x.town)) ∧ u.cell? ⟨gp, op, none⟩ = some (.int .i64 p.k) ∧ u.cell? ⟨gp, op + 1, none⟩ = some (.string (sB p.t))) := fun u hu => by
      obtain ⟨a0, a1, a2, a3, a4⟩ := ad5 ((hu.block _ hlt1).trans HAD.out)
      have q := fun i => (hu.cell (p := (⟨gp, i, none⟩ : Addr)) (Nat.lt_of_lt_of_le hgp hb1.size)).trans (hb1.cell (p := (⟨gp, i, none⟩ : Addr)) hgp)
      exact ⟨a0, a1, a2, a3, a4, (q _).trans hc0, (q _).trans hc1⟩
    obtain ⟨i0, hi0, hz0, hz1, hz2⟩ := info_parts infoAd
    have hgp2 := hgp
    clear hpnd hrs hs1 hb1 hP hW hu hp hz hc0 hc1
    unfold adV RRead
    go_enter Tryz.func32, Tryz.ntmps32
    go_wp2
    rw [← hw1, ← hw2]
    clear hw1 hw2 hpn0
    go_loopw [7, 8] (fun o n wr => ∃ j k : Nat, Hid (k = j + 1) ∧ 1 ≤ k ∧ k ≤ 5 ∧ n = .int .i64 k ∧ Hid (wr.ownsRow w1.heap.size 27 5 o (rdN j p ps x ws).length (encAs (rdN j p ps x ws))) ∧ Hid (Below w1.heap.size w1 wr)) (fun _ n _ => 5 - (intOf n).toNat)
    case atStart => exact ⟨0, 1, rfl, by omega, by omega, rfl, HO2, HB2⟩
    case round =>
      obtain ⟨j, k, hjk, hk1, hk5, rfl, ho, hB⟩ := hrel
      by_cases h4 : k ≤ 4
      · have d4 : decide ((k : Int) ≤ 4) = true := decide_eq_true (by omega)
        have d4' : decide (k ≤ 4) = true := decide_eq_true h4
        by_cases h5 : k ≤ ws.length
        · have d5 : decide ((k : Int) ≤ (ws.length : Int)) = true := decide_eq_true (by omega)
          have d5' : decide (k ≤ ws.length) = true := decide_eq_true h5
          have hwl : w.heap.size < wr.heap.size := Nat.lt_of_lt_of_le hlt1 hB.out.size
          have hgw : gp < wr.heap.size := by omega
          have SK : Hid (∀ u, Below wr.heap.size wr u → u.cell? ⟨w.heap.size, 0, none⟩ = some (.string (sB x.person)) ∧ u.cell? ⟨w.heap.size, 1, none⟩ = some (.string (sB x.street)) ∧ u.cell? ⟨w.heap.size, 2, none⟩ = some (.int .i64 x.number) ∧ u.cell? ⟨w.heap.size, 3, none⟩ = some (.string (sB x.code)) ∧ u.cell? ⟨w.heap.size, 4, none⟩ = some (.string (sB x.town)) ∧ u.cell? ⟨gp, op, none⟩ = some (.int .i64 p.k) ∧ u.cell? ⟨gp, op + 1, none⟩ = some (.string (sB p.t))) := fun u hu => SK0.out u (hB.out.trans (hu.mono hB.out.size))
          have SF : Hid (∀ u (Bb : Nat) (y : Ad), wr.heap.size ≤ Bb → u.cell? ⟨w.heap.size, 0, none⟩ = some (.string (sB x.person)) ∧ u.cell? ⟨w.heap.size, 1, none⟩ = some (.string (sB x.street)) ∧ u.cell? ⟨w.heap.size, 2, none⟩ = some (.int .i64 x.number) ∧ u.cell? ⟨w.heap.size, 3, none⟩ = some (.string (sB x.code)) ∧ u.cell? ⟨w.heap.size, 4, none⟩ = some (.string (sB x.town)) ∧ u.cell? ⟨gp, op, none⟩ = some (.int .i64 p.k) ∧ u.cell? ⟨gp, op + 1, none⟩ = some (.string (sB p.t)) → (set5 u Bb (.string (sB y.person)) (.string (sB y.street)) (.int .i64 y.number) (.string (sB y.code)) (.string (sB y.town))).cell? ⟨w.heap.size, 0, none⟩ = some (.string (sB x.person)) ∧ (set5 u Bb (.string (sB y.person)) (.string (sB y.street)) (.int .i64 y.number) (.string (sB y.code)) (.string (sB y.town))).cell? ⟨w.heap.size, 1, none⟩ = some (.string (sB x.street)) ∧ (set5 u Bb (.string (sB y.person)) (.string (sB y.street)) (.int .i64 y.number) (.string (sB y.code)) (.string (sB y.town))).cell? ⟨w.heap.size, 2, none⟩ = some (.int .i64 x.number) ∧ (set5 u Bb (.string (sB y.person)) (.string (sB y.street)) (.int .i64 y.number) (.string (sB y.code)) (.string (sB y.town))).cell? ⟨w.heap.size, 3, none⟩ = some (.string (sB x.code)) ∧ (set5 u Bb (.string (sB y.person)) (.string (sB y.street)) (.int .i64 y.number) (.string (sB y.code)) (.string (sB y.town))).cell? ⟨w.heap.size, 4, none⟩ = some (.string (sB x.town)) ∧ (set5 u Bb (.string (sB y.person)) (.string (sB y.street)) (.int .i64 y.number) (.string (sB y.code)) (.string (sB y.town))).cell? ⟨gp, op, none⟩ = some (.int .i64 p.k) ∧ (set5 u Bb (.string (sB y.person)) (.string (sB y.street)) (.int .i64 y.number) (.string (sB y.code)) (.string (sB y.town))).cell? ⟨gp, op + 1, none⟩ = some (.string (sB p.t))) := fun u Bb y hb ⟨q0, q1, q2, q3, q4, q5, q6⟩ =>
            ⟨(far5 _ _ _ _ _ _ _ _ (show Bb ≠ w.heap.size from by omega)).trans q0, (far5 _ _ _ _ _ _ _ _ (show Bb ≠ w.heap.size from by omega)).trans q1, (far5 _ _ _ _ _ _ _ _ (show Bb ≠ w.heap.size from by omega)).trans q2, (far5 _ _ _ _ _ _ _ _ (show Bb ≠ w.heap.size from by omega)).trans q3, (far5 _ _ _ _ _ _ _ _ (show Bb ≠ w.heap.size from by omega)).trans q4, (far5 _ _ _ _ _ _ _ _ (show Bb ≠ gp from by omega)).trans q5, (far5 _ _ _ _ _ _ _ _ (show Bb ≠ gp from by omega)).trans q6⟩
          obtain ⟨cb, hcb⟩ : ∃ cb, cb = canB p (ws.take k) := ⟨_, rfl⟩
          have HCB := hid hcb
          have CT : Hid (∀ u, Below wr.heap.size wr u → Calls Tryz.prog 63 #[adV x, .agg #[.int .i64 p.k, .string (sB p.t)], .slice wA k wk] u fun e w' => ∃ y : Ad, e = .returned (.tuple #[adV y, .bool cb]) ∧ (cb = true → y = setF p.k (ws.take k) x) ∧ Below u.heap.size u w') := fun u hu => by
            have h := rtake_any x p (ws.take k) wA wk u HPB.out (RdW.upto (HW0.out.on (bt HB1.out (hB.out.trans (hu.mono hB.out.size)))) h5) (fun y hy => HZ0.out y (List.mem_of_mem_take hy)) hpt (by rw [List.length_take]; omega)
            rw [List.length_take, Nat.min_eq_left h5] at h
            unfold RTake at h
            rw [← hcb] at h
            exact h
          unfold adV at CT
          have hslA : ∀ wx, (Instr.slice 25 (.slice wA ws.length wk) none (some (.int .i64 (k : Int))) none).run Tryz.prog wx = .ok (.slice wA k wk) wx := fun wx => by
            have h := run_upto (P := Tryz.prog) 25 Tryz.underlying25 1 sizeStr wA ws.length wk k (by omega) wx
            rwa [upto_same] at h
          have hk0 : (0 : Int) ≤ (k : Int) := by omega
          have hkw : (k : Int) ≤ (wk : Int) := by omega
          have i1 : (0 : Int) < (pn : Int) := by omega
          have i1' : 0 < pn := by omega
          clear hcb
          go_upto_region 9 with fail
          go_cut [9, 10] (fun s9 s10 wx => ∃ (Bb : Nat) (y : Ad), s9 = .pointer (some ⟨Bb, 0, none⟩) ∧ s10 = .bool cb ∧ Hid (cb = true → y = setF p.k (ws.take k) x) ∧ Hid (wx.heap[Bb]? = some (.cells (adQ (sB y.person) (sB y.street) y.number (sB y.code) (sB y.town)) 27 (0, 0))) ∧ Hid (Below wr.heap.size wr wx) ∧ Hid (wr.heap.size ≤ Bb))
          case first =>
            refine wp_region_held_drew (S := fun w' => w'.cell? ⟨w.heap.size, 0, none⟩ = some (.string (sB x.person)) ∧ w'.cell? ⟨w.heap.size, 1, none⟩ = some (.string (sB x.street)) ∧ w'.cell? ⟨w.heap.size, 2, none⟩ = some (.int .i64 x.number) ∧ w'.cell? ⟨w.heap.size, 3, none⟩ = some (.string (sB x.code)) ∧ w'.cell? ⟨w.heap.size, 4, none⟩ = some (.string (sB x.town)) ∧ w'.cell? ⟨gp, op, none⟩ = some (.int .i64 p.k) ∧ w'.cell? ⟨gp, op + 1, none⟩ = some (.string (sB p.t))) (by kernel_rfl) (SK.out _ (Below.refl _ _).drew) (fun hHeld => ?_)
            obtain ⟨wd, hwd⟩ : ∃ u, u = wr.drew := ⟨_, rfl⟩
            have bd : Below wr.heap.size wr wd := by rw [hwd]; exact (Below.refl _ _).drew
            rw [← hwd] at hHeld ⊢
            clear hwd
            refine wpAnyH_take (i := 0) (oi := ⟨some 31, _, _, _, _, _⟩) (v := .agg #[.string (sB x.person), .string (sB x.street), .int .i64 x.number, .string (sB x.code), .string (sB x.town)]) rfl (by kernel_rfl) (by kernel_rfl) (by kernel_rfl) (fun _ _ _ h => h) (Or.inl ⟨by rfl, ?_⟩) hHeld ?_
            · intro u hu
              go_simp
            try simp only [Act.put, List.setIfInBounds_toArray, List.set_cons_zero, List.set_cons_succ]
            refine wpAnyH_take (i := 1) (oi := ⟨some 32, _, _, _, _, _⟩) (v := .slice (some ⟨gp, op, none⟩) pn pc) rfl (by kernel_rfl) (by kernel_rfl) (by kernel_rfl) (fun _ _ _ h => h) (Or.inl ⟨by rfl, ?_⟩) hHeld ?_
            · intro u hu
              go_simp
            try simp only [Act.put, List.setIfInBounds_toArray, List.set_cons_zero, List.set_cons_succ]
            refine wpAnyH_take (i := 2) (oi := ⟨some 33, _, _, _, _, _⟩) (v := .pointer (some ⟨gp, op, none⟩)) rfl (by kernel_rfl) (by kernel_rfl) (by kernel_rfl) (fun _ _ _ h => h) (Or.inl ⟨by rfl, ?_⟩) hHeld ?_
            · intro u hu
              go_simp
            try simp only [Act.put, List.setIfInBounds_toArray, List.set_cons_zero, List.set_cons_succ]
            refine wpAnyH_take (i := 3) (oi := ⟨some 34, _, _, _, _, _⟩) (v := .agg #[.int .i64 p.k, .string (sB p.t)]) rfl (by kernel_rfl) (by kernel_rfl) (by kernel_rfl) (fun _ _ _ h => h) (Or.inl ⟨by rfl, ?_⟩) hHeld ?_
            · intro u hu
              go_simp
            try simp only [Act.put, List.setIfInBounds_toArray, List.set_cons_zero, List.set_cons_succ]
            refine wpAnyH_take (i := 4) (oi := ⟨some 35, _, _, _, _, _⟩) (v := .slice wA ws.length wk) rfl (by kernel_rfl) (by kernel_rfl) (by kernel_rfl) (fun _ _ _ h => h) (Or.inl ⟨by rfl, ?_⟩) hHeld ?_
            · intro u hu
              go_simp
            try simp only [Act.put, List.setIfInBounds_toArray, List.set_cons_zero, List.set_cons_succ]
            refine wpAnyH_take (i := 5) (oi := ⟨some 36, _, _, _, _, _⟩) (v := .int .i64 (k : Int)) rfl (by kernel_rfl) (by kernel_rfl) (by kernel_rfl) (fun _ _ _ h => h) (Or.inl ⟨by rfl, ?_⟩) hHeld ?_
            · intro u hu
              go_simp
            try simp only [Act.put, List.setIfInBounds_toArray, List.set_cons_zero, List.set_cons_succ]
            refine wpAnyH_take (i := 6) (oi := ⟨some 37, _, _, _, _, _⟩) (v := .slice wA k wk) rfl (by kernel_rfl) (by kernel_rfl) (by kernel_rfl) (fun _ _ _ h => h) (Or.inl ⟨by rfl, ?_⟩) hHeld ?_
            · intro u hu
              go_simp
            try simp only [Act.put, List.setIfInBounds_toArray, List.set_cons_zero, List.set_cons_succ]
            refine wpAnyH_ready (rs := [7, 11]) (by kernel_rfl) (by simp) ?_
            refine AllReadyH.cons (o := ⟨some 38, _, _, _, _, _⟩) rfl (fun K hK => ?_) ?_
            · go_simp
              go_at_call 63
              refine (CT.out _ bd).mono ?_
              rintro e y1 ⟨y, rfl, hy, h9⟩
              have By1 : Below wr.heap.size wr y1 := bt bd h9
              refine hK.out _ _ (SK.out _ By1) (fun hHeld => ?_)
              clear hK K
              try simp only [Act.put, List.setIfInBounds_toArray, List.set_cons_zero, List.set_cons_succ]
              refine wpAnyH_take (i := 8) (oi := ⟨some 30, _, _, _, _, _⟩) (v := .tuple #[.agg #[.string (sB y.person), .string (sB y.street), .int .i64 y.number, .string (sB y.code), .string (sB y.town)], .bool cb]) rfl (by kernel_rfl) (by kernel_rfl) (by kernel_rfl) (fun _ _ _ h => h) (Or.inl ⟨by rfl, ?_⟩) hHeld ?_
              · intro u hu
                go_simp
              try simp only [Act.put, List.setIfInBounds_toArray, List.set_cons_zero, List.set_cons_succ]
              refine wpAnyH_take (i := 9) (oi := ⟨some 39, _, _, _, _, _⟩) (v := .agg #[.string (sB y.person), .string (sB y.street), .int .i64 y.number, .string (sB y.code), .string (sB y.town)]) rfl (by kernel_rfl) (by kernel_rfl) (by kernel_rfl) (fun _ _ _ h => h) (Or.inl ⟨by rfl, ?_⟩) hHeld ?_
              · intro u hu
                go_simp
              try simp only [Act.put, List.setIfInBounds_toArray, List.set_cons_zero, List.set_cons_succ]
              refine wpAnyH_take (i := 10) (oi := ⟨some 40, _, _, _, _, _⟩) (v := .bool cb) rfl (by kernel_rfl) (by kernel_rfl) (by kernel_rfl) (fun _ _ _ h => h) (Or.inl ⟨by rfl, ?_⟩) hHeld ?_
              · intro u hu
                go_simp
              try simp only [Act.put, List.setIfInBounds_toArray, List.set_cons_zero, List.set_cons_succ]
              refine wpAnyH_ready (rs := [11]) (by kernel_rfl) (by simp) ?_
              refine AllReadyH.cons (o := ⟨some 9, _, _, _, _, _⟩) rfl (fun K hK => ?_) AllReadyH.nil
              obtain ⟨w5, hw5⟩ : ∃ u, u = y1.alloc (.cells #[.string ⟨#[]⟩, .string ⟨#[]⟩, .int .i64 0, .string ⟨#[]⟩, .string ⟨#[]⟩] 27) := ⟨_, rfl⟩
              obtain ⟨Bb, hBb⟩ : ∃ n, n = y1.heap.size := ⟨_, rfl⟩
              have HZ := hid (by rw [hw5, hBb]; exact heap_new _ _ : w5.heap[Bb]? = some (.cells #[.string ⟨#[]⟩, .string ⟨#[]⟩, .int .i64 0, .string ⟨#[]⟩, .string ⟨#[]⟩] 27 (0, 0)))
              have Bw5 : Below wr.heap.size wr w5 := by rw [hw5]; exact By1.alloc By1.size _
              have hBl : wr.heap.size ≤ Bb := by rw [hBb]; exact By1.size
              go_simp
              rw [← hw5, ← hBb]
              clear hw5 hBb
              refine hK.out _ _ (SK.out _ Bw5) (fun hHeld => ?_)
              clear hK K
              try simp only [Act.put, List.setIfInBounds_toArray, List.set_cons_zero, List.set_cons_succ]
              refine wpAnyH_ready (rs := [12]) (by kernel_rfl) (by simp) ?_
              refine AllReadyH.cons (o := ⟨none, _, _, _, _, _⟩) rfl (fun K hK => ?_) AllReadyH.nil
              obtain ⟨z0, z1, z2, z3, z4, g0, g1, g2, g3, g4⟩ := zero5 HZ.out
              go_simp
              clear z0 z1 z2 z3 z4 g0 g1 g2 g3 g4
              refine hK.out _ _ (SF.out _ Bb y hBl hHeld) (fun hHeld => ?_)
              clear hK K
              try simp only [Act.put, List.setIfInBounds_toArray, List.set_cons_zero, List.set_cons_succ]
              refine wpAnyH_take (i := 13) (oi := ⟨some 10, _, _, _, _, _⟩) (v := .bool cb) rfl (by kernel_rfl) (by kernel_rfl) (by kernel_rfl) (fun _ _ _ h => h) (Or.inl ⟨by rfl, ?_⟩) hHeld ?_
              · intro u hu
                go_simp
              try simp only [Act.put, List.setIfInBounds_toArray, List.set_cons_zero, List.set_cons_succ]
              refine wpAnyH_done (by kernel_rfl) ?_ _
              clear hHeld
              go_wp2_with fail
              go_meet
              exact ⟨Bb, y, rfl, rfl, hid hy, hid (row5 _ _ _ _ _ _ _ _ _ _ _ _ _ HZ.out), hid (bel5 Bw5 hBl _ _ _ _ _), hid hBl⟩
            · refine AllReadyH.cons (o := ⟨some 9, _, _, _, _, _⟩) rfl (fun K hK => ?_) AllReadyH.nil
              obtain ⟨w5, hw5⟩ : ∃ u, u = wd.alloc (.cells #[.string ⟨#[]⟩, .string ⟨#[]⟩, .int .i64 0, .string ⟨#[]⟩, .string ⟨#[]⟩] 27) := ⟨_, rfl⟩
              obtain ⟨Bb, hBb⟩ : ∃ n, n = wd.heap.size := ⟨_, rfl⟩
              have HZ := hid (by rw [hw5, hBb]; exact heap_new _ _ : w5.heap[Bb]? = some (.cells #[.string ⟨#[]⟩, .string ⟨#[]⟩, .int .i64 0, .string ⟨#[]⟩, .string ⟨#[]⟩] 27 (0, 0)))
              have Bw5 : Below wr.heap.size wr w5 := by rw [hw5]; exact bd.alloc bd.size _
              have hBl : wr.heap.size ≤ Bb := by rw [hBb]; exact bd.size
              go_simp
              rw [← hw5, ← hBb]
              clear hw5 hBb
              refine hK.out _ _ (SK.out _ Bw5) (fun hHeld => ?_)
              clear hK K
              try simp only [Act.put, List.setIfInBounds_toArray, List.set_cons_zero, List.set_cons_succ]
              refine wpAnyH_ready (rs := [7]) (by kernel_rfl) (by simp) ?_
              refine AllReadyH.cons (o := ⟨some 38, _, _, _, _, _⟩) rfl (fun K hK => ?_) AllReadyH.nil
              go_simp
              go_at_call 63
              refine (CT.out _ Bw5).mono ?_
              rintro e y1 ⟨y, rfl, hy, h9⟩
              have By1 : Below wr.heap.size wr y1 := bt Bw5 h9
              have HZ := hid (by rw [h9.block _ (heap_lt HZ.out)]; exact HZ.out : y1.heap[Bb]? = some (.cells #[.string ⟨#[]⟩, .string ⟨#[]⟩, .int .i64 0, .string ⟨#[]⟩, .string ⟨#[]⟩] 27 (0, 0)))
              refine hK.out _ _ (SK.out _ By1) (fun hHeld => ?_)
              clear hK K
              try simp only [Act.put, List.setIfInBounds_toArray, List.set_cons_zero, List.set_cons_succ]
              refine wpAnyH_take (i := 8) (oi := ⟨some 30, _, _, _, _, _⟩) (v := .tuple #[.agg #[.string (sB y.person), .string (sB y.street), .int .i64 y.number, .string (sB y.code), .string (sB y.town)], .bool cb]) rfl (by kernel_rfl) (by kernel_rfl) (by kernel_rfl) (fun _ _ _ h => h) (Or.inl ⟨by rfl, ?_⟩) hHeld ?_
              · intro u hu
                go_simp
              try simp only [Act.put, List.setIfInBounds_toArray, List.set_cons_zero, List.set_cons_succ]
              refine wpAnyH_take (i := 9) (oi := ⟨some 39, _, _, _, _, _⟩) (v := .agg #[.string (sB y.person), .string (sB y.street), .int .i64 y.number, .string (sB y.code), .string (sB y.town)]) rfl (by kernel_rfl) (by kernel_rfl) (by kernel_rfl) (fun _ _ _ h => h) (Or.inl ⟨by rfl, ?_⟩) hHeld ?_
              · intro u hu
                go_simp
              try simp only [Act.put, List.setIfInBounds_toArray, List.set_cons_zero, List.set_cons_succ]
              refine wpAnyH_take (i := 10) (oi := ⟨some 40, _, _, _, _, _⟩) (v := .bool cb) rfl (by kernel_rfl) (by kernel_rfl) (by kernel_rfl) (fun _ _ _ h => h) (Or.inl ⟨by rfl, ?_⟩) hHeld ?_
              · intro u hu
                go_simp
              try simp only [Act.put, List.setIfInBounds_toArray, List.set_cons_zero, List.set_cons_succ]
              refine wpAnyH_ready (rs := [12]) (by kernel_rfl) (by simp) ?_
              refine AllReadyH.cons (o := ⟨none, _, _, _, _, _⟩) rfl (fun K hK => ?_) AllReadyH.nil
              obtain ⟨z0, z1, z2, z3, z4, g0, g1, g2, g3, g4⟩ := zero5 HZ.out
              go_simp
              clear z0 z1 z2 z3 z4 g0 g1 g2 g3 g4
              refine hK.out _ _ (SF.out _ Bb y hBl hHeld) (fun hHeld => ?_)
              clear hK K
              try simp only [Act.put, List.setIfInBounds_toArray, List.set_cons_zero, List.set_cons_succ]
              refine wpAnyH_take (i := 13) (oi := ⟨some 10, _, _, _, _, _⟩) (v := .bool cb) rfl (by kernel_rfl) (by kernel_rfl) (by kernel_rfl) (fun _ _ _ h => h) (Or.inl ⟨by rfl, ?_⟩) hHeld ?_
              · intro u hu
                go_simp
              try simp only [Act.put, List.setIfInBounds_toArray, List.set_cons_zero, List.set_cons_succ]
              refine wpAnyH_done (by kernel_rfl) ?_ _
              clear hHeld
              go_wp2_with fail
              go_meet
              exact ⟨Bb, y, rfl, rfl, hid hy, hid (row5 _ _ _ _ _ _ _ _ _ _ _ _ _ HZ.out), hid (bel5 By1 hBl _ _ _ _ _), hid hBl⟩
          case rest =>
            obtain ⟨Bb, y, rfl, rfl, HY, HYB, HBX, HBL⟩ := hcut
            have HOX := hid (own_below ho.out HBX.out)
            have HBWX := hid (hB.out.trans (HBX.out.mono hB.out.size))
            cases cb
            · have HO6 : Hid (wc.ownsRow w1.heap.size 27 5 u7 (rdN k p ps x ws).length (encAs (rdN k p ps x ws))) := by
                show World.ownsRow _ _ _ _ _ _ _
                rw [rdN_nope hjk.out HCB.out.symm]; exact HOX.out
              go_wp2
              go_roundw
              case rel => exact ⟨k, k + 1, rfl, by omega, by omega, by go_num, HO6, HBWX⟩
              case measure => simp [intOf]; omega
            · have HYE := hid (HY.out rfl)
              have HYES : Hid (rdN k p ps x ws = rdN j p ps x ws ++ rdL ps y (ws.drop k)) := by show _ = _; rw [rdN_yes hjk.out h5 HCB.out.symm, HYE.out]
              have hlen : (rdN j p ps x ws).length + (rdL ps y (ws.drop k)).length ≤ 100000 := by
                have h1 := rdN_few (p := p) (ps := ps) x ws h4
                rw [HYES.out, List.length_append, ← HRS.out] at h1
                omega
              obtain ⟨X, hX⟩ : ∃ X, X = (if pc = 1 then (some ⟨gp, op, none⟩ : Option Addr) else (some (⟨gp, op, none⟩ : Addr)).map (·.add (1 * 2))) := ⟨_, rfl⟩
              obtain ⟨cX, hcX⟩ : ∃ c, c = pc - 1 := ⟨_, rfl⟩
              obtain ⟨Y, hY⟩ : ∃ Y, Y = (if wk = k then wA else wA.map (·.add (k * 1))) := ⟨_, rfl⟩
              obtain ⟨cY, hcY⟩ : ∃ c, c = wk - k := ⟨_, rfl⟩
              have hsl1 : ∀ wx, (Instr.slice 47 (.slice (some ⟨gp, op, none⟩) pn pc) (some (.int .i64 1)) none none).run Tryz.prog wx = .ok (.slice X ps.length cX) wx := fun wx => by
                have h := run_from (P := Tryz.prog) 47 Tryz.underlying47 2 sizePt (some ⟨gp, op, none⟩) pn pc 1 hpn1 wx
                rw [← hX, ← hcX, show pn - 1 = ps.length by have := HPN.out; omega] at h
                exact h
              have hsl2 : ∀ wx, (Instr.slice 25 (.slice wA ws.length wk) (some (.int .i64 (k : Int))) none none).run Tryz.prog wx = .ok (.slice Y (ws.length - k) cY) wx := fun wx => by
                have h := run_from (P := Tryz.prog) 25 Tryz.underlying25 1 sizeStr wA ws.length wk k h5 wx
                rw [← hY, ← hcY] at h
                exact h
              have CR : Hid (∀ u, Below wr.heap.size wr u → Calls Tryz.prog 32 #[adV y, .slice X ps.length cX, .slice Y (ws.length - k) cY] u (RRead (rdL ps y (ws.drop k)) u)) := fun u hu => by
                have hb := bt HB1.out (hB.out.trans (hu.mono hB.out.size))
                have h := HIH.out y (ws.drop k) X cX Y cY u (by rw [hX, hcX]; exact (RdP.tail HP0.out).on hb) (by rw [hY, hcY]; exact (RdW.cut HW0.out h5).on hb) HUS.out HPS.out (fun z hz => HZ0.out z (List.mem_of_mem_drop hz)) (by rw [List.length_drop]; omega) (by have := HPN.out; omega)
                rwa [List.length_drop] at h
              unfold adV at CR
              have hBbl : Bb < wc.heap.size := heap_lt HYB.out
              have SK2 : Hid (∀ u, Below wc.heap.size wc u → u.cell? ⟨Bb, 0, none⟩ = some (.string (sB y.person)) ∧ u.cell? ⟨Bb, 1, none⟩ = some (.string (sB y.street)) ∧ u.cell? ⟨Bb, 2, none⟩ = some (.int .i64 y.number) ∧ u.cell? ⟨Bb, 3, none⟩ = some (.string (sB y.code)) ∧ u.cell? ⟨Bb, 4, none⟩ = some (.string (sB y.town))) := fun u hu => ad5 ((hu.block _ hBbl).trans HYB.out)
              obtain ⟨b0', b1', b2', b3', b4'⟩ := SK2.out _ (Below.refl _ _)
              have HNE : Hid (wc.ownsRow w1.heap.size 27 5 u7 (rdN j p ps x ws).length (encAs (rdN j p ps x ws)) → ¬ some Bb = u7.ownBlock) := fun _ e => by have h1 := (ho.out.lt Bb e.symm).2; have h2 := HBL.out; omega
              clear hX hcX hY hcY
              go_wp2_with fail
              refine wp_region_held_drew (S := fun w' => w'.cell? ⟨Bb, 0, none⟩ = some (.string (sB y.person)) ∧ w'.cell? ⟨Bb, 1, none⟩ = some (.string (sB y.street)) ∧ w'.cell? ⟨Bb, 2, none⟩ = some (.int .i64 y.number) ∧ w'.cell? ⟨Bb, 3, none⟩ = some (.string (sB y.code)) ∧ w'.cell? ⟨Bb, 4, none⟩ = some (.string (sB y.town))) (by kernel_rfl) (SK2.out _ (Below.refl _ _).drew) (fun hHeld => ?_)
              obtain ⟨wd, hwd⟩ : ∃ u, u = wc.drew := ⟨_, rfl⟩
              have bd : Below wc.heap.size wc wd := by rw [hwd]; exact (Below.refl _ _).drew
              rw [← hwd] at hHeld ⊢
              clear hwd
              refine wpAnyH_take (i := 0) (oi := ⟨some 42, _, _, _, _, _⟩) (v := u7) rfl (by kernel_rfl) (by kernel_rfl) (by kernel_rfl) (fun _ _ _ h => h) (Or.inl ⟨by rfl, ?_⟩) hHeld ?_
              · intro u hu
                go_simp
              try simp only [Act.put, List.setIfInBounds_toArray, List.set_cons_zero, List.set_cons_succ]
              refine wpAnyH_take (i := 1) (oi := ⟨some 43, _, _, _, _, _⟩) (v := .agg #[.string (sB y.person), .string (sB y.street), .int .i64 y.number, .string (sB y.code), .string (sB y.town)]) rfl (by kernel_rfl) (by kernel_rfl) (by kernel_rfl) (fun _ _ _ h => h) (Or.inl ⟨by rfl, ?_⟩) hHeld ?_
              · intro u hu
                go_simp
              try simp only [Act.put, List.setIfInBounds_toArray, List.set_cons_zero, List.set_cons_succ]
              refine wpAnyH_take (i := 2) (oi := ⟨some 44, _, _, _, _, _⟩) (v := .slice (some ⟨gp, op, none⟩) pn pc) rfl (by kernel_rfl) (by kernel_rfl) (by kernel_rfl) (fun _ _ _ h => h) (Or.inl ⟨by rfl, ?_⟩) hHeld ?_
              · intro u hu
                go_simp
              try simp only [Act.put, List.setIfInBounds_toArray, List.set_cons_zero, List.set_cons_succ]
              refine wpAnyH_take (i := 3) (oi := ⟨some 45, _, _, _, _, _⟩) (v := .slice X ps.length cX) rfl (by kernel_rfl) (by kernel_rfl) (by kernel_rfl) (fun _ _ _ h => h) (Or.inl ⟨by rfl, ?_⟩) hHeld ?_
              · intro u hu
                go_simp
              try simp only [Act.put, List.setIfInBounds_toArray, List.set_cons_zero, List.set_cons_succ]
              refine wpAnyH_take (i := 4) (oi := ⟨some 46, _, _, _, _, _⟩) (v := .slice wA ws.length wk) rfl (by kernel_rfl) (by kernel_rfl) (by kernel_rfl) (fun _ _ _ h => h) (Or.inl ⟨by rfl, ?_⟩) hHeld ?_
              · intro u hu
                go_simp
              try simp only [Act.put, List.setIfInBounds_toArray, List.set_cons_zero, List.set_cons_succ]
              refine wpAnyH_take (i := 5) (oi := ⟨some 47, _, _, _, _, _⟩) (v := .int .i64 (k : Int)) rfl (by kernel_rfl) (by kernel_rfl) (by kernel_rfl) (fun _ _ _ h => h) (Or.inl ⟨by rfl, ?_⟩) hHeld ?_
              · intro u hu
                go_simp
              try simp only [Act.put, List.setIfInBounds_toArray, List.set_cons_zero, List.set_cons_succ]
              refine wpAnyH_take (i := 6) (oi := ⟨some 48, _, _, _, _, _⟩) (v := .slice Y (ws.length - k) cY) rfl (by kernel_rfl) (by kernel_rfl) (by kernel_rfl) (fun _ _ _ h => h) (Or.inl ⟨by rfl, ?_⟩) hHeld ?_
              · intro u hu
                go_simp
              try simp only [Act.put, List.setIfInBounds_toArray, List.set_cons_zero, List.set_cons_succ]
              refine wpAnyH_ready (rs := [7]) (by kernel_rfl) (by simp) ?_
              refine AllReadyH.cons (o := ⟨some 49, _, _, _, _, _⟩) rfl (fun K hK => ?_) AllReadyH.nil
              go_simp
              go_at_call 32
              refine (CR.out _ (bt HBX.out bd)).mono ?_
              rintro e y1 ⟨v1, rfl, hv1, h9⟩
              obtain ⟨vA, vc, rfl, hvR⟩ := id hv1.out
              have By1 : Below wc.heap.size wc y1 := bt bd h9
              have HVR := hid hvR
              clear h9 hv1 hvR
              refine hK.out _ _ (SK2.out _ By1) (fun hHeld => ?_)
              clear hK K
              try simp only [Act.put, List.setIfInBounds_toArray, List.set_cons_zero, List.set_cons_succ]
              refine wpAnyH_ready (rs := [8]) (by kernel_rfl) (by simp) ?_
              refine AllReadyH.cons (o := ⟨some 50, _, _, _, _, _⟩) rfl (fun K hK => ?_) AllReadyH.nil
              refine step_app_gen rfl (.tmp 42) (.tmp 49) 30 rfl 27 i0 _ 5 72 Tryz.underlying30 hi0 hz0 hz1 hz2 rfl (by decide) w1.heap.size (rdN j p ps x ws).length u7 (encAs (rdN j p ps x ws)) rfl (own_below HOX.out By1) (Nat.le_trans HBWX.out.size By1.size) vA (rdL ps y (ws.drop k)).length vc (encAs (rdL ps y (ws.drop k))) rfl HVR.out (one_ads _) (by omega) (by decide) ?_
              intro v2 w6 hown6 hgrow6
              have HO6 : Hid (w6.ownsRow w1.heap.size 27 5 v2 (rdN k p ps x ws).length (encAs (rdN k p ps x ws))) := by
                show World.ownsRow _ _ _ _ _ _ _
                rw [HYES.out, List.length_append, encAs_append]; exact hown6
              have HB6 := hid (Below.grown (HBWX.out.trans (By1.mono HBWX.out.size)) hgrow6 (Nat.le_trans HBWX.out.size By1.size) (fun q e => ((own_below HOX.out By1).lt q e).1))
              have S6 : w6.cell? ⟨Bb, 0, none⟩ = some (.string (sB y.person)) ∧ w6.cell? ⟨Bb, 1, none⟩ = some (.string (sB y.street)) ∧ w6.cell? ⟨Bb, 2, none⟩ = some (.int .i64 y.number) ∧ w6.cell? ⟨Bb, 3, none⟩ = some (.string (sB y.code)) ∧ w6.cell? ⟨Bb, 4, none⟩ = some (.string (sB y.town)) := by
                have hne : some Bb ≠ u7.ownBlock := fun e => HNE.out (HOX.out) e
                obtain ⟨s0, s1, s2, s3, s4⟩ := SK2.out _ By1
                exact ⟨(hgrow6.cell s0 hne), (hgrow6.cell s1 hne), (hgrow6.cell s2 hne), (hgrow6.cell s3 hne), (hgrow6.cell s4 hne)⟩
              clear hown6 hgrow6
              refine hK.out _ _ S6 (fun hHeld => ?_)
              clear hK K
              try simp only [Act.put, List.setIfInBounds_toArray, List.set_cons_zero, List.set_cons_succ]
              refine wpAnyH_take (i := 9) (oi := ⟨some 7, _, _, _, _, _⟩) (v := v2) rfl (by kernel_rfl) (by kernel_rfl) (by kernel_rfl) (fun _ _ _ h => h) (Or.inl ⟨by rfl, ?_⟩) hHeld ?_
              · intro u hu
                go_simp
              try simp only [Act.put, List.setIfInBounds_toArray, List.set_cons_zero, List.set_cons_succ]
              refine wpAnyH_done (by kernel_rfl) ?_ _
              clear hHeld
              clear hHeld
              go_wp2
              go_roundw
              case rel => exact ⟨k, k + 1, rfl, by omega, by omega, by go_num, HO6, HB6⟩
              case measure => simp [intOf]; omega
        · have d5 : decide ((k : Int) ≤ (ws.length : Int)) = false := decide_eq_false (by omega)
          have d5' : decide (k ≤ ws.length) = false := decide_eq_false h5
          have HE : Hid (rdN j p ps x ws = rs) := by show _ = _; rw [HRS.out, rdL_cons]; have := hjk.out; exact rdN_ge (by omega) (by omega)
          clear h4 h5
          go_wp2
          go_ret
          obtain ⟨A2, cap2, e2, h2⟩ := SlR.of_own ho.out
          rw [HE.out] at e2 h2
          exact ⟨_, rfl, ⟨A2, cap2, e2, h2⟩, HB1.out.trans (hB.out.mono HB1.out.size)⟩
      · have d4 : decide ((k : Int) ≤ 4) = false := decide_eq_false (by omega)
        have d4' : decide (k ≤ 4) = false := decide_eq_false h4
        have HE : Hid (rdN j p ps x ws = rs) := by show _ = _; rw [HRS.out, rdL_cons]; have := hjk.out; rw [show j = 4 by omega]
        clear h4
        go_wp2
        go_ret
        obtain ⟨A2, cap2, e2, h2⟩ := SlR.of_own ho.out
        rw [HE.out] at e2 h2
        exact ⟨_, rfl, ⟨A2, cap2, e2, h2⟩, HB1.out.trans (hB.out.mono HB1.out.size)⟩

end Fm
end Go.Proofs.YtcaiejbnhjiflaaGreatDoor

namespace Go.Proofs.YtcaiejbnhjiflaaGreatDoor
open Go.RowKit Go.ChangeMaps
namespace Fm

theorem rdA_snoc (r : List Ln) (l : Ln) : ∀ a : Ad, rdA (r ++ [l]) a = (rdA r a).flatMap fun b => rdL l.1 b l.2 := by
  induction r with
  | nil =>
    intro a
    rw [List.nil_append, rdA_cons, rdA_nil, show (rdA [] : Ad → List Ad) = fun a => [a] from funext rdA_nil]; simp
  | cons x r ih =>
    intro a
    rw [List.cons_append, rdA_cons, rdA_cons, List.flatMap_assoc]
    congr 1
    exact funext ih
theorem rdA_take {r : List Ln} {k : Nat} {l : Ln} (h : r[k]? = some l) (a : Ad) : rdA (r.take (k + 1)) a = (rdA (r.take k) a).flatMap fun b => rdL l.1 b l.2 := by
  rw [List.take_add_one, h]; exact rdA_snoc _ _ _
theorem take_few {r : List Ln} (hu : uniq (partsR r)) (hw : ∀ p ∈ partsR r, partB p = true) (k : Nat) (a : Ad) : (rdA (r.take k) a).length ≤ 16 := by
  have e : partsR r = partsR (r.take k) ++ partsR (r.drop k) := by
    unfold partsR; rw [← List.flatMap_append, List.take_append_drop]
  rw [e] at hu
  exact rdA_few _ _ (uniq_append hu).1 fun p hp => hw p (by rw [e]; exact List.mem_append_left _ hp)
theorem flat_part {us : List Ad} {g : Ad → List Ad} (m : Nat) : ((us.take m).flatMap g).length ≤ (us.flatMap g).length := by
  conv => rhs; rw [← List.take_append_drop m us, List.flatMap_append, List.length_append]
  omega
theorem flat_next {us : List Ad} {g : Ad → List Ad} {m : Nat} {x : Ad} (h : us[m]? = some x) : (us.take (m + 1)).flatMap g = (us.take m).flatMap g ++ g x := by
  rw [List.take_add_one, h, List.flatMap_append]; simp
theorem zipW_at {fs : List (List Pt)} {lns : List W} {k : Nat} {ps : List Pt} {l : W} (h1 : fs[k]? = some ps) (h2 : lns[k]? = some l) : (fs.zip (lns.map wordsL))[k]? = some (ps, wordsL l) := by
  rw [List.getElem?_zip_eq_some]
  exact ⟨h1, by rw [List.getElem?_map, h2]; rfl⟩
theorem cnt_le {lns : List W} (h : ∀ l ∈ lns, l.length ≤ 1000) (k : Nat) (hk : k ≤ lns.length) : cntW (lns.take k) ≤ k * 1000 := by
  induction k with
  | zero => simp [cntW]
  | succ k ih =>
    rw [cnt_snoc (List.getElem?_eq_getElem (by omega))]
    have h1 := ih (by omega)
    have h2 := words_len lns[k]
    have h3 := h lns[k] (List.getElem_mem _)
    omega

set_option maxRecDepth 100000 in
set_option maxHeartbeats 32000000 in
theorem rparse_any (name : W) (fs : List (List Pt)) (fv : Value) (lns : List W) (lv : Value) (w : World) (hF : IsPs w fv fs) (hL : IsW w lv lns) (hnm : name.length ≤ 100000) (ht : ∀ p ∈ fs.flatten, p.t.length ≤ 1000) (hn : lns.length ≤ 1000) (hz : ∀ l ∈ lns, l.length ≤ 1000) {rs : List Ad} {er : Int} (h : parseR name fs lns = (rs, er)) :
    Calls Tryz.prog 13 #[.agg #[.string (sB name), fv], lv] w (ParsePost rs er w) := by
  obtain ⟨A, cap, fvs, hfv, -⟩ := id hF
  subst hfv
  obtain ⟨lA, lcap, hlv, hlS⟩ := id hL
  subst hlv
  obtain ⟨w1, hw1⟩ : ∃ w1, w1 = w.alloc (.cells #[.string (sB name), .slice A fs.length cap] 24) := ⟨_, rfl⟩
  have hb1 : Below w.heap.size w w1 := by rw [hw1]; exact b0 _ _
  have HS1 : Hid (Fx w w.heap.size name fs A cap w1) := ⟨by rw [hw1]; exact heap_new _ _, hF.on hb1, hb1⟩
  have HL1 := hid (hL.on hb1)
  have HB1 := hid hb1
  have CV := hid (fun u (h : Fx w w.heap.size name fs A cap u) => rvalid_any name fs (.slice A fs.length cap) u h.isp hnm ht)
  have HSC := hid (fun (u : World) (h : Fx w w.heap.size name fs A cap u) => h.cells)
  obtain ⟨nm, hnmd⟩ : ∃ nm, nm = sB name := ⟨_, rfl⟩
  rw [← hnmd] at hw1 CV HSC ⊢
  obtain ⟨vb, hvb⟩ : ∃ vb, vb = validB name fs := ⟨_, rfl⟩
  rw [← hvb] at CV
  have HVB := hid hvb
  have H := hid h
  have HZ := hid hz
  have HCN := hid (fun k hk => cnt_le hz k hk)
  have hfcap := hF
  obtain ⟨d0, d1⟩ := HSC.out _ HS1.out
  have hl1 := HS1.out.lt
  obtain ⟨i0, hi0, hz0, hz1, hz2⟩ := info_parts infoAd
  unfold ParsePost
  clear hnmd hvb h hz hF hL hlS hb1 hnm ht hfcap
  go_enter Tryz.func13, Tryz.ntmps13
  go_wp2_with fail
  rw [← hw1]
  clear hw1
  refine (CV.out _ HS1.out).mono ?_
  rintro e w2 ⟨rfl, hb2⟩
  have HS2 := hid (HS1.out.on hb2)
  have HL2 := hid (HL1.out.on hb2)
  clear d0 d1
  obtain ⟨d0, d1⟩ := HSC.out _ HS2.out
  have hl2 := HS2.out.lt
  have HB2 := hid (bt HB1.out hb2)
  clear hb2 HS1 HL1 hl1 CV
  cases vb
  · have he := H.out.symm.trans (parse_bad HVB.out.symm)
    obtain ⟨rfl, rfl⟩ := Prod.mk.inj he
    clear he
    go_wp2
    go_ret2
    exact ⟨_, rfl, IsA.nil _, HB2.out⟩
  · go_wp2
    go_loopw [6, 7] (fun c i wr => ∃ k : Nat, k ≤ lns.length ∧ i = .int .i64 k ∧ c = .int .i64 (cntW (lns.take k) : Nat) ∧ Hid (Below w2.heap.size w2 wr)) (fun _ i _ => lns.length - (intOf i).toNat)
    case atStart => exact ⟨0, Nat.zero_le _, rfl, rfl, Below.refl _ _⟩
    case round =>
      obtain ⟨k, hk, rfl, rfl, hB⟩ := hrel
      have hck := HCN.out k hk
      have hck2 : cntW (lns.take k) ≤ 1000000 := by omega
      by_cases hlt : k < lns.length
      · obtain ⟨l, hl⟩ : ∃ l, lns[k]? = some l := ⟨_, List.getElem?_eq_getElem hlt⟩
        obtain ⟨_, _, e1, hLR⟩ := HL2.out.on hB.out
        cases e1
        obtain ⟨lg, lo, rfl, hlg, cb⟩ := SlR.at hLR (k := k) (u := sV l) (by rw [List.getElem?_map, hl]; rfl)
        unfold sV at cb
        have hll := HZ.out l (List.mem_of_getElem? hl)
        have hwl := words_len l
        have CW : Hid (∀ u, Calls Tryz.prog 18 #[.string (sB l)] u fun e w' => ∃ v, e = .returned v ∧ IsW w' v (wordsL l) ∧ Below u.heap.size u w') := fun u => by
          have h := rwords_any (sB l) u (by rw [sB_size]; omega)
          rw [sB_list] at h
          exact h
        have HSN := hid (cnt_snoc hl)
        obtain ⟨wn, hwn⟩ : ∃ n, n = (wordsL l).length := ⟨_, rfl⟩
        have HWN := hid hwn
        have hwn1 : wn ≤ 1000 := by omega
        obtain ⟨s, hs⟩ : ∃ s, s = sB l := ⟨_, rfl⟩
        rw [← hs] at CW cb
        have hk0 : 0 ≤ (k : Int) := by omega
        have hk1 : (k : Int) < (lns.length : Int) := by omega
        obtain ⟨cn, hcn⟩ : ∃ n, n = cntW (lns.take k) := ⟨_, rfl⟩
        rw [← hcn] at hck2 HSN ⊢
        clear hl hLR hll hwl hwn hs hck hcn
        go_wp2_with fail
        refine (CW.out _).mono ?_
        rintro e w3 ⟨v, rfl, hV, hb3⟩
        obtain ⟨vA, vc, rfl, -⟩ := id hV
        rw [← HWN.out]
        have HB3 := hid (bt hB.out hb3)
        clear hb3 hV
        go_wp2
        go_roundw
        case rel => exact ⟨k + 1, by omega, by go_num, by rw [HSN.out, ← HWN.out]; go_num, HB3⟩
        case measure => simp [intOf]; omega
      · obtain rfl : k = lns.length := by omega
        rw [List.take_length] at hck hck2 ⊢
        have HS3 := hid (HS2.out.on hB.out)
        have HL3 := hid (HL2.out.on hB.out)
        have HB3 := hid (bt HB2.out hB.out)
        clear d0 d1 hl2
        obtain ⟨d0, d1⟩ := HSC.out _ HS3.out
        have hl3 := HS3.out.lt
        by_cases h40 : 40 < cntW lns
        · have d40 : decide ((40 : Int) < ((cntW lns : Nat) : Int)) = true := decide_eq_true (by omega)
          have he := H.out.symm.trans (parse_many HVB.out.symm h40)
          obtain ⟨rfl, rfl⟩ := Prod.mk.inj he
          clear he h40
          go_wp2
          go_ret2
          exact ⟨_, rfl, IsA.nil _, HB3.out⟩
        · have d40 : decide ((40 : Int) < ((cntW lns : Nat) : Int)) = false := decide_eq_false (by omega)
          by_cases hlf : lns.length = fs.length
          · have q1 : ((lns.length : Int) != (fs.length : Int)) = false := by rw [hlf]; simp
            have he := H.out.symm.trans (parse_ok HVB.out.symm (by omega) hlf)
            obtain ⟨hrs, rfl⟩ := Prod.mk.inj he
            obtain ⟨v1, v2, v3, v4, v5⟩ := valid_parts HVB.out.symm
            have hpz := parts_zip fs (lns.map wordsL) (by rw [List.length_map]; exact hlf.symm)
            obtain ⟨r, hr⟩ : ∃ r, r = fs.zip (lns.map wordsL) := ⟨_, rfl⟩
            have hrl : r.length = lns.length := by rw [hr, List.length_zip, List.length_map]; omega
            rw [← hr] at hrs hpz
            have HR := hid hr
            have HRS := hid hrs
            have HRL := hid hrl
            have HFEW := hid (fun k => take_few (r := r) (by rw [hpz]; exact v5) (by rw [hpz]; exact v4) k ad0)
            have HV4 := hid v4
            have HV5 := hid v5
            have HV3 := hid v3
            have HLF := hid hlf
            obtain ⟨w4, hw4⟩ : ∃ u, u = wr.alloc (.cells #[.string ⟨#[]⟩, .string ⟨#[]⟩, .int .i64 0, .string ⟨#[]⟩, .string ⟨#[]⟩] 27) := ⟨_, rfl⟩
            have hb4 : Below wr.heap.size wr w4 := by rw [hw4]; exact b0 _ _
            obtain ⟨N0, hN0⟩ : ∃ n, n = wr.heap.size := ⟨_, rfl⟩
            have HA4 : Hid (SlR w4 (some ⟨N0, 0, none⟩) 1 1 5 (encAs (rdA (r.take 0) ad0))) := by
              refine ⟨rfl, Nat.le_refl _, fun _ => ⟨N0, 0, rfl, by rw [hw4, hN0]; simp, fun j u hu => ?_⟩⟩
              rw [Nat.zero_add, hw4, cell_at (heap_new' _ _ _ hN0)]
              simpa [encAs, encA, rdA_nil, ad0, sB] using hu
            have HS4 := hid (HS3.out.on hb4)
            have HL4 := hid (HL3.out.on hb4)
            have HB4 := hid (bt HB3.out hb4)
            clear he h40 hlf hr hrs hrl hpz v1 v2 v3 v4 v5 hb4 hck hck2
            go_wp2
            rw [← hw4, ← hN0]
            clear hw4 hN0 q1 d40
            go_loopw [8, 9] (fun a i wr => ∃ (k : Nat) (aA : Option Addr) (ac : Nat), k ≤ lns.length ∧ i = .int .i64 k ∧ a = .slice aA (rdA (r.take k) ad0).length ac ∧ Hid (SlR wr aA (rdA (r.take k) ad0).length ac 5 (encAs (rdA (r.take k) ad0))) ∧ Hid (Below w4.heap.size w4 wr)) (fun _ i _ => lns.length - (intOf i).toNat)
            case atStart => exact ⟨0, _, 1, Nat.zero_le _, rfl, rfl, HA4, Below.refl _ _⟩
            case round =>
              obtain ⟨k, aA, ac, hk, rfl, rfl, hS, hB⟩ := hrel
              have h16 := HFEW.out k
              obtain ⟨us, hus⟩ : ∃ us, us = rdA (r.take k) ad0 := ⟨_, rfl⟩
              rw [← hus] at hS h16 ⊢
              have HUS := hid hus
              clear hus
              by_cases hlt : k < lns.length
              · obtain ⟨l, hl⟩ : ∃ l, lns[k]? = some l := ⟨_, List.getElem?_eq_getElem hlt⟩
                obtain ⟨ps, hps⟩ : ∃ ps, fs[k]? = some ps := ⟨_, List.getElem?_eq_getElem (by have := HLF.out; omega)⟩
                have HTK : Hid (rdA (r.take (k + 1)) ad0 = us.flatMap fun b => rdL ps b (wordsL l)) := by
                  show _ = _
                  rw [HUS.out]; exact rdA_take (l := (ps, wordsL l)) (by rw [HR.out]; exact zipW_at hps hl) _
                have HPM := hid (List.mem_of_getElem? hps)
                have HPSU : Hid (uniq ps ∧ ∀ p ∈ ps, partB p = true) := by
                  have hsp := split_at hps
                  have hu := HV5.out
                  have hv := HV4.out
                  rw [hsp, List.flatten_append, List.flatten_cons] at hu hv
                  exact ⟨(uniq_append (uniq_append hu).2.1).1, fun p hp => hv p (by simp [hp])⟩
                have hll := HZ.out l (List.mem_of_getElem? hl)
                have hwl := words_len l
                have hps8 := (HV3.out ps HPM.out).2
                have CW : Hid (∀ u, Calls Tryz.prog 18 #[.string (sB l)] u fun e w' => ∃ v, e = .returned v ∧ IsW w' v (wordsL l) ∧ Below u.heap.size u w') := fun u => by
                  have h := rwords_any (sB l) u (by rw [sB_size]; omega)
                  rw [sB_list] at h
                  exact h
                have HWZ : Hid (∀ y ∈ wordsL l, y.length ≤ 1000) := fun y hy => Nat.le_trans (word_len hy) hll
                have hwn : (wordsL l).length ≤ 1000 := by omega
                obtain ⟨ws, hws⟩ : ∃ ws, ws = wordsL l := ⟨_, rfl⟩
                rw [← hws] at CW HTK HWZ hwn
                obtain ⟨s, hs⟩ : ∃ s, s = sB l := ⟨_, rfl⟩
                rw [← hs] at CW
                obtain ⟨w5, hw5⟩ : ∃ u, u = wr.alloc (.cells #[] 27) := ⟨_, rfl⟩
                obtain ⟨N1, hN1⟩ : ∃ n, n = wr.heap.size := ⟨_, rfl⟩
                have hb5 : Below wr.heap.size wr w5 := by rw [hw5]; exact b0 _ _
                have HO5 : Hid (w5.ownsRow wr.heap.size 27 5 (.slice (some ⟨N1, 0, none⟩) 0 0) 0 []) := by show World.ownsRow _ _ _ _ _ _ _; rw [hw5]; exact own_empty2 wr _ _ _ (by omega) hN1 _
                have HB5 := hid hb5
                have HSX := hid (HS4.out.on hB.out)
                have HLX := hid (HL4.out.on hB.out)
                obtain ⟨e0, e1⟩ := HSC.out _ HSX.out
                have hlX := HSX.out.lt
                obtain ⟨fg, fo, pA, pc, rfl, hfg, hcf, hpR⟩ := isPs_at HSX.out.isp hps
                have HPR := hid hpR
                obtain ⟨_, _, e2, hLR⟩ := HLX.out
                cases e2
                obtain ⟨lg, lo, rfl, hlg, cl⟩ := SlR.at hLR (k := k) (u := sV l) (by rw [List.getElem?_map, hl]; rfl)
                unfold sV at cl
                rw [← hs] at cl
                have hk0 : 0 ≤ (k : Int) := by omega
                have hk1 : (k : Int) < (lns.length : Int) := by omega
                have hk2 : (k : Int) < (fs.length : Int) := by have := HLF.out; omega
                have HBQ : Hid (Below w4.heap.size w4 wr) := hB
                obtain ⟨wq, hwq⟩ : ∃ u, u = wr := ⟨_, rfl⟩
                rw [← hwq] at hw5 hN1 hb5 HO5 HB5 HSX HLX e0 e1 hlX hfg hcf HPR hlg cl HBQ hS
                have CR : Hid (∀ u, Below wq.heap.size wq u → ∀ (x : Ad) (wA : Option Addr) (wk : Nat) (y : World), Below u.heap.size u y → RdW y wA ws wk → Calls Tryz.prog 32 #[adV x, .slice pA ps.length pc, .slice wA ws.length wk] y (RRead (rdL ps x ws) y)) := fun u hu x wA wk y hy hW => rread_any ps x ws pA pc wA wk y (HPR.out.on (bt hu hy)) hW HPSU.out.1 HPSU.out.2 HWZ.out hwn (by omega)
                unfold adV RRead at CR
                have HTF : Hid ((us.flatMap fun b => rdL ps b ws).length ≤ 16) := by show _ ≤ _; rw [← HTK.out]; exact HFEW.out (k + 1)
                clear hl hps hll hwl hws hs hpR hLR
                go_wp2
                rw [← hwq, ← hw5, ← hN1]
                clear hw5 hN1
                go_loopw [10, 11] (fun o i wr => ∃ m : Nat, m ≤ us.length ∧ i = .int .i64 m ∧ Hid (wr.ownsRow wq.heap.size 27 5 o ((us.take m).flatMap (fun b => rdL ps b ws)).length (encAs ((us.take m).flatMap (fun b => rdL ps b ws)))) ∧ Hid (Below wq.heap.size wq wr)) (fun _ i _ => us.length - (intOf i).toNat)
                case atStart => exact ⟨0, Nat.zero_le _, rfl, HO5, HB5⟩
                case round =>
                  obtain ⟨m, hm, rfl, ho, hQ⟩ := hrel
                  by_cases hmt : m < us.length
                  · obtain ⟨x, hx⟩ : ∃ x, us[m]? = some x := ⟨_, List.getElem?_eq_getElem hmt⟩
                    obtain ⟨ag, ao, rfl, hag, a0, a1, a2, a3, a4⟩ := ad_at hS.out hx
                    have HSN := hid (flat_next (g := fun b => rdL ps b ws) hx)
                    have hlen : ((us.take m).flatMap (fun b => rdL ps b ws)).length + (rdL ps x ws).length ≤ 100000 := by
                      have h1 := flat_part (us := us) (g := fun b => rdL ps b ws) (m + 1)
                      rw [HSN.out, List.length_append] at h1
                      have := HTF.out
                      omega
                    have SKQ : Hid (∀ u, Below wq.heap.size wq u → u.cell? ⟨ag, ao + m * 5, none⟩ = some (.string (sB x.person)) ∧ u.cell? ⟨ag, ao + m * 5 + 1, none⟩ = some (.string (sB x.street)) ∧ u.cell? ⟨ag, ao + m * 5 + 2, none⟩ = some (.int .i64 x.number) ∧ u.cell? ⟨ag, ao + m * 5 + 3, none⟩ = some (.string (sB x.code)) ∧ u.cell? ⟨ag, ao + m * 5 + 4, none⟩ = some (.string (sB x.town)) ∧ u.cell? ⟨w.heap.size, 1, none⟩ = some (.slice (some ⟨fg, fo, none⟩) fs.length cap) ∧ u.cell? ⟨fg, fo + k, none⟩ = some (.slice pA ps.length pc) ∧ u.cell? ⟨lg, lo + k, none⟩ = some (.string s)) := fun u hu => by
                      have q := fun i => hu.cell (p := (⟨ag, i, none⟩ : Addr)) hag
                      exact ⟨(q _).trans a0, (q _).trans a1, (q _).trans a2, (q _).trans a3, (q _).trans a4, (hu.cell (p := (⟨w.heap.size, 1, none⟩ : Addr)) hlX).trans e1, (hu.cell (p := (⟨fg, fo + k, none⟩ : Addr)) hfg).trans hcf, (hu.cell (p := (⟨lg, lo + k, none⟩ : Addr)) hlg).trans cl⟩
                    have SK : Hid (∀ u, Below wr.heap.size wr u → u.cell? ⟨ag, ao + m * 5, none⟩ = some (.string (sB x.person)) ∧ u.cell? ⟨ag, ao + m * 5 + 1, none⟩ = some (.string (sB x.street)) ∧ u.cell? ⟨ag, ao + m * 5 + 2, none⟩ = some (.int .i64 x.number) ∧ u.cell? ⟨ag, ao + m * 5 + 3, none⟩ = some (.string (sB x.code)) ∧ u.cell? ⟨ag, ao + m * 5 + 4, none⟩ = some (.string (sB x.town)) ∧ u.cell? ⟨w.heap.size, 1, none⟩ = some (.slice (some ⟨fg, fo, none⟩) fs.length cap) ∧ u.cell? ⟨fg, fo + k, none⟩ = some (.slice pA ps.length pc) ∧ u.cell? ⟨lg, lo + k, none⟩ = some (.string s)) := fun u hu => SKQ.out u (bt hQ.out hu)
                    have CRx := hid (CR.out wr hQ.out x)
                    have hm0 : 0 ≤ (m : Int) := by omega
                    have hm1 : (m : Int) < (us.length : Int) := by omega
                    clear hx a0 a1 a2 a3 a4 e0 e1 hcf cl
                    go_wp2_with fail
                    refine wp_region_held_drew (S := fun w' => w'.cell? ⟨ag, ao + m * 5, none⟩ = some (.string (sB x.person)) ∧ w'.cell? ⟨ag, ao + m * 5 + 1, none⟩ = some (.string (sB x.street)) ∧ w'.cell? ⟨ag, ao + m * 5 + 2, none⟩ = some (.int .i64 x.number) ∧ w'.cell? ⟨ag, ao + m * 5 + 3, none⟩ = some (.string (sB x.code)) ∧ w'.cell? ⟨ag, ao + m * 5 + 4, none⟩ = some (.string (sB x.town)) ∧ w'.cell? ⟨w.heap.size, 1, none⟩ = some (.slice (some ⟨fg, fo, none⟩) fs.length cap) ∧ w'.cell? ⟨fg, fo + k, none⟩ = some (.slice pA ps.length pc) ∧ w'.cell? ⟨lg, lo + k, none⟩ = some (.string s)) (by kernel_rfl) (SK.out _ (Below.refl _ _).drew) (fun hHeld => ?_)
                    obtain ⟨wd, hwd⟩ : ∃ u, u = wr.drew := ⟨_, rfl⟩
                    have bd : Below wr.heap.size wr wd := by rw [hwd]; exact (Below.refl _ _).drew
                    rw [← hwd] at hHeld ⊢
                    clear hwd
                    refine wpAnyH_take (i := 0) (oi := ⟨some 52, _, _, _, _, _⟩) (v := u10) rfl (by kernel_rfl) (by kernel_rfl) (by kernel_rfl) (fun _ _ _ h => h) (Or.inl ⟨by rfl, ?_⟩) hHeld ?_
                    · intro u hu
                      go_simp
                    try simp only [Act.put, List.setIfInBounds_toArray, List.set_cons_zero, List.set_cons_succ]
                    refine wpAnyH_take (i := 1) (oi := ⟨some 53, _, _, _, _, _⟩) (v := .slice (some ⟨ag, ao, none⟩) us.length ac) rfl (by kernel_rfl) (by kernel_rfl) (by kernel_rfl) (fun _ _ _ h => h) (Or.inl ⟨by rfl, ?_⟩) hHeld ?_
                    · intro u hu
                      go_simp
                    try simp only [Act.put, List.setIfInBounds_toArray, List.set_cons_zero, List.set_cons_succ]
                    refine wpAnyH_take (i := 2) (oi := ⟨some 54, _, _, _, _, _⟩) (v := .int .i64 (m : Int)) rfl (by kernel_rfl) (by kernel_rfl) (by kernel_rfl) (fun _ _ _ h => h) (Or.inl ⟨by rfl, ?_⟩) hHeld ?_
                    · intro u hu
                      go_simp
                    try simp only [Act.put, List.setIfInBounds_toArray, List.set_cons_zero, List.set_cons_succ]
                    refine wpAnyH_take (i := 3) (oi := ⟨some 55, _, _, _, _, _⟩) (v := .pointer (some ⟨ag, ao + m * 5, none⟩)) rfl (by kernel_rfl) (by kernel_rfl) (by kernel_rfl) (fun _ _ _ h => h) (Or.inl ⟨by rfl, ?_⟩) hHeld ?_
                    · intro u hu
                      go_simp
                    try simp only [Act.put, List.setIfInBounds_toArray, List.set_cons_zero, List.set_cons_succ]
                    refine wpAnyH_take (i := 4) (oi := ⟨some 56, _, _, _, _, _⟩) (v := .agg #[.string (sB x.person), .string (sB x.street), .int .i64 x.number, .string (sB x.code), .string (sB x.town)]) rfl (by kernel_rfl) (by kernel_rfl) (by kernel_rfl) (fun _ _ _ h => h) (Or.inl ⟨by rfl, ?_⟩) hHeld ?_
                    · intro u hu
                      go_simp
                    try simp only [Act.put, List.setIfInBounds_toArray, List.set_cons_zero, List.set_cons_succ]
                    refine wpAnyH_take (i := 5) (oi := ⟨some 57, _, _, _, _, _⟩) (v := .pointer (some ⟨w.heap.size, 1, none⟩)) rfl (by kernel_rfl) (by kernel_rfl) (by kernel_rfl) (fun _ _ _ h => h) (Or.inl ⟨by rfl, ?_⟩) hHeld ?_
                    · intro u hu
                      go_simp
                    try simp only [Act.put, List.setIfInBounds_toArray, List.set_cons_zero, List.set_cons_succ]
                    refine wpAnyH_take (i := 6) (oi := ⟨some 58, _, _, _, _, _⟩) (v := .slice (some ⟨fg, fo, none⟩) fs.length cap) rfl (by kernel_rfl) (by kernel_rfl) (by kernel_rfl) (fun _ _ _ h => h) (Or.inl ⟨by rfl, ?_⟩) hHeld ?_
                    · intro u hu
                      go_simp
                    try simp only [Act.put, List.setIfInBounds_toArray, List.set_cons_zero, List.set_cons_succ]
                    refine wpAnyH_take (i := 7) (oi := ⟨some 59, _, _, _, _, _⟩) (v := .int .i64 (k : Int)) rfl (by kernel_rfl) (by kernel_rfl) (by kernel_rfl) (fun _ _ _ h => h) (Or.inl ⟨by rfl, ?_⟩) hHeld ?_
                    · intro u hu
                      go_simp
                    try simp only [Act.put, List.setIfInBounds_toArray, List.set_cons_zero, List.set_cons_succ]
                    refine wpAnyH_take (i := 8) (oi := ⟨some 60, _, _, _, _, _⟩) (v := .pointer (some ⟨fg, fo + k, none⟩)) rfl (by kernel_rfl) (by kernel_rfl) (by kernel_rfl) (fun _ _ _ h => h) (Or.inl ⟨by rfl, ?_⟩) hHeld ?_
                    · intro u hu
                      go_simp
                    try simp only [Act.put, List.setIfInBounds_toArray, List.set_cons_zero, List.set_cons_succ]
                    refine wpAnyH_take (i := 9) (oi := ⟨some 61, _, _, _, _, _⟩) (v := .slice pA ps.length pc) rfl (by kernel_rfl) (by kernel_rfl) (by kernel_rfl) (fun _ _ _ h => h) (Or.inl ⟨by rfl, ?_⟩) hHeld ?_
                    · intro u hu
                      go_simp
                    try simp only [Act.put, List.setIfInBounds_toArray, List.set_cons_zero, List.set_cons_succ]
                    refine wpAnyH_take (i := 10) (oi := ⟨some 62, _, _, _, _, _⟩) (v := .slice (some ⟨lg, lo, none⟩) lns.length lcap) rfl (by kernel_rfl) (by kernel_rfl) (by kernel_rfl) (fun _ _ _ h => h) (Or.inl ⟨by rfl, ?_⟩) hHeld ?_
                    · intro u hu
                      go_simp
                    try simp only [Act.put, List.setIfInBounds_toArray, List.set_cons_zero, List.set_cons_succ]
                    refine wpAnyH_take (i := 11) (oi := ⟨some 63, _, _, _, _, _⟩) (v := .int .i64 (k : Int)) rfl (by kernel_rfl) (by kernel_rfl) (by kernel_rfl) (fun _ _ _ h => h) (Or.inl ⟨by rfl, ?_⟩) hHeld ?_
                    · intro u hu
                      go_simp
                    try simp only [Act.put, List.setIfInBounds_toArray, List.set_cons_zero, List.set_cons_succ]
                    refine wpAnyH_take (i := 12) (oi := ⟨some 64, _, _, _, _, _⟩) (v := .pointer (some ⟨lg, lo + k, none⟩)) rfl (by kernel_rfl) (by kernel_rfl) (by kernel_rfl) (fun _ _ _ h => h) (Or.inl ⟨by rfl, ?_⟩) hHeld ?_
                    · intro u hu
                      go_simp
                    try simp only [Act.put, List.setIfInBounds_toArray, List.set_cons_zero, List.set_cons_succ]
                    refine wpAnyH_take (i := 13) (oi := ⟨some 65, _, _, _, _, _⟩) (v := .string s) rfl (by kernel_rfl) (by kernel_rfl) (by kernel_rfl) (fun _ _ _ h => h) (Or.inl ⟨by rfl, ?_⟩) hHeld ?_
                    · intro u hu
                      go_simp
                    try simp only [Act.put, List.setIfInBounds_toArray, List.set_cons_zero, List.set_cons_succ]
                    refine wpAnyH_ready (rs := [14]) (by kernel_rfl) (by simp) ?_
                    refine AllReadyH.cons (o := ⟨some 66, _, _, _, _, _⟩) rfl (fun K hK => ?_) AllReadyH.nil
                    go_simp
                    go_at_call 18
                    refine (CW.out _).mono ?_
                    rintro e y1 ⟨v1, rfl, hv1, h9⟩
                    obtain ⟨wA, wk, rfl, hwR⟩ := id hv1
                    have By1 : Below wr.heap.size wr y1 := bt bd h9
                    have HWR := hid hwR
                    clear h9 hv1 hwR
                    refine hK.out _ _ (SK.out _ By1) (fun hHeld => ?_)
                    clear hK K
                    try simp only [Act.put, List.setIfInBounds_toArray, List.set_cons_zero, List.set_cons_succ]
                    refine wpAnyH_ready (rs := [15]) (by kernel_rfl) (by simp) ?_
                    refine AllReadyH.cons (o := ⟨some 67, _, _, _, _, _⟩) rfl (fun K hK => ?_) AllReadyH.nil
                    go_simp
                    go_at_call 32
                    refine (CRx.out wA wk _ By1 HWR.out).mono ?_
                    rintro e y2 ⟨v2, rfl, hv2, h9⟩
                    obtain ⟨vA, vc, rfl, hvR⟩ := id hv2.out
                    have By2 : Below wr.heap.size wr y2 := bt By1 h9
                    have HVR := hid hvR
                    clear h9 hv2 hvR
                    refine hK.out _ _ (SK.out _ By2) (fun hHeld => ?_)
                    clear hK K
                    try simp only [Act.put, List.setIfInBounds_toArray, List.set_cons_zero, List.set_cons_succ]
                    refine wpAnyH_ready (rs := [16]) (by kernel_rfl) (by simp) ?_
                    refine AllReadyH.cons (o := ⟨some 68, _, _, _, _, _⟩) rfl (fun K hK => ?_) AllReadyH.nil
                    refine step_app_gen rfl (.tmp 52) (.tmp 67) 30 rfl 27 i0 _ 5 72 Tryz.underlying30 hi0 hz0 hz1 hz2 rfl (by decide) wq.heap.size ((us.take m).flatMap (fun b => rdL ps b ws)).length u10 (encAs ((us.take m).flatMap (fun b => rdL ps b ws))) rfl (own_below ho.out By2) (Nat.le_trans hQ.out.size By2.size) vA (rdL ps x ws).length vc (encAs (rdL ps x ws)) rfl HVR.out (one_ads _) (by omega) (by decide) ?_
                    intro v3 w6 hown6 hgrow6
                    have HO6 : Hid (w6.ownsRow wq.heap.size 27 5 v3 ((us.take (m + 1)).flatMap (fun b => rdL ps b ws)).length (encAs ((us.take (m + 1)).flatMap (fun b => rdL ps b ws)))) := by
                      show World.ownsRow _ _ _ _ _ _ _
                      rw [HSN.out, List.length_append, encAs_append]; exact hown6
                    have HB6 := hid (Below.grown (hQ.out.trans (By2.mono hQ.out.size)) hgrow6 (Nat.le_trans hQ.out.size By2.size) (fun q e => ((own_below ho.out By2).lt q e).1))
                    have S6 := SKQ.out _ HB6.out
                    clear hown6 hgrow6
                    refine hK.out _ _ S6 (fun hHeld => ?_)
                    clear hK K
                    try simp only [Act.put, List.setIfInBounds_toArray, List.set_cons_zero, List.set_cons_succ]
                    refine wpAnyH_take (i := 17) (oi := ⟨some 10, _, _, _, _, _⟩) (v := v3) rfl (by kernel_rfl) (by kernel_rfl) (by kernel_rfl) (fun _ _ _ h => h) (Or.inl ⟨by rfl, ?_⟩) hHeld ?_
                    · intro u hu
                      go_simp
                    try simp only [Act.put, List.setIfInBounds_toArray, List.set_cons_zero, List.set_cons_succ]
                    refine wpAnyH_done (by kernel_rfl) ?_ _
                    clear hHeld
                    clear hHeld
                    go_wp2
                    go_roundw
                    case rel => exact ⟨m + 1, by omega, by go_num, HO6, HB6⟩
                    case measure => simp [intOf]; omega
                  · obtain rfl : m = us.length := by omega
                    have HO : Hid (wr.ownsRow wq.heap.size 27 5 u10 (rdA (r.take (k + 1)) ad0).length (encAs (rdA (r.take (k + 1)) ad0))) := by
                      have := ho.out
                      rw [List.take_length, ← HTK.out] at this; exact this
                    obtain ⟨A3, c3, e3, h3⟩ := SlR.of_own HO.out
                    subst e3
                    have HS3' := hid h3
                    have HBZ := hid (bt HBQ.out hQ.out)
                    clear ho hm h3
                    go_wp2
                    go_roundw
                    case rel => exact ⟨k + 1, A3, c3, by omega, by go_num, rfl, HS3', HBZ⟩
                    case measure => simp [intOf]; omega
              · have HE : Hid (us = rs) := by
                  show _ = _
                  rw [HUS.out, HRS.out, List.take_of_length_le (by have := HRL.out; omega)]
                have d32 : decide ((32 : Int) < (us.length : Int)) = false := decide_eq_false (by omega)
                have hk1 : ¬ (k : Int) < (lns.length : Int) := by omega
                go_wp2
                go_ret2
                exact ⟨_, rfl, by rw [← HE.out]; exact ⟨aA, ac, rfl, hS.out⟩, bt HB4.out hB.out⟩
          · have q1 : ((lns.length : Int) != (fs.length : Int)) = true := by simp; omega
            have he := H.out.symm.trans (parse_lines HVB.out.symm (by omega) hlf)
            obtain ⟨rfl, rfl⟩ := Prod.mk.inj he
            clear he h40 hlf
            go_wp2
            go_ret2
            exact ⟨_, rfl, IsA.nil _, HB3.out⟩

end Fm
end Go.Proofs.YtcaiejbnhjiflaaGreatDoor

namespace Go.Proofs.YtcaiejbnhjiflaaGreatDoor
namespace Fm

/-- What a reading prints. -/
structure RdIs (name : W) (fs : List (List Pt)) (lns : List W) (x : Ad) (ls : List W) : Prop where
  print : printR name fs x = (ls, 0)
  fits : fitsB fs.flatten x = true
  small : Small x
  len : ls.length = lns.length
  short : ∀ l ∈ ls, l.length ≤ 1000
  same : ∀ (k : Nat) (a b : W), ls[k]? = some a → lns[k]? = some b → wordsL (upL a) = wordsL (upL b)
theorem reading_is {name : W} {fs : List (List Pt)} {lns : List W} {rs : List Ad} {er : Int} (h : parseR name fs lns = (rs, er)) {x : Ad} (hx : x ∈ rs) : ∃ ls, RdIs name fs lns x ls := by
  obtain ⟨hv, hl, _, hrs⟩ := parse_has h (fun e => by rw [e] at hx; cases hx)
  obtain ⟨_, hf, hs⟩ := parse_fits h hx
  obtain ⟨v1, v2, v3, v4, v5⟩ := valid_parts hv
  have hz := parts_zip fs (lns.map wordsL) (by rw [List.length_map]; exact hl.symm)
  rw [hrs] at hx
  have hup := (rdA_reads (by rw [hz]; exact v5) (by rw [hz]; exact v4) hx).2
  obtain ⟨hc, _⟩ := (print_fits v5 v4).2 hf
  have hline : ∀ ps ∈ fs, (lineW x ps).length ≤ ps.length * 4 ∧ ∀ w ∈ lineW x ps, fitW w = true := fun ps hps => line_len fun p hp => hc p (List.mem_flatten.2 ⟨ps, hps, hp⟩)
  refine ⟨_, print_ok hv hf, hf, hs, by rw [List.length_map]; exact hl.symm, fun l hl => ?_, fun k a b ha hb => ?_⟩
  · obtain ⟨ps, hps, rfl⟩ := List.mem_map.1 hl
    have h1 := join_fit (hline ps hps).2
    have h2 := (hline ps hps).1
    have h3 := (v3 ps hps).2
    have : (lineW x ps).length * 21 ≤ 32 * 21 := Nat.mul_le_mul_right _ (by omega)
    omega
  · rw [List.getElem?_map, Option.map_eq_some_iff] at ha
    obtain ⟨ps, hps, rfl⟩ := ha
    rw [wordsL_up, wordsL_up, words_join _ fun w hw => fit_is ((hline ps (List.mem_of_getElem? hps)).2 w hw)]
    refine hup (ps, wordsL b) ?_
    refine List.mem_of_getElem? (i := k) ?_
    rw [List.getElem?_zip_eq_some]
    exact ⟨hps, by rw [List.getElem?_map, hb]; rfl⟩
theorem reading_apart {name : W} {fs : List (List Pt)} {lns : List W} {rs : List Ad} {er : Int} (h : parseR name fs lns = (rs, er)) {k i : Nat} {x y : Ad} (hki : k < i) (hy : rs[k]? = some y) (hx : rs[i]? = some x) : y ≠ x := by
  obtain ⟨hv, hl, _, hrs⟩ := parse_has h (fun e => by rw [e] at hx; simp at hx)
  obtain ⟨_, _, _, v4, v5⟩ := valid_parts hv
  have hz := parts_zip fs (lns.map wordsL) (by rw [List.length_map]; exact hl.symm)
  have hp := rdA_nodup (fs.zip (lns.map wordsL)) ad0 (by rw [hz]; exact v5) (by rw [hz]; exact v4)
  rw [← hrs, hz, List.pairwise_iff_getElem] at hp
  obtain ⟨i1, e1⟩ := List.getElem?_eq_some_iff.1 hy
  obtain ⟨i2, e2⟩ := List.getElem?_eq_some_iff.1 hx
  have := hp k i i1 i2 hki
  rw [e1, e2] at this
  intro e
  rw [e] at this
  exact ltL_irrefl _ this
theorem parse_err {name : W} {fs : List (List Pt)} {lns : List W} {rs : List Ad} {er : Int} (h : parseR name fs lns = (rs, er)) (he : er ≠ 0) : rs = [] := by
  by_cases h0 : rs = []
  · exact h0
  · exact absurd (parse_has h h0).2.2.1 he

end Fm
end Go.Proofs.YtcaiejbnhjiflaaGreatDoor

namespace Go.Proofs.YtcaiejbnhjiflaaGreatDoor
open Go.RowKit Go.ChangeMaps
namespace Fm

theorem enc_digit (n : Nat) (h : n < 10) : Utf8.encode (48 + (n : Int)) = ⟨#[UInt8.ofNat (48 + n)]⟩ := by
  match n, h with
  | 0, _ => rfl
  | 1, _ => rfl
  | 2, _ => rfl
  | 3, _ => rfl
  | 4, _ => rfl
  | 5, _ => rfl
  | 6, _ => rfl
  | 7, _ => rfl
  | 8, _ => rfl
  | 9, _ => rfl
theorem dec_more {n : Nat} (h : ¬ n < 10) : sB (Lib.decDigits n) = sB (Lib.decDigits (n / 10)) ++ ⟨#[UInt8.ofNat (48 + n % 10)]⟩ := by
  rw [Lib.decDigits, dif_neg h]
  refine (ba_of ?_).symm
  rw [ByteArray.data_append, Array.toList_append]; rfl
theorem dec_size (n : Nat) (h : n < 100000) : (sB (Lib.decDigits n)).size ≤ 5 := by
  rw [sB_size]; exact dec_len n 4 (by omega)
set_option maxRecDepth 100000 in
set_option maxHeartbeats 2000000 in
theorem rdecimal_any (n : Nat) : ∀ w : World, n < 100000 →
    Calls Tryz.prog 35 #[.int .i64 (n : Int)] w fun e w' => e = .returned (.string (sB (Lib.decDigits n))) ∧ w = w' := by
  induction n using Nat.strongRecOn with
  | _ n ih =>
    intro w hn
    have HIH := hid ih
    clear ih
    by_cases h : n < 10
    · have h1 : ((n : Int) % 10) = (n : Int) := by omega
      have h0 : 0 ≤ (n : Int) := by omega
      have h9 : (n : Int) ≤ 9 := by omega
      have d9 : decide ((9 : Int) < (n : Int)) = false := decide_eq_false (by omega)
      have HE := hid (enc_digit n h)
      have HD : Hid (sB (Lib.decDigits n) = ⟨#[UInt8.ofNat (48 + n)]⟩) := by show _ = _; rw [Lib.decDigits_one h]; rfl
      rw [HD.out, ← HE.out]
      clear h hn
      go_enter Tryz.func35, Tryz.ntmps35
      go_wp2
      go_ret
      exact ⟨rfl, rfl⟩
    · have h0 : 0 ≤ (n : Int) := by omega
      have h9 : (n : Int) ≤ 100000 := by omega
      have d9 : decide ((9 : Int) < (n : Int)) = true := decide_eq_true (by omega)
      have CD := hid (HIH.out (n / 10) (by omega) w (by omega))
      have hq : ((n : Int) / 10) = ((n / 10 : Nat) : Int) := by omega
      obtain ⟨m, hm⟩ : ∃ m, m = n % 10 := ⟨_, rfl⟩
      have hm9 : m < 10 := by omega
      have hr : ((n : Int) % 10) = (m : Int) := by omega
      have HE := hid (enc_digit m hm9)
      have HD : Hid (sB (Lib.decDigits n) = sB (Lib.decDigits (n / 10)) ++ ⟨#[UInt8.ofNat (48 + m)]⟩) := by rw [hm]; exact dec_more h
      have hs := dec_size (n / 10) (by omega)
      obtain ⟨s, hsd⟩ : ∃ s, s = sB (Lib.decDigits (n / 10)) := ⟨_, rfl⟩
      rw [← hsd] at CD HD hs
      obtain ⟨q, hqd⟩ : ∃ q, q = n / 10 := ⟨_, rfl⟩
      rw [← hqd] at CD hq
      have hu : (Utf8.encode (48 + (m : Int))).size ≤ 4 := by rw [HE.out]; exact (by decide : (1 : Nat) ≤ 4)
      obtain ⟨u, hud⟩ : ∃ u, u = Utf8.encode (48 + (m : Int)) := ⟨_, rfl⟩
      have HU := hid hud
      have HX : Hid (s ++ u = sB (Lib.decDigits n)) := by show _ = _; rw [HD.out, hud, HE.out]
      rw [← HX.out]
      have hm0 : 0 ≤ (m : Int) := by omega
      have hm10 : (m : Int) ≤ 9 := by omega
      rw [← hud] at hu
      clear h hn hm hm9 hsd hqd hud
      go_enter Tryz.func35, Tryz.ntmps35
      go_wp2_with fail
      refine CD.out.mono ?_
      rintro e w2 ⟨rfl, rfl⟩
      rw [← HU.out]
      go_wp2
      go_ret
      exact ⟨rfl, rfl⟩

end Fm
end Go.Proofs.YtcaiejbnhjiflaaGreatDoor

namespace Go.Proofs.YtcaiejbnhjiflaaGreatDoor
open Go.RowKit Go.ChangeMaps
namespace Fm

theorem join_flat (L : List (List W)) (h : ∀ l ∈ L, l ≠ []) : joinW (L.map joinW) = joinW L.flatten := by
  induction L with
  | nil => rfl
  | cons a L ih =>
    have ha := h a (List.mem_cons_self ..)
    have ih' := ih fun l hl => h l (List.mem_cons_of_mem _ hl)
    match L with
    | [] => simp [joinW]
    | b :: L =>
      have hb : (b :: L).flatten ≠ [] := by
        rw [List.flatten_cons]; intro e
        exact h b (by simp) (List.append_eq_nil_iff.1 e).1
      rw [List.map_cons, List.map_cons, join_two, ← List.map_cons, ih', show (a :: b :: L).flatten = a ++ (b :: L).flatten from rfl, join_append _ _ ha hb]
theorem show_is {x : Ad} {p : Pt} (hp : partB p = true) (h : fitP x p = true) : joinW (wordsL (showT x p)) = showT x p ∧ (showT x p).length ≤ 84 ∧ wordsL (showT x p) ≠ [] := by
  obtain ⟨k1, k6, hw1, hw3, _⟩ := wfp hp
  have one : ∀ {z : W}, isW z → joinW (wordsL z) = z ∧ wordsL z ≠ [] := fun hz => by rw [words_of_is hz]; exact ⟨rfl, by simp⟩
  have sev : ∀ {z : W}, sevT z = true → joinW (wordsL z) = z ∧ z.length ≤ 84 ∧ wordsL z ≠ [] := fun {z} hz => by
    obtain ⟨_, h1, _, h4⟩ := (sevT_iff z).1 hz
    exact ⟨h4, sevT_len hz, fun e => by rw [e] at h1; simp at h1⟩
  unfold fitP at h
  unfold showT
  by_cases e1 : p.k = 1
  · rw [if_pos e1]
    have hf := hw1 e1
    have := one (fit_is hf)
    exact ⟨this.1, by have := ((fitW_iff _).1 hf).2.1; omega, this.2⟩
  rw [if_neg e1]
  by_cases e2 : p.k = 2
  · rw [if_pos e2] at h ⊢
    have hn : 1 ≤ x.number ∧ x.number ≤ 9999 := by simpa using h
    obtain ⟨n, hn'⟩ : ∃ n : Nat, x.number = n := ⟨x.number.toNat, by omega⟩
    have := one (itoa_is x.number)
    refine ⟨this.1, ?_, this.2⟩
    rw [hn', itoa_nat]
    have := dec_len n 4 (by omega)
    omega
  rw [if_neg e2] at h ⊢
  by_cases e3 : p.k = 3
  · rw [if_pos e3] at h ⊢
    rw [Bool.and_eq_true] at h
    have hpat := (patW_iff _).1 (hw3 e3)
    have hl := codeW_len h.1
    have hb := codeW_fit hpat.2.2 h.1
    have := one (z := x.code) ⟨fun e => by rw [e] at hl; simp at hl; omega, fun b hb' => fit_blk (hb b hb')⟩
    exact ⟨this.1, by omega, this.2⟩
  rw [if_neg e3] at h ⊢
  by_cases e4 : p.k = 4
  · rw [if_pos e4] at h ⊢; exact sev h
  rw [if_neg e4] at h ⊢
  by_cases e5 : p.k = 5
  · rw [if_pos e5] at h ⊢; exact sev h
  rw [if_neg e5] at h ⊢
  rw [if_pos (by omega)] at h
  exact sev h
theorem line_is {x : Ad} {ps : List Pt} (hp : ∀ p ∈ ps, partB p = true) (h : ∀ p ∈ ps, fitP x p = true) : joinW (ps.map (showT x)) = joinW (lineW x ps) ∧ ((ps.map (showT x)).map List.length).sum ≤ ps.length * 84 := by
  constructor
  · have e : ps.map (showT x) = (ps.map (ownW x)).map joinW := by
      rw [List.map_map]
      refine List.map_congr_left fun p hq => ?_
      show _ = joinW (ownW x p)
      rw [own_show, (show_is (hp p hq) (h p hq)).1]
    rw [e, join_flat _ fun l hl => ?_]
    · unfold lineW; rw [List.flatMap_def]
    · obtain ⟨p, hq, rfl⟩ := List.mem_map.1 hl
      rw [own_show]; exact (show_is (hp p hq) (h p hq)).2.2
  · induction ps with
    | nil => simp
    | cons p ps ih =>
      have h1 := (show_is (hp p (List.mem_cons_self ..)) (h p (List.mem_cons_self ..))).2.1
      have h2 := ih (fun q hq => hp q (List.mem_cons_of_mem _ hq)) (fun q hq => h q (List.mem_cons_of_mem _ hq))
      rw [List.map_cons, List.map_cons, List.sum_cons, List.length_cons]
      omega
theorem show_snoc {x : Ad} {ps : List Pt} {j : Nat} {p : Pt} (h : ps[j]? = some p) : (ps.take (j + 1)).map (showT x) = (ps.take j).map (showT x) ++ [showT x p] := by
  rw [List.take_add_one, h, List.map_append]; rfl
theorem out_snoc {x : Ad} {fs : List (List Pt)} {k : Nat} {ps : List Pt} (h : fs[k]? = some ps) : (fs.take (k + 1)).map (fun ps => joinW (lineW x ps)) = (fs.take k).map (fun ps => joinW (lineW x ps)) ++ [joinW (lineW x ps)] := by
  rw [List.take_add_one, h, List.map_append]; rfl
theorem one_news' {w : World} {X : Nat} {v : Value} (h : w.cell? ⟨X, 0, none⟩ = some v) : ∀ j u, [v][j]? = some u → w.cell? ((⟨X, 0, none⟩ : Addr).add j) = some u := by
  intro j u hu
  match j with
  | 0 => rw [addr_add]; simp at hu; rw [← hu]; exact h
  | j + 1 => simp at hu
theorem heap_at {u : World} {g i : Nat} {cs : Array Value} {T : TypeId} (h : u.heap[g]? = some (.cells cs T (0, 0))) : u.cell? ⟨g, i, none⟩ = cs[i]? := by simp [World.cell?, h]
theorem cell_str_new (w : World) (v : Value) (T : TypeId) : ∀ j u, [v][j]? = some u → (w.alloc (.cells #[v] T)).cell? ((⟨w.heap.size, 0, none⟩ : Addr).add j) = some u := one_news' (by rw [heap_at (heap_new w _)]; rfl)

set_option maxRecDepth 100000 in
set_option maxHeartbeats 32000000 in
theorem rprint_any (name : W) (fs : List (List Pt)) (fv : Value) (x : Ad) (w : World) (hF : IsPs w fv fs) (h10 : fs.length ≤ 10) (hp : ∀ ps ∈ fs, ps.length ≤ 10) (hnm : name.length ≤ 100000) (ht : ∀ p ∈ fs.flatten, p.t.length ≤ 1000) (hx : Small x) {ls : List W} {er : Int} (h : printR name fs x = (ls, er)) :
    Calls Tryz.prog 15 #[.agg #[.string (sB name), fv], adV x] w (PrintPost ls er w) := by
  obtain ⟨A, cap, fvs, hfv, -⟩ := id hF
  subst hfv
  obtain ⟨w1, hw1⟩ : ∃ w1, w1 = (w.alloc (.cells #[.string (sB name), .slice A fs.length cap] 24)).alloc (.cells #[.string (sB x.person), .string (sB x.street), .int .i64 x.number, .string (sB x.code), .string (sB x.town)] 27) := ⟨_, rfl⟩
  have hb1 : Below w.heap.size w w1 := by rw [hw1]; exact (b0 _ _).alloc (by simp) _
  have HF1 := hid (hF.on hb1)
  have HXB : Hid (w1.heap[w.heap.size + 1]? = some (.cells #[.string (sB x.person), .string (sB x.street), .int .i64 x.number, .string (sB x.code), .string (sB x.town)] 27 (0, 0))) := by
    show _ = _
    rw [hw1, show w.heap.size + 1 = (w.alloc (.cells #[.string (sB name), .slice A fs.length cap] 24)).heap.size from by simp]; exact heap_new _ _
  have HFB : Hid (w1.heap[w.heap.size]? = some (.cells #[.string (sB name), .slice A fs.length cap] 24 (0, 0))) := by
    show _ = _
    rw [hw1, ← heap_new w (.cells #[.string (sB name), .slice A fs.length cap] 24)]
    exact (b0 (w.alloc _) _).block _ (by simp)
  have HB1 := hid hb1
  have CV := hid (fun u (hu : Below w1.heap.size w1 u) => rvalid_any name fs (.slice A fs.length cap) u (HF1.out.on hu) hnm ht)
  have CF := hid (fun u (hu : Below w1.heap.size w1 u) => rfits_any name fs (.slice A fs.length cap) x u (HF1.out.on hu) h10 hp ht hx)
  unfold adV at CF ⊢
  obtain ⟨nm, hnmd⟩ : ∃ nm, nm = sB name := ⟨_, rfl⟩
  rw [← hnmd] at hw1 HFB CV CF ⊢
  obtain ⟨vb, hvb⟩ : ∃ vb, vb = validB name fs := ⟨_, rfl⟩
  obtain ⟨fb, hfb⟩ : ∃ fb, fb = fitsB fs.flatten x := ⟨_, rfl⟩
  rw [← hvb] at CV
  rw [← hfb] at CF
  have HVB := hid hvb
  have HFT := hid hfb
  have H := hid h
  have HX := hid hx
  have HCL : Hid (∀ u, Below w1.heap.size w1 u → u.cell? ⟨w.heap.size, 0, none⟩ = some (.string nm) ∧ u.cell? ⟨w.heap.size, 1, none⟩ = some (.slice A fs.length cap) ∧ u.cell? ⟨w.heap.size + 1, 0, none⟩ = some (.string (sB x.person)) ∧ u.cell? ⟨w.heap.size + 1, 1, none⟩ = some (.string (sB x.street)) ∧ u.cell? ⟨w.heap.size + 1, 2, none⟩ = some (.int .i64 x.number) ∧ u.cell? ⟨w.heap.size + 1, 3, none⟩ = some (.string (sB x.code)) ∧ u.cell? ⟨w.heap.size + 1, 4, none⟩ = some (.string (sB x.town))) := fun u hu => by
    have f := (hu.block _ (heap_lt HFB.out)).trans HFB.out
    have g := (hu.block _ (heap_lt HXB.out)).trans HXB.out
    refine ⟨?_, ?_, ?_, ?_, ?_, ?_, ?_⟩ <;> simp [World.cell?, f, g]
  have hlx : w.heap.size + 1 < w1.heap.size := heap_lt HXB.out
  obtain ⟨i0, hi0, hz0, hz1, hz2⟩ := info_parts infoStr
  obtain ⟨c0, c1, x0, x1, x2, x3, x4⟩ := HCL.out _ (Below.refl _ _)
  unfold PrintPost
  clear hnmd hvb hfb h hx hF hb1 hnm ht hp
  go_enter Tryz.func15, Tryz.ntmps15
  go_wp2_with fail
  rw [← hw1]
  clear hw1
  refine (CV.out _ (Below.refl _ _)).mono ?_
  rintro e w2 ⟨rfl, hb2⟩
  have HB2 := hid hb2
  clear hb2 c0 c1 x0 x1 x2 x3 x4 CV
  obtain ⟨c0, c1, x0, x1, x2, x3, x4⟩ := HCL.out _ HB2.out
  cases vb
  · have he := H.out.symm.trans (print_bad (fun h => by have := HVB.out; rw [h.1] at this; cases this))
    obtain ⟨rfl, rfl⟩ := Prod.mk.inj he
    clear he
    go_wp2
    go_ret2
    exact ⟨_, rfl, IsW.nil _, bt HB1.out HB2.out⟩
  · go_wp2_with fail
    refine (CF.out _ HB2.out).mono ?_
    rintro e w3 ⟨rfl, hb3⟩
    have HB3 := hid (bt HB2.out hb3)
    clear hb3 c0 c1 x0 x1 x2 x3 x4 CF
    obtain ⟨c0, c1, x0, x1, x2, x3, x4⟩ := HCL.out _ HB3.out
    cases fb
    · have he := H.out.symm.trans (print_bad (fun h => by have := HFT.out; rw [h.2] at this; cases this))
      obtain ⟨rfl, rfl⟩ := Prod.mk.inj he
      clear he
      go_wp2
      go_ret2
      exact ⟨_, rfl, IsW.nil _, bt HB1.out HB3.out⟩
    · have he := H.out.symm.trans (print_ok HVB.out.symm HFT.out.symm)
      obtain ⟨hls, rfl⟩ := Prod.mk.inj he
      have HLS := hid hls
      obtain ⟨v1, v2, v3, v4, v5⟩ := valid_parts HVB.out.symm
      have HV3 := hid v3
      have HV4 := hid v4
      have HFP : Hid (∀ p ∈ fs.flatten, fitP x p = true) := by
        have := HFT.out.symm
        unfold fitsB at this
        rw [Bool.and_eq_true] at this
        exact List.all_eq_true.1 this.2
      obtain ⟨w4, hw4⟩ : ∃ u, u = w3.alloc (.cells #[] 9) := ⟨_, rfl⟩
      obtain ⟨N0, hN0⟩ : ∃ n, n = w3.heap.size := ⟨_, rfl⟩
      have hb4 : Below w3.heap.size w3 w4 := by rw [hw4]; exact b0 _ _
      have HB4 := hid (bt HB3.out hb4)
      have HO4 : Hid (w4.ownsRow w1.heap.size 9 1 (.slice (some ⟨N0, 0, none⟩) 0 0) 0 []) := by show World.ownsRow _ _ _ _ _ _ _; rw [hw4]; exact own_empty w3 _ _ (by rw [hN0]; exact HB3.out.size) hN0 _
      clear hls he v1 v2 v3 v4 v5 hb4
      go_wp2
      rw [← hw4, ← hN0]
      clear hw4 hN0 c0 c1 x0 x1 x2 x3 x4
      go_loopw [6, 7] (fun o i wr => ∃ k : Nat, k ≤ fs.length ∧ i = .int .i64 k ∧ Hid (wr.ownsRow w1.heap.size 9 1 o ((fs.take k).map fun ps => joinW (lineW x ps)).length (((fs.take k).map fun ps => joinW (lineW x ps)).map sV)) ∧ Hid (Below w1.heap.size w1 wr)) (fun _ i _ => fs.length - (intOf i).toNat)
      case atStart => exact ⟨0, Nat.zero_le _, rfl, HO4, HB4⟩
      case round =>
        obtain ⟨k, hk, rfl, ho, hB⟩ := hrel
        obtain ⟨c0, c1, x0, x1, x2, x3, x4⟩ := HCL.out _ hB.out
        by_cases hlt : k < fs.length
        · obtain ⟨ps, hps⟩ : ∃ ps, fs[k]? = some ps := ⟨_, List.getElem?_eq_getElem hlt⟩
          obtain ⟨fg, fo, pA, pc, rfl, hfg0, hcf0, hpR0⟩ := isPs_at HF1.out hps
          have hfg : fg < wr.heap.size := Nat.lt_of_lt_of_le hfg0 hB.out.size
          have hcf := (hB.out.cell (p := (⟨fg, fo + k, none⟩ : Addr)) hfg0).trans hcf0
          have HPR := hid (SlR.on hpR0 hB.out)
          have HPM : Hid (∀ p ∈ ps, p ∈ fs.flatten) := fun p hp => List.mem_flatten.2 ⟨ps, List.mem_of_getElem? hps, hp⟩
          have hps8 := (HV3.out ps (List.mem_of_getElem? hps)).2
          have HLI := hid (line_is (x := x) (ps := ps) (fun p hp => HV4.out p (HPM.out p hp)) (fun p hp => HFP.out p (HPM.out p hp)))
          have HOS := hid (out_snoc (x := x) hps)
          have hk0 : 0 ≤ (k : Int) := by omega
          have hk1 : (k : Int) < (fs.length : Int) := by omega
          obtain ⟨wq, hwq⟩ : ∃ u, u = wr := ⟨_, rfl⟩
          obtain ⟨w5, hw5⟩ : ∃ u, u = wr.alloc (.cells #[] 9) := ⟨_, rfl⟩
          obtain ⟨N1, hN1⟩ : ∃ n, n = wr.heap.size := ⟨_, rfl⟩
          have hb5 : Below wr.heap.size wr w5 := by rw [hw5]; exact b0 _ _
          have HB5 := hid hb5
          have HO5 : Hid (w5.ownsRow wr.heap.size 9 1 (.slice (some ⟨N1, 0, none⟩) 0 0) 0 []) := by show World.ownsRow _ _ _ _ _ _ _; rw [hw5]; exact own_empty wr _ _ (by omega) hN1 _
          have hBq := hid hB.out
          have hoq := hid ho.out
          rw [← hwq] at hw5 hN1 HB5 HO5 hfg hcf HPR hBq hoq
          clear hps hcf0 hpR0 hb5
          go_wp2
          rw [← hwq, ← hw5, ← hN1]
          clear hw5 hN1 ho hB c0 c1 x0 x1 x2 x3 x4
          go_loopw [8, 9] (fun o i wr => ∃ j : Nat, j ≤ ps.length ∧ i = .int .i64 j ∧ Hid (wr.ownsRow wq.heap.size 9 1 o ((ps.take j).map (showT x)).length (((ps.take j).map (showT x)).map sV)) ∧ Hid (Below wq.heap.size wq wr)) (fun _ i _ => ps.length - (intOf i).toNat)
          case atStart => exact ⟨0, Nat.zero_le _, rfl, HO5, HB5⟩
          case round =>
            obtain ⟨j, hj, rfl, hl, hQ⟩ := hrel
            have HBW := hid (hBq.out.trans (hQ.out.mono hBq.out.size))
            obtain ⟨c0, c1, x0, x1, x2, x3, x4⟩ := HCL.out _ HBW.out
            have hcf2 := (hQ.out.cell (p := (⟨fg, fo + k, none⟩ : Addr)) hfg).trans hcf
            by_cases hjt : j < ps.length
            · obtain ⟨p, hp⟩ : ∃ p, ps[j]? = some p := ⟨_, List.getElem?_eq_getElem hjt⟩
              obtain ⟨pg, po, rfl, hpg, a0, a1⟩ := RdP.at (SlR.on HPR.out hQ.out) hp
              unfold sV at a1
              have HPB := hid (HV4.out p (HPM.out p (List.mem_of_getElem? hp)))
              have HFB2 := hid (HFP.out p (HPM.out p (List.mem_of_getElem? hp)))
              obtain ⟨k1, k6, -⟩ := wfp HPB.out
              have HSS := hid (show_snoc (x := x) hp)
              have hj0 : 0 ≤ (j : Int) := by omega
              have hj1 : (j : Int) < (ps.length : Int) := by omega
              obtain ⟨kk, hkd⟩ : ∃ kk, kk = p.k := ⟨_, rfl⟩
              obtain ⟨tt, htd⟩ : ∃ tt, tt = sB p.t := ⟨_, rfl⟩
              rw [← hkd] at a0 k1 k6
              rw [← htd] at a1
              have HKD : Hid (p.k = kk) := hkd.symm
              have HTD := hid htd
              have hjl : ((ps.take j).map (showT x)).length ≤ 10 := by rw [List.length_map, List.length_take]; omega
              obtain ⟨jn, hjn⟩ : ∃ n, n = ((ps.take j).map (showT x)).length := ⟨_, rfl⟩
              obtain ⟨w6, hw6⟩ : ∃ u, u = wr.alloc (.cells #[.int .i64 kk, .string tt] 49) := ⟨_, rfl⟩
              obtain ⟨N, hN⟩ : ∃ n, n = wr.heap.size := ⟨_, rfl⟩
              have hrow : w6.heap[N]? = some (.cells #[.int .i64 kk, .string tt] 49 (0, 0)) := by rw [hw6, hN]; exact heap_new _ _
              have b6 : Below wr.heap.size wr w6 := by rw [hw6]; exact b0 _ _
              have HB6 := hid (bt hQ.out b6)
              have HL6 := hid (own_below hl.out b6)
              rw [← hjn] at HL6 hjl
              have HJN := hid hjn
              clear hjn
              have HBW6 := hid (hBq.out.trans (HB6.out.mono hBq.out.size))
              clear hp hkd htd
              go_upto_region 12 with fail
              rw [← hw6, ← hN]
              have m0 : w6.cell? ⟨N, 0, none⟩ = some (.int .i64 kk) := by rw [heap_at hrow]; rfl
              have m1 : w6.cell? ⟨N, 1, none⟩ = some (.string tt) := by rw [heap_at hrow]; rfl
              clear hw6 hN b6 c0 c1 x0 x1 x2 x3 x4 a0 a1 hcf2 hl hQ hrow
              obtain ⟨c0, c1, x0, x1, x2, x3, x4⟩ := HCL.out _ HBW6.out
              have hsq : wq.heap.size ≤ w6.heap.size := HB6.out.size
              obtain rfl | rfl | rfl | rfl | rfl | rfl : kk = 1 ∨ kk = 2 ∨ kk = 3 ∨ kk = 4 ∨ kk = 5 ∨ kk = 6 := by omega
              · clear k1 k6
                go_wp2_with (at_builtin; refine wpList_append_lies _ rfl (.tmp 51) (.tmp 54) 25 rfl wq.heap.size 9 i0 _ 1 16 Tryz.underlying25 hi0 hz0 hz1 hz2 rfl (by decide) u8 jn (((ps.take j).map (showT x)).map sV) rfl (HL6.out.alloc _) ⟨w6.heap.size, 0, none⟩ 1 1 [.string tt] rfl rfl (cell_str_new w6 _ _) (by simp [Value.oneCell']) (by omega) (by unfold maxLen; omega) (by omega) (by simp; omega) (w6.heap.size + 1) (by simp) ?_; intro gg cap2 w8 hown8 hgrow hat hlt8)
                have HO8 : Hid (w8.ownsRow wq.heap.size 9 1 (.slice (some ⟨gg, 0, none⟩) (jn + 1) cap2) ((ps.take (j + 1)).map (showT x)).length (((ps.take (j + 1)).map (showT x)).map sV)) := by
                  show World.ownsRow _ _ _ _ _ _ _
                  rw [HSS.out, List.length_append, List.map_append, ← HJN.out]
                  have e : [showT x p].map sV = [.string tt] := by
                    show [sV (showT x p)] = _
                    unfold showT sV
                    rw [if_pos HKD.out, HTD.out]
                  rw [e]; exact hown8
                have HB8 := hid (grow_below (b0 := wq.heap.size) HB6.out (Nat.le_refl _) hsq HL6.out hgrow)
                clear hown8 hgrow hat hlt8
                go_wp2
                go_roundw
                case rel => exact ⟨j + 1, by omega, by go_num, HO8, HB8⟩
                case measure => simp [intOf]; omega
              · clear k1 k6
                have hnn : 1 ≤ x.number ∧ x.number ≤ 9999 := by
                  have := HFB2.out
                  unfold fitP at this
                  rw [if_pos HKD.out] at this
                  simpa using this
                obtain ⟨n, hn⟩ : ∃ n : Nat, x.number = n := ⟨x.number.toNat, by omega⟩
                have CD := hid (rdecimal_any n w6 (by omega))
                have HDG : Hid (Lib.itoa x.number = Lib.decDigits n) := by show _ = _; rw [hn]; exact itoa_nat n
                rw [hn] at x2
                obtain ⟨dd, hdd⟩ : ∃ d, d = sB (Lib.decDigits n) := ⟨_, rfl⟩
                rw [← hdd] at CD
                have HDD := hid hdd
                clear hnn hn hdd
                go_wp2_with fail
                refine CD.out.mono ?_
                rintro e w9 ⟨rfl, rfl⟩
                go_wp2_with (at_builtin; refine wpList_append_lies _ rfl (.tmp 58) (.tmp 62) 25 rfl wq.heap.size 9 i0 _ 1 16 Tryz.underlying25 hi0 hz0 hz1 hz2 rfl (by decide) u8 jn (((ps.take j).map (showT x)).map sV) rfl (HL6.out.alloc _) ⟨w6.heap.size, 0, none⟩ 1 1 [.string dd] rfl rfl (cell_str_new w6 _ _) (by simp [Value.oneCell']) (by omega) (by unfold maxLen; omega) (by omega) (by simp; omega) (w6.heap.size + 1) (by simp) ?_; intro gg cap2 w8 hown8 hgrow hat hlt8)
                have HO8 : Hid (w8.ownsRow wq.heap.size 9 1 (.slice (some ⟨gg, 0, none⟩) (jn + 1) cap2) ((ps.take (j + 1)).map (showT x)).length (((ps.take (j + 1)).map (showT x)).map sV)) := by
                  show World.ownsRow _ _ _ _ _ _ _
                  rw [HSS.out, List.length_append, List.map_append, ← HJN.out]
                  have e : [showT x p].map sV = [.string dd] := by
                    show [sV (showT x p)] = _
                    unfold showT sV
                    rw [if_neg (by rw [HKD.out]; decide), if_pos HKD.out, HDG.out, ← HDD.out]
                  rw [e]; exact hown8
                have HB8 := hid (grow_below (b0 := wq.heap.size) HB6.out (Nat.le_refl _) hsq HL6.out hgrow)
                clear hown8 hgrow hat hlt8
                go_wp2
                go_roundw
                case rel => exact ⟨j + 1, by omega, by go_num, HO8, HB8⟩
                case measure => simp [intOf]; omega
              · clear k1 k6
                go_wp2_with (at_builtin; refine wpList_append_lies _ rfl (.tmp 66) (.tmp 69) 25 rfl wq.heap.size 9 i0 _ 1 16 Tryz.underlying25 hi0 hz0 hz1 hz2 rfl (by decide) u8 jn (((ps.take j).map (showT x)).map sV) rfl (HL6.out.alloc _) ⟨w6.heap.size, 0, none⟩ 1 1 [.string (sB x.code)] rfl rfl (cell_str_new w6 _ _) (by simp [Value.oneCell']) (by omega) (by unfold maxLen; omega) (by omega) (by simp; omega) (w6.heap.size + 1) (by simp) ?_; intro gg cap2 w8 hown8 hgrow hat hlt8)
                have HO8 : Hid (w8.ownsRow wq.heap.size 9 1 (.slice (some ⟨gg, 0, none⟩) (jn + 1) cap2) ((ps.take (j + 1)).map (showT x)).length (((ps.take (j + 1)).map (showT x)).map sV)) := by
                  show World.ownsRow _ _ _ _ _ _ _
                  rw [HSS.out, List.length_append, List.map_append, ← HJN.out]
                  have e : [showT x p].map sV = [.string (sB x.code)] := by
                    show [sV (showT x p)] = _
                    unfold showT sV
                    rw [if_neg (by rw [HKD.out]; decide), if_neg (by rw [HKD.out]; decide), if_pos HKD.out]
                  rw [e]; exact hown8
                have HB8 := hid (grow_below (b0 := wq.heap.size) HB6.out (Nat.le_refl _) hsq HL6.out hgrow)
                clear hown8 hgrow hat hlt8
                go_wp2
                go_roundw
                case rel => exact ⟨j + 1, by omega, by go_num, HO8, HB8⟩
                case measure => simp [intOf]; omega
              · clear k1 k6
                go_wp2_with (at_builtin; refine wpList_append_lies _ rfl (.tmp 73) (.tmp 76) 25 rfl wq.heap.size 9 i0 _ 1 16 Tryz.underlying25 hi0 hz0 hz1 hz2 rfl (by decide) u8 jn (((ps.take j).map (showT x)).map sV) rfl (HL6.out.alloc _) ⟨w6.heap.size, 0, none⟩ 1 1 [.string (sB x.street)] rfl rfl (cell_str_new w6 _ _) (by simp [Value.oneCell']) (by omega) (by unfold maxLen; omega) (by omega) (by simp; omega) (w6.heap.size + 1) (by simp) ?_; intro gg cap2 w8 hown8 hgrow hat hlt8)
                have HO8 : Hid (w8.ownsRow wq.heap.size 9 1 (.slice (some ⟨gg, 0, none⟩) (jn + 1) cap2) ((ps.take (j + 1)).map (showT x)).length (((ps.take (j + 1)).map (showT x)).map sV)) := by
                  show World.ownsRow _ _ _ _ _ _ _
                  rw [HSS.out, List.length_append, List.map_append, ← HJN.out]
                  have e : [showT x p].map sV = [.string (sB x.street)] := by
                    show [sV (showT x p)] = _
                    unfold showT sV
                    rw [if_neg (by rw [HKD.out]; decide), if_neg (by rw [HKD.out]; decide), if_neg (by rw [HKD.out]; decide), if_pos HKD.out]
                  rw [e]; exact hown8
                have HB8 := hid (grow_below (b0 := wq.heap.size) HB6.out (Nat.le_refl _) hsq HL6.out hgrow)
                clear hown8 hgrow hat hlt8
                go_wp2
                go_roundw
                case rel => exact ⟨j + 1, by omega, by go_num, HO8, HB8⟩
                case measure => simp [intOf]; omega
              · clear k1 k6
                go_wp2_with (at_builtin; refine wpList_append_lies _ rfl (.tmp 80) (.tmp 83) 25 rfl wq.heap.size 9 i0 _ 1 16 Tryz.underlying25 hi0 hz0 hz1 hz2 rfl (by decide) u8 jn (((ps.take j).map (showT x)).map sV) rfl (HL6.out.alloc _) ⟨w6.heap.size, 0, none⟩ 1 1 [.string (sB x.town)] rfl rfl (cell_str_new w6 _ _) (by simp [Value.oneCell']) (by omega) (by unfold maxLen; omega) (by omega) (by simp; omega) (w6.heap.size + 1) (by simp) ?_; intro gg cap2 w8 hown8 hgrow hat hlt8)
                have HO8 : Hid (w8.ownsRow wq.heap.size 9 1 (.slice (some ⟨gg, 0, none⟩) (jn + 1) cap2) ((ps.take (j + 1)).map (showT x)).length (((ps.take (j + 1)).map (showT x)).map sV)) := by
                  show World.ownsRow _ _ _ _ _ _ _
                  rw [HSS.out, List.length_append, List.map_append, ← HJN.out]
                  have e : [showT x p].map sV = [.string (sB x.town)] := by
                    show [sV (showT x p)] = _
                    unfold showT sV
                    rw [if_neg (by rw [HKD.out]; decide), if_neg (by rw [HKD.out]; decide), if_neg (by rw [HKD.out]; decide), if_neg (by rw [HKD.out]; decide), if_pos HKD.out]
                  rw [e]; exact hown8
                have HB8 := hid (grow_below (b0 := wq.heap.size) HB6.out (Nat.le_refl _) hsq HL6.out hgrow)
                clear hown8 hgrow hat hlt8
                go_wp2
                go_roundw
                case rel => exact ⟨j + 1, by omega, by go_num, HO8, HB8⟩
                case measure => simp [intOf]; omega
              · clear k1 k6
                go_wp2_with (at_builtin; refine wpList_append_lies _ rfl (.tmp 87) (.tmp 90) 25 rfl wq.heap.size 9 i0 _ 1 16 Tryz.underlying25 hi0 hz0 hz1 hz2 rfl (by decide) u8 jn (((ps.take j).map (showT x)).map sV) rfl (HL6.out.alloc _) ⟨w6.heap.size, 0, none⟩ 1 1 [.string (sB x.person)] rfl rfl (cell_str_new w6 _ _) (by simp [Value.oneCell']) (by omega) (by unfold maxLen; omega) (by omega) (by simp; omega) (w6.heap.size + 1) (by simp) ?_; intro gg cap2 w8 hown8 hgrow hat hlt8)
                have HO8 : Hid (w8.ownsRow wq.heap.size 9 1 (.slice (some ⟨gg, 0, none⟩) (jn + 1) cap2) ((ps.take (j + 1)).map (showT x)).length (((ps.take (j + 1)).map (showT x)).map sV)) := by
                  show World.ownsRow _ _ _ _ _ _ _
                  rw [HSS.out, List.length_append, List.map_append, ← HJN.out]
                  have e : [showT x p].map sV = [.string (sB x.person)] := by
                    show [sV (showT x p)] = _
                    unfold showT sV
                    rw [if_neg (by rw [HKD.out]; decide), if_neg (by rw [HKD.out]; decide), if_neg (by rw [HKD.out]; decide), if_neg (by rw [HKD.out]; decide), if_neg (by rw [HKD.out]; decide)]
                  rw [e]; exact hown8
                have HB8 := hid (grow_below (b0 := wq.heap.size) HB6.out (Nat.le_refl _) hsq HL6.out hgrow)
                clear hown8 hgrow hat hlt8
                go_wp2
                go_roundw
                case rel => exact ⟨j + 1, by omega, by go_num, HO8, HB8⟩
                case measure => simp [intOf]; omega
            · obtain rfl : j = ps.length := by omega
              obtain ⟨tx, htx⟩ : ∃ tx, tx = ps.map (showT x) := ⟨_, rfl⟩
              have htl : tx.length = ps.length := by rw [htx, List.length_map]
              have hjt2 : joinW tx = joinW (lineW x ps) := by rw [htx]; exact HLI.out.1
              have hsum : (tx.map List.length).sum ≤ ps.length * 84 := by rw [htx]; exact HLI.out.2
              have HL2 : Hid (wr.ownsRow wq.heap.size 9 1 u8 tx.length (tx.map sV)) := by have := hl.out; rw [List.take_length, ← htx] at this; exact this
              obtain ⟨lA, lc, hle, -⟩ := SlR.of_own HL2.out
              subst hle
              have CJ := hid (rjoined_any (.slice lA tx.length lc) tx wr (IsW.of_own HL2.out) (by omega) (by omega))
              rw [hjt2] at CJ
              have hsj : (sB (joinW (lineW x ps))).size ≤ 100000 := by
                rw [sB_size, ← hjt2]
                have h1 := join_len tx
                omega
              obtain ⟨s, hs⟩ : ∃ s, s = sB (joinW (lineW x ps)) := ⟨_, rfl⟩
              rw [← hs] at CJ
              have HS := hid hs
              have hol : ((fs.take k).map fun ps => joinW (lineW x ps)).length ≤ 10 := by rw [List.length_map, List.length_take]; omega
              obtain ⟨on, hon⟩ : ∃ n, n = ((fs.take k).map fun ps => joinW (lineW x ps)).length := ⟨_, rfl⟩
              have hsq : w1.heap.size ≤ wr.heap.size := HBW.out.size
              have HOX := hid (own_below hoq.out hQ.out)
              rw [← hon] at HOX hol
              have HON := hid hon
              clear hon
              clear hs hsj hl htx htl hjt2 hsum
              go_wp2_with fail
              refine CJ.out.mono ?_
              rintro e w7 ⟨rfl, rfl⟩
              go_wp2_with (at_builtin; refine wpList_append_lies _ rfl (.tmp 92) (.tmp 95) 25 rfl w1.heap.size 9 i0 _ 1 16 Tryz.underlying25 hi0 hz0 hz1 hz2 rfl (by decide) u6 on (((fs.take k).map fun ps => joinW (lineW x ps)).map sV) rfl (HOX.out.alloc _) ⟨wr.heap.size, 0, none⟩ 1 1 [.string s] rfl rfl (cell_str_new wr _ _) (by simp [Value.oneCell']) (by omega) (by unfold maxLen; omega) (by omega) (by simp; omega) (wr.heap.size + 1) (by simp) ?_; intro gg cap2 w8 hown8 hgrow hat hlt8)
              have HO8 : Hid (w8.ownsRow w1.heap.size 9 1 (.slice (some ⟨gg, 0, none⟩) (on + 1) cap2) ((fs.take (k + 1)).map fun ps => joinW (lineW x ps)).length (((fs.take (k + 1)).map fun ps => joinW (lineW x ps)).map sV)) := by
                show World.ownsRow _ _ _ _ _ _ _
                rw [HOS.out, List.length_append, List.map_append, ← HON.out]
                have e : [joinW (lineW x ps)].map sV = [.string s] := by rw [HS.out]; rfl
                rw [e]; exact hown8
              have HB8 := hid (grow_below (b0 := w1.heap.size) HBW.out (Nat.le_refl _) hsq HOX.out hgrow)
              clear hown8 hgrow hat hlt8
              go_wp2
              go_roundw
              case rel => exact ⟨k + 1, by omega, by go_num, HO8, HB8⟩
              case measure => simp [intOf]; omega
        · obtain rfl : k = fs.length := by omega
          have HO : Hid (wr.ownsRow w1.heap.size 9 1 u6 ls.length (ls.map sV)) := by
            have := ho.out
            rw [List.take_length, ← HLS.out] at this; exact this
          clear ho
          go_wp2
          go_ret2
          exact ⟨_, rfl, IsW.of_own HO.out, bt HB1.out hB.out⟩

end Fm
end Go.Proofs.YtcaiejbnhjiflaaGreatDoor
