/-
  The contract of the closure that divides words among parts.
-/
import Derived.Test.YtcaiejbnhjiflaaGreatDoorW8
import Derived.Deep.AppendLies
import Derived.Deep.RegionLaw
import Derived.StillTailTactics
namespace Go.Proofs.YtcaiejbnhjiflaaGreatDoor
open Go.RowKit Go.ChangeMaps
namespace Fm

theorem takes_any (p : Pt) (hp : partB p = true) (ws : List W) (A : Option Addr) (cap S M : Nat) (F : Int → Nat) (rv : Value) (a : Ad) (w : World) (hl : ws.length ≤ 4096) (hW : RdW w A ws cap) (hS : SB w S M rv a) (hK : Kinds w M F allK) :
    Calls Tryz.prog 33 #[.pointer (some ⟨S, 0, none⟩), .agg #[.int .i64 p.k, .string (sB p.t)], .slice A ws.length cap] w (TakePost p.k ws (canB p ws) S M rv a w) := by
  obtain ⟨k, t⟩ := p
  obtain ⟨h1, h6, -⟩ := wfp hp
  simp only at h1 h6 ⊢
  rcases (show k = 1 ∨ k = 2 ∨ k = 3 ∨ k = 4 ∨ k = 5 ∨ k = 6 by omega) with rfl | rfl | rfl | rfl | rfl | rfl
  · exact takes1_any t hp ws A cap S M F rv a w hl hW hS hK
  · exact takes2_any t hp ws A cap S M F rv a w hl hW hS hK
  · exact takes3_any t hp ws A cap S M F rv a w hl hW hS hK
  · exact takes4_any t hp ws A cap S M F rv a w hl hW hS hK
  · exact takes5_any t hp ws A cap S M F rv a w hl hW hS hK
  · exact takes6_any t hp ws A cap S M F rv a w hl hW hS hK

def encA (a : Ad) : List Value := [.string (sB a.person), .string (sB a.street), .int .i64 a.number, .string (sB a.code), .string (sB a.town)]
def encAs (rs : List Ad) : List Value := rs.flatMap encA
theorem encAs_snoc (rs : List Ad) (a : Ad) : encAs (rs ++ [a]) = encAs rs ++ encA a := by unfold encAs; rw [List.flatMap_append]; simp
theorem infoAd : (Tryz.prog.info? 27).map (fun i => (i.zero, i.size, i.bytes)) = some (some (.agg #[.string ⟨#[]⟩, .string ⟨#[]⟩, .int .i64 0, .string ⟨#[]⟩, .string ⟨#[]⟩]), 5, 72) := by kernel_rfl

/-- What stays during a search. wS: before the search was made; w0: when the first line is begun. -/
structure Env (wS w0 : World) (S M : Nat) (F : Int → Nat) (bs bd bf bl : Nat) (fs : List (List Pt)) (ls : List (List W)) (fv lv : Value) : Prop where
  hb : Below wS.heap.size wS w0
  le : wS.heap.size ≤ S
  lt : S < w0.heap.size
  k : Kinds wS M F allK
  f : IsPs wS fv fs
  l : IsWs wS lv ls
  n : fs.length = ls.length
  n8 : fs.length ≤ 8
  ok : ∀ p ∈ fs.flatten, partB p = true
  p8 : ∀ ps ∈ fs, ps.length ≤ 8
  w40 : ∀ ws ∈ ls, ws.length ≤ 40
  xs : w0.heap[bs]? = some (.cells #[.pointer (some ⟨S, 0, none⟩)] 81 (0, 0))
  xd : w0.heap[bd]? = some (.cells #[.func (.func 62) #[] #[.pointer (some ⟨bs, 0, none⟩), .pointer (some ⟨bd, 0, none⟩), .pointer (some ⟨bf, 0, none⟩), .pointer (some ⟨bl, 0, none⟩)]] 82 (0, 0))
  xf : w0.heap[bf]? = some (.cells #[fv] 22 (0, 0))
  xl : w0.heap[bl]? = some (.cells #[lv] 54 (0, 0))
  ns : bs ≠ S ∧ bd ≠ S ∧ bf ≠ S ∧ bl ≠ S
/-- Where a search stands. -/
structure St (w0 : World) (S M : Nat) (rv : Value) (a : Ad) (rs : List Ad) (w : World) : Prop where
  kept : Kept w0.heap.size S w0 w
  sb : SB w S M rv a
  own : w.ownsRow w0.heap.size 27 5 rv rs.length (encAs rs)
theorem St.drew {w0 : World} {S M : Nat} {rv : Value} {a : Ad} {rs : List Ad} {w : World} (h : St w0 S M rv a rs w) : St w0 S M rv a rs w.drew := ⟨h.kept.drewN 1, h.sb, h.own⟩
section
variable {wS w0 w : World} {S M : Nat} {F : Int → Nat} {bs bd bf bl : Nat} {fs : List (List Pt)} {ls : List (List W)} {fv lv rv : Value} {a : Ad} {rs : List Ad}
theorem Env.on (E : Env wS w0 S M F bs bd bf bl fs ls fv lv) (h : St w0 S M rv a rs w) : Below wS.heap.size wS w := E.hb.trans (h.kept.below E.le E.hb.size)
theorem Env.box {b : Nat} {v : Value} {t : TypeId} (_E : Env wS w0 S M F bs bd bf bl fs ls fv lv) (h : St w0 S M rv a rs w) (hx : w0.heap[b]? = some (.cells #[v] t (0, 0))) (hn : b ≠ S) : w.cell? ⟨b, 0, none⟩ = some v := by
  have := (h.kept.block b (heap_lt hx) hn).trans hx
  simp [World.cell?, this]
end
theorem SB.setR {w : World} {S M : Nat} {rv : Value} {a : Ad} (h : SB w S M rv a) (u : Value) : SB (w.setCell ⟨S, 6, none⟩ u) S M u a := by
  have := heap_setCell_same w S 6 _ _ u h
  unfold SB
  simpa using this
theorem box_set {w : World} {bs S o : Nat} {u v : Value} (h : w.cell? ⟨bs, 0, none⟩ = some v) (hn : bs ≠ S) : (w.setCell ⟨S, o, none⟩ u).cell? ⟨bs, 0, none⟩ = some v := by
  rw [World.cell?_setCell_other w ⟨S, o, none⟩ ⟨bs, 0, none⟩ u (fun e => hn (by cases e; rfl))]; exact h
theorem St.grown {w0 w w1 : World} {S M : Nat} {rv : Value} {a : Ad} {rs : List Ad} {o : Obj} (h : St w0 S M rv a rs w) (hlt : S < w0.heap.size) (hg : (w.alloc o).drew.grownBy w1 rv.ownBlock) :
    Kept w0.heap.size S w0 w1 ∧ SB w1 S M rv a ∧ ∀ b, b < w0.heap.size → w1.heap[b]? = w.heap[b]? := by
  have hsz := h.kept.size
  have key : ∀ b, b < w0.heap.size → w1.heap[b]? = w.heap[b]? := fun b hb => by
    rw [hg.block b (by show b < (w.alloc o).heap.size; simp; omega) (fun e => by have := (h.own.lt b e.symm).1; omega)]
    exact Below.heap_alloc w o b (by omega)
  refine ⟨⟨?_, ?_, ?_, ?_, fun b hb hs => (key b hb).trans (h.kept.block b hb hs)⟩, (key S hlt).trans h.sb, key⟩
  · exact hg.os.trans h.kept.os
  · exact hg.tape.trans h.kept.tape
  · exact hg.output.trans h.kept.output
  · have h1 := hg.size
    have h2 : (w.alloc o).drew.heap.size = w.heap.size + 1 := by show (w.alloc o).heap.size = _; simp
    omega
theorem St.push {w0 w1 : World} {S M : Nat} {rv : Value} {a : Ad} {rs : List Ad} {v : Value} (hk : Kept w0.heap.size S w0 w1) (hs : SB w1 S M rv a) (hlt : S < w0.heap.size) (ho : w1.ownsRow w0.heap.size 27 5 v (rs.length + 1) (encAs rs ++ encA a)) : St w0 S M v a (rs ++ [a]) (w1.setCell ⟨S, 6, none⟩ v) :=
  ⟨hk.set 6 v, hs.setR v, by
    rw [List.length_append, encAs_snoc]
    exact ownsRow_setCell_below ho (a := ⟨S, 6, none⟩) hlt v⟩
/-- What a call of the closure has done. -/
def DivPost (w0 : World) (S M : Nat) (ps : List Pt) (ws : List W) (r : List Ln) (a : Ad) (rs : List Ad) (e : Ending) (w' : World) : Prop :=
  e = .returned (.tuple #[]) ∧ ∃ rv' a', St w0 S M rv' a' (rs ++ rdG ps a ws r) w' ∧ Off (kinG ps r) a a'
/-- The contract of the closure, for the parts and lines that are left. -/
def DivC (wS w0 : World) (S M : Nat) (bs bd bf bl : Nat) (fs : List (List Pt)) (ls : List (List W)) (ps : List Pt) (r : List Ln) : Prop :=
  ∀ (line : Nat) (ws : List W) (A A' : Option Addr) (cap cap' : Nat) (rv : Value) (a : Ad) (rs : List Ad) (w : World), line < fs.length → r = (fs.zip ls).drop (line + 1) → ws.length ≤ 40 → ps.length ≤ 8 → (∀ p ∈ ps, partB p = true) → rs.length + (rdG ps a ws r).length ≤ 1000 →
    RdP wS A' ps cap' → RdW wS A ws cap → St w0 S M rv a rs w →
    Calls Tryz.prog 62 #[.int .i64 line, .slice A' ps.length cap', .slice A ws.length cap, .pointer (some ⟨bs, 0, none⟩), .pointer (some ⟨bd, 0, none⟩), .pointer (some ⟨bf, 0, none⟩), .pointer (some ⟨bl, 0, none⟩)] w (DivPost w0 S M ps ws r a rs)

set_option maxRecDepth 100000 in
set_option maxHeartbeats 16000000 in
theorem div_end {wS w0 : World} {S M : Nat} {F : Int → Nat} {bs bd bf bl : Nat} {fs : List (List Pt)} {ls : List (List W)} {fv lv : Value} (E : Env wS w0 S M F bs bd bf bl fs ls fv lv) : DivC wS w0 S M bs bd bf bl fs ls [] [] := by
  intro line ws A A' cap cap' rv a rs w hline hr hws hps hpt hlen hP hW hSt
  have HE := hid E
  have HS := hid hSt
  have hll : fs.length ≤ line + 1 := by
    have := congrArg List.length hr
    rw [List.length_drop, List.length_zip, ← E.n] at this
    simp at this; omega
  obtain ⟨fA, fcap, fvs, hfv, -, -⟩ := E.f
  subst hfv
  by_cases h0 : ws.length = 0
  · have hw0 : ws = [] := List.length_eq_zero_iff.1 h0
    subst hw0
    have cs := E.box hSt E.xs E.ns.1
    have cf := E.box hSt E.xf E.ns.2.2.1
    have d1 : decide ((line : Int) + 1 < (fs.length : Int)) = false := decide_eq_false (by omega)
    have n8 := E.n8
    have wr := IntWalk.i64_in ((line : Int) + 1) (by omega)
    obtain ⟨c0, c1, c2, c3, c4, -, c6⟩ := hSt.sb.cell
    have f6 := hSt.sb.free 6
    have hown := hSt.own
    have hw0w : w0.heap.size ≤ w.heap.size := hSt.kept.size
    obtain ⟨i0, hi0, hz0, hz1, hz2⟩ := info_parts infoAd
    have hn1 : rs.length + 1 ≤ 1000 := by
      have : rdG [] a [] [] = [a] := by rw [rdG_nil, if_pos rfl]; rfl
      rw [this] at hlen; exact hlen
    have HBS : Hid (bs < w0.heap.size) := heap_lt E.xs
    have HBS2 := hid E.ns.1
    have c6a := (SB.on hSt.sb (b0 w (.cells #[.string (sB a.person), .string (sB a.street), .int .i64 a.number, .string (sB a.code), .string (sB a.town)] 27))).cell.2.2.2.2.2.2
    have HSA := hid (SB.on hSt.sb ((b0 w (.cells #[.string (sB a.person), .string (sB a.street), .int .i64 a.number, .string (sB a.code), .string (sB a.town)] 27)).drew))
    have csa := (World.cell?_alloc_lt w (.cells #[.string (sB a.person), .string (sB a.street), .int .i64 a.number, .string (sB a.code), .string (sB a.town)] 27) ⟨bs, 0, none⟩ (Nat.lt_of_lt_of_le HBS.out hSt.kept.size)).trans cs
    clear E hSt hP hW hpt hr
    go_enter Tryz.func62, Tryz.ntmps62
    go_wp2_with fail
    refine wp_region_held_drew (S := fun w' => w'.cell? ⟨bs, 0, none⟩ = some (.pointer (some ⟨S, 0, none⟩)) ∧ w'.cell? ⟨S, 0, none⟩ = some (.string (sB a.person)) ∧ w'.cell? ⟨S, 1, none⟩ = some (.string (sB a.street)) ∧ w'.cell? ⟨S, 2, none⟩ = some (.int .i64 a.number) ∧ w'.cell? ⟨S, 3, none⟩ = some (.string (sB a.code)) ∧ w'.cell? ⟨S, 4, none⟩ = some (.string (sB a.town))) (by kernel_rfl) ⟨cs, c0, c1, c2, c3, c4⟩ (fun hHeld => ?_)
    refine wpAnyH_take (i := 0) (oi := ⟨some 11, _, _, _, _, _⟩) (v := .pointer (some ⟨S, 0, none⟩)) rfl (by kernel_rfl) (by kernel_rfl) (by kernel_rfl) (fun _ _ _ h => h) (Or.inl ⟨by rfl, ?_⟩) hHeld ?_
    · intro u hu
      go_simp
    try simp only [Act.put, List.setIfInBounds_toArray, List.set_cons_zero, List.set_cons_succ]
    refine wpAnyH_take (i := 1) (oi := ⟨some 12, _, _, _, _, _⟩) (v := .pointer (some ⟨S, 0, none⟩)) rfl (by kernel_rfl) (by kernel_rfl) (by kernel_rfl) (fun _ _ _ h => h) (Or.inl ⟨by rfl, ?_⟩) hHeld ?_
    · intro u hu
      go_simp
    try simp only [Act.put, List.setIfInBounds_toArray, List.set_cons_zero, List.set_cons_succ]
    refine wpAnyH_take (i := 2) (oi := ⟨some 13, _, _, _, _, _⟩) (v := .pointer (some ⟨S, 0, none⟩)) rfl (by kernel_rfl) (by kernel_rfl) (by kernel_rfl) (fun _ _ _ h => h) (Or.inl ⟨by rfl, ?_⟩) hHeld ?_
    · intro u hu
      go_simp
    try simp only [Act.put, List.setIfInBounds_toArray, List.set_cons_zero, List.set_cons_succ]
    refine wpAnyH_take (i := 3) (oi := ⟨some 14, _, _, _, _, _⟩) (v := .pointer (some ⟨S, 6, none⟩)) rfl (by kernel_rfl) (by kernel_rfl) (by kernel_rfl) (fun _ _ _ h => h) (Or.inl ⟨by rfl, ?_⟩) hHeld ?_
    · intro u hu
      go_simp
    try simp only [Act.put, List.setIfInBounds_toArray, List.set_cons_zero, List.set_cons_succ]
    refine wpAnyH_take (i := 5) (oi := ⟨some 16, _, _, _, _, _⟩) (v := .pointer (some ⟨S, 0, none⟩)) rfl (by kernel_rfl) (by kernel_rfl) (by kernel_rfl) (fun _ _ _ h => h) (Or.inl ⟨by rfl, ?_⟩) hHeld ?_
    · intro u hu
      go_simp
    try simp only [Act.put, List.setIfInBounds_toArray, List.set_cons_zero, List.set_cons_succ]
    refine wpAnyH_take (i := 6) (oi := ⟨some 17, _, _, _, _, _⟩) (v := .pointer (some ⟨S, 0, none⟩)) rfl (by kernel_rfl) (by kernel_rfl) (by kernel_rfl) (fun _ _ _ h => h) (Or.inl ⟨by rfl, ?_⟩) hHeld ?_
    · intro u hu
      go_simp
    try simp only [Act.put, List.setIfInBounds_toArray, List.set_cons_zero, List.set_cons_succ]
    refine wpAnyH_take (i := 7) (oi := ⟨some 18, _, _, _, _, _⟩) (v := .pointer (some ⟨S, 0, none⟩)) rfl (by kernel_rfl) (by kernel_rfl) (by kernel_rfl) (fun _ _ _ h => h) (Or.inl ⟨by rfl, ?_⟩) hHeld ?_
    · intro u hu
      go_simp
    try simp only [Act.put, List.setIfInBounds_toArray, List.set_cons_zero, List.set_cons_succ]
    refine wpAnyH_take (i := 8) (oi := ⟨some 19, _, _, _, _, _⟩) (v := .agg #[.string (sB a.person), .string (sB a.street), .int .i64 a.number, .string (sB a.code), .string (sB a.town)]) rfl (by kernel_rfl) (by kernel_rfl) (by kernel_rfl) (fun _ _ _ h => h) (Or.inl ⟨by rfl, ?_⟩) hHeld ?_
    · intro u hu
      go_simp
    try simp only [Act.put, List.setIfInBounds_toArray, List.set_cons_zero, List.set_cons_succ]
    refine wpAnyH_ready (rs := [4, 9]) (by kernel_rfl) (by simp) ?_
    refine AllReadyH.cons (o := ⟨some 15, _, _, _, _, _⟩) rfl (fun K hK => ?_) ?_
    · skip
      go_simp
      refine hK.out _ _ ⟨cs, c0, c1, c2, c3, c4⟩ (fun hHeld => ?_)
      clear hK K
      try simp only [Act.put, List.setIfInBounds_toArray, List.set_cons_zero, List.set_cons_succ]
      refine wpAnyH_ready (rs := [9]) (by kernel_rfl) (by simp) ?_
      refine AllReadyH.cons (o := ⟨some 20, _, _, _, _, _⟩) rfl (fun K hK => ?_) ?_
      · skip
        go_simp
        refine hK.out _ _ ⟨csa, HSA.out.cell.1, HSA.out.cell.2.1, HSA.out.cell.2.2.1, HSA.out.cell.2.2.2.1, HSA.out.cell.2.2.2.2.1⟩ (fun hHeld => ?_)
        clear hK K
        try simp only [Act.put, List.setIfInBounds_toArray, List.set_cons_zero, List.set_cons_succ]
        refine wpAnyH_ready (rs := [10]) (by kernel_rfl) (by simp) ?_
        refine AllReadyH.cons (o := ⟨some 21, _, _, _, _, _⟩) rfl (fun K hK => ?_) ?_
        · skip
          (refine step_append_lies _ (by rfl) _ _ _ (by rfl) w0.heap.size 27 i0 _ 5 72 Tryz.underlying30 hi0 hz0 hz1 hz2 rfl (by omega) rv rs.length (encAs rs) (by rfl) ((hown.alloc _).drew) ⟨w.heap.size, 0, none⟩ 1 1 (encA a) (by rfl) (by rfl) (World.news_of_block (cs := #[.string (sB a.person), .string (sB a.street), .int .i64 a.number, .string (sB a.code), .string (sB a.town)]) (t := 27) (fr := (0, 0)) (heap_alloc_new w _)) (by simp [Value.oneCell', encA]) (by omega) (by unfold maxLen; omega) (by omega) (by simp; omega) (w.heap.size + 1) (by simp) ?_; intro gg cap2 w1 hown1 hgrow hat hlt; obtain ⟨hk1, hs1, hb1⟩ := HS.out.grown HE.out.lt hgrow; have HK1 := hid hk1; have HS1 := hid hs1; have c6' := hs1.cell.2.2.2.2.2.2; have f6' := hs1.free 6; have cs' : w1.cell? ⟨bs, 0, none⟩ = some (.pointer (some ⟨S, 0, none⟩)) := (World.cell?_of_block (hb1 bs HBS.out)).trans cs; have HOW := hid hown1; clear hk1 hs1 hb1 hown1 hgrow hat hlt)
          refine hK.out _ _ ⟨cs', HS1.out.cell.1, HS1.out.cell.2.1, HS1.out.cell.2.2.1, HS1.out.cell.2.2.2.1, HS1.out.cell.2.2.2.2.1⟩ (fun hHeld => ?_)
          clear hK K
          try simp only [Act.put, List.setIfInBounds_toArray, List.set_cons_zero, List.set_cons_succ]
          refine wpAnyH_take (i := 11) (oi := ⟨some 22, _, _, _, _, _⟩) (v := .pointer (some ⟨S, 0, none⟩)) rfl (by kernel_rfl) (by kernel_rfl) (by kernel_rfl) (fun _ _ _ h => h) (Or.inl ⟨by rfl, ?_⟩) hHeld ?_
          · intro u hu
            go_simp
          try simp only [Act.put, List.setIfInBounds_toArray, List.set_cons_zero, List.set_cons_succ]
          refine wpAnyH_take (i := 12) (oi := ⟨some 23, _, _, _, _, _⟩) (v := .pointer (some ⟨S, 6, none⟩)) rfl (by kernel_rfl) (by kernel_rfl) (by kernel_rfl) (fun _ _ _ h => h) (Or.inl ⟨by rfl, ?_⟩) hHeld ?_
          · intro u hu
            go_simp
          try simp only [Act.put, List.setIfInBounds_toArray, List.set_cons_zero, List.set_cons_succ]
          refine wpAnyH_ready (rs := [13]) (by kernel_rfl) (by simp) ?_
          refine AllReadyH.cons (o := ⟨none, _, _, _, _, _⟩) rfl (fun K hK => ?_) ?_
          · skip
            go_simp
            refine hK.out _ _ ⟨box_set cs' HBS2.out, (HS1.out.setR _).cell.1, (HS1.out.setR _).cell.2.1, (HS1.out.setR _).cell.2.2.1, (HS1.out.setR _).cell.2.2.2.1, (HS1.out.setR _).cell.2.2.2.2.1⟩ (fun hHeld => ?_)
            clear hK K
            try simp only [Act.put, List.setIfInBounds_toArray, List.set_cons_zero, List.set_cons_succ]
            refine wpAnyH_done (by kernel_rfl) ?_ _
            clear hHeld
            go_wp2
            refine bodyPost_ret (results_none rfl _ _ _) rfl ?_
            refine ⟨rfl, .slice (some ⟨gg, 0, none⟩) (rs.length + 1) cap2, a, ?_, .refl _ _⟩
            rw [show rdG [] a [] [] = [a] by rw [rdG_nil, if_pos rfl]; rfl]
            exact St.push HK1.out HS1.out HE.out.lt HOW.out
          · exact AllReadyH.nil
        · exact AllReadyH.nil
      · exact AllReadyH.nil
    · skip
      refine AllReadyH.cons (o := ⟨some 20, _, _, _, _, _⟩) rfl (fun K hK => ?_) ?_
      · skip
        go_simp
        refine hK.out _ _ ⟨csa, HSA.out.cell.1, HSA.out.cell.2.1, HSA.out.cell.2.2.1, HSA.out.cell.2.2.2.1, HSA.out.cell.2.2.2.2.1⟩ (fun hHeld => ?_)
        clear hK K
        try simp only [Act.put, List.setIfInBounds_toArray, List.set_cons_zero, List.set_cons_succ]
        refine wpAnyH_ready (rs := [4]) (by kernel_rfl) (by simp) ?_
        refine AllReadyH.cons (o := ⟨some 15, _, _, _, _, _⟩) rfl (fun K hK => ?_) ?_
        · skip
          go_simp
          refine hK.out _ _ ⟨csa, HSA.out.cell.1, HSA.out.cell.2.1, HSA.out.cell.2.2.1, HSA.out.cell.2.2.2.1, HSA.out.cell.2.2.2.2.1⟩ (fun hHeld => ?_)
          clear hK K
          try simp only [Act.put, List.setIfInBounds_toArray, List.set_cons_zero, List.set_cons_succ]
          refine wpAnyH_ready (rs := [10]) (by kernel_rfl) (by simp) ?_
          refine AllReadyH.cons (o := ⟨some 21, _, _, _, _, _⟩) rfl (fun K hK => ?_) ?_
          · skip
            (refine step_append_lies _ (by rfl) _ _ _ (by rfl) w0.heap.size 27 i0 _ 5 72 Tryz.underlying30 hi0 hz0 hz1 hz2 rfl (by omega) rv rs.length (encAs rs) (by rfl) ((hown.alloc _).drew) ⟨w.heap.size, 0, none⟩ 1 1 (encA a) (by rfl) (by rfl) (World.news_of_block (cs := #[.string (sB a.person), .string (sB a.street), .int .i64 a.number, .string (sB a.code), .string (sB a.town)]) (t := 27) (fr := (0, 0)) (heap_alloc_new w _)) (by simp [Value.oneCell', encA]) (by omega) (by unfold maxLen; omega) (by omega) (by simp; omega) (w.heap.size + 1) (by simp) ?_; intro gg cap2 w1 hown1 hgrow hat hlt; obtain ⟨hk1, hs1, hb1⟩ := HS.out.grown HE.out.lt hgrow; have HK1 := hid hk1; have HS1 := hid hs1; have c6' := hs1.cell.2.2.2.2.2.2; have f6' := hs1.free 6; have cs' : w1.cell? ⟨bs, 0, none⟩ = some (.pointer (some ⟨S, 0, none⟩)) := (World.cell?_of_block (hb1 bs HBS.out)).trans cs; have HOW := hid hown1; clear hk1 hs1 hb1 hown1 hgrow hat hlt)
            refine hK.out _ _ ⟨cs', HS1.out.cell.1, HS1.out.cell.2.1, HS1.out.cell.2.2.1, HS1.out.cell.2.2.2.1, HS1.out.cell.2.2.2.2.1⟩ (fun hHeld => ?_)
            clear hK K
            try simp only [Act.put, List.setIfInBounds_toArray, List.set_cons_zero, List.set_cons_succ]
            refine wpAnyH_take (i := 11) (oi := ⟨some 22, _, _, _, _, _⟩) (v := .pointer (some ⟨S, 0, none⟩)) rfl (by kernel_rfl) (by kernel_rfl) (by kernel_rfl) (fun _ _ _ h => h) (Or.inl ⟨by rfl, ?_⟩) hHeld ?_
            · intro u hu
              go_simp
            try simp only [Act.put, List.setIfInBounds_toArray, List.set_cons_zero, List.set_cons_succ]
            refine wpAnyH_take (i := 12) (oi := ⟨some 23, _, _, _, _, _⟩) (v := .pointer (some ⟨S, 6, none⟩)) rfl (by kernel_rfl) (by kernel_rfl) (by kernel_rfl) (fun _ _ _ h => h) (Or.inl ⟨by rfl, ?_⟩) hHeld ?_
            · intro u hu
              go_simp
            try simp only [Act.put, List.setIfInBounds_toArray, List.set_cons_zero, List.set_cons_succ]
            refine wpAnyH_ready (rs := [13]) (by kernel_rfl) (by simp) ?_
            refine AllReadyH.cons (o := ⟨none, _, _, _, _, _⟩) rfl (fun K hK => ?_) ?_
            · skip
              go_simp
              refine hK.out _ _ ⟨box_set cs' HBS2.out, (HS1.out.setR _).cell.1, (HS1.out.setR _).cell.2.1, (HS1.out.setR _).cell.2.2.1, (HS1.out.setR _).cell.2.2.2.1, (HS1.out.setR _).cell.2.2.2.2.1⟩ (fun hHeld => ?_)
              clear hK K
              try simp only [Act.put, List.setIfInBounds_toArray, List.set_cons_zero, List.set_cons_succ]
              refine wpAnyH_done (by kernel_rfl) ?_ _
              clear hHeld
              go_wp2
              refine bodyPost_ret (results_none rfl _ _ _) rfl ?_
              refine ⟨rfl, .slice (some ⟨gg, 0, none⟩) (rs.length + 1) cap2, a, ?_, .refl _ _⟩
              rw [show rdG [] a [] [] = [a] by rw [rdG_nil, if_pos rfl]; rfl]
              exact St.push HK1.out HS1.out HE.out.lt HOW.out
            · exact AllReadyH.nil
          · exact AllReadyH.nil
        · exact AllReadyH.nil
      · exact AllReadyH.nil
  · have d0 : decide ((0 : Int) < (ws.length : Int)) = true := decide_eq_true (by omega)
    have d0' : decide (0 < ws.length) = true := decide_eq_true (by omega)
    have hv : Hid (rs ++ rdG [] a ws [] = rs) := by
      show _ = _
      rw [rdG_nil, if_neg (fun e => h0 (by rw [e]; rfl)), List.append_nil]
    clear E hSt hP hW hpt hr
    go_enter Tryz.func62, Tryz.ntmps62
    go_wp2
    refine bodyPost_ret (results_none rfl _ _ _) rfl ?_
    exact ⟨rfl, rv, a, by rw [hv.out]; exact HS.out, .refl _ _⟩

theorem zip_at {fs : List (List Pt)} {ls : List (List W)} {l : Ln} {r : List Ln} {i : Nat} (h : l :: r = (fs.zip ls).drop i) : fs[i]? = some l.1 ∧ ls[i]? = some l.2 ∧ r = (fs.zip ls).drop (i + 1) := by
  have h0 : (fs.zip ls)[i]? = some l := by
    have : ((fs.zip ls).drop i)[0]? = some l := by rw [← h]; rfl
    rwa [List.getElem?_drop, Nat.add_zero] at this
  obtain ⟨hi, he⟩ := List.getElem?_eq_some_iff.1 h0
  rw [List.length_zip] at hi
  rw [List.getElem_zip] at he
  refine ⟨?_, ?_, ?_⟩
  · rw [List.getElem?_eq_getElem (by omega), ← he]
  · rw [List.getElem?_eq_getElem (by omega), ← he]
  · have := congrArg (List.drop 1) h
    rw [List.drop_drop, List.drop_succ_cons, List.drop_zero] at this
    exact this

set_option maxRecDepth 100000 in
set_option maxHeartbeats 16000000 in
theorem div_line {wS w0 : World} {S M : Nat} {F : Int → Nat} {bs bd bf bl : Nat} {fs : List (List Pt)} {ls : List (List W)} {fv lv : Value} (E : Env wS w0 S M F bs bd bf bl fs ls fv lv) (l : Ln) (r : List Ln) (ih : DivC wS w0 S M bs bd bf bl fs ls l.1 r) : DivC wS w0 S M bs bd bf bl fs ls [] (l :: r) := by
  intro line ws A A' cap cap' rv a rs w hline hr hws hps hpt hlen hP hW hSt
  have HE := hid E
  have HS := hid hSt
  obtain ⟨fA, fcap, fvs, hfv, hfS, hfE⟩ := E.f
  obtain ⟨lA, lcap, lvs, hlv, hlS, hlE⟩ := E.l
  subst hfv hlv
  by_cases h0 : ws.length = 0
  · have hw0 : ws = [] := List.length_eq_zero_iff.1 h0
    subst hw0
    obtain ⟨z1, z2, z3⟩ := zip_at hr
    have hl1 : line + 1 < fs.length := (List.getElem?_eq_some_iff.1 z1).1
    have hl2 : line + 1 < ls.length := (List.getElem?_eq_some_iff.1 z2).1
    have hb := E.on hSt
    obtain ⟨u1, hu1, pA, pcap, rfl, hRp⟩ := hfE (line + 1) l.1 z1
    obtain ⟨u2, hu2, wA, wcap, rfl, hRw⟩ := hlE (line + 1) l.2 z2
    obtain ⟨g1, o1, rfl, hg1, hc1⟩ := (hfS.on hb).at hu1
    obtain ⟨g2, o2, rfl, hg2, hc2⟩ := (hlS.on hb).at hu2
    have cd := E.box hSt E.xd E.ns.2.1
    have cf := E.box hSt E.xf E.ns.2.2.1
    have cl := E.box hSt E.xl E.ns.2.2.2
    have d1 : decide ((line : Int) + 1 < (fs.length : Int)) = true := decide_eq_true (by omega)
    have n8 := E.n8
    have wr := IntWalk.i64_in ((line : Int) + 1) (by omega)
    have i1 : (0 : Int) ≤ (line : Int) + 1 := by omega
    have i2 : (line : Int) + 1 < (fs.length : Int) := by omega
    have i3 : (line : Int) + 1 < (ls.length : Int) := by omega
    have i4 : ((line : Int) + 1).toNat = line + 1 := by omega
    have hlen2 : rs.length + (rdG l.1 a l.2 r).length ≤ 1000 := by rw [rdG_rest] at hlen; exact hlen
    have C := ih (line + 1) l.2 _ _ _ _ rv a rs w.drew hl1 z3 (E.w40 _ (List.mem_of_getElem? z2)) (E.p8 _ (List.mem_of_getElem? z1)) (fun p hp => E.ok p (List.mem_flatten.2 ⟨l.1, List.mem_of_getElem? z1, hp⟩)) hlen2 hRp hRw hSt.drew
    rw [show ((line + 1 : Nat) : Int) = (line : Int) + 1 by omega] at C
    have HC := hid C
    clear E hSt hP hW hpt hr z1 z2 z3 hu1 hu2 hfS hlS hfE hlE hb C ih hRp hRw hlen2 hg1 hg2
    go_enter Tryz.func62, Tryz.ntmps62
    go_wp2_with fail
    go_still_tail 13, (by kernel_rfl)
    change wpList _ _ _ _ _ w.drew
    go_wp2_with fail
    refine HC.out.mono ?_
    rintro e w2 ⟨rfl, rv2, a2, hst, hoff⟩
    have HST := hid hst
    clear hst
    go_wp2
    refine bodyPost_ret (results_none rfl _ _ _) rfl ?_
    refine ⟨rfl, rv2, a2, ?_, hoff.mono fun k hk => ?_⟩
    · rw [rdG_rest]; exact HST.out
    · rcases hk with hk | ⟨m, hm, hk⟩
      · exact .inr ⟨l, List.mem_cons_self .., hk⟩
      · exact .inr ⟨m, List.mem_cons_of_mem _ hm, hk⟩
  · have d0 : decide ((0 : Int) < (ws.length : Int)) = true := decide_eq_true (by omega)
    have d0' : decide (0 < ws.length) = true := decide_eq_true (by omega)
    have hv : Hid (rs ++ rdG [] a ws (l :: r) = rs) := by
      show _ = _
      rw [rdG_nil, if_neg (fun e => h0 (by rw [e]; rfl)), List.append_nil]
    clear E hSt hP hW hpt hr ih hfS hlS hfE hlE
    go_enter Tryz.func62, Tryz.ntmps62
    go_wp2
    refine bodyPost_ret (results_none rfl _ _ _) rfl ?_
    exact ⟨rfl, rv, a, by rw [hv.out]; exact HS.out, .refl _ _⟩

end Fm
end Go.Proofs.YtcaiejbnhjiflaaGreatDoor
