/-
  The contract of read: all readings of the words of the lines.
-/
import Derived.Test.YtcaiejbnhjiflaaGreatDoorW10
namespace Go.Proofs.YtcaiejbnhjiflaaGreatDoor
open Go.RowKit Go.ChangeMaps
namespace Fm

theorem div_all {wS w0 : World} {S M : Nat} {F : Int → Nat} {bs bd bf bl : Nat} {fs : List (List Pt)} {ls : List (List W)} {fv lv : Value} (E : Env wS w0 S M F bs bd bf bl fs ls fv lv) (r : List Ln) (ps : List Pt) : DivC wS w0 S M bs bd bf bl fs ls ps r :=
  rdG_ind (P := fun ps r => DivC wS w0 S M bs bd bf bl fs ls ps r) (div_end E) (fun l r h => div_line E l r h) (fun p ps r h => div_part E p ps r h) r ps
theorem ownsRow_le' {w : World} {base base' size n : Nat} {e : TypeId} {v : Value} {xs : List Value} (h : w.ownsRow base e size v n xs) (hb : base' ≤ base) : w.ownsRow base' e size v n xs := by
  refine ⟨h.1, ?_⟩
  rcases h.2 with h0 | ⟨g, cap, cur, hv, hB, rest⟩
  · exact .inl h0
  · exact .inr ⟨g, cap, cur, hv, Nat.le_trans hb hB, rest⟩

/-- What read has done. -/
def ReadPost (S M : Nat) (rs : List Ad) (w : World) (e : Ending) (w' : World) : Prop :=
  e = .returned (.tuple #[]) ∧ ∃ rv a', SB w' S M rv a' ∧ w'.ownsRow w.heap.size 27 5 rv rs.length (encAs rs) ∧ Kept w.heap.size S w w'

set_option maxRecDepth 100000 in
set_option maxHeartbeats 16000000 in
theorem read_any (fs : List (List Pt)) (ls : List (List W)) (fv lv : Value) (S M : Nat) (F : Int → Nat) (wS w : World) (hb : Below wS.heap.size wS w) (hle : wS.heap.size ≤ S) (hk : Kinds wS M F allK) (hf : IsPs wS fv fs) (hl : IsWs wS lv ls)
    (hn : fs.length = ls.length) (h1 : 1 ≤ fs.length) (h8 : fs.length ≤ 8) (hok : ∀ p ∈ fs.flatten, partB p = true) (hp8 : ∀ ps ∈ fs, ps.length ≤ 8) (hw40 : ∀ ws ∈ ls, ws.length ≤ 40) (hlen : (rdA (fs.zip ls) ad0).length ≤ 1000)
    (hs : SB w S M (.slice none 0 0) ad0) :
    Calls Tryz.prog 31 #[.pointer (some ⟨S, 0, none⟩), fv, lv] w (ReadPost S M (rdA (fs.zip ls) ad0) w) := by
  obtain ⟨fA, fcap, fvs, hfv, hfS, hfE⟩ := id hf
  obtain ⟨lA, lcap, lvs, hlv, hlS, hlE⟩ := id hl
  subst hfv hlv
  have z1 : fs[0]? = some fs[0] := List.getElem?_eq_getElem (by omega)
  have z2 : ls[0]? = some ls[0] := List.getElem?_eq_getElem (by omega)
  obtain ⟨ps, hps⟩ : ∃ ps, ps = fs[0] := ⟨_, rfl⟩
  obtain ⟨ws, hws⟩ : ∃ ws, ws = ls[0] := ⟨_, rfl⟩
  rw [← hps] at z1
  rw [← hws] at z2
  clear hps hws
  obtain ⟨u1, hu1, pA, pcap, rfl, hRp⟩ := hfE 0 ps z1
  obtain ⟨u2, hu2, wA, wcap, rfl, hRw⟩ := hlE 0 ws z2
  obtain ⟨w0, hw0⟩ : ∃ w0, w0 = (((w.alloc (.cells #[.pointer (some ⟨S, 0, none⟩)] 81)).alloc (.cells #[.slice fA fs.length fcap] 22)).alloc (.cells #[.slice lA ls.length lcap] 54)).alloc (.cells #[.func (.func 62) #[] #[.pointer (some ⟨w.heap.size, 0, none⟩), .pointer (some ⟨w.heap.size + 1 + 1 + 1, 0, none⟩), .pointer (some ⟨w.heap.size + 1, 0, none⟩), .pointer (some ⟨w.heap.size + 1 + 1, 0, none⟩)]] 82) := ⟨_, rfl⟩
  have hsz : w0.heap.size = w.heap.size + 1 + 1 + 1 + 1 := by rw [hw0]; simp
  have hbw : Below w.heap.size w w0 := by rw [hw0]; exact (((b0 w _).alloc (by simp) _).alloc (by simp; omega) _).alloc (by simp; omega) _
  have x0 : w0.heap[w.heap.size]? = some (.cells #[.pointer (some ⟨S, 0, none⟩)] 81 (0, 0)) := by
    rw [hw0, Below.heap_alloc _ _ _ (by first | (simp; done) | (simp; omega)), Below.heap_alloc _ _ _ (by first | (simp; done) | (simp; omega)), Below.heap_alloc _ _ _ (by first | (simp; done) | (simp; omega))]; exact heap_new _ _
  have x1 : w0.heap[w.heap.size + 1]? = some (.cells #[.slice fA fs.length fcap] 22 (0, 0)) := by
    rw [hw0, Below.heap_alloc _ _ _ (by first | (simp; done) | (simp; omega)), Below.heap_alloc _ _ _ (by first | (simp; done) | (simp; omega))]
    have := heap_new (w.alloc (.cells #[.pointer (some ⟨S, 0, none⟩)] 81)) (.cells #[.slice fA fs.length fcap] 22)
    simpa using this
  have x2 : w0.heap[w.heap.size + 1 + 1]? = some (.cells #[.slice lA ls.length lcap] 54 (0, 0)) := by
    rw [hw0, Below.heap_alloc _ _ _ (by simp)]
    have := heap_new ((w.alloc (.cells #[.pointer (some ⟨S, 0, none⟩)] 81)).alloc (.cells #[.slice fA fs.length fcap] 22)) (.cells #[.slice lA ls.length lcap] 54)
    simpa using this
  have x3 : w0.heap[w.heap.size + 1 + 1 + 1]? = some (.cells #[.func (.func 62) #[] #[.pointer (some ⟨w.heap.size, 0, none⟩), .pointer (some ⟨w.heap.size + 1 + 1 + 1, 0, none⟩), .pointer (some ⟨w.heap.size + 1, 0, none⟩), .pointer (some ⟨w.heap.size + 1 + 1, 0, none⟩)]] 82 (0, 0)) := by
    have := heap_new (((w.alloc (.cells #[.pointer (some ⟨S, 0, none⟩)] 81)).alloc (.cells #[.slice fA fs.length fcap] 22)).alloc (.cells #[.slice lA ls.length lcap] 54)) (.cells #[.func (.func 62) #[] #[.pointer (some ⟨w.heap.size, 0, none⟩), .pointer (some ⟨w.heap.size + 1 + 1 + 1, 0, none⟩), .pointer (some ⟨w.heap.size + 1, 0, none⟩), .pointer (some ⟨w.heap.size + 1 + 1, 0, none⟩)]] 82)
    rw [hw0]
    simpa using this
  have hlS' := hs.lt
  have E : Env wS w0 S M F w.heap.size (w.heap.size + 1 + 1 + 1) (w.heap.size + 1) (w.heap.size + 1 + 1) fs ls (.slice fA fs.length fcap) (.slice lA ls.length lcap) :=
    { hb := bt hb hbw, le := hle, lt := by omega, k := hk, f := hf, l := hl, n := hn, n8 := h8, ok := hok, p8 := hp8, w40 := hw40, xs := x0, xd := x3, xf := x1, xl := x2, ns := ⟨by omega, by omega, by omega, by omega⟩ }
  have hst : St w0 S M (.slice none 0 0) ad0 [] w0 := ⟨.refl _ _ _, hs.on hbw, World.ownsRow_nil _ _ _ _⟩
  have hzip : fs.zip ls = (ps, ws) :: (fs.zip ls).drop 1 := by
    have h0 : (fs.zip ls)[0]? = some (ps, ws) := by rw [List.getElem?_zip_eq_some]; exact ⟨z1, z2⟩
    obtain ⟨hi, he⟩ := List.getElem?_eq_some_iff.1 h0
    conv => lhs; rw [← List.drop_zero (l := fs.zip ls), List.drop_eq_getElem_cons hi, he]
  have hrd : rdA (fs.zip ls) ad0 = rdG ps ad0 ws ((fs.zip ls).drop (0 + 1)) := by
    rw [hzip, rdA_cons]; rfl
  have C := div_all E ((fs.zip ls).drop (0 + 1)) ps 0 ws wA pA wcap pcap (.slice none 0 0) ad0 [] w0.drew (by omega) rfl (hw40 _ (List.mem_of_getElem? z2)) (hp8 _ (List.mem_of_getElem? z1)) (fun p hp => hok p (List.mem_flatten.2 ⟨ps, List.mem_of_getElem? z1, hp⟩)) (by rw [← hrd]; simpa using hlen) hRp hRw hst.drew
  have HRD := hid hrd
  rw [show ((0 : Nat) : Int) = 0 from rfl] at C
  have HC := hid C
  have hbr := bt hb hbw
  obtain ⟨g1, o1, rfl, hg1, hc1⟩ := (hfS.on hbr).at hu1
  obtain ⟨g2, o2, rfl, hg2, hc2⟩ := (hlS.on hbr).at hu2
  rw [Nat.add_zero] at hc1 hc2
  have c0 : w0.cell? ⟨w.heap.size + 1 + 1 + 1, 0, none⟩ = some (.func (.func 62) #[] #[.pointer (some ⟨w.heap.size, 0, none⟩), .pointer (some ⟨w.heap.size + 1 + 1 + 1, 0, none⟩), .pointer (some ⟨w.heap.size + 1, 0, none⟩), .pointer (some ⟨w.heap.size + 1 + 1, 0, none⟩)]) := by simp [World.cell?, x3]
  have c1 : w0.cell? ⟨w.heap.size + 1, 0, none⟩ = some (.slice (some ⟨g1, o1, none⟩) fs.length fcap) := by simp [World.cell?, x1]
  have c2 : w0.cell? ⟨w.heap.size + 1 + 1, 0, none⟩ = some (.slice (some ⟨g2, o2, none⟩) ls.length lcap) := by simp [World.cell?, x2]
  have i1 : 0 < fs.length := by omega
  have i2 : 0 < ls.length := by omega
  have i1' : (0 : Int) < (fs.length : Int) := by omega
  have i2' : (0 : Int) < (ls.length : Int) := by omega
  have HBW := hid hbw
  have HSZ := hid hsz
  clear E hst hrd hzip C hbr hu1 hu2 hfS hfE hlS hlE hf hl hs hk hb x0 x1 x2 x3 hok hp8 hw40 hlen hn hbw hsz z1 z2 hRp hRw hg1 hg2 hlS' hle h8 h1
  go_enter Tryz.func31, Tryz.ntmps31
  go_wp2_with fail
  rw [← hw0]
  clear hw0
  go_still_tail 7, (by kernel_rfl)
  change wpList _ _ _ _ _ w0.drew
  go_wp2_with fail
  refine HC.out.mono ?_
  rintro e w2 ⟨rfl, rv, a', hst, -⟩
  rw [List.nil_append, ← HRD.out] at hst
  have HST := hid hst
  clear hst
  go_wp2
  refine bodyPost_ret (results_none rfl _ _ _) rfl ?_
  have := HSZ.out
  exact ⟨rfl, rv, a', HST.out.sb, ownsRow_le' HST.out.own (by omega), (Kept.of HBW.out).trans (HST.out.kept.mono (by omega))⟩

end Fm
end Go.Proofs.YtcaiejbnhjiflaaGreatDoor
