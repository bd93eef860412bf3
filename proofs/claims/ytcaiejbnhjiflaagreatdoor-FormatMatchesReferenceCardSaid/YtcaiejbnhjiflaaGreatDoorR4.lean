/-
  Contracts of the document's Parts and Few.
-/
import Derived.Test.YtcaiejbnhjiflaaGreatDoorR2
namespace Go.Proofs.YtcaiejbnhjiflaaGreatDoor
open Go.RowKit Go.ChangeMaps
namespace Fm

theorem isPs_at {w : World} {A : Option Addr} {cap : Nat} {fs : List (List Pt)} (h : IsPs w (.slice A fs.length cap) fs) {k : Nat} {ps : List Pt} (hk : fs[k]? = some ps) :
    ∃ g o A' cap', A = some ⟨g, o, none⟩ ∧ g < w.heap.size ∧ w.cell? ⟨g, o + k, none⟩ = some (.slice A' ps.length cap') ∧ RdP w A' ps cap' := by
  obtain ⟨A1, cap1, vs, e, hS, hE⟩ := h
  cases e
  obtain ⟨u, hu, A', cap', rfl, hR⟩ := hE k ps hk
  obtain ⟨g, o, rfl, hg, hc⟩ := hS.at hu
  exact ⟨g, o, A', cap', rfl, hg, hc, hR⟩
theorem flat_snoc {fs : List (List Pt)} {k : Nat} {ps : List Pt} (h : fs[k]? = some ps) : (fs.take (k + 1)).flatten = (fs.take k).flatten ++ ps := by
  rw [List.take_add_one, h, List.flatten_append]; simp
theorem flat_le {fs : List (List Pt)} (h : ∀ ps ∈ fs, ps.length ≤ 10) (k : Nat) : (fs.take k).flatten.length ≤ 10 * k := by
  induction k with
  | zero => simp
  | succ k ih =>
    cases hk : fs[k]? with
    | none => rw [List.take_of_length_le (by rw [List.getElem?_eq_none_iff] at hk; omega)]; rw [List.take_of_length_le (by rw [List.getElem?_eq_none_iff] at hk; omega)] at ih; omega
    | some ps => rw [flat_snoc hk, List.length_append]; have := h ps (List.mem_of_getElem? hk); omega
theorem own_empty2 (w : World) (B N sz : Nat) (hB : B ≤ N) (hN : N = w.heap.size) (e : TypeId) : (w.alloc (.cells #[] e)).ownsRow B e sz (.slice (some ⟨N, 0, none⟩) 0 0) 0 [] := by
  subst hN; exact World.ownsRow_made w #[] 0 hB (Nat.zero_le _) (by simp)
theorem infoPt : (Tryz.prog.info? 49).map (fun i => (i.zero, i.size, i.bytes)) = some (some (.agg #[.int .i64 0, .string ⟨#[]⟩]), 2, 24) := by kernel_rfl
theorem one_parts (ps : List Pt) : ∀ u ∈ ps.flatMap ptV, u.oneCell' = true := by
  intro u hu
  obtain ⟨p, _, hp⟩ := List.mem_flatMap.1 hu
  simp only [ptV, List.mem_cons, List.not_mem_nil, or_false] at hp
  rcases hp with rfl | rfl <;> rfl
theorem addr_add (b o j : Nat) : (⟨b, o, none⟩ : Addr).add j = ⟨b, o + j, none⟩ := by unfold Addr.add; split <;> simp_all
/-- Nothing is appended. -/
theorem run_app_nil {P : Program} {w : World} (t ty e : TypeId) (i : TypeInfo) (ht : P.underlying t = some (.slice e)) (hi : P.info? e = some i) {base size n : Nat} {v : Value} {xs : List Value} (hown : w.ownsRow base e size v n xs) (c : Nat) :
    (Builtin.append_ #[t, t] ty #[v, .slice none 0 c]).run P w = .ok v w := by
  rcases hown.2 with ⟨rfl, rfl⟩ | ⟨g, cap, cur, rfl, _, _, hnc, _⟩
  · simp [Builtin.append_, run_underlying ht, sizeOf, typeInfo, hi, Builtin.lenOf, Builtin.firstCells]
  · simp [Builtin.append_, run_underlying ht, sizeOf, typeInfo, hi, Builtin.lenOf, Builtin.firstCells, hnc, storeCells]
theorem wp_app_nil {P : Program} {w : World} {ops : Array Oper} {rest : List Oper} {o : Oper} {a : Act} {Q : Exit → Act → World → Prop} (hgd : o.guard = none) (s x : Operand) (t : TypeId)
    (ho : o.op = .call { callee := .builtin .append, args := #[s, x], argTypes := #[t, t] }) (e : TypeId) (i : TypeInfo) (ht : P.underlying t = some (.slice e)) (hi : P.info? e = some i)
    (base size n : Nat) (v : Value) (xs : List Value) (hs : a.eval s = v) (hown : w.ownsRow base e size v n xs) (c : Nat) (hx : a.eval x = .slice none 0 c)
    (h : wpList P ops Q rest (a.put o.dst v) w) : wpList P ops Q (o :: rest) a w := by
  refine wpList_plain hgd fun K hK => ?_
  have hrun := run_app_nil (P := P) (w := w) t o.type e i ht hi hown c
  unfold Oper.wp
  simp [execOp, ho, resolve, invoke, builtin, hs, hx, hrun, Result.andThen]
  exact hK _ _ h

def PartsPost (fs : List (List Pt)) (w : World) (e : Ending) (w' : World) : Prop := ∃ v, e = .returned v ∧ Hid (IsP w' v fs.flatten) ∧ Below w.heap.size w w'
set_option maxRecDepth 100000 in
set_option maxHeartbeats 8000000 in
theorem parts_any (name : W) (fs : List (List Pt)) (fv : Value) (w : World) (hF : IsPs w fv fs) (h10 : fs.length ≤ 10) (hp : ∀ ps ∈ fs, ps.length ≤ 10) :
    Calls Tryz.prog 29 #[.agg #[.string (sB name), fv]] w (PartsPost fs w) := by
  obtain ⟨A, cap, fvs, hfv, -⟩ := id hF
  subst hfv
  have HF := hid hF
  have HP := hid hp
  clear hF hp
  obtain ⟨i0, hi0, hz0, hz1, hz2⟩ := info_parts infoPt
  obtain ⟨s, hs⟩ : ∃ s, s = sB name := ⟨_, rfl⟩
  rw [← hs]
  clear hs
  obtain ⟨w1, hw1⟩ : ∃ w1, w1 = w.alloc (.cells #[.string s, .slice A fs.length cap] 24) := ⟨_, rfl⟩
  have hb1 : Below w.heap.size w w1 := by rw [hw1]; exact b0 _ _
  have hsz1 : w.heap.size < w1.heap.size := by rw [hw1]; simp
  have H1 : Hid (w.heap.size + 1 = w1.heap.size) := by show _ = _; rw [hw1]; simp
  have c1 : w1.cell? ⟨w.heap.size, 1, none⟩ = some (.slice A fs.length cap) := by rw [hw1]; simp
  have HB1 := hid hb1
  have HF1 := hid (HF.out.on hb1)
  clear hb1
  go_enter Tryz.func29, Tryz.ntmps29
  go_wp2
  rw [← hw1]
  clear hw1
  go_loopw [3, 4] (fun o i wr => ∃ k : Nat, k ≤ fs.length ∧ i = .int .i64 k ∧ Hid (wr.ownsRow w1.heap.size 49 2 o (fs.take k).flatten.length ((fs.take k).flatten.flatMap ptV)) ∧ Hid (Below w1.heap.size w1 wr)) (fun _ i _ => fs.length - (intOf i).toNat)
  case atStart => exact ⟨0, Nat.zero_le _, rfl, by show World.ownsRow _ _ _ _ _ _ _; exact own_empty2 w1 _ (w.heap.size + 1) 2 (Nat.le_of_eq H1.out.symm) H1.out _, b0 _ _⟩
  case round =>
    obtain ⟨k, hk, rfl, ho, hB⟩ := hrel
    have c1r := (hB.out.cell (p := (⟨w.heap.size, 1, none⟩ : Addr)) hsz1).trans c1
    have hwz := hB.out.size
    have hltr : w.heap.size < wr.heap.size := Nat.lt_of_lt_of_le hsz1 hwz
    by_cases hlt : k < fs.length
    · obtain ⟨ps, hps⟩ : ∃ ps, fs[k]? = some ps := ⟨_, List.getElem?_eq_getElem hlt⟩
      obtain ⟨g, o, A', cap', rfl, hg, hc, hR⟩ := isPs_at (HF1.out.on hB.out) hps
      have hkk : (k : Int) < (fs.length : Int) := by omega
      have hk0 : 0 ≤ (k : Int) := by omega
      have hle := flat_le HP.out k
      have hp10 := HP.out ps (List.mem_of_getElem? hps)
      have hsn := hid (flat_snoc hps)
      have HR := hid hR
      have hfl := flat_len ps
      clear hR hps
      have hfin : ∀ (v' : Value) (w4 : World), w4.ownsRow w1.heap.size 49 2 v' ((fs.take k).flatten.length + ps.length) ((fs.take k).flatten.flatMap ptV ++ ps.flatMap ptV) → Hid (w4.ownsRow w1.heap.size 49 2 v' (fs.take (k + 1)).flatten.length ((fs.take (k + 1)).flatten.flatMap ptV)) := fun v' w4 h => by
        show World.ownsRow _ _ _ _ _ _ _
        rw [hsn.out, List.length_append, List.flatMap_append]; exact h
      have HFIN := hid hfin
      clear hfin hfl
      cases A' with
      | none =>
        have h0 : ps.length = 0 := by
          rcases Nat.eq_zero_or_pos ps.length with h | h
          · exact h
          · obtain ⟨_, _, e, _⟩ := HR.out.2.2 h; cases e
        have hps0 : ps = [] := List.length_eq_zero_iff.1 h0
        subst hps0
        go_wp2_with (at_builtin; refine wp_app_nil rfl (.tmp 13) (.tmp 18) 47 rfl 49 i0 Tryz.underlying47 hi0 _ _ _ u3 _ rfl ho.out cap' rfl ?_)
        go_roundw
        case rel => exact ⟨k + 1, by omega, by go_num, HFIN.out _ _ (by simpa using ho.out), hB⟩
        case measure => simp [intOf]; omega
      | some a' =>
        have hnews : ∀ (j : Nat) u, (ps.flatMap ptV)[j]? = some u → wr.cell? (a'.add j) = some u := by
          intro j u hj
          have hpos : 0 < ps.length := by
            rcases Nat.eq_zero_or_pos ps.length with h | h
            · rw [List.length_eq_zero_iff.1 h] at hj; simp at hj
            · exact h
          obtain ⟨g2, o2, e, _, hcc⟩ := HR.out.2.2 hpos
          cases e
          rw [addr_add]
          exact hcc j u hj
        have HNEWS := hid hnews
        clear hnews
        go_wp2_with (at_builtin; refine wpList_append_own _ rfl (.tmp 13) (.tmp 18) 47 rfl w1.heap.size 49 i0 _ 2 24 Tryz.underlying47 hi0 hz0 hz1 hz2 rfl (by decide) u3 (fs.take k).flatten.length _ rfl ho.out a' ps.length cap' (ps.flatMap ptV) rfl (flat_len ps) HNEWS.out (one_parts ps) (by unfold maxLen; omega) (by omega) hwz ?_; intro v' w4 hown4 hgrow hnil)
        have HO4 := HFIN.out _ _ hown4
        have HB4 := hid (Below.grown hB.out hgrow hwz (fun j e => (ho.out.lt j e).1))
        clear hown4 hgrow hnil
        go_wp2
        go_roundw
        case rel => exact ⟨k + 1, by omega, by go_num, HO4, HB4⟩
        case measure => simp [intOf]; omega
    · obtain rfl : k = fs.length := by omega
      have HO : Hid (wr.ownsRow w1.heap.size 49 2 u3 fs.flatten.length (fs.flatten.flatMap ptV)) := by
        have := ho.out
        rw [List.take_length] at this; exact this
      clear ho
      go_wp2
      go_ret
      obtain ⟨A2, cap2, e2, h2⟩ := SlR.of_own HO.out
      exact ⟨_, rfl, ⟨A2, cap2, e2, h2⟩, bt HB1.out hB.out⟩

end Fm
end Go.Proofs.YtcaiejbnhjiflaaGreatDoor
