/-
  The contract of the reference's Insert: a text put into a sorted list, in new memory.
-/
import Derived.Test.YtbgniplhlnipoaaDoorRef2
import Derived.Deep.RegionLaw
import Derived.Sort.OwnSorted
namespace Go.Proofs.YtbgniplhlnipoaaDoor
open Go.RowKit Go.Sort
namespace Id1

theorem infoStr' : (Tryd.prog.info? 9).map (fun i => (i.zero, i.size, i.bytes)) = some (some (.string ⟨#[]⟩), 1, 16) := by kernel_rfl

/-- append to a row that the call owns, as one step of a region that draws its order. -/
theorem step_append_own {P : Program} {ops : Array Oper} {o : Oper} {a : Act} {w : World} {K : Act → World → Prop} {Q : Exit → Act → World → Prop} {E : Prop}
    (hg : o.guard = none) (s x : Operand) (t : TypeId) (hop : o.op = Op.call { callee := Callee.builtin Builtin.append, args := #[s, x], argTypes := #[t, t] })
    (base : Nat) (e : TypeId) (i : TypeInfo) (z : Value) (size bytes : Nat) (h1 : P.underlying t = some (.slice e)) (h2 : P.info? e = some i) (h3 : i.zero = some z) (h4 : i.size = size) (h5 : i.bytes = bytes) (h6 : z.cells.size = size) (h7 : 0 < size)
    (v : Value) (k : Nat) (xs : List Value) (hs : a.eval s = v) (hown : w.ownsRow base e size v k xs) (ad : Addr) (m c : Nat) (news : List Value) (hx : a.eval x = .slice (some ad) m c) (hn : news.length = m * size)
    (hc : ∀ j u, news[j]? = some u → w.cell? (ad.add j) = some u) (h1c : ∀ u ∈ news, u.oneCell' = true) (b1 : k + m ≤ maxLen) (b2 : (k + m) * bytes ≤ 140737488355328) (b3 : base ≤ w.heap.size)
    (hK : ∀ v' w', w'.ownsRow base e size v' (k + m) (xs ++ news) → w.grownBy w' v.ownBlock → (v' = .slice none 0 0 ↔ v = .slice none 0 0 ∧ m = 0) → K (a.put o.dst v') w') :
    if Region.wanted o (yielded ops a.tmps) = true then Oper.wp P o a w K Q else E := by
  have hw : Region.wanted o (yielded ops a.tmps) = true := by simp [Region.wanted, hg]
  rw [if_pos hw]
  obtain ⟨v', w', hrun, r1, r2, r3⟩ := run_append_own (P := P) w base t o.type e i z size bytes h1 h2 h3 h4 h5 h6 h7 v k xs hown ad m c news hn hc h1c b1 b2 b3
  unfold Oper.wp
  simp [execOp, hop, resolve, invoke, builtin, hs, hx, hrun, Result.andThen]
  exact hK v' w' r1 r2 r3

theorem add_at (b o j : Nat) : (⟨b, o, none⟩ : Addr).add j = ⟨b, o + j, none⟩ := by
  unfold Addr.add
  split
  · rename_i h; rw [h]; rfl
  · rfl
theorem add_block (a : Addr) (j : Nat) : (a.add j).block = a.block := by
  unfold Addr.add; split <;> rfl
theorem encStr_str (s : ByteArray) : encStr s.data.toList = .string s := by
  unfold encStr; congr
theorem enc_one (l : List (List UInt8)) : ∀ u ∈ l.map encStr, u.oneCell' = true := fun u hu => by
  obtain ⟨x, _, rfl⟩ := List.mem_map.1 hu; rfl
theorem cell_one {w : World} {b : Nat} {v : Value} (h : w.cell? ⟨b, 0, none⟩ = some v) : ∀ j u, [v][j]? = some u → w.cell? ((⟨b, 0, none⟩ : Addr).add j) = some u := fun j u hu => by
  cases j with
  | zero => simp at hu; subst hu; rw [add_at]; exact h
  | succ j => simp at hu
theorem own_empty (w : World) (B N : Nat) (hB : B ≤ N) (hN : N = w.heap.size) (e : TypeId) : (w.alloc (.cells #[] e)).ownsRow B e 1 (.slice (some ⟨N, 0, none⟩) 0 0) 0 [] :=
  ⟨rfl, .inr ⟨N, 0, #[], rfl, hB, by subst hN; show (w.heap.push (.cells #[] e))[w.heap.size]? = _; simp, Nat.le_refl _, Nat.zero_le _, rfl, rfl⟩⟩

/-- A text put before the first one that is not less. -/
def insB (l : List (List UInt8)) (s : List UInt8) : List (List UInt8) := l.takeWhile (fun x => decide (x < s)) ++ s :: l.dropWhile (fun x => decide (x < s))
theorem insB_at (l : List (List UInt8)) (s : List UInt8) (k : Nat) (hk : k ≤ l.length) (h1 : ∀ j (h : j < l.length), j < k → l[j] < s) (h2 : ∀ h : k < l.length, ¬ l[k] < s) : insB l s = l.take k ++ s :: l.drop k := by
  induction l generalizing k with
  | nil => simp [insB]
  | cons a l ih =>
    cases k with
    | zero =>
      have := h2 (by simp)
      simp only [List.getElem_cons_zero] at this
      simp [insB, this]
    | succ k =>
      have h0 := h1 0 (by simp) (by omega)
      simp only [List.getElem_cons_zero] at h0
      have := ih k (by simpa using hk) (fun j h hj => by have := h1 (j + 1) (by simpa using h) (by omega); simpa using this) (fun h => by have := h2 (by simpa using h); simpa using this)
      unfold insB at this ⊢
      simp [h0, this]
theorem insB_len (l : List (List UInt8)) (s : List UInt8) : (insB l s).length = l.length + 1 := by
  have := congrArg List.length (List.takeWhile_append_dropWhile (p := fun x => decide (x < s)) (l := l))
  unfold insB
  rw [List.length_append] at this ⊢
  simp only [List.length_cons]
  omega

set_option maxRecDepth 100000 in
set_option maxHeartbeats 4000000 in
theorem rinsert_any (v : Value) (xs : List (List UInt8)) (s : ByteArray) (w : World) (B : Nat) (hown : w.ownsRow B 9 1 v xs.length (xs.map encStr)) (hnn : v ≠ .slice none 0 0) (hlen : xs.length ≤ 200) :
    Calls Tryd.prog 37 #[v, .string s] w fun e w' => ∃ v', e = .returned v' ∧ v' ≠ .slice none 0 0 ∧ w'.ownsRow w.heap.size 9 1 v' (insB xs s.data.toList).length ((insB xs s.data.toList).map encStr) ∧ Below w.heap.size w w' := by
  obtain ⟨i0, hi, hz0, hz1, hz2⟩ := info_parts infoStr'
  rcases hown.2 with ⟨h0, -⟩ | ⟨g, cap, cur, rfl, hbase, hb, h1, h2, h3, h4⟩
  · exact absurd h0 hnn
  have hgl := (Array.getElem?_eq_some_iff.1 hb).1
  have hcell : ∀ j (h : j < xs.length), w.cell? ⟨g, j, none⟩ = some (.string ⟨(xs[j]).toArray⟩) := fun j h => by
    rw [hown.cellAt j (by omega)]; simp [h, encStr]
  have hcells : ∀ j u, (xs.map encStr)[j]? = some u → w.cell? ⟨g, j, none⟩ = some u := fun j u hu => by
    have hj : j < xs.length := by have := (List.getElem?_eq_some_iff.1 hu).1; simpa using this
    rw [hown.cellAt j (by omega)]; exact hu
  have HC := hid hcell
  have HCS := hid hcells
  have H4 := hid h4
  have hcap : xs.length ≤ cap := h1
  have hcapm := h2
  unfold maxLen at hcapm
  clear hown hnn hb h3 h4 hcell hcells h1 h2
  go_enter Tryd.func37, Tryd.ntmps37
  go_wp2
  go_loop [5] (fun i => ∃ k : Nat, k ≤ xs.length ∧ i = .int .i64 k ∧ Hid (∀ j (h : j < xs.length), j < k → xs[j] < s.data.toList)) (fun i => xs.length - (intOf i).toNat)
  case atStart => exact ⟨0, by omega, rfl, fun j _ h => by omega⟩
  case round =>
    obtain ⟨k, hk, rfl, hless⟩ := hrel
    have hkc : k ≤ cap := by omega
    obtain ⟨A, hA, hAc⟩ : ∃ A : Addr, (if cap = k then some (⟨g, 0, none⟩ : Addr) else some ⟨g, k, none⟩) = some A ∧ (A.block = g ∧ ∀ j u, ((xs.drop k).map encStr)[j]? = some u → w.cell? (A.add j) = some u) := by
      by_cases hck : cap = k
      · refine ⟨⟨g, 0, none⟩, by rw [if_pos hck], rfl, fun j u hu => ?_⟩
        have : xs.drop k = [] := List.drop_eq_nil_iff.2 (by omega)
        rw [this] at hu
        simp at hu
      · refine ⟨⟨g, k, none⟩, by rw [if_neg hck], rfl, fun j u hu => ?_⟩
        rw [List.map_drop, List.getElem?_drop] at hu
        rw [add_at]; exact HCS.out (k + j) u hu
    have HAc := hid hAc
    clear hAc
    have HS1 : Hid (∀ W, Below w.heap.size w W → ∀ j u, ((xs.take k).map encStr)[j]? = some u → W.cell? ((⟨g, 0, none⟩ : Addr).add j) = some u) := fun W hW j u hu => by
      rw [List.map_take] at hu
      have hj : j < k := by have := (List.getElem?_eq_some_iff.1 hu).1; rw [List.length_take] at this; omega
      rw [List.getElem?_take_of_lt hj] at hu
      have := HCS.out j u hu
      rw [add_at, Nat.zero_add, hW.cell (p := (⟨g, j, none⟩ : Addr)) hgl]
      exact this
    have HS2 : Hid (∀ W, Below w.heap.size w W → ∀ j u, ((xs.drop k).map encStr)[j]? = some u → W.cell? (A.add j) = some u) := fun W hW j u hu => by
      rw [hW.cell (p := A.add j) (by rw [add_block, HAc.out.1]; exact hgl)]
      exact HAc.out.2 j u hu
    by_cases hlt : k < xs.length
    · have hc := HC.out k hlt
      obtain ⟨xk, hxk⟩ : ∃ xk : ByteArray, xk = ⟨(xs[k]).toArray⟩ := ⟨_, rfl⟩
      rw [← hxk] at hc
      by_cases hl : xs[k] < s.data.toList
      · have hbl : Op.bytesLess xk.toList s.toList = true := by
          rw [bytesLess_eq, Lib.toList_data, Lib.toList_data, hxk]; simpa using hl
        have hnext : Hid (∀ j (h : j < xs.length), j < k + 1 → xs[j] < s.data.toList) := fun j h hj => by
          by_cases e : j = k
          · subst e; exact hl
          · exact hless.out j h (by omega)
        clear hxk hl
        go_wp2
        go_round
        case rel => exact ⟨k + 1, by omega, by go_num, hnext⟩
        case measure => simp [intOf]; omega
      · have hbl : Op.bytesLess xk.toList s.toList = false := by
          rw [bytesLess_eq, Lib.toList_data, Lib.toList_data, hxk]; simpa using hl
        have HI := hid (insB_at xs s.data.toList k hk hless.out (fun _ => hl))
        clear hxk hl hless
        go_wp2
        have hl1 : ((xs.take k).map encStr).length = k * 1 := by rw [List.length_map, List.length_take]; omega
        have hl2 : ((xs.drop k).map encStr).length = (xs.length - k) * 1 := by rw [List.length_map, List.length_drop]; omega
        have HL1 := hid hl1
        have HL2 := hid hl2
        clear hl1 hl2
        go_region_law (first
          | (refine step_append_own rfl (.tmp 20) (.tmp 23) 30 rfl w.heap.size 9 i0 (.string ⟨#[]⟩) 1 16 Tryd.underlying30 hi hz0 hz1 hz2 rfl (by decide) (.slice (some ⟨w.heap.size, 0, none⟩) 0 0) 0 [] (by simp [Act.eval, Act.put]) ?_ ⟨g, 0, none⟩ k cap ((xs.take k).map encStr) (by simp [Act.eval, Act.put]) HL1.out (HS1.out _ (by go_grown)) (enc_one _) (by unfold maxLen; omega) (by omega) (by first | (simp; done) | (simp; omega)) ?_; exact (own_empty w _ _ (Nat.le_refl _) rfl _).alloc _; intro v1 w1 hown1 hgrow1 hnil1; have hb1 : Below w.heap.size w w1 := Below.grown (by go_grown) hgrow1 (by first | (simp; done) | (simp; omega)) (fun j e => by simp [Value.ownBlock] at e; omega); rw [Nat.zero_add, List.nil_append] at hown1; have hS1 : w1.cell? ⟨w.heap.size + 1, 0, none⟩ = some (.string s) := (World.cell?_of_block (hgrow1.block (w.heap.size + 1) (by first | (simp; done) | (simp; omega)) (by simp [Value.ownBlock]))).trans (by simp))
          | (refine step_append_own rfl (.tmp 20) (.tmp 23) 30 rfl w.heap.size 9 i0 (.string ⟨#[]⟩) 1 16 Tryd.underlying30 hi hz0 hz1 hz2 rfl (by decide) (.slice (some ⟨w.heap.size, 0, none⟩) 0 0) 0 [] (by simp [Act.eval, Act.put]) ?_ ⟨g, 0, none⟩ k cap ((xs.take k).map encStr) (by simp [Act.eval, Act.put]) HL1.out (HS1.out _ (by go_grown)) (enc_one _) (by unfold maxLen; omega) (by omega) (by first | (simp; done) | (simp; omega)) ?_; exact own_empty w _ _ (Nat.le_refl _) rfl _; intro v1 w1 hown1 hgrow1 hnil1; have hb1 : Below w.heap.size w w1 := Below.grown (by go_grown) hgrow1 (by first | (simp; done) | (simp; omega)) (fun j e => by simp [Value.ownBlock] at e; omega); rw [Nat.zero_add, List.nil_append] at hown1)
          | (refine step_append_own rfl (.tmp 20) (.tmp 23) 30 rfl w.heap.size 9 i0 (.string ⟨#[]⟩) 1 16 Tryd.underlying30 hi hz0 hz1 hz2 rfl (by decide) (.slice (some ⟨w.heap.size + 1, 0, none⟩) 0 0) 0 [] (by simp [Act.eval, Act.put]) ?_ ⟨g, 0, none⟩ k cap ((xs.take k).map encStr) (by simp [Act.eval, Act.put]) HL1.out (HS1.out _ (by go_grown)) (enc_one _) (by unfold maxLen; omega) (by omega) (by first | (simp; done) | (simp; omega)) ?_; exact own_empty (w.alloc _) _ _ (by omega) (by simp) _; intro v1 w1 hown1 hgrow1 hnil1; have hb1 : Below w.heap.size w w1 := Below.grown (by go_grown) hgrow1 (by first | (simp; done) | (simp; omega)) (fun j e => by simp [Value.ownBlock] at e; omega); rw [Nat.zero_add, List.nil_append] at hown1; have hS1 : w1.cell? ⟨w.heap.size, 0, none⟩ = some (.string s) := (World.cell?_of_block (hgrow1.block (w.heap.size) (by first | (simp; done) | (simp; omega)) (by simp [Value.ownBlock]))).trans (by simp))
          | (refine step_append_own rfl (.tmp 24) (.tmp 26) 30 rfl w.heap.size 9 i0 (.string ⟨#[]⟩) 1 16 Tryd.underlying30 hi hz0 hz1 hz2 rfl (by decide) v1 k ((xs.take k).map encStr) (by simp [Act.eval, Act.put]) ?_ ⟨w1.heap.size, 0, none⟩ 1 1 [.string s] (by simp [Act.eval, Act.put]) rfl ?_ (by simp [Value.oneCell']) (by unfold maxLen; omega) (by omega) (by have := hb1.size; first | (simp; done) | (simp; omega)) ?_; exact hown1.alloc _; exact cell_one_new _ _ _; intro v2 w2 hown2 hgrow2 hnil2; have hb2 : Below w.heap.size w w2 := Below.grown (by first | exact hb1 | exact hb1.alloc hb1.size _) hgrow2 (by have := hb1.size; first | (simp; done) | (simp; omega)) (fun j e => (hown1.lt j e).1))
          | (refine step_append_own rfl (.tmp 24) (.tmp 26) 30 rfl w.heap.size 9 i0 (.string ⟨#[]⟩) 1 16 Tryd.underlying30 hi hz0 hz1 hz2 rfl (by decide) v1 k ((xs.take k).map encStr) (by simp [Act.eval, Act.put]) ?_ ⟨w.heap.size + 1, 0, none⟩ 1 1 [.string s] (by simp [Act.eval, Act.put]) rfl ?_ (by simp [Value.oneCell']) (by unfold maxLen; omega) (by omega) (by have := hb1.size; first | (simp; done) | (simp; omega)) ?_; exact hown1; exact cell_one hS1; intro v2 w2 hown2 hgrow2 hnil2; have hb2 : Below w.heap.size w w2 := Below.grown (by first | exact hb1 | exact hb1.alloc hb1.size _) hgrow2 (by have := hb1.size; first | (simp; done) | (simp; omega)) (fun j e => (hown1.lt j e).1))
          | (refine step_append_own rfl (.tmp 24) (.tmp 26) 30 rfl w.heap.size 9 i0 (.string ⟨#[]⟩) 1 16 Tryd.underlying30 hi hz0 hz1 hz2 rfl (by decide) v1 k ((xs.take k).map encStr) (by simp [Act.eval, Act.put]) ?_ ⟨w.heap.size, 0, none⟩ 1 1 [.string s] (by simp [Act.eval, Act.put]) rfl ?_ (by simp [Value.oneCell']) (by unfold maxLen; omega) (by omega) (by have := hb1.size; first | (simp; done) | (simp; omega)) ?_; exact hown1; exact cell_one hS1; intro v2 w2 hown2 hgrow2 hnil2; have hb2 : Below w.heap.size w w2 := Below.grown (by first | exact hb1 | exact hb1.alloc hb1.size _) hgrow2 (by have := hb1.size; first | (simp; done) | (simp; omega)) (fun j e => (hown1.lt j e).1))
          | (refine step_append_own rfl (.tmp 27) (.tmp 30) 30 rfl w.heap.size 9 i0 (.string ⟨#[]⟩) 1 16 Tryd.underlying30 hi hz0 hz1 hz2 rfl (by decide) v2 (k + 1) ((xs.take k).map encStr ++ [.string s]) (by simp [Act.eval, Act.put]) hown2 A (xs.length - k) (cap - k) ((xs.drop k).map encStr) (by simp [Act.eval, Act.put]) HL2.out (HS2.out _ hb2) (enc_one _) (by unfold maxLen; omega) (by omega) hb2.size ?_; intro v3 w3 hown3 hgrow3 hnil3; have hb3 : Below w.heap.size w w3 := Below.grown hb2 hgrow3 hb2.size (fun j e => (hown2.lt j e).1)))
        all_goals
          have hnn3 : v3 ≠ .slice none 0 0 := fun e => by
            have e2 := (hnil3.1 e).1
            have e1 := (hnil2.1 e2).2
            omega
          have hfin : w3.ownsRow w.heap.size 9 1 v3 (insB xs s.data.toList).length ((insB xs s.data.toList).map encStr) := by
            rw [HI.out]
            have e1 : (xs.take k ++ s.data.toList :: xs.drop k).length = k + 1 + (xs.length - k) := by
              rw [List.length_append, List.length_take, List.length_cons, List.length_drop]; omega
            have e2 : (xs.take k ++ s.data.toList :: xs.drop k).map encStr = (xs.take k).map encStr ++ [Value.string s] ++ (xs.drop k).map encStr := by
              rw [List.map_append, List.map_cons, encStr_str, List.append_assoc]; rfl
            rw [e1, e2]
            exact hown3
          clear hnil3 hnil2 hnil1 hown1 hown2 hown3 hgrow1 hgrow2 hgrow3
          go_wp2
          go_ret
          exact ⟨v3, rfl, hnn3, hfin, hb3⟩
    · have HI := hid (insB_at xs s.data.toList k hk hless.out (fun h => absurd h hlt))
      clear hless
      go_wp2
      have hl1 : ((xs.take k).map encStr).length = k * 1 := by rw [List.length_map, List.length_take]; omega
      have hl2 : ((xs.drop k).map encStr).length = (xs.length - k) * 1 := by rw [List.length_map, List.length_drop]; omega
      have HL1 := hid hl1
      have HL2 := hid hl2
      clear hl1 hl2
      go_region_law (first
        | (refine step_append_own rfl (.tmp 20) (.tmp 23) 30 rfl w.heap.size 9 i0 (.string ⟨#[]⟩) 1 16 Tryd.underlying30 hi hz0 hz1 hz2 rfl (by decide) (.slice (some ⟨w.heap.size, 0, none⟩) 0 0) 0 [] (by simp [Act.eval, Act.put]) ?_ ⟨g, 0, none⟩ k cap ((xs.take k).map encStr) (by simp [Act.eval, Act.put]) HL1.out (HS1.out _ (by go_grown)) (enc_one _) (by unfold maxLen; omega) (by omega) (by first | (simp; done) | (simp; omega)) ?_; exact (own_empty w _ _ (Nat.le_refl _) rfl _).alloc _; intro v1 w1 hown1 hgrow1 hnil1; have hb1 : Below w.heap.size w w1 := Below.grown (by go_grown) hgrow1 (by first | (simp; done) | (simp; omega)) (fun j e => by simp [Value.ownBlock] at e; omega); rw [Nat.zero_add, List.nil_append] at hown1; have hS1 : w1.cell? ⟨w.heap.size + 1, 0, none⟩ = some (.string s) := (World.cell?_of_block (hgrow1.block (w.heap.size + 1) (by first | (simp; done) | (simp; omega)) (by simp [Value.ownBlock]))).trans (by simp))
        | (refine step_append_own rfl (.tmp 20) (.tmp 23) 30 rfl w.heap.size 9 i0 (.string ⟨#[]⟩) 1 16 Tryd.underlying30 hi hz0 hz1 hz2 rfl (by decide) (.slice (some ⟨w.heap.size, 0, none⟩) 0 0) 0 [] (by simp [Act.eval, Act.put]) ?_ ⟨g, 0, none⟩ k cap ((xs.take k).map encStr) (by simp [Act.eval, Act.put]) HL1.out (HS1.out _ (by go_grown)) (enc_one _) (by unfold maxLen; omega) (by omega) (by first | (simp; done) | (simp; omega)) ?_; exact own_empty w _ _ (Nat.le_refl _) rfl _; intro v1 w1 hown1 hgrow1 hnil1; have hb1 : Below w.heap.size w w1 := Below.grown (by go_grown) hgrow1 (by first | (simp; done) | (simp; omega)) (fun j e => by simp [Value.ownBlock] at e; omega); rw [Nat.zero_add, List.nil_append] at hown1)
        | (refine step_append_own rfl (.tmp 20) (.tmp 23) 30 rfl w.heap.size 9 i0 (.string ⟨#[]⟩) 1 16 Tryd.underlying30 hi hz0 hz1 hz2 rfl (by decide) (.slice (some ⟨w.heap.size + 1, 0, none⟩) 0 0) 0 [] (by simp [Act.eval, Act.put]) ?_ ⟨g, 0, none⟩ k cap ((xs.take k).map encStr) (by simp [Act.eval, Act.put]) HL1.out (HS1.out _ (by go_grown)) (enc_one _) (by unfold maxLen; omega) (by omega) (by first | (simp; done) | (simp; omega)) ?_; exact own_empty (w.alloc _) _ _ (by omega) (by simp) _; intro v1 w1 hown1 hgrow1 hnil1; have hb1 : Below w.heap.size w w1 := Below.grown (by go_grown) hgrow1 (by first | (simp; done) | (simp; omega)) (fun j e => by simp [Value.ownBlock] at e; omega); rw [Nat.zero_add, List.nil_append] at hown1; have hS1 : w1.cell? ⟨w.heap.size, 0, none⟩ = some (.string s) := (World.cell?_of_block (hgrow1.block (w.heap.size) (by first | (simp; done) | (simp; omega)) (by simp [Value.ownBlock]))).trans (by simp))
        | (refine step_append_own rfl (.tmp 24) (.tmp 26) 30 rfl w.heap.size 9 i0 (.string ⟨#[]⟩) 1 16 Tryd.underlying30 hi hz0 hz1 hz2 rfl (by decide) v1 k ((xs.take k).map encStr) (by simp [Act.eval, Act.put]) ?_ ⟨w1.heap.size, 0, none⟩ 1 1 [.string s] (by simp [Act.eval, Act.put]) rfl ?_ (by simp [Value.oneCell']) (by unfold maxLen; omega) (by omega) (by have := hb1.size; first | (simp; done) | (simp; omega)) ?_; exact hown1.alloc _; exact cell_one_new _ _ _; intro v2 w2 hown2 hgrow2 hnil2; have hb2 : Below w.heap.size w w2 := Below.grown (by first | exact hb1 | exact hb1.alloc hb1.size _) hgrow2 (by have := hb1.size; first | (simp; done) | (simp; omega)) (fun j e => (hown1.lt j e).1))
        | (refine step_append_own rfl (.tmp 24) (.tmp 26) 30 rfl w.heap.size 9 i0 (.string ⟨#[]⟩) 1 16 Tryd.underlying30 hi hz0 hz1 hz2 rfl (by decide) v1 k ((xs.take k).map encStr) (by simp [Act.eval, Act.put]) ?_ ⟨w.heap.size + 1, 0, none⟩ 1 1 [.string s] (by simp [Act.eval, Act.put]) rfl ?_ (by simp [Value.oneCell']) (by unfold maxLen; omega) (by omega) (by have := hb1.size; first | (simp; done) | (simp; omega)) ?_; exact hown1; exact cell_one hS1; intro v2 w2 hown2 hgrow2 hnil2; have hb2 : Below w.heap.size w w2 := Below.grown (by first | exact hb1 | exact hb1.alloc hb1.size _) hgrow2 (by have := hb1.size; first | (simp; done) | (simp; omega)) (fun j e => (hown1.lt j e).1))
        | (refine step_append_own rfl (.tmp 24) (.tmp 26) 30 rfl w.heap.size 9 i0 (.string ⟨#[]⟩) 1 16 Tryd.underlying30 hi hz0 hz1 hz2 rfl (by decide) v1 k ((xs.take k).map encStr) (by simp [Act.eval, Act.put]) ?_ ⟨w.heap.size, 0, none⟩ 1 1 [.string s] (by simp [Act.eval, Act.put]) rfl ?_ (by simp [Value.oneCell']) (by unfold maxLen; omega) (by omega) (by have := hb1.size; first | (simp; done) | (simp; omega)) ?_; exact hown1; exact cell_one hS1; intro v2 w2 hown2 hgrow2 hnil2; have hb2 : Below w.heap.size w w2 := Below.grown (by first | exact hb1 | exact hb1.alloc hb1.size _) hgrow2 (by have := hb1.size; first | (simp; done) | (simp; omega)) (fun j e => (hown1.lt j e).1))
        | (refine step_append_own rfl (.tmp 27) (.tmp 30) 30 rfl w.heap.size 9 i0 (.string ⟨#[]⟩) 1 16 Tryd.underlying30 hi hz0 hz1 hz2 rfl (by decide) v2 (k + 1) ((xs.take k).map encStr ++ [.string s]) (by simp [Act.eval, Act.put]) hown2 A (xs.length - k) (cap - k) ((xs.drop k).map encStr) (by simp [Act.eval, Act.put]) HL2.out (HS2.out _ hb2) (enc_one _) (by unfold maxLen; omega) (by omega) hb2.size ?_; intro v3 w3 hown3 hgrow3 hnil3; have hb3 : Below w.heap.size w w3 := Below.grown hb2 hgrow3 hb2.size (fun j e => (hown2.lt j e).1)))
      all_goals
        have hnn3 : v3 ≠ .slice none 0 0 := fun e => by
          have e2 := (hnil3.1 e).1
          have e1 := (hnil2.1 e2).2
          omega
        have hfin : w3.ownsRow w.heap.size 9 1 v3 (insB xs s.data.toList).length ((insB xs s.data.toList).map encStr) := by
          rw [HI.out]
          have e1 : (xs.take k ++ s.data.toList :: xs.drop k).length = k + 1 + (xs.length - k) := by
            rw [List.length_append, List.length_take, List.length_cons, List.length_drop]; omega
          have e2 : (xs.take k ++ s.data.toList :: xs.drop k).map encStr = (xs.take k).map encStr ++ [Value.string s] ++ (xs.drop k).map encStr := by
            rw [List.map_append, List.map_cons, encStr_str, List.append_assoc]; rfl
          rw [e1, e2]
          exact hown3
        clear hnil3 hnil2 hnil1 hown1 hown2 hown3 hgrow1 hgrow2 hgrow3
        go_wp2
        go_ret
        exact ⟨v3, rfl, hnn3, hfin, hb3⟩

end Id1
end Go.Proofs.YtbgniplhlnipoaaDoor
