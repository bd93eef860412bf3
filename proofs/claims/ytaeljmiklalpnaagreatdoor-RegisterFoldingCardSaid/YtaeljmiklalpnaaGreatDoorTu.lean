/-
  The law's own turned: a text with some small letters made capital ones folds like the text.
-/
import Derived.Test.YtaeljmiklalpnaaGreatDoorL2
import Derived.Laws.IdiomStrings
namespace Go.Proofs.YtaeljmiklalpnaaGreatDoor
open Go.RowKit Go.ChangeMaps Gn
namespace Rg

/-- The bytes of a block of the call's own. -/
structure ByteRow (w : World) (B n : Nat) (ys : W) : Prop where
  len : ys.length = n
  cell : ∀ (j : Nat) (y : UInt8), ys[j]? = some y → w.cell? ⟨B, j, none⟩ = some (.int .u8 (y.toNat : Int))
  free : ∀ j, j < n → w.frozen? ⟨B, j, none⟩ = false
theorem ByteRow.put {w : World} {B n : Nat} {ys : W} (h : ByteRow w B n ys) {k : Nat} (hk : k < n) (y : UInt8) : ByteRow (w.setCell ⟨B, k, none⟩ (.int .u8 (y.toNat : Int))) B n (ys.set k y) := by
  have hl := h.len
  refine ⟨by rw [List.length_set]; exact h.len, fun j z hz => ?_, fun j hj => by rw [World.frozen?_setCell]; exact h.free j hj⟩
  by_cases e : j = k
  · subst e
    rw [List.getElem?_set_self (by omega)] at hz
    cases hz
    have h0 : ys[j]? = some ys[j] := List.getElem?_eq_getElem (by omega)
    exact World.cell?_setCell_same _ _ _ (h.cell j _ h0)
  · rw [List.getElem?_set_ne (fun q => e q.symm)] at hz
    refine (World.cell?_setCell_other _ _ _ _ (by intro q; cases q; exact e rfl)).trans ?_
    exact h.cell j z hz
theorem byte_row (w : World) (s : ByteArray) (cap : Nat) (T : TypeId) (hc : s.size ≤ cap) : ByteRow (w.drew.alloc (.cells (bytesRow s cap) T ((bytesRow s cap).size, (bytesRow s cap).size + 1))) w.heap.size s.size s.data.toList := by
  have hsz : w.drew.heap.size = w.heap.size := rfl
  refine ⟨by simp, fun j y hj => ?_, fun j hj => ?_⟩
  · rw [← hsz, World.cell?_alloc_mark]
    have hjl := (List.getElem?_eq_some_iff.1 hj).1
    rw [bytesRow_at s cap j (by simpa using hjl)]
    have := (List.getElem?_eq_some_iff.1 hj).2
    rw [← this]
    simp
  · rw [← hsz, World.frozen?_alloc_mark]
    have : (bytesRow s cap).size = cap := by simp [bytesRow]; omega
    rw [this]
    simp
    omega
theorem low_turn {b : UInt8} (h1 : 97 ≤ b.toNat) (h2 : b.toNat ≤ 122) : lowB (b - 32) = lowB b ∧ ((b - 32).toNat : Int) = (b.toNat : Int) - 32 := by
  have e : (b - 32).toNat = b.toNat - 32 := by
    rw [UInt8.toNat_sub_of_le _ _ (by rw [UInt8.le_iff_toNat_le]; show 32 ≤ b.toNat; omega)]
    rfl
  refine ⟨?_, by rw [e]; omega⟩
  unfold lowB
  rw [e, if_pos ⟨by omega, by omega⟩, if_neg (by omega)]
  apply UInt8.toNat_inj.1
  rw [UInt8.toNat_add, e]
  show (b.toNat - 32 + 32) % 256 = b.toNat
  have := b.toNat_lt
  omega
theorem fold_set {l : W} {k : Nat} {b y : UInt8} (hb : l[k]? = some b) (h : lowB y = lowB b) : foldW (l.set k y) = foldW l := by
  unfold foldW
  apply List.ext_getElem?
  intro i
  rw [List.getElem?_map, List.getElem?_map]
  by_cases e : i = k
  · subst e
    rw [List.getElem?_set_self (List.getElem?_eq_some_iff.1 hb).1, hb]
    simp [h]
  · rw [List.getElem?_set_ne (fun q => e q.symm)]
set_option maxRecDepth 100000 in
set_option maxHeartbeats 4000000 in
theorem turned_any : TurnedOk := by
  intro x bits w hz0 hz1 hx
  obtain ⟨ts, hts⟩ : ∃ t, t = sB x := ⟨_, rfl⟩
  rw [← hts]
  obtain ⟨cap, hcap⟩ : ∃ c, c = grownCap w ts.size 0 5 := ⟨_, rfl⟩
  have kc := run_bytes_of_string (P := Tryz.prog) w 9 65 5 ts Tryz.underlying9 Tryz.underlying65 Tryz.underlying5
  rw [← hcap] at kc
  have hge : ts.size ≤ cap := by rw [hcap]; exact grownCap_ge w _ _ _
  obtain ⟨w1, hw1⟩ : ∃ u, u = w.drew.alloc (.cells (bytesRow ts cap) 5 ((bytesRow ts cap).size, (bytesRow ts cap).size + 1)) := ⟨_, rfl⟩
  rw [← hw1] at kc
  have hrow : ByteRow w1 w.heap.size ts.size ts.data.toList := by rw [hw1]; exact byte_row w ts cap _ hge
  have hb1 : Below w.heap.size w w1 := by rw [hw1]; exact (Below.refl _ _).drew.alloc (Nat.le_refl _) _
  have HROW := hid hrow
  have HB1 := hid hb1
  have HTS := hid hts
  have hn : ts.size ≤ 100 := by rw [hts, sB_size]; exact hx
  obtain ⟨n, hnn⟩ : ∃ n, n = ts.size := ⟨_, rfl⟩
  rw [← hnn] at kc hn HROW
  have HN := hid hnn
  clear hw1 hrow hb1 hts hnn hcap hge
  go_enter Tryz.func19, Tryz.ntmps19
  go_wp2_with fail
  go_loopw [1, 6] (fun s1 s6 wr => ∃ (k : Nat) (z : Int) (ys : W), s6 = .int .i64 (k : Int) ∧ s1 = .int .u32 z ∧ k ≤ n ∧ 0 ≤ z ∧ z ≤ 4294967295 ∧ Hid (ByteRow wr w.heap.size n ys) ∧ Hid (foldW ys = foldW x) ∧ Hid (Below w.heap.size w wr)) (fun _ s6 _ => n - (intOf s6).toNat)
  case atStart => exact ⟨0, bits, ts.data.toList, rfl, rfl, Nat.zero_le _, hz0, hz1, HROW, by show _ = _; rw [HTS.out, sB_list], HB1⟩
  case round =>
    obtain ⟨k, z, ys, rfl, rfl, hk, hzz0, hzz1, hR, hF, hB⟩ := hrel
    have hk0 : 0 ≤ (k : Int) := by omega
    by_cases hlt : k < n
    · obtain ⟨b, hb⟩ : ∃ b, ys[k]? = some b := ⟨_, List.getElem?_eq_getElem (by have := hR.out.len; omega)⟩
      have c0 := hR.out.cell k b hb
      have f0 := hR.out.free k hlt
      have hkn : (k : Int) < (n : Int) := by omega
      have hbl := b.toNat_lt
      obtain ⟨x8, hx8⟩ : ∃ v : Int, v = (b.toNat : Int) := ⟨_, rfl⟩
      rw [← hx8] at c0
      have hx0 : 0 ≤ x8 := by omega
      have hx1 : x8 ≤ 255 := by omega
      have HB := hid hb
      have HX8 := hid hx8
      clear hb hx8 hbl
      by_cases h97 : x8 ≥ 97
      · have g1 : decide (x8 ≥ 97) = true := decide_eq_true h97
        by_cases h122 : x8 ≤ 122
        · have g2 : decide (x8 ≤ 122) = true := decide_eq_true h122
          have hm2 : z % 2 = 0 ∨ z % 2 = 1 := by omega
          rcases hm2 with hm2 | hm2
          · go_wp2_with fail
            go_roundw
            case rel => exact ⟨k + 1, z / 2, ys, by go_num, by first | rfl | go_num, by omega, by omega, by omega, hR, hF, hB⟩
            case measure => simp [intOf]; omega
          · obtain ⟨t1, t2⟩ := low_turn (b := b) (by have := HX8.out; omega) (by have := HX8.out; omega)
            rw [← HX8.out] at t2
            have HRN := hid (hR.out.put hlt (b - 32))
            rw [t2] at HRN
            have HFN : Hid (foldW (ys.set k (b - 32)) = foldW x) := (fold_set HB.out t1).trans hF.out
            clear t1 t2
            have hsub : IntKind.u8.wrap (x8 - 32) = x8 - 32 := by rw [IntWalk.u8_in _ (by omega)]
            go_wp2_with fail
            go_roundw
            case rel => exact ⟨k + 1, z / 2 + 2147483648, ys.set k (b - 32), by go_num, by first | rfl | go_num, by omega, by omega, by omega, HRN, HFN, hB.out.setCell (Nat.le_refl _) _⟩
            case measure => simp [intOf]; omega
        · have g2 : decide (x8 ≤ 122) = false := decide_eq_false h122
          go_wp2_with fail
          go_roundw
          case rel => exact ⟨k + 1, z / 2 + z % 2 * 2147483648, ys, by go_num, rfl, by omega, by omega, by omega, hR, hF, hB⟩
          case measure => simp [intOf]; omega
      · have g1 : decide (x8 ≥ 97) = false := decide_eq_false h97
        go_wp2_with fail
        go_roundw
        case rel => exact ⟨k + 1, z / 2 + z % 2 * 2147483648, ys, by go_num, rfl, by omega, by omega, by omega, hR, hF, hB⟩
        case measure => simp [intOf]; omega
    · obtain rfl : n = k := by omega
      have hlen : ys.length = n := hR.out.len
      have kb := run_convert_bytes_back (P := Tryz.prog) wr 65 9 5 ⟨w.heap.size, 0, none⟩ cap ys Tryz.underlying65 Tryz.underlying5 Tryz.underlying9 (fun j hj => by rw [addr_add, Nat.zero_add]; exact hR.out.cell j _ (List.getElem?_eq_getElem hj))
      rw [hlen] at kb
      have HL := hid hlen
      clear hlen
      go_wp2
      go_ret
      exact ⟨ys, rfl, (eqW_iff _ _).2 hF.out.symm, by rw [HL.out, HN.out, HTS.out, sB_size], hB.out⟩

end Rg
end Go.Proofs.YtaeljmiklalpnaaGreatDoor
