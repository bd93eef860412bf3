/-
  The contracts of Valid and Make.
-/
import Derived.Test.YtbgniplhlnipoaaDoorWalk5
namespace Go.Proofs.YtbgniplhlnipoaaDoor
open Go.RowKit
namespace Id1

set_option maxRecDepth 100000 in
set_option maxHeartbeats 1000000 in
theorem valid_any (s : ByteArray) (w : World) (hs : s.size ≤ maxLen) (hw : Wts w) :
    Calls Tryd.prog 16 #[.string s] w fun e w' => e = .returned (.bool (validB s.data.toList)) ∧ Below w.heap.size w w' := by
  have C1 := hid (serial_any s w hs hw)
  have hfin := serE_zero s.data.toList
  obtain ⟨v, hv⟩ : ∃ v, v = serV s.data.toList := ⟨_, rfl⟩
  obtain ⟨e0, he⟩ : ∃ v, v = serE s.data.toList := ⟨_, rfl⟩
  rw [← hv, ← he] at C1
  rw [← he] at hfin
  have HF := hid hfin
  clear hfin hv he hs hw
  go_enter Tryd.func16, Tryd.ntmps16
  go_wp2_with fail
  refine C1.out.mono ?_
  rintro e w1 ⟨rfl, hb1⟩
  go_wp2
  go_ret
  exact ⟨by rw [← HF.out]; rfl, hb1⟩

def mkOk (k : List UInt8) (n : Int) (o : List UInt8) : Bool := lettersB k && decide (0 ≤ n) && decide (n ≤ 99999999) && lettersB o
/-- What Make answers. -/
def mkV (k : List UInt8) (n : Int) (o : List UInt8) : List UInt8 := if mkOk k n o = true then mkL k n.toNat o else []
def mkE (k : List UInt8) (n : Int) (o : List UInt8) : Int := if mkOk k n o = true then 0 else 1

theorem bytes_ext {a b : ByteArray} (h : a.data.toList = b.data.toList) : a = b := by
  cases a; cases b; congr; exact Array.ext' h

set_option maxRecDepth 100000 in
set_option maxHeartbeats 2000000 in
theorem make_yes (k o : ByteArray) (n : Nat) (w : World) (hk : lettersB k.data.toList = true) (ho : lettersB o.data.toList = true) (hn : n ≤ 99999999) (hT : Tabs w) :
    Calls Tryd.prog 12 #[.string k, .int .i64 n, .string o] w fun e w' => e = .returned (.tuple #[.string ⟨(mkL k.data.toList n o.data.toList).toArray⟩, .int .i64 0]) ∧ Below w.heap.size w w' := by
  have hk2 : k.size = 2 := by rw [Lib.size_eq]; exact letters_len hk
  have ho2 : o.size = 2 := by rw [Lib.size_eq]; exact letters_len ho
  obtain ⟨hp1, hp2⟩ := digs_pad 7 n (by omega)
  have C1 := fun w => isLetters_any k w (by unfold maxLen; omega)
  have C2 := fun w => isLetters_any o w (by unfold maxLen; omega)
  rw [hk] at C1
  rw [ho] at C2
  obtain ⟨ds, hds⟩ : ∃ ds : ByteArray, ds = ⟨(Lib.itoa (n : Int)).toArray⟩ := ⟨_, rfl⟩
  have hdl : ds.data.toList = Lib.decDigits n := by rw [hds, itoa_nat]
  have hdsz : ds.size ≤ 8 := by rw [Lib.size_eq, hdl]; omega
  have C3 := fun w => itoa_any (n : Int) w (by omega) (by omega)
  rw [← hds] at C3
  obtain ⟨zs, hzs⟩ : ∃ zs : ByteArray, zs = ⟨(Lib.repeatL (⟨#[48]⟩ : ByteArray).data.toList ((8 - (ds.size : Int)).toNat)).toArray⟩ := ⟨_, rfl⟩
  have hr : ∀ c, Lib.repeatL [48] c = List.replicate c 48 := fun c => by have := Lib.repeatL_replicate 48 1 c; simpa using this
  have hzl : zs.data.toList = List.replicate (8 - (Lib.decDigits n).length) 48 := by
    rw [hzs]
    show Lib.repeatL [48] _ = _
    rw [hr, Lib.size_eq, hdl]
    congr 1
    omega
  have hzsz : zs.size ≤ 8 := by rw [Lib.size_eq, hzl, List.length_replicate]; omega
  have C4 := fun w => repeat_any ⟨#[48]⟩ (8 - (ds.size : Int)) w (by omega) (by omega) (by decide)
  rw [← hzs] at C4
  have hcat : (zs ++ ds).data.toList = digs 8 n := by rw [hp2, ← hzl, ← hdl]; simp
  have hcsz : (zs ++ ds).size = 8 := by rw [Lib.size_eq, hcat, digs_length]
  have C5 := fun w (hw : Wts w) => check_any (zs ++ ds) w (by rw [hcsz]; unfold maxLen; omega) hw
  have hv : chkV (digs 8 n) = chk (digs 8 n) ∧ chkE (digs 8 n) = 0 := by
    unfold chkV chkE
    rw [if_pos ⟨digs_length 8 n, digs_digits 8 n⟩, if_pos ⟨digs_length 8 n, digs_digits 8 n⟩]
    exact ⟨rfl, rfl⟩
  rw [hcat, hv.1, hv.2] at C5
  have hcb : 0 ≤ chk (digs 8 n) ∧ chk (digs 8 n) ≤ 9 := cdig_bd _
  obtain ⟨c, hc⟩ : ∃ c, c = chk (digs 8 n) := ⟨_, rfl⟩
  rw [← hc] at C5 hcb
  obtain ⟨hc0, hc1⟩ := hcb
  obtain ⟨cs, hcs⟩ : ∃ cs : ByteArray, cs = ⟨(Lib.itoa c).toArray⟩ := ⟨_, rfl⟩
  have hcl : cs.data.toList = [UInt8.ofNat (48 + c.toNat)] := by rw [hcs, itoa_digit hc0 hc1]
  have hcsz2 : cs.size ≤ 1 := by rw [Lib.size_eq, hcl]; simp
  have C6 := fun w => itoa_any c w hc0 (by omega)
  rw [← hcs] at C6
  have hfin : (k ++ (zs ++ ds) ++ cs ++ o) = ⟨(mkL k.data.toList n o.data.toList).toArray⟩ := by
    refine bytes_ext ?_
    rw [ByteArray.data_append, ByteArray.data_append, ByteArray.data_append, Array.toList_append, Array.toList_append, Array.toList_append, hcat, hcl, hc]
    rfl
  rw [← hfin]
  have hks : k.size ≤ 2 := by omega
  have hos : o.size ≤ 2 := by omega
  have D1 := hid C1
  have D2 := hid C2
  have D3 := hid C3
  have D4 := hid C4
  have D5 := hid C5
  have D6 := hid C6
  have hcat8 : (zs ++ ds).size ≤ 8 := by omega
  clear C1 C2 C3 C4 C5 C6 hfin hcl hcs hc hv hcsz hcat hzl hr hzs hdl hds hp1 hp2 hk2 ho2 hk ho
  go_enter Tryd.func12, Tryd.ntmps12
  go_wp2_with fail
  refine (D1.out _).mono ?_
  rintro e w1 ⟨rfl, hb1⟩
  go_wp2_with fail
  refine (D2.out _).mono ?_
  rintro e w2 ⟨rfl, hb2'⟩
  have hb2 := hb1.trans (hb2'.mono hb1.size)
  clear hb2'
  go_wp2_with fail
  refine (D3.out _ (hT.below hb2)).mono ?_
  rintro e w3 ⟨rfl, hb3'⟩
  have hb3 := hb2.trans (hb3'.mono hb2.size)
  clear hb3'
  go_wp2_with fail
  refine (D4.out _).mono ?_
  rintro e w4 ⟨rfl, hb4'⟩
  have hb4 := hb3.trans (hb4'.mono hb3.size)
  clear hb4'
  go_wp2_with fail
  refine (D5.out _ (hT.below hb4).wts).mono ?_
  rintro e w5 ⟨rfl, hb5'⟩
  have hb5 := hb4.trans (hb5'.mono hb4.size)
  clear hb5'
  go_wp2_with fail
  refine (D6.out _ (hT.below hb5)).mono ?_
  rintro e w6 ⟨rfl, hb6'⟩
  have hb6 := hb5.trans (hb6'.mono hb5.size)
  clear hb6'
  go_wp2
  go_ret2
  exact ⟨rfl, hb6⟩

end Id1
end Go.Proofs.YtbgniplhlnipoaaDoor
