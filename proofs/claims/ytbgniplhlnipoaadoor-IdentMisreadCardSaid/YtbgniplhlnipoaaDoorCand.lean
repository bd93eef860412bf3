/-
  Plain mathematics of misreadings: the candidates in the order of the iterator.
-/
import Derived.Test.YtbgniplhlnipoaaDoorMath
import Derived.WalkKit
namespace Go.Proofs.YtbgniplhlnipoaaDoor
namespace Id1

def dgt (q : Nat) : UInt8 := UInt8.ofNat q
theorem dgt_toNat {q : Nat} (h : q < 256) : (dgt q).toNat = q := by unfold dgt; rw [UInt8.toNat_ofNat']; omega
def put (l : List UInt8) (p q : Nat) : List UInt8 := l.take p ++ [dgt q] ++ l.drop (p + 1)
def cell (l : List UInt8) (p q : Nat) : List (List UInt8) := if dgt q = l.getD p 0 then [] else [put l p q]
def rowTo (l : List UInt8) (p k : Nat) : List (List UInt8) := (List.range k).flatMap fun j => cell l p (48 + j)
def candTo (l : List UInt8) (k : Nat) : List (List UInt8) := (List.range k).flatMap fun i => rowTo l (i + 2) 10
def cand (l : List UInt8) : List (List UInt8) := candTo l 9
theorem rowTo_zero (l : List UInt8) (p : Nat) : rowTo l p 0 = [] := rfl
theorem candTo_zero (l : List UInt8) : candTo l 0 = [] := rfl
theorem rowTo_succ (l : List UInt8) (p k : Nat) : rowTo l p (k + 1) = rowTo l p k ++ cell l p (48 + k) := by
  simp [rowTo, List.range_succ, List.flatMap_append]
theorem candTo_succ (l : List UInt8) (k : Nat) : candTo l (k + 1) = candTo l k ++ rowTo l (k + 2) 10 := by
  simp [candTo, List.range_succ, List.flatMap_append]
theorem cell_len (l : List UInt8) (p q : Nat) : (cell l p q).length ≤ 1 := by unfold cell; split <;> simp
theorem rowTo_len (l : List UInt8) (p k : Nat) : (rowTo l p k).length ≤ k := by
  induction k with
  | zero => simp [rowTo_zero]
  | succ k ih => rw [rowTo_succ, List.length_append]; have := cell_len l p (48 + k); omega
theorem candTo_len (l : List UInt8) (k : Nat) : (candTo l k).length ≤ 10 * k := by
  induction k with
  | zero => simp [candTo_zero]
  | succ k ih => rw [candTo_succ, List.length_append]; have := rowTo_len l (k + 2) 10; omega

theorem encode_small (q : Nat) (h : q < 128) : Utf8.encode (q : Int) = ⟨#[dgt q]⟩ := by
  unfold Utf8.encode
  have hv : Utf8.valid (q : Int) = true := by simp [Utf8.valid]; omega
  simp [hv, h]
  rfl

end Id1
end Go.Proofs.YtbgniplhlnipoaaDoor
