/-
  The check at the beginning of each law: its formats; what Parse and Print answer at its examples.
-/
import Derived.Test.YtcaiejbnhjiflaaGreatDoorP3
namespace Go.Proofs.YtcaiejbnhjiflaaGreatDoor
open Go.RowKit Go.ChangeMaps
namespace Fm

def plainN : W := [112, 108, 97, 105, 110]
def plainF : List (List Pt) := [[⟨6, []⟩], [⟨4, []⟩, ⟨2, []⟩], [⟨3, [57, 57, 57, 57]⟩, ⟨5, []⟩]]
def flatN : W := [102, 108, 97, 116]
def flatF : List (List Pt) := [[⟨4, []⟩, ⟨5, []⟩]]
def wantA : Ad := ⟨[65, 100, 97, 32, 66, 121, 114, 111, 110], [76, 111, 110, 103, 32, 76, 97, 110, 101], 12, [49, 48, 48, 48], [79, 108, 100, 32, 84, 111, 119, 110]⟩
def lns1 : List W := [[65, 100, 97, 32, 66, 121, 114, 111, 110], [32, 76, 111, 110, 103, 32, 32, 76, 97, 110, 101, 32, 49, 50], [49, 48, 48, 48, 32, 79, 108, 100, 32, 84, 111, 119, 110, 32]]
def lns2 : List W := [[65, 100, 97], [76, 97, 110, 101, 32, 48, 49, 50], [49, 48, 48, 48, 32, 84, 111, 119, 110]]
def lns3 : List W := [[65, 100, 97, 32, 66, 121, 114, 111, 110], [76, 111, 110, 103, 32, 76, 97, 110, 101, 32, 49, 50], [49, 48, 48, 48, 32, 79, 108, 100, 32, 84, 111, 119, 110]]
def lns4 : List W := [[65, 32, 66, 32, 67]]
def adA : Ad := ⟨[65, 100, 97], [], 0, [], []⟩
def ad41 : Ad := ⟨[], [65], 0, [], [66, 32, 67]⟩
def ad42 : Ad := ⟨[], [65, 32, 66], 0, [], [67]⟩
theorem head_1 : parseR plainN plainF lns1 = ([wantA], 0) := by kernel_rfl
theorem head_2 : parseR plainN plainF lns2 = ([], 0) := by kernel_rfl
theorem head_4 : parseR flatN flatF lns4 = ([ad41, ad42], 0) := by kernel_rfl
theorem head_5 : parseR [] [] [] = ([], 1) := by kernel_rfl
theorem head_6 : printR plainN plainF adA = ([], 1) := by kernel_rfl
theorem head_3 : printR plainN plainF wantA = (lns3, 0) := by kernel_rfl
theorem head_7 : validB plainN plainF = true := by kernel_rfl
theorem head_8 : wordsL [9, 97, 32, 32, 98, 32] = [[97], [98]] := by kernel_rfl

theorem SlR.of_block {w : World} {b size n : Nat} {cs : Array Value} {ty : TypeId} {fz : Nat × Nat} (h : w.heap[b]? = some (.cells cs ty fz)) (hn : cs.size = n * size) : SlR w (some ⟨b, 0, none⟩) n n size cs.toList := by
  refine ⟨by simpa using hn, Nat.le_refl _, fun _ => ⟨b, 0, rfl, heap_lt h, fun j u hu => ?_⟩⟩
  rw [Nat.zero_add]
  simp [World.cell?, h]
  simpa using hu

end Fm
end Go.Proofs.YtcaiejbnhjiflaaGreatDoor
