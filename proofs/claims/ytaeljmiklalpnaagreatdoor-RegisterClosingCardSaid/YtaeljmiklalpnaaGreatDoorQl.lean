/-
  Words of the laws; the chapter's example.
-/
import Derived.Test.YtaeljmiklalpnaaGreatDoorRc
import Derived.Test.YtaeljmiklalpnaaGreatDoorQr
import Derived.Test.YtaeljmiklalpnaaGreatDoorQs
import Derived.Test.YtaeljmiklalpnaaGreatDoorQc
import Derived.Test.YtaeljmiklalpnaaGreatDoorQa
namespace Go.Proofs.YtaeljmiklalpnaaGreatDoor
open Go.RowKit Go.ChangeMaps Gn
namespace Rg

theorem clash_ok : ClashOk := fun l vs v n w a b c d => rclash_any l vs v n w a b c d
/-- The contract of the laws' head. -/
def HeadOk : Prop := ∀ w, Tb w → Calls Tryz.prog 10 #[] w fun e w' => e = .returned (.bool true) ∧ Below w.heap.size w w'
theorem two_boxes (w : World) (o p : Obj) : Below w.heap.size w ((w.alloc o).alloc p) ∧ ((w.alloc o).alloc p).heap[w.heap.size]? = some o ∧ ((w.alloc o).alloc p).heap[w.heap.size + 1]? = some p := by
  have hz : (w.alloc o).heap.size = w.heap.size + 1 := by simp [World.alloc, -World.alloc_eq]
  refine ⟨(b0 w _).alloc (b0 w _).size _, ?_, heap_new' _ _ _ hz.symm⟩
  rw [hpk, if_neg (by rw [hz]; omega)]
  exact heap_new _ _

end Rg
end Go.Proofs.YtaeljmiklalpnaaGreatDoor

namespace Go.Proofs.YtaeljmiklalpnaaGreatDoor
open Go.RowKit Go.ChangeMaps Gn
namespace Rg

theorem adV_parts (o : Option (W × Int × W × W)) : ∃ (p a : ByteArray) (m : Int) (c t : ByteArray), adV o = .agg #[.string p, .string a, .int .i64 m, .string c, .string t] ∧ (∀ x, o = some x → p = ⟨#[]⟩ ∧ a = sB x.1 ∧ m = x.2.1 ∧ c = sB x.2.2.1 ∧ t = sB x.2.2.2) ∧ (o = none → p = ⟨#[]⟩ ∧ a = ⟨#[]⟩ ∧ m = 0 ∧ c = ⟨#[]⟩ ∧ t = ⟨#[]⟩) := by
  rcases o with _ | ⟨a, m, c, t⟩
  · exact ⟨_, _, _, _, _, rfl, (fun x h => by cases h), fun _ => ⟨rfl, rfl, rfl, rfl, rfl⟩⟩
  · exact ⟨_, _, _, _, _, rfl, (fun x h => by cases h; exact ⟨rfl, rfl, rfl, rfl, rfl⟩), fun h => by cases h⟩
theorem al_few (r : List Ch) : ∀ s ∈ runL r, s.al.length ≤ r.length := fun s hs => by
  have := al_len r [] 0 (fun s h => by cases h) s hs
  omega
theorem cell_block {w w' : World} {g : Nat} (h : w'.heap[g]? = w.heap[g]?) (i : Nat) : w'.cell? ⟨g, i, none⟩ = w.cell? ⟨g, i, none⟩ := by simp [World.cell?, h]

end Rg
end Go.Proofs.YtaeljmiklalpnaaGreatDoor

namespace Go.Proofs.YtaeljmiklalpnaaGreatDoor
open Go.RowKit Go.ChangeMaps Gn
namespace Rg

def e1000 : W := [49, 48, 48, 48]
def eTown : W := [84, 111, 119, 110]
def eMain : W := [77, 97, 105, 110, 32, 83, 116, 114, 101, 101, 116]
def eSmall : W := [109, 97, 105, 110, 32, 115, 116, 114, 101, 101, 116]
def eHigh : W := [72, 105, 103, 104, 32, 83, 116]
def eCap : W := [72, 73, 71, 72, 32, 83, 84]
def eLow : W := [104, 105, 103, 104, 32, 115, 116]
def eBroad : W := [66, 114, 111, 97, 100, 32, 87, 97, 121]
/-- The register of the chapter's examples. -/
def ex4 : List Ch := [⟨0, 1, 0, e1000, eTown, eMain, 1, 20, 0⟩, ⟨5, 4, 0, [], [], [], 0, 0, 100⟩, ⟨5, 5, 0, [], [], eHigh, 0, 0, 0⟩, ⟨9, 2, 0, [], [], eBroad, 0, 0, 0⟩]
def exR : List Ch := ex4 ++ [⟨30, 6, 0, [], [], [], 0, 0, 0⟩]
def exC (low : Int) : List Ch := ex4 ++ [⟨10, 1, 0, e1000, eTown, eLow, low, 130, 0⟩]
def exE : List Ch := [⟨0, 6, 0, [], [], [], 0, 0, 0⟩]
def soundB (r : List Ch) : Bool := decide (r.length ≤ 60) && (List.range r.length).all fun i => (match r[i]?, r[i + 1]? with | some c, some d => decide (c.day ≤ d.day) | _, _ => true) && (match r[i]? with | some c => decide (errR (runL (r.take i)) c = 0) | none => true)
theorem sound_of {r : List Ch} (h : soundB r = true) : Sound r := by
  unfold soundB at h
  rw [Bool.and_eq_true, decide_eq_true_eq, List.all_eq_true] at h
  refine ⟨h.1, fun i c d hc hd => ?_, fun i c hc => ?_⟩
  · have q := h.2 i (List.mem_range.2 (List.getElem?_eq_some_iff.1 hc).1)
    rw [hc, hd, Bool.and_eq_true] at q
    simpa using q.1
  · have q := h.2 i (List.mem_range.2 (List.getElem?_eq_some_iff.1 hc).1)
    rw [hc, Bool.and_eq_true] at q
    exact (ok_iff _ _).1 (by simpa using q.2)
theorem ex_sound : Sound exR := sound_of (by decide +kernel)
theorem ex_sound2 : Sound (exC 121) := sound_of (by decide +kernel)
theorem ex_find1 : findR (atL exR 0) e1000 eSmall 7 = some (0, 7) := by decide +kernel
theorem ex_find2 : findR (atL exR 5) e1000 eMain 107 = some (0, 7) := by decide +kernel
theorem ex_find3 : findR (atL exR 5) e1000 eMain 7 = none := by decide +kernel
theorem ex_find4 : findR (atL exR 9) e1000 eCap 107 = some (0, 7) := by decide +kernel
theorem ex_name1 : nameR (atL exR 9) 0 7 = some (eBroad, 107, e1000, eTown) := by decide +kernel
theorem ex_name2 : nameR (atL exR 30) 0 7 = none := by decide +kernel
theorem ex_at : atL exR 8 = [⟨e1000, eTown, eMain, [eHigh], 101, 120, 100, true⟩] := by rfl

set_option maxRecDepth 100000 in
set_option maxHeartbeats 4000000 in
theorem example_any (w : World) : Calls Tryz.prog 20 #[] w fun e w' => ∃ g, e = .returned (.slice (some ⟨g, 0, none⟩) 5 5) ∧ w'.heap[g]? = some (.cells (cellsC exR).toArray 29 (0, 0)) ∧ Below w.heap.size w w' := by
  go_enter Tryz.func20, Tryz.ntmps20
  go_wp2
  go_ret
  exact ⟨_, rfl, heap_new _ _, b0 _ _⟩

end Rg
end Go.Proofs.YtaeljmiklalpnaaGreatDoor
