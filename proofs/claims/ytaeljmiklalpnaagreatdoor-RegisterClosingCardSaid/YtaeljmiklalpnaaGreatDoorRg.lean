/-
  Contract of the document's formed.
-/
import Derived.Test.YtaeljmiklalpnaaGreatDoorR0
import Derived.Test.YtaeljmiklalpnaaGreatDoorFv
namespace Go.Proofs.YtaeljmiklalpnaaGreatDoor
open Go.RowKit Go.ChangeMaps Gn
namespace Rg


set_option maxRecDepth 100000 in
set_option maxHeartbeats 16000000 in
theorem rformed_3 (day street : Int) (code town name : W) (low high shift : Int) (w : World) (hc : code.length ≤ 100000) (ht : town.length ≤ 100000) (hn : name.length ≤ 100000)  :
    Calls Tryz.prog 44 #[chA ⟨day, 3, street, code, town, name, low, high, shift⟩] w (FormPost ⟨day, 3, street, code, town, name, low, high, shift⟩ w) := by
  have CN := hid (fun u => risname_any name u hn)
  have CT := hid (fun u => risname_any town u ht)
  have CC := hid (fun u => riscode_any code u hc)
  have CL := hid (fun u => rhouse_any low u)
  have CH := hid (fun u => rhouse_any high u)
  have en1 := (sB_nil (a := name)).1
  have en2 := (sB_nil (a := name)).2
  have ec1 := (sB_nil (a := code)).1
  have ec2 := (sB_nil (a := code)).2
  have et1 := (sB_nil (a := town)).1
  have et2 := (sB_nil (a := town)).2
  have HB := hid (b0 w (.cells #[.int .i64 day, .int .i64 3, .int .i64 street, .string (sB code), .string (sB town), .string (sB name), .int .i64 low, .int .i64 high, .int .i64 shift] 29))
  obtain ⟨sc, hsc⟩ : ∃ x, x = sB code := ⟨_, rfl⟩
  obtain ⟨st, hst⟩ : ∃ x, x = sB town := ⟨_, rfl⟩
  obtain ⟨sn, hsn⟩ : ∃ x, x = sB name := ⟨_, rfl⟩
  unfold chA
  simp only [← hsc, ← hst, ← hsn] at CN CT CC en1 en2 ec1 ec2 et1 et2 HB ⊢
  clear hsc hst hsn hc ht hn
  by_cases h1 : day < -1000000
  · have d1 : decide (day < -1000000) = true := decide_eq_true h1
    clear h1
    clear en1 en2 ec1 ec2 et1 et2
    go_enter Tryz.func44, Tryz.ntmps44
    go_wp2
    go_ret
    exact ⟨false, rfl, (fun h => by cases h), HB.out⟩
  have d1 : decide (day < -1000000) = false := decide_eq_false h1
  by_cases h2 : 1000000 < day
  · have d2 : decide (1000000 < day) = true := decide_eq_true h2
    clear h1 h2
    clear en1 en2 ec1 ec2 et1 et2
    go_enter Tryz.func44, Tryz.ntmps44
    go_wp2
    go_ret
    exact ⟨false, rfl, (fun h => by cases h), HB.out⟩
  have d2 : decide (1000000 < day) = false := decide_eq_false h2
  have H1 := hid (And.intro h1 h2)
  clear h1 h2
  rcases (Decidable.em (name = [])).symm with ename | ename
  · obtain ⟨z1, z2⟩ := en2 ename
    clear ename
    clear en1 en2 ec1 ec2 et1 et2
    go_enter Tryz.func44, Tryz.ntmps44
    go_wp2
    go_ret
    exact ⟨false, rfl, (fun h => by cases h), HB.out⟩
  obtain ⟨z1name, z2name⟩ := en1 ename
  have Ename := hid ename
  clear ename
  cases qcd : codeW code
  · rw [qcd] at CC
    clear qcd
    clear en1 en2 ec1 ec2 et1 et2
    go_enter Tryz.func44, Tryz.ntmps44
    go_wp2_with fail
    refine (CC.out _).mono ?_
    rintro e y1 ⟨rfl, rfl⟩
    go_wp2
    go_ret
    exact ⟨false, rfl, (fun h => by cases h), HB.out⟩
  rw [qcd] at CC
  have Qcd := hid qcd
  clear qcd
  rcases (Decidable.em (town = [])).symm with etown | etown
  · obtain ⟨z1, z2⟩ := et2 etown
    clear etown
    clear en1 en2 ec1 ec2 et1 et2
    go_enter Tryz.func44, Tryz.ntmps44
    go_wp2_with fail
    refine (CC.out _).mono ?_
    rintro e y1 ⟨rfl, rfl⟩
    go_wp2
    go_ret
    exact ⟨false, rfl, (fun h => by cases h), HB.out⟩
  obtain ⟨z1town, z2town⟩ := et1 etown
  have Etown := hid etown
  clear etown
  rcases (Decidable.em (low = 0)).symm with elow | elow
  · have z : (low == 0) = false := by simpa using elow
    have z' : (low != 0) = true := by simpa using elow
    clear en1 en2 ec1 ec2 et1 et2
    go_enter Tryz.func44, Tryz.ntmps44
    go_wp2_with fail
    refine (CC.out _).mono ?_
    rintro e y1 ⟨rfl, rfl⟩
    go_wp2
    go_ret
    exact ⟨false, rfl, (fun h => by cases h), HB.out⟩
  have zlow : (low == 0) = true := by simpa using elow
  have z'low : (low != 0) = false := by simpa using elow
  have Elow := hid elow
  clear elow
  rcases (Decidable.em (high = 0)).symm with ehigh | ehigh
  · have z : (high == 0) = false := by simpa using ehigh
    have z' : (high != 0) = true := by simpa using ehigh
    clear en1 en2 ec1 ec2 et1 et2
    go_enter Tryz.func44, Tryz.ntmps44
    go_wp2_with fail
    refine (CC.out _).mono ?_
    rintro e y1 ⟨rfl, rfl⟩
    go_wp2
    go_ret
    exact ⟨false, rfl, (fun h => by cases h), HB.out⟩
  have zhigh : (high == 0) = true := by simpa using ehigh
  have z'high : (high != 0) = false := by simpa using ehigh
  have Ehigh := hid ehigh
  clear ehigh
  rcases (Decidable.em (shift = 0)).symm with eshift | eshift
  · have z : (shift == 0) = false := by simpa using eshift
    have z' : (shift != 0) = true := by simpa using eshift
    clear en1 en2 ec1 ec2 et1 et2
    go_enter Tryz.func44, Tryz.ntmps44
    go_wp2_with fail
    refine (CC.out _).mono ?_
    rintro e y1 ⟨rfl, rfl⟩
    go_wp2
    go_ret
    exact ⟨false, rfl, (fun h => by cases h), HB.out⟩
  have zshift : (shift == 0) = true := by simpa using eshift
  have z'shift : (shift != 0) = false := by simpa using eshift
  have Eshift := hid eshift
  clear eshift
  clear en1 en2 ec1 ec2 et1 et2
  go_enter Tryz.func44, Tryz.ntmps44
  go_wp2_with fail
  refine (CC.out _).mono ?_
  rintro e y1 ⟨rfl, rfl⟩
  go_wp2
  go_ret
  exact ⟨true, rfl, fun _ => ⟨by have := H1.out; constructor <;> simp <;> omega, by simp, (fun h => by simp at h), (fun _ => Ename.out), (fun _ => Qcd.out), (fun h => by simp at h), (fun h => by simp at h), (fun _ => ⟨Etown.out, Elow.out, Ehigh.out⟩), (fun _ => Eshift.out)⟩, HB.out⟩

set_option maxRecDepth 100000 in
set_option maxHeartbeats 16000000 in
theorem rformed_4 (day street : Int) (code town name : W) (low high shift : Int) (w : World) (hc : code.length ≤ 100000) (ht : town.length ≤ 100000) (hn : name.length ≤ 100000)  :
    Calls Tryz.prog 44 #[chA ⟨day, 4, street, code, town, name, low, high, shift⟩] w (FormPost ⟨day, 4, street, code, town, name, low, high, shift⟩ w) := by
  have CN := hid (fun u => risname_any name u hn)
  have CT := hid (fun u => risname_any town u ht)
  have CC := hid (fun u => riscode_any code u hc)
  have CL := hid (fun u => rhouse_any low u)
  have CH := hid (fun u => rhouse_any high u)
  have en1 := (sB_nil (a := name)).1
  have en2 := (sB_nil (a := name)).2
  have ec1 := (sB_nil (a := code)).1
  have ec2 := (sB_nil (a := code)).2
  have et1 := (sB_nil (a := town)).1
  have et2 := (sB_nil (a := town)).2
  have HB := hid (b0 w (.cells #[.int .i64 day, .int .i64 4, .int .i64 street, .string (sB code), .string (sB town), .string (sB name), .int .i64 low, .int .i64 high, .int .i64 shift] 29))
  obtain ⟨sc, hsc⟩ : ∃ x, x = sB code := ⟨_, rfl⟩
  obtain ⟨st, hst⟩ : ∃ x, x = sB town := ⟨_, rfl⟩
  obtain ⟨sn, hsn⟩ : ∃ x, x = sB name := ⟨_, rfl⟩
  unfold chA
  simp only [← hsc, ← hst, ← hsn] at CN CT CC en1 en2 ec1 ec2 et1 et2 HB ⊢
  clear hsc hst hsn hc ht hn
  by_cases h1 : day < -1000000
  · have d1 : decide (day < -1000000) = true := decide_eq_true h1
    clear h1
    clear en1 en2 ec1 ec2 et1 et2
    go_enter Tryz.func44, Tryz.ntmps44
    go_wp2
    go_ret
    exact ⟨false, rfl, (fun h => by cases h), HB.out⟩
  have d1 : decide (day < -1000000) = false := decide_eq_false h1
  by_cases h2 : 1000000 < day
  · have d2 : decide (1000000 < day) = true := decide_eq_true h2
    clear h1 h2
    clear en1 en2 ec1 ec2 et1 et2
    go_enter Tryz.func44, Tryz.ntmps44
    go_wp2
    go_ret
    exact ⟨false, rfl, (fun h => by cases h), HB.out⟩
  have d2 : decide (1000000 < day) = false := decide_eq_false h2
  have H1 := hid (And.intro h1 h2)
  clear h1 h2
  rcases (Decidable.em (name = [])).symm with ename | ename
  · obtain ⟨z1, z2⟩ := en2 ename
    clear ename
    clear en1 en2 ec1 ec2 et1 et2
    go_enter Tryz.func44, Tryz.ntmps44
    go_wp2
    go_ret
    exact ⟨false, rfl, (fun h => by cases h), HB.out⟩
  obtain ⟨z1name, z2name⟩ := en1 ename
  have Ename := hid ename
  clear ename
  rcases (Decidable.em (code = [])).symm with ecode | ecode
  · obtain ⟨z1, z2⟩ := ec2 ecode
    clear ecode
    clear en1 en2 ec1 ec2 et1 et2
    go_enter Tryz.func44, Tryz.ntmps44
    go_wp2
    go_ret
    exact ⟨false, rfl, (fun h => by cases h), HB.out⟩
  obtain ⟨z1code, z2code⟩ := ec1 ecode
  have Ecode := hid ecode
  clear ecode
  rcases (Decidable.em (town = [])).symm with etown | etown
  · obtain ⟨z1, z2⟩ := et2 etown
    clear etown
    clear en1 en2 ec1 ec2 et1 et2
    go_enter Tryz.func44, Tryz.ntmps44
    go_wp2
    go_ret
    exact ⟨false, rfl, (fun h => by cases h), HB.out⟩
  obtain ⟨z1town, z2town⟩ := et1 etown
  have Etown := hid etown
  clear etown
  rcases (Decidable.em (low = 0)).symm with elow | elow
  · have z : (low == 0) = false := by simpa using elow
    have z' : (low != 0) = true := by simpa using elow
    clear en1 en2 ec1 ec2 et1 et2
    go_enter Tryz.func44, Tryz.ntmps44
    go_wp2
    go_ret
    exact ⟨false, rfl, (fun h => by cases h), HB.out⟩
  have zlow : (low == 0) = true := by simpa using elow
  have z'low : (low != 0) = false := by simpa using elow
  have Elow := hid elow
  clear elow
  rcases (Decidable.em (high = 0)).symm with ehigh | ehigh
  · have z : (high == 0) = false := by simpa using ehigh
    have z' : (high != 0) = true := by simpa using ehigh
    clear en1 en2 ec1 ec2 et1 et2
    go_enter Tryz.func44, Tryz.ntmps44
    go_wp2
    go_ret
    exact ⟨false, rfl, (fun h => by cases h), HB.out⟩
  have zhigh : (high == 0) = true := by simpa using ehigh
  have z'high : (high != 0) = false := by simpa using ehigh
  have Ehigh := hid ehigh
  clear ehigh
  clear en1 en2 ec1 ec2 et1 et2
  go_enter Tryz.func44, Tryz.ntmps44
  go_wp2
  go_ret
  exact ⟨true, rfl, fun _ => ⟨by have := H1.out; constructor <;> simp <;> omega, by simp, (fun h => by simp at h), (fun _ => Ename.out), (fun h => by simp at h), (fun _ => Ecode.out), (fun h => by simp at h), (fun _ => ⟨Etown.out, Elow.out, Ehigh.out⟩), (fun h => absurd rfl h)⟩, HB.out⟩

end Rg
end Go.Proofs.YtaeljmiklalpnaaGreatDoor
