/-
  Two equal addresses compared.
-/
import Derived.Test.YtaeljmiklalpnaaGreatDoorGn
import Derived.Test.YtaeljmiklalpnaaGreatDoorProg
import Derived.Laws.StructEq
namespace Go.Proofs.YtaeljmiklalpnaaGreatDoor
open Go.RowKit Go.ChangeMaps Gn
namespace Rg

theorem fieldsAd : (Tryz.prog.fieldsOf 37).toList = [⟨"Person", 9, 0, false, "", "", 0⟩, ⟨"Street", 9, 1, false, "", "", 16⟩, ⟨"Number", 3, 2, false, "", "", 32⟩, ⟨"Code", 9, 3, false, "", "", 40⟩, ⟨"Town", 9, 4, false, "", "", 56⟩] := by
  unfold Program.fieldsOf
  rw [Tryz.underlying37]
theorem underAd : Tryz.prog.underlying 37 = some (.struct (Tryz.prog.fieldsOf 37)) := by
  unfold Program.fieldsOf
  rw [Tryz.underlying37]
set_option maxRecDepth 100000 in
set_option maxHeartbeats 4000000 in
theorem ad_same (p a : ByteArray) (m : Int) (c t : ByteArray) (w : World) : (binOp .eql 37 (.agg #[.string p, .string a, .int .i64 m, .string c, .string t]) (.agg #[.string p, .string a, .int .i64 m, .string c, .string t])).run Tryz.prog w = .ok (.bool true) w := by
  rw [run_eql_struct, show (10000 : Nat) = 9998 + 2 from rfl, run_equalIn_agg w (9998 + 1) _ _ _ underAd (by kernel_rfl), fieldsAd]
  have e1 := run_equalIn_string (P := Tryz.prog) w 9998 9 p p Tryz.underlying9
  have e2 := run_equalIn_string (P := Tryz.prog) w 9998 9 a a Tryz.underlying9
  have e3 := run_equalIn_int (P := Tryz.prog) w 9998 3 .i64 .i64 m m Tryz.underlying3
  have e4 := run_equalIn_string (P := Tryz.prog) w 9998 9 c c Tryz.underlying9
  have e5 := run_equalIn_string (P := Tryz.prog) w 9998 9 t t Tryz.underlying9
  simp [Op.eqFields, go_sem]

end Rg
end Go.Proofs.YtaeljmiklalpnaaGreatDoor
