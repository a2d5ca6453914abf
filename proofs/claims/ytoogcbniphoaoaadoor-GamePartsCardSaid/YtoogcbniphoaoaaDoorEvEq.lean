/- Two keys, or two events, are one just if all their fields are (layer 11, event). -/
import Derived.Test.YtoogcbniphoaoaaDoorEvWorld
import Derived.Laws.StructEq
namespace Go.Proofs.YtoogcbniphoaoaaDoor.Ev
open Go.RowKit
set_option linter.unusedVariables false

theorem guardK : Tryd.prog.eqGuardType Tryd.prog.depth 43 = false := by kernel_rfl
theorem guardE : Tryd.prog.eqGuardType Tryd.prog.depth 45 = false := by kernel_rfl
theorem strK : Tryd.prog.underlying 43 = some (.struct (Tryd.prog.fieldsOf 43)) := by kernel_rfl
theorem strE : Tryd.prog.underlying 45 = some (.struct (Tryd.prog.fieldsOf 45)) := by kernel_rfl
theorem stdK : Tryd.prog.stoodInHeld 43 = false := by kernel_rfl
theorem stdE : Tryd.prog.stoodInHeld 45 = false := by kernel_rfl

theorem runK (d : Nat) (x y : Ky) (w : World) : (Op.equalIn (d + 1 + 1) 43 (kv x) (kv y)).run Tryd.prog w = .ok (decide (x = y)) w := by
  have u3 := Tryd.underlying3
  have a3 := Tryd.isAgg3
  have z3 := Tryd.sizeOf3
  rw [run_equalIn_agg w (d + 1) 43 _ _ strK stdK]
  simp only [Program.fieldsOf, Tryd.underlying43]
  go_simp
  by_cases h1 : x.f = y.f <;> by_cases h2 : x.e = y.e <;> by_cases h3 : x.k = y.k <;> by_cases h4 : x.o = y.o <;> simp [h1, h2, h3, h4]
  all_goals first
    | exact ext_ky h1 h2 h3 h4
    | (intro h; subst h; first | exact h1 rfl | exact h2 rfl | exact h3 rfl | exact h4 rfl)
theorem eqK (x y : Ky) (w : World) : (binOp .eql 43 (kv x) (kv y)).run Tryd.prog w = .ok (.bool (decide (x = y))) w := by
  rw [run_eql_struct, show (10000 : Nat) = 9998 + 1 + 1 from rfl, runK]; rfl
theorem neqK (x y : Ky) (w : World) : (binOp .neq 43 (kv x) (kv y)).run Tryd.prog w = .ok (.bool (!decide (x = y))) w := by
  rw [run_neq_struct, show (10000 : Nat) = 9998 + 1 + 1 from rfl, runK]; rfl
theorem runE (d : Nat) (x y : Ev) (w : World) : (Op.equalIn (d + 1 + 1 + 1) 45 (ev x) (ev y)).run Tryd.prog w = .ok (decide (x = y)) w := by
  have u3 := Tryd.underlying3
  have a3 := Tryd.isAgg3
  have z3 := Tryd.sizeOf3
  have a4 := Tryd.isAgg43
  have z4 := Tryd.sizeOf43
  have hk := fun w => runK d x.key y.key w
  rw [run_equalIn_agg w (d + 1 + 1) 45 _ _ strE stdE]
  simp only [Program.fieldsOf, Tryd.underlying45]
  go_simp
  by_cases h0 : x.key = y.key <;> simp [h0]
  · by_cases h1 : x.a = y.a <;> by_cases h2 : x.g = y.g <;> by_cases h3 : x.p = y.p <;> by_cases h4 : x.r = y.r <;> by_cases h5 : x.l = y.l <;> simp [h1, h2, h3, h4, h5]
    all_goals first
      | exact ext_ev h0 h1 h2 h3 h4 h5
      | (intro h; subst h; first | exact h1 rfl | exact h2 rfl | exact h3 rfl | exact h4 rfl | exact h5 rfl)
  · intro h; subst h; exact h0 rfl
theorem eqE (x y : Ev) (w : World) : (binOp .eql 45 (ev x) (ev y)).run Tryd.prog w = .ok (.bool (decide (x = y))) w := by
  rw [run_eql_struct, show (10000 : Nat) = 9997 + 1 + 1 + 1 from rfl, runE]; rfl
theorem neqE (x y : Ev) (w : World) : (binOp .neq 45 (ev x) (ev y)).run Tryd.prog w = .ok (.bool (!decide (x = y))) w := by
  rw [run_neq_struct, show (10000 : Nat) = 9997 + 1 + 1 + 1 from rfl, runE]; rfl

end Go.Proofs.YtoogcbniphoaoaaDoor.Ev
