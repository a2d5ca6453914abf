/- Two shots, players, states are one just if all their fields are (layer 12, game). -/
import Derived.Test.YtfclnhmijjlhdaaGreatDoorJ9
import Derived.Test.YtfclnhmijjlhdaaGreatDoorJ3
import Derived.ChangeKeysEq
namespace Go.Proofs.YtfclnhmijjlhdaaGreatDoor.Gm
open Go.RowKit
open Go.Proofs.YtfclnhmijjlhdaaGreatDoor.Sh (vec)
set_option linter.unusedVariables false

theorem guardB : Tryz.prog.eqGuardType Tryz.prog.depth 62 = false := by kernel_rfl
theorem guardS : Tryz.prog.eqGuardType Tryz.prog.depth 65 = false := by kernel_rfl
theorem strV : Tryz.prog.underlying 57 = some (.struct (Tryz.prog.fieldsOf 57)) := by kernel_rfl
theorem strB : Tryz.prog.underlying 62 = some (.struct (Tryz.prog.fieldsOf 62)) := by kernel_rfl
theorem strP : Tryz.prog.underlying 59 = some (.struct (Tryz.prog.fieldsOf 59)) := by kernel_rfl
theorem strS : Tryz.prog.underlying 65 = some (.struct (Tryz.prog.fieldsOf 65)) := by kernel_rfl
theorem stdV : Tryz.prog.stoodInHeld 57 = false := by kernel_rfl
theorem stdB : Tryz.prog.stoodInHeld 62 = false := by kernel_rfl
theorem stdP : Tryz.prog.stoodInHeld 59 = false := by kernel_rfl
theorem stdS : Tryz.prog.stoodInHeld 65 = false := by kernel_rfl

theorem runV (d : Nat) (a b c e : Int) (w : World) : (Op.equalIn (d + 1 + 1) 57 (vec a b) (vec c e)).run Tryz.prog w = .ok (decide (a = c ∧ b = e)) w := by
 have u3 := Tryz.underlying55
 have a3 := Tryz.isAgg55
 have z3 := Tryz.sizeOf55
 rw [run_equalIn_agg w (d + 1) 57 _ _ strV stdV]
 simp only [Program.fieldsOf, Tryz.underlying57]
 go_simp
 by_cases h1 : a = c <;> by_cases h2 : b = e <;> simp [h1, h2]

theorem runB (d : Nat) (x y : Bu) (w : World) : (Op.equalIn (d + 1 + 1 + 1) 62 (buV x) (buV y)).run Tryz.prog w = .ok (decide (x = y)) w := by
 have u3 := Tryz.underlying3
 have a3 := Tryz.isAgg3
 have z3 := Tryz.sizeOf3
 have a4 := Tryz.isAgg57
 have z4 := Tryz.sizeOf57
 have hk := fun a b c e w => runV d a b c e w
 rw [run_equalIn_agg w (d + 1 + 1) 62 _ _ strB stdB]
 simp only [Program.fieldsOf, Tryz.underlying62]
 go_simp
 obtain ⟨x0, x1, x2, x3, x4, x5⟩ := x
 obtain ⟨y0, y1, y2, y3, y4, y5⟩ := y
 by_cases h0 : x0 = y0 <;> simp [h0]
 by_cases h1 : x1 = y1 <;> simp [h1]
 by_cases h2 : x2 = y2 <;> simp [h2]
 by_cases h3 : x3 = y3 <;> simp [h3]
 by_cases h4 : x4 = y4 <;> simp [h4]
 by_cases h5 : x5 = y5 <;> simp [h5]
theorem eqB (x y : Bu) (w : World) : (binOp .eql 62 (buV x) (buV y)).run Tryz.prog w = .ok (.bool (decide (x = y))) w := by
 rw [run_eql_struct, show (10000 : Nat) = 9997 + 1 + 1 + 1 from rfl, runB]; rfl
theorem neqB (x y : Bu) (w : World) : (binOp .neq 62 (buV x) (buV y)).run Tryz.prog w = .ok (.bool (!decide (x = y))) w := by
 rw [run_neq_struct, show (10000 : Nat) = 9997 + 1 + 1 + 1 from rfl, runB]; rfl

theorem runP (d : Nat) (x y : Pl) (w : World) : (Op.equalIn (d + 1 + 1 + 1) 59 (plV x) (plV y)).run Tryz.prog w = .ok (decide (x = y)) w := by
 have u3 := Tryz.underlying3
 have a3 := Tryz.isAgg3
 have z3 := Tryz.sizeOf3
 have a4 := Tryz.isAgg57
 have z4 := Tryz.sizeOf57
 have hk := fun a b c e w => runV d a b c e w
 rw [run_equalIn_agg w (d + 1 + 1) 59 _ _ strP stdP]
 simp only [Program.fieldsOf, Tryz.underlying59]
 go_simp
 obtain ⟨x0, x1, x2, x3, x4, x5, x6, x7, x8, x9⟩ := x
 obtain ⟨y0, y1, y2, y3, y4, y5, y6, y7, y8, y9⟩ := y
 by_cases h0 : x0 = y0 <;> simp [h0]
 by_cases h1 : x1 = y1 <;> simp [h1]
 by_cases h2 : x2 = y2 <;> simp [h2]
 by_cases h3 : x3 = y3 <;> simp [h3]
 by_cases h4 : x4 = y4 <;> simp [h4]
 by_cases h5 : x5 = y5 <;> simp [h5]
 by_cases h6 : x6 = y6 <;> simp [h6]
 by_cases h7 : x7 = y7 <;> simp [h7]
 by_cases h8 : x8 = y8 <;> simp [h8]
 by_cases h9 : x9 = y9 <;> simp [h9]

theorem info_of {t : TypeId} {d : TypeDesc} (h : Tryz.prog.underlying t = some d) : ∃ i, Tryz.prog.info? t = some i := info_of_underlying h
theorem cells_player : Tryz.prog.cellsOf 59 = 10 := by kernel_rfl
theorem cells_shot : Tryz.prog.cellsOf 62 = 6 := by kernel_rfl
theorem runPs (d : Nat) (x0 x1 y0 y1 : Pl) (w : World) : (Op.equalIn (d + 1 + 1 + 1 + 1) 60 (.agg (plC x0 ++ plC x1).toArray) (.agg (plC y0 ++ plC y1).toArray)).run Tryz.prog w = .ok (decide (x0 = y0 ∧ x1 = y1)) w := by
 obtain ⟨i, hi⟩ := info_of strP
 have a4 := Tryz.isAgg59
 have z4 := Tryz.sizeOf59
 have hk := fun x y w => runP d x y w
 rw [run_equalIn_array w (d + 1 + 1 + 1) _ _ Tryz.underlying60 hi, cells_player, show List.range 2 = [0, 1] from rfl]
 simp only [Op.eqItems]
 go_simp
 by_cases h0 : x0 = y0 <;> by_cases h1 : x1 = y1 <;> simp [h0, h1]
theorem runBs (d : Nat) (x0 x1 x2 x3 x4 x5 y0 y1 y2 y3 y4 y5 : Bu) (w : World) : (Op.equalIn (d + 1 + 1 + 1 + 1) 63 (.agg (buC x0 ++ buC x1 ++ buC x2 ++ buC x3 ++ buC x4 ++ buC x5).toArray) (.agg (buC y0 ++ buC y1 ++ buC y2 ++ buC y3 ++ buC y4 ++ buC y5).toArray)).run Tryz.prog w = .ok (decide (x0 = y0 ∧ x1 = y1 ∧ x2 = y2 ∧ x3 = y3 ∧ x4 = y4 ∧ x5 = y5)) w := by
 obtain ⟨i, hi⟩ := info_of strB
 have a4 := Tryz.isAgg62
 have z4 := Tryz.sizeOf62
 have hk := fun x y w => runB d x y w
 rw [run_equalIn_array w (d + 1 + 1 + 1) _ _ Tryz.underlying63 hi, cells_shot, show List.range 6 = [0, 1, 2, 3, 4, 5] from rfl]
 simp only [Op.eqItems]
 go_simp
 by_cases h0 : x0 = y0 <;> simp [h0]
 by_cases h1 : x1 = y1 <;> simp [h1]
 by_cases h2 : x2 = y2 <;> simp [h2]
 by_cases h3 : x3 = y3 <;> simp [h3]
 by_cases h4 : x4 = y4 <;> simp [h4]
 by_cases h5 : x5 = y5 <;> simp [h5]

set_option maxRecDepth 100000 in
theorem runS (d : Nat) (x y : St) (w : World) : (Op.equalIn (d + 1 + 1 + 1 + 1 + 1) 65 (stV x) (stV y)).run Tryz.prog w = .ok (decide (x = y)) w := by
 have u3 := Tryz.underlying3
 have a3 := Tryz.isAgg3
 have z3 := Tryz.sizeOf3
 have u4 := Tryz.underlying22
 have a4 := Tryz.isAgg22
 have z4 := Tryz.sizeOf22
 have a5 := Tryz.isAgg60
 have z5 := Tryz.sizeOf60
 have a6 := Tryz.isAgg63
 have z6 := Tryz.sizeOf63
 have hp := fun w => runPs d x.p0 x.p1 y.p0 y.p1 w
 have hs := fun w => runBs d x.s0 x.s1 x.s2 x.s3 x.s4 x.s5 y.s0 y.s1 y.s2 y.s3 y.s4 y.s5 w
 simp only [List.cons_append, List.nil_append] at hp hs
 unfold stV stC
 simp only [List.cons_append, List.nil_append]
 rw [run_equalIn_agg w (d + 1 + 1 + 1 + 1) 65 _ _ strS stdS]
 simp only [Program.fieldsOf, Tryz.underlying65]
 go_simp
 clear hp hs u3 a3 z3 u4 a4 z4 a5 z5 a6 z6
 obtain ⟨x0, x1, x2, x3, x4, x5, x6, x7, x8, x9, x10, x11⟩ := x
 obtain ⟨y0, y1, y2, y3, y4, y5, y6, y7, y8, y9, y10, y11⟩ := y
 by_cases h0 : x0 = y0 <;> simp [h0]
 by_cases h1 : x1 = y1 <;> simp [h1]
 by_cases h2 : x2 = y2 <;> simp [h2]
 by_cases h3 : x3 = y3 <;> simp [h3]
 by_cases h4 : x4 = y4 <;> simp [h4]
 by_cases h5 : x5 = y5 <;> simp [h5]
 by_cases h6 : x6 = y6 <;> simp [h6]
 by_cases h7 : x7 = y7 <;> simp [h7]
 by_cases h8 : x8 = y8 <;> simp [h8]
 by_cases h9 : x9 = y9 <;> simp [h9]
 by_cases h10 : x10 = y10 <;> simp [h10]
 by_cases h11 : x11 = y11 <;> simp [h11]
theorem eqS (x y : St) (w : World) : (binOp .eql 65 (stV x) (stV y)).run Tryz.prog w = .ok (.bool (decide (x = y))) w := by
 have h := runS 9995 x y w
 unfold stV at h ⊢
 rw [run_eql_struct, show (10000 : Nat) = 9995 + 1 + 1 + 1 + 1 + 1 from rfl, h]; rfl
theorem neqS (x y : St) (w : World) : (binOp .neq 65 (stV x) (stV y)).run Tryz.prog w = .ok (.bool (!decide (x = y))) w := by
 have h := runS 9995 x y w
 unfold stV at h ⊢
 rw [run_neq_struct, show (10000 : Nat) = 9995 + 1 + 1 + 1 + 1 + 1 from rfl, h]; rfl

end Go.Proofs.YtfclnhmijjlhdaaGreatDoor.Gm
