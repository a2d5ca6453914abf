/- EventApplies, walked (layer 11, event). -/
import Derived.Test.YtfkbkfaiplhehaaEvAw
import Derived.Test.YtfkbkfaiplhehaaEvAq
import Derived.Test.YtfkbkfaiplhehaaEvAr
namespace Go.Proofs.Ytfkbkfaiplhehaa.Ev
open Go.RowKit
set_option linter.unusedVariables false

set_option maxRecDepth 100000 in
set_option maxHeartbeats 4000000 in
theorem applies_w (u g f t : Value) (was : List Ev) (gone : List Ky) (fresh turned : List Ev) (w : World) (hu : Evs w u was) (hg : Kys w g gone) (hf : Evs w f fresh) (ht : Evs w t turned) :
    Calls Try.prog 5 #[u, g, f, t] w fun e w' => e = .returned (.bool true) ∧ Below w.heap.size w w' := by
  have HW := hid (awake_c w)
  have HA1 := hid (fun (lg : gone.length ≤ 4096) W (k : Below w.heap.size w W) => apply_c u g f t was gone fresh turned W (hu.below k) (hg.below k) (hf.below k) (ht.below k) lg)
  have HA2 := hid (fun W (k : Below w.heap.size w W) => rapply_c u g f t was gone fresh turned W (hu.below k) (hg.below k) (hf.below k) (ht.below k))
  generalize applyR was gone fresh turned = R at HA1 HA2
  obtain ⟨R1, R2⟩ := R
  dsimp only at HA1 HA2
  obtain ⟨aog, Lg, capg, rfl, hLg, _, _, _⟩ := hg
  obtain ⟨aot, Lt, capt, rfl, hLt, _, _, _⟩ := ht
  obtain ⟨aof, Lf, capf, rfl, hLf, _, _, _⟩ := hf
  obtain ⟨aou, Lu, capu, rfl, hLu, _, _, _⟩ := hu
  have HLg := hid hLg
  clear hLg hLt hLf hLu
  by_cases h1 : 100 < Lu
  · have d1 : decide ((100 : Int) < (Lu : Int)) = true := by simp; omega
    have d2 : (100 : Int) < (Lu : Int) := by omega
    go_enter Try.func5, Try.ntmps5
    go_wp2_with (go_at_call 9; ((with_reducible refine HW.out.mono ?_); rintro e w1 ⟨rfl, g1⟩))
    go_ret
    exact ⟨rfl, g1⟩
  have d1 : decide ((100 : Int) < (Lu : Int)) = false := by simp; omega
  have d2 : ¬ (100 : Int) < (Lu : Int) := by omega
  by_cases h2 : 100 < Lg
  · have d3 : decide ((100 : Int) < (Lg : Int)) = true := by simp; omega
    have d4 : (100 : Int) < (Lg : Int) := by omega
    go_enter Try.func5, Try.ntmps5
    go_wp2_with (go_at_call 9; ((with_reducible refine HW.out.mono ?_); rintro e w1 ⟨rfl, g1⟩))
    go_ret
    exact ⟨rfl, g1⟩
  have d3 : decide ((100 : Int) < (Lg : Int)) = false := by simp; omega
  have d4 : ¬ (100 : Int) < (Lg : Int) := by omega
  by_cases h3 : 100 < Lf
  · have d5 : decide ((100 : Int) < (Lf : Int)) = true := by simp; omega
    have d6 : (100 : Int) < (Lf : Int) := by omega
    go_enter Try.func5, Try.ntmps5
    go_wp2_with (go_at_call 9; ((with_reducible refine HW.out.mono ?_); rintro e w1 ⟨rfl, g1⟩))
    go_ret
    exact ⟨rfl, g1⟩
  have d5 : decide ((100 : Int) < (Lf : Int)) = false := by simp; omega
  have d6 : ¬ (100 : Int) < (Lf : Int) := by omega
  by_cases h4 : 100 < Lt
  · have d7 : decide ((100 : Int) < (Lt : Int)) = true := by simp; omega
    have d8 : (100 : Int) < (Lt : Int) := by omega
    go_enter Try.func5, Try.ntmps5
    go_wp2_with (go_at_call 9; ((with_reducible refine HW.out.mono ?_); rintro e w1 ⟨rfl, g1⟩))
    go_ret
    exact ⟨rfl, g1⟩
  have d7 : decide ((100 : Int) < (Lt : Int)) = false := by simp; omega
  have d8 : ¬ (100 : Int) < (Lt : Int) := by omega
  have HA1 := hid (HA1.out (by have := HLg.out; omega))
  clear h1 h2 h3 h4
  go_enter Try.func5, Try.ntmps5
  go_wp2_with (first
    | (go_at_call 9; ((with_reducible refine HW.out.mono ?_); rintro e w1 ⟨rfl, g1⟩; have G1 := hid g1; clear g1))
    | (go_at_call 21; ((with_reducible refine (HA1.out _ G1.out).mono ?_); rintro e w2 ⟨v2, rfl, hv2, g2⟩; have G2 := hid (bt G1.out g2); have HV2 := hid hv2; clear hv2))
    | (go_at_call 23; ((with_reducible refine (HA2.out _ G2.out).mono ?_); rintro e w3 ⟨v3, rfl, hv3, g3⟩; have G3 := hid (bt G2.out g3); have HV3 := hid hv3; have HV23 := hid (HV2.out.below g3); clear hv3))
    | (go_at_call 15; ((with_reducible refine (rsame_c _ _ R1 R1 _ HV23.out HV3.out).mono ?_); rintro e w4 ⟨rfl, g4⟩; rw [decide_eq_true rfl]; have G4 := hid (bt G3.out g4.below))))
  go_ret
  exact ⟨rfl, G4.out⟩

end Go.Proofs.Ytfkbkfaiplhehaa.Ev
