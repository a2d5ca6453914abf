/- The statement WirePacks of layer 7 (wire), as a walk: the law, called with any datagram, returns true and leaves the old memory as it was. -/
import Derived.Test.YtnjmmmclelmeiaaWrLSame
import Derived.Deep.RegionHeld3
namespace Go.Proofs.Ytnjmmmclelmeiaa.Wr
open Go.RowKit Go.Proofs.Ytnjmmmclelmeiaa.Fx Go.Proofs.Ytnjmmmclelmeiaa.Pk

/-- what is kept of a datagram while new memory is made, whole. -/
theorem keep7 {y W : World} {b : Nat} {m : Dg} {v : Value} (h : Box y b m v) (hb : Below y.heap.size y W) : Below y.heap.size y W ∧ W.cell? ⟨b, 0, none⟩ = some (.int .i64 m.kind) ∧ W.cell? ⟨b, 1, none⟩ = some (.int .u32 (m.nonce : Int)) ∧ W.cell? ⟨b, 2, none⟩ = some (.int .u16 (m.serial : Int)) ∧ W.cell? ⟨b, 3, none⟩ = some (.int .u16 (m.ack : Int)) ∧ W.cell? ⟨b, 4, none⟩ = some v ∧ W.cell? ⟨b, 5, none⟩ = some (.int .u32 (m.sum : Int)) ∧ W.cell? ⟨b, 6, none⟩ = some (.int .i64 m.lead) := ⟨hb, (h.below hb).cells⟩

theorem rright_b (m : Dg) (ao : Option Addr) (L cap : Nat) (w : World) (hr : Rd w (.slice ao L cap) m.inputs) :
    Calls Try.prog 10 #[.agg (cellsD m (.slice ao L cap))] w fun e w' => e = .returned (.bool (rightB m)) ∧ Below w.heap.size w w' :=
  (rright_c m ao L cap w hr).mono fun _ _ ⟨he, hw⟩ => ⟨he, by rw [hw]; exact box_below w _⟩

set_option maxRecDepth 100000 in
set_option maxHeartbeats 4000000 in
theorem packs_w (m : Dg) (ao : Option Addr) (L cap : Nat) (w : World) (hr : Rd w (.slice ao L cap) m.inputs) (hi : InD m) :
    Calls Try.prog 3 #[.agg (cellsD m (.slice ao L cap))] w fun e w' => e = .returned (.bool true) ∧ Below w.heap.size w w' := by
  have hA0 := hid (St.new w m ao L cap)
  have HA := fun W (h : St w w.heap.size m ao L cap W) => hid (h.holds hr hi)
  have HRd := fun W (h : St w w.heap.size m ao L cap W) => hid (hr.below h.below)
  have HI := hid hi
  by_cases h1 : 200 < L
  · clear hr hi
    go_enter Try.func3, Try.ntmps3
    go_wp2_with (go_at_call 7; ((with_reducible refine (awake_c _).mono ?_); rintro e y1 ⟨rfl, hy1⟩; have hA1 := hid (hA0.out.grow hy1); obtain ⟨c0, c1, c2, c3, c4, c5, c6⟩ := hA1.out.box.cells; clear hy1))
    go_ret
    exact ⟨rfl, hA1.out.below⟩
  clear hr hi
  go_enter Try.func3, Try.ntmps3
  go_upto_region 6 with (first
    | (go_at_call 7; ((with_reducible refine (awake_c _).mono ?_); rintro e y1 ⟨rfl, hy1⟩; have hA1 := hid (hA0.out.grow hy1); obtain ⟨c0, c1, c2, c3, c4, c5, c6⟩ := hA1.out.box.cells; clear hy1))
    | (go_at_call 8; (refine (pack_a _ m _ (HA _ hA1.out).out).mono ?_; rintro e y2 ⟨S, s, rfl, HS, hy2⟩; have hA2 := hid (hA1.out.grow hy2); clear hy2)))
  have HR := hid (fun W (h : Below y2.heap.size y2 W) => right_c _ m W (HA W (hA2.out.grow h)).out)
  have HQ := hid (fun W (h : Below y2.heap.size y2 W) => rright_b m ao L cap W (HRd W (hA2.out.grow h)).out)
  have hK := hid (fun W (h : Below y2.heap.size y2 W) => keep7 hA2.out.box h)
  have hS0 := hK.out y2 (Below.refl _ y2)
  have hb2 : Below y2.heap.size y2 y2 := Below.refl _ y2
  clear c0 c1 c2 c3 c4 c5 c6
  by_cases hR : RightD m
  · rw [right_yes hR] at HR HQ
    rcases HS.out with ⟨rfl, _, eS⟩ | ⟨_, hn, _⟩
    · have hTP := tell_pack m hR HI.out S eS
      have hml := msg_len m hR
      have HT := hid hTP.1
      have hsz : S.size ≤ 139 := by have := hTP.2; omega
      have HU := hid (fun W => unpack_c S W (by omega))
      have HPk := hid (fun W (h : Below y2.heap.size y2 W) => rpack_c _ m W (HA W (hA2.out.grow h)).out hR)
      rw [← eS] at HPk
      clear HS eS hTP hml
      go_region_held3 (fun W => Below y2.heap.size y2 W ∧ W.cell? ⟨w.heap.size, 0, none⟩ = some (.int .i64 m.kind) ∧ W.cell? ⟨w.heap.size, 1, none⟩ = some (.int .u32 (m.nonce : Int)) ∧ W.cell? ⟨w.heap.size, 2, none⟩ = some (.int .u16 (m.serial : Int)) ∧ W.cell? ⟨w.heap.size, 3, none⟩ = some (.int .u16 (m.ack : Int)) ∧ W.cell? ⟨w.heap.size, 4, none⟩ = some (.slice ao L cap) ∧ W.cell? ⟨w.heap.size, 5, none⟩ = some (.int .u32 (m.sum : Int)) ∧ W.cell? ⟨w.heap.size, 6, none⟩ = some (.int .i64 m.lead)) (first | with_reducible assumption | exact hK.out _ (bdrew _ (Below.refl _ _)) | exact hK.out _ (bdrew1 (Below.refl _ _)) | exact hK.out _ (Below.refl _ _))
          (first
          | (go_at_call 9; ((with_reducible refine (HR.out _ (by first | with_reducible assumption | exact bdrew _ (Below.refl _ _) | exact bdrew1 (Below.refl _ _))).mono ?_); rintro e y3 ⟨rfl, hy3⟩; have hb3 := bt (show Below y2.heap.size y2 _ by first | with_reducible assumption | exact bdrew _ (Below.refl _ _) | exact bdrew1 (Below.refl _ _)) hy3; have hS3 := hK.out _ hb3; clear hy3))
          | (go_at_call 10; ((with_reducible refine (HQ.out _ (by first | with_reducible assumption | exact bdrew _ (Below.refl _ _) | exact bdrew1 (Below.refl _ _))).mono ?_); rintro e y4 ⟨rfl, hy4⟩; have hb4 := bt (show Below y2.heap.size y2 _ by first | with_reducible assumption | exact bdrew _ (Below.refl _ _) | exact bdrew1 (Below.refl _ _)) hy4; have hS4 := hK.out _ hb4; clear hy4)))
      all_goals
        have HB4 := hid hb4
        obtain ⟨_, c0, c1, c2, c3, c4, c5, c6⟩ := hS4
        clear hS3 hb3 hb4
        go_upto_region 11 with (first
          | (go_at_call 10; ((with_reducible refine (HQ.out _ HB4.out).mono ?_); rintro e y5 ⟨rfl, hy5⟩; have HB5 := hid (bt HB4.out hy5); clear hy5))
          | (go_at_call 11; ((with_reducible refine (HU.out _).mono ?_); rintro e y6 ⟨mx, cx, aox, Lx, capx, rfl, hrd, hin, ht, hb6⟩; have HM := hid (And.intro hrd (And.intro hin (And.intro ht hb6))); clear hrd hin ht hb6)))
        obtain ⟨hrd, hin, ht, hb6⟩ := HM.out
        obtain ⟨rfl, rfl⟩ := tell_one ht HT.out
        have hbx := box_below y6 (.cells (cellsD mx (.slice aox Lx capx)) 26)
        have HB7 := hid (bt (bt HB5.out hb6) hbx)
        have HX7 := hid (Box.new y6 mx (.slice aox Lx capx))
        have HV7 := hid (hrd.below hbx)
        obtain ⟨_, d0, d1, d2, d3, d4, d5, d6⟩ := hK.out _ HB7.out
        clear HM hrd ht hb6 hbx
        go_wp2_with (first
          | (go_at_call 12; ((with_reducible refine (HPk.out _ HB7.out).mono ?_); rintro e y8 ⟨rfl, hy8⟩; have HB8 := hid (bt HB7.out hy8); have HX8 := hid (HX7.out.below hy8); have HV8 := hid (HV7.out.below hy8); obtain ⟨_, e0, e1, e2, e3, e4, e5, e6⟩ := hK.out _ HB8.out; obtain ⟨x0, x1, x2, x3, x4, x5, x6⟩ := HX8.out.cells; have HSm := hid (rsame_c (.agg (cellsD mx (.slice aox Lx capx))) (.agg (cellsD mx (.slice ao L cap))) mx mx y8 ⟨aox, Lx, capx, rfl, HV8.out, HI.out⟩ (HA _ (hA2.out.grow HB8.out)).out); rw [same_yes] at HSm; clear hy8))
          | (go_at_call 13; ((with_reducible refine HSm.out.mono ?_); rintro e y9 ⟨rfl, hy9⟩)))
        go_ret
        exact ⟨rfl, bt (bt hA2.out.below HB8.out) hy9⟩
    · exact absurd hR hn
  · rw [right_no hR] at HR HQ
    rcases HS.out with ⟨_, hn, _⟩ | ⟨rfl, _, rfl⟩
    · exact absurd hn hR
    · clear HS
      go_region_held3 (fun W => Below y2.heap.size y2 W ∧ W.cell? ⟨w.heap.size, 0, none⟩ = some (.int .i64 m.kind) ∧ W.cell? ⟨w.heap.size, 1, none⟩ = some (.int .u32 (m.nonce : Int)) ∧ W.cell? ⟨w.heap.size, 2, none⟩ = some (.int .u16 (m.serial : Int)) ∧ W.cell? ⟨w.heap.size, 3, none⟩ = some (.int .u16 (m.ack : Int)) ∧ W.cell? ⟨w.heap.size, 4, none⟩ = some (.slice ao L cap) ∧ W.cell? ⟨w.heap.size, 5, none⟩ = some (.int .u32 (m.sum : Int)) ∧ W.cell? ⟨w.heap.size, 6, none⟩ = some (.int .i64 m.lead)) (first | with_reducible assumption | exact hK.out _ (bdrew _ (Below.refl _ _)) | exact hK.out _ (bdrew1 (Below.refl _ _)) | exact hK.out _ (Below.refl _ _))
          (first
          | (go_at_call 9; ((with_reducible refine (HR.out _ (by first | with_reducible assumption | exact bdrew _ (Below.refl _ _) | exact bdrew1 (Below.refl _ _))).mono ?_); rintro e y3 ⟨rfl, hy3⟩; have hb3 := bt (show Below y2.heap.size y2 _ by first | with_reducible assumption | exact bdrew _ (Below.refl _ _) | exact bdrew1 (Below.refl _ _)) hy3; have hS3 := hK.out _ hb3; clear hy3))
          | (go_at_call 10; ((with_reducible refine (HQ.out _ (by first | with_reducible assumption | exact bdrew _ (Below.refl _ _) | exact bdrew1 (Below.refl _ _))).mono ?_); rintro e y4 ⟨rfl, hy4⟩; have hb4 := bt (show Below y2.heap.size y2 _ by first | with_reducible assumption | exact bdrew _ (Below.refl _ _) | exact bdrew1 (Below.refl _ _)) hy4; have hS4 := hK.out _ hb4; clear hy4)))
      all_goals
        have HB4 := hid hb4
        obtain ⟨_, c0, c1, c2, c3, c4, c5, c6⟩ := hS4
        clear hS3 hb3 hb4
        go_wp2_with (go_at_call 10; ((with_reducible refine (HQ.out _ HB4.out).mono ?_); rintro e y5 ⟨rfl, hy5⟩; have HB5 := hid (bt HB4.out hy5); clear hy5))
        go_ret
        exact ⟨rfl, bt hA2.out.below HB5.out⟩
end Go.Proofs.Ytnjmmmclelmeiaa.Wr
