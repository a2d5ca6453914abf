/- Which keys and events may be, as the program and as the document asks it (layer 11, event). -/
import Derived.Test.YtoogcbniphoaoaaDoorEvWorld
namespace Go.Proofs.YtoogcbniphoaoaaDoor.Ev
open Go.RowKit
set_option linter.unusedVariables false

set_option maxRecDepth 100000 in
set_option maxHeartbeats 1000000 in
theorem within_c (x a b : Int) (w : World) :
    Calls Tryd.prog 38 #[.int .i64 x, .int .i64 a, .int .i64 b] w fun e w' => e = .returned (.bool (inB x a b)) ∧ w = w' := by
  by_cases h0 : a ≤ x
  case neg =>
    rw [show inB x a b = false by simp [inB, h0]]
    go_enter Tryd.func38, Tryd.ntmps38
    go_wp2_with fail
    go_ret
    first | exact ⟨rfl, rfl⟩ | exact ⟨by simp [h0], rfl⟩
  by_cases h1 : x ≤ b
  case neg =>
    rw [show inB x a b = false by simp [inB, h0, h1]]
    go_enter Tryd.func38, Tryd.ntmps38
    go_wp2_with fail
    go_ret
    first | exact ⟨rfl, rfl⟩ | exact ⟨by simp [h1], rfl⟩
  rw [show inB x a b = true by simp [inB, h0, h1]]
  go_enter Tryd.func38, Tryd.ntmps38
  go_wp2_with fail
  go_ret
  first | exact ⟨rfl, rfl⟩ | exact ⟨by simp [h1], rfl⟩

theorem isframe_c (x : Int) (w : World) :
    Calls Tryd.prog 25 #[.int .i64 x] w fun e w' => e = .returned (.bool (inB x 0 1073741824)) ∧ w = w' := by
  go_enter Tryd.func25, Tryd.ntmps25
  go_wp2_with (go_at_call 38; ((with_reducible refine (within_c _ _ _ _).mono ?_); rintro e w' ⟨rfl, rfl⟩))
  go_ret
  exact ⟨rfl, rfl⟩

set_option maxRecDepth 100000 in
set_option maxHeartbeats 1000000 in
theorem iskey_c (k : Ky) (w : World) :
    Calls Tryd.prog 75 #[kv k] w fun e w' => e = .returned (.bool (keyB k)) ∧ Gr w w' := by
  cases h0 : inB k.f 0 1073741824
  case false =>
    rw [show keyB k = false by simp [keyB, h0]]
    go_enter Tryd.func75, Tryd.ntmps75
    go_wp2_with (first | (go_at_call 38; ((with_reducible refine (within_c _ _ _ _).mono ?_); rintro e w' ⟨rfl, rfl⟩)) | (go_at_call 25; ((with_reducible refine (isframe_c _ _).mono ?_); rintro e w' ⟨rfl, rfl⟩)))
    go_ret
    first | exact ⟨rfl, gal (gr _) _⟩ | exact ⟨by simp [h0], gal (gr _) _⟩
  cases h1 : inB k.e 0 2
  case false =>
    rw [show keyB k = false by simp [keyB, h0, h1]]
    go_enter Tryd.func75, Tryd.ntmps75
    go_wp2_with (first | (go_at_call 38; ((with_reducible refine (within_c _ _ _ _).mono ?_); rintro e w' ⟨rfl, rfl⟩)) | (go_at_call 25; ((with_reducible refine (isframe_c _ _).mono ?_); rintro e w' ⟨rfl, rfl⟩)))
    go_ret
    first | exact ⟨rfl, gal (gr _) _⟩ | exact ⟨by simp [h1], gal (gr _) _⟩
  cases h2 : inB k.k 1 9
  case false =>
    rw [show keyB k = false by simp [keyB, h0, h1, h2]]
    go_enter Tryd.func75, Tryd.ntmps75
    go_wp2_with (first | (go_at_call 38; ((with_reducible refine (within_c _ _ _ _).mono ?_); rintro e w' ⟨rfl, rfl⟩)) | (go_at_call 25; ((with_reducible refine (isframe_c _ _).mono ?_); rintro e w' ⟨rfl, rfl⟩)))
    go_ret
    first | exact ⟨rfl, gal (gr _) _⟩ | exact ⟨by simp [h2], gal (gr _) _⟩
  cases h3 : inB k.o 0 15
  case false =>
    rw [show keyB k = false by simp [keyB, h0, h1, h2, h3]]
    go_enter Tryd.func75, Tryd.ntmps75
    go_wp2_with (first | (go_at_call 38; ((with_reducible refine (within_c _ _ _ _).mono ?_); rintro e w' ⟨rfl, rfl⟩)) | (go_at_call 25; ((with_reducible refine (isframe_c _ _).mono ?_); rintro e w' ⟨rfl, rfl⟩)))
    go_ret
    first | exact ⟨rfl, gal (gr _) _⟩ | exact ⟨by simp [h3], gal (gr _) _⟩
  rw [show keyB k = true by simp [keyB, h0, h1, h2, h3]]
  go_enter Tryd.func75, Tryd.ntmps75
  go_wp2_with (first | (go_at_call 38; ((with_reducible refine (within_c _ _ _ _).mono ?_); rintro e w' ⟨rfl, rfl⟩)) | (go_at_call 25; ((with_reducible refine (isframe_c _ _).mono ?_); rintro e w' ⟨rfl, rfl⟩)))
  go_ret
  first | exact ⟨rfl, gal (gr _) _⟩ | exact ⟨by simp [h3], gal (gr _) _⟩

set_option maxRecDepth 100000 in
set_option maxHeartbeats 1000000 in
theorem right_c (x : Ev) (w : World) :
    Calls Tryd.prog 63 #[ev x] w fun e w' => e = .returned (.bool (evB x)) ∧ Gr w w' := by
  cases h0 : keyB x.key
  case false =>
    rw [show evB x = false by simp [evB, h0]]
    go_enter Tryd.func63, Tryd.ntmps63
    go_wp2_with (first | (go_at_call 75; ((with_reducible refine (iskey_c x.key _).mono ?_); rintro e w1 ⟨rfl, hb⟩; obtain ⟨hx4, hx5, hx6, hx7, hx8⟩ := tail_box hb)) | (go_at_call 38; ((with_reducible refine (within_c _ _ _ _).mono ?_); rintro e w' ⟨rfl, rfl⟩)))
    go_ret
    first | exact ⟨rfl, gt (gal (gr _) _) hb⟩ | exact ⟨by simp [h0], gt (gal (gr _) _) hb⟩
  cases h1 : inB x.a 0 31
  case false =>
    rw [show evB x = false by simp [evB, h0, h1]]
    go_enter Tryd.func63, Tryd.ntmps63
    go_wp2_with (first | (go_at_call 75; ((with_reducible refine (iskey_c x.key _).mono ?_); rintro e w1 ⟨rfl, hb⟩; obtain ⟨hx4, hx5, hx6, hx7, hx8⟩ := tail_box hb)) | (go_at_call 38; ((with_reducible refine (within_c _ _ _ _).mono ?_); rintro e w' ⟨rfl, rfl⟩)))
    go_ret
    first | exact ⟨rfl, gt (gal (gr _) _) hb⟩ | exact ⟨by simp [h1], gt (gal (gr _) _) hb⟩
  cases h2 : inB x.g 0 32768
  case false =>
    rw [show evB x = false by simp [evB, h0, h1, h2]]
    go_enter Tryd.func63, Tryd.ntmps63
    go_wp2_with (first | (go_at_call 75; ((with_reducible refine (iskey_c x.key _).mono ?_); rintro e w1 ⟨rfl, hb⟩; obtain ⟨hx4, hx5, hx6, hx7, hx8⟩ := tail_box hb)) | (go_at_call 38; ((with_reducible refine (within_c _ _ _ _).mono ?_); rintro e w' ⟨rfl, rfl⟩)))
    go_ret
    first | exact ⟨rfl, gt (gal (gr _) _) hb⟩ | exact ⟨by simp [h2], gt (gal (gr _) _) hb⟩
  cases h3 : inB x.p (-32768) 32768
  case false =>
    rw [show evB x = false by simp [evB, h0, h1, h2, h3]]
    go_enter Tryd.func63, Tryd.ntmps63
    go_wp2_with (first | (go_at_call 75; ((with_reducible refine (iskey_c x.key _).mono ?_); rintro e w1 ⟨rfl, hb⟩; obtain ⟨hx4, hx5, hx6, hx7, hx8⟩ := tail_box hb)) | (go_at_call 38; ((with_reducible refine (within_c _ _ _ _).mono ?_); rintro e w' ⟨rfl, rfl⟩)))
    go_ret
    first | exact ⟨rfl, gt (gal (gr _) _) hb⟩ | exact ⟨by simp [h3], gt (gal (gr _) _) hb⟩
  cases h4 : inB x.r 0 15
  case false =>
    rw [show evB x = false by simp [evB, h0, h1, h2, h3, h4]]
    go_enter Tryd.func63, Tryd.ntmps63
    go_wp2_with (first | (go_at_call 75; ((with_reducible refine (iskey_c x.key _).mono ?_); rintro e w1 ⟨rfl, hb⟩; obtain ⟨hx4, hx5, hx6, hx7, hx8⟩ := tail_box hb)) | (go_at_call 38; ((with_reducible refine (within_c _ _ _ _).mono ?_); rintro e w' ⟨rfl, rfl⟩)))
    go_ret
    first | exact ⟨rfl, gt (gal (gr _) _) hb⟩ | exact ⟨by simp [h4], gt (gal (gr _) _) hb⟩
  cases h5 : inB x.l 0 600
  case false =>
    rw [show evB x = false by simp [evB, h0, h1, h2, h3, h4, h5]]
    go_enter Tryd.func63, Tryd.ntmps63
    go_wp2_with (first | (go_at_call 75; ((with_reducible refine (iskey_c x.key _).mono ?_); rintro e w1 ⟨rfl, hb⟩; obtain ⟨hx4, hx5, hx6, hx7, hx8⟩ := tail_box hb)) | (go_at_call 38; ((with_reducible refine (within_c _ _ _ _).mono ?_); rintro e w' ⟨rfl, rfl⟩)))
    go_ret
    first | exact ⟨rfl, gt (gal (gr _) _) hb⟩ | exact ⟨by simp [h5], gt (gal (gr _) _) hb⟩
  rw [show evB x = true by simp [evB, h0, h1, h2, h3, h4, h5]]
  go_enter Tryd.func63, Tryd.ntmps63
  go_wp2_with (first | (go_at_call 75; ((with_reducible refine (iskey_c x.key _).mono ?_); rintro e w1 ⟨rfl, hb⟩; obtain ⟨hx4, hx5, hx6, hx7, hx8⟩ := tail_box hb)) | (go_at_call 38; ((with_reducible refine (within_c _ _ _ _).mono ?_); rintro e w' ⟨rfl, rfl⟩)))
  go_ret
  first | exact ⟨rfl, gt (gal (gr _) _) hb⟩ | exact ⟨by simp [h5], gt (gal (gr _) _) hb⟩

end Go.Proofs.YtoogcbniphoaoaaDoor.Ev
