/- Which keys and events may be, as the program and as the document asks it (layer 11, event). -/
import Derived.Test.YtfkbkfaiplhehaaEvWorld
namespace Go.Proofs.Ytfkbkfaiplhehaa.Ev
open Go.RowKit
set_option linter.unusedVariables false

set_option maxRecDepth 100000 in
set_option maxHeartbeats 1000000 in
theorem within_c (x a b : Int) (w : World) :
    Calls Try.prog 38 #[.int .i64 x, .int .i64 a, .int .i64 b] w fun e w' => e = .returned (.bool (inB x a b)) ∧ w = w' := by
  by_cases h0 : a ≤ x
  case neg =>
    rw [show inB x a b = false by simp [inB, h0]]
    go_enter Try.func38, Try.ntmps38
    go_wp2_with fail
    go_ret
    first | exact ⟨rfl, rfl⟩ | exact ⟨by simp [h0], rfl⟩
  by_cases h1 : x ≤ b
  case neg =>
    rw [show inB x a b = false by simp [inB, h0, h1]]
    go_enter Try.func38, Try.ntmps38
    go_wp2_with fail
    go_ret
    first | exact ⟨rfl, rfl⟩ | exact ⟨by simp [h1], rfl⟩
  rw [show inB x a b = true by simp [inB, h0, h1]]
  go_enter Try.func38, Try.ntmps38
  go_wp2_with fail
  go_ret
  first | exact ⟨rfl, rfl⟩ | exact ⟨by simp [h1], rfl⟩

theorem isframe_c (x : Int) (w : World) :
    Calls Try.prog 47 #[.int .i64 x] w fun e w' => e = .returned (.bool (inB x 0 1073741824)) ∧ w = w' := by
  go_enter Try.func47, Try.ntmps47
  go_wp2_with (go_at_call 38; ((with_reducible refine (within_c _ _ _ _).mono ?_); rintro e w' ⟨rfl, rfl⟩))
  go_ret
  exact ⟨rfl, rfl⟩

set_option maxRecDepth 100000 in
set_option maxHeartbeats 1000000 in
theorem iskey_c (k : Ky) (w : World) :
    Calls Try.prog 37 #[kv k] w fun e w' => e = .returned (.bool (keyB k)) ∧ Gr w w' := by
  cases h0 : inB k.f 0 1073741824
  case false =>
    rw [show keyB k = false by simp [keyB, h0]]
    go_enter Try.func37, Try.ntmps37
    go_wp2_with (first | (go_at_call 38; ((with_reducible refine (within_c _ _ _ _).mono ?_); rintro e w' ⟨rfl, rfl⟩)) | (go_at_call 47; ((with_reducible refine (isframe_c _ _).mono ?_); rintro e w' ⟨rfl, rfl⟩)))
    go_ret
    first | exact ⟨rfl, gal (gr _) _⟩ | exact ⟨by simp [h0], gal (gr _) _⟩
  cases h1 : inB k.e 0 2
  case false =>
    rw [show keyB k = false by simp [keyB, h0, h1]]
    go_enter Try.func37, Try.ntmps37
    go_wp2_with (first | (go_at_call 38; ((with_reducible refine (within_c _ _ _ _).mono ?_); rintro e w' ⟨rfl, rfl⟩)) | (go_at_call 47; ((with_reducible refine (isframe_c _ _).mono ?_); rintro e w' ⟨rfl, rfl⟩)))
    go_ret
    first | exact ⟨rfl, gal (gr _) _⟩ | exact ⟨by simp [h1], gal (gr _) _⟩
  cases h2 : inB k.k 1 9
  case false =>
    rw [show keyB k = false by simp [keyB, h0, h1, h2]]
    go_enter Try.func37, Try.ntmps37
    go_wp2_with (first | (go_at_call 38; ((with_reducible refine (within_c _ _ _ _).mono ?_); rintro e w' ⟨rfl, rfl⟩)) | (go_at_call 47; ((with_reducible refine (isframe_c _ _).mono ?_); rintro e w' ⟨rfl, rfl⟩)))
    go_ret
    first | exact ⟨rfl, gal (gr _) _⟩ | exact ⟨by simp [h2], gal (gr _) _⟩
  cases h3 : inB k.o 0 15
  case false =>
    rw [show keyB k = false by simp [keyB, h0, h1, h2, h3]]
    go_enter Try.func37, Try.ntmps37
    go_wp2_with (first | (go_at_call 38; ((with_reducible refine (within_c _ _ _ _).mono ?_); rintro e w' ⟨rfl, rfl⟩)) | (go_at_call 47; ((with_reducible refine (isframe_c _ _).mono ?_); rintro e w' ⟨rfl, rfl⟩)))
    go_ret
    first | exact ⟨rfl, gal (gr _) _⟩ | exact ⟨by simp [h3], gal (gr _) _⟩
  rw [show keyB k = true by simp [keyB, h0, h1, h2, h3]]
  go_enter Try.func37, Try.ntmps37
  go_wp2_with (first | (go_at_call 38; ((with_reducible refine (within_c _ _ _ _).mono ?_); rintro e w' ⟨rfl, rfl⟩)) | (go_at_call 47; ((with_reducible refine (isframe_c _ _).mono ?_); rintro e w' ⟨rfl, rfl⟩)))
  go_ret
  first | exact ⟨rfl, gal (gr _) _⟩ | exact ⟨by simp [h3], gal (gr _) _⟩

set_option maxRecDepth 100000 in
set_option maxHeartbeats 1000000 in
theorem right_c (x : Ev) (w : World) :
    Calls Try.prog 12 #[ev x] w fun e w' => e = .returned (.bool (evB x)) ∧ Gr w w' := by
  cases h0 : keyB x.key
  case false =>
    rw [show evB x = false by simp [evB, h0]]
    go_enter Try.func12, Try.ntmps12
    go_wp2_with (first | (go_at_call 37; ((with_reducible refine (iskey_c x.key _).mono ?_); rintro e w1 ⟨rfl, hb⟩; obtain ⟨hx4, hx5, hx6, hx7, hx8⟩ := tail_box hb)) | (go_at_call 38; ((with_reducible refine (within_c _ _ _ _).mono ?_); rintro e w' ⟨rfl, rfl⟩)))
    go_ret
    first | exact ⟨rfl, gt (gal (gr _) _) hb⟩ | exact ⟨by simp [h0], gt (gal (gr _) _) hb⟩
  cases h1 : inB x.a 0 31
  case false =>
    rw [show evB x = false by simp [evB, h0, h1]]
    go_enter Try.func12, Try.ntmps12
    go_wp2_with (first | (go_at_call 37; ((with_reducible refine (iskey_c x.key _).mono ?_); rintro e w1 ⟨rfl, hb⟩; obtain ⟨hx4, hx5, hx6, hx7, hx8⟩ := tail_box hb)) | (go_at_call 38; ((with_reducible refine (within_c _ _ _ _).mono ?_); rintro e w' ⟨rfl, rfl⟩)))
    go_ret
    first | exact ⟨rfl, gt (gal (gr _) _) hb⟩ | exact ⟨by simp [h1], gt (gal (gr _) _) hb⟩
  cases h2 : inB x.g 0 32768
  case false =>
    rw [show evB x = false by simp [evB, h0, h1, h2]]
    go_enter Try.func12, Try.ntmps12
    go_wp2_with (first | (go_at_call 37; ((with_reducible refine (iskey_c x.key _).mono ?_); rintro e w1 ⟨rfl, hb⟩; obtain ⟨hx4, hx5, hx6, hx7, hx8⟩ := tail_box hb)) | (go_at_call 38; ((with_reducible refine (within_c _ _ _ _).mono ?_); rintro e w' ⟨rfl, rfl⟩)))
    go_ret
    first | exact ⟨rfl, gt (gal (gr _) _) hb⟩ | exact ⟨by simp [h2], gt (gal (gr _) _) hb⟩
  cases h3 : inB x.p (-32768) 32768
  case false =>
    rw [show evB x = false by simp [evB, h0, h1, h2, h3]]
    go_enter Try.func12, Try.ntmps12
    go_wp2_with (first | (go_at_call 37; ((with_reducible refine (iskey_c x.key _).mono ?_); rintro e w1 ⟨rfl, hb⟩; obtain ⟨hx4, hx5, hx6, hx7, hx8⟩ := tail_box hb)) | (go_at_call 38; ((with_reducible refine (within_c _ _ _ _).mono ?_); rintro e w' ⟨rfl, rfl⟩)))
    go_ret
    first | exact ⟨rfl, gt (gal (gr _) _) hb⟩ | exact ⟨by simp [h3], gt (gal (gr _) _) hb⟩
  cases h4 : inB x.r 0 15
  case false =>
    rw [show evB x = false by simp [evB, h0, h1, h2, h3, h4]]
    go_enter Try.func12, Try.ntmps12
    go_wp2_with (first | (go_at_call 37; ((with_reducible refine (iskey_c x.key _).mono ?_); rintro e w1 ⟨rfl, hb⟩; obtain ⟨hx4, hx5, hx6, hx7, hx8⟩ := tail_box hb)) | (go_at_call 38; ((with_reducible refine (within_c _ _ _ _).mono ?_); rintro e w' ⟨rfl, rfl⟩)))
    go_ret
    first | exact ⟨rfl, gt (gal (gr _) _) hb⟩ | exact ⟨by simp [h4], gt (gal (gr _) _) hb⟩
  cases h5 : inB x.l 0 600
  case false =>
    rw [show evB x = false by simp [evB, h0, h1, h2, h3, h4, h5]]
    go_enter Try.func12, Try.ntmps12
    go_wp2_with (first | (go_at_call 37; ((with_reducible refine (iskey_c x.key _).mono ?_); rintro e w1 ⟨rfl, hb⟩; obtain ⟨hx4, hx5, hx6, hx7, hx8⟩ := tail_box hb)) | (go_at_call 38; ((with_reducible refine (within_c _ _ _ _).mono ?_); rintro e w' ⟨rfl, rfl⟩)))
    go_ret
    first | exact ⟨rfl, gt (gal (gr _) _) hb⟩ | exact ⟨by simp [h5], gt (gal (gr _) _) hb⟩
  rw [show evB x = true by simp [evB, h0, h1, h2, h3, h4, h5]]
  go_enter Try.func12, Try.ntmps12
  go_wp2_with (first | (go_at_call 37; ((with_reducible refine (iskey_c x.key _).mono ?_); rintro e w1 ⟨rfl, hb⟩; obtain ⟨hx4, hx5, hx6, hx7, hx8⟩ := tail_box hb)) | (go_at_call 38; ((with_reducible refine (within_c _ _ _ _).mono ?_); rintro e w' ⟨rfl, rfl⟩)))
  go_ret
  first | exact ⟨rfl, gt (gal (gr _) _) hb⟩ | exact ⟨by simp [h5], gt (gal (gr _) _) hb⟩

set_option maxRecDepth 100000 in
set_option maxHeartbeats 1000000 in
theorem rkey_c (k : Ky) (w : World) :
    Calls Try.prog 39 #[kv k] w fun e w' => e = .returned (.bool (keyB k)) ∧ Gr w w' := by
  by_cases h0 : 0 ≤ k.f
  case neg =>
    rw [show keyB k = false by simp [keyB, inB, h0]]
    go_enter Try.func39, Try.ntmps39
    go_wp2_with fail
    go_ret
    first | exact ⟨rfl, gal (gr _) _⟩ | exact ⟨by simp [h0], gal (gr _) _⟩
  by_cases h1 : k.f ≤ 1073741824
  case neg =>
    rw [show keyB k = false by simp [keyB, inB, h0, h1]]
    go_enter Try.func39, Try.ntmps39
    go_wp2_with fail
    go_ret
    first | exact ⟨rfl, gal (gr _) _⟩ | exact ⟨by simp [h1], gal (gr _) _⟩
  by_cases h2 : 0 ≤ k.e
  case neg =>
    rw [show keyB k = false by simp [keyB, inB, h0, h1, h2]]
    go_enter Try.func39, Try.ntmps39
    go_wp2_with fail
    go_ret
    first | exact ⟨rfl, gal (gr _) _⟩ | exact ⟨by simp [h2], gal (gr _) _⟩
  by_cases h3 : k.e ≤ 2
  case neg =>
    rw [show keyB k = false by simp [keyB, inB, h0, h1, h2, h3]]
    go_enter Try.func39, Try.ntmps39
    go_wp2_with fail
    go_ret
    first | exact ⟨rfl, gal (gr _) _⟩ | exact ⟨by simp [h3], gal (gr _) _⟩
  by_cases h4 : 1 ≤ k.k
  case neg =>
    rw [show keyB k = false by simp [keyB, inB, h0, h1, h2, h3, h4]]
    go_enter Try.func39, Try.ntmps39
    go_wp2_with fail
    go_ret
    first | exact ⟨rfl, gal (gr _) _⟩ | exact ⟨by simp [h4], gal (gr _) _⟩
  by_cases h5 : k.k ≤ 9
  case neg =>
    rw [show keyB k = false by simp [keyB, inB, h0, h1, h2, h3, h4, h5]]
    go_enter Try.func39, Try.ntmps39
    go_wp2_with fail
    go_ret
    first | exact ⟨rfl, gal (gr _) _⟩ | exact ⟨by simp [h5], gal (gr _) _⟩
  by_cases h6 : 0 ≤ k.o
  case neg =>
    rw [show keyB k = false by simp [keyB, inB, h0, h1, h2, h3, h4, h5, h6]]
    go_enter Try.func39, Try.ntmps39
    go_wp2_with fail
    go_ret
    first | exact ⟨rfl, gal (gr _) _⟩ | exact ⟨by simp [h6], gal (gr _) _⟩
  by_cases h7 : k.o ≤ 15
  case neg =>
    rw [show keyB k = false by simp [keyB, inB, h0, h1, h2, h3, h4, h5, h6, h7]]
    go_enter Try.func39, Try.ntmps39
    go_wp2_with fail
    go_ret
    first | exact ⟨rfl, gal (gr _) _⟩ | exact ⟨by simp [h7], gal (gr _) _⟩
  rw [show keyB k = true by simp [keyB, inB, h0, h1, h2, h3, h4, h5, h6, h7]]
  go_enter Try.func39, Try.ntmps39
  go_wp2_with fail
  go_ret
  first | exact ⟨rfl, gal (gr _) _⟩ | exact ⟨by simp [h7], gal (gr _) _⟩

set_option maxRecDepth 100000 in
set_option maxHeartbeats 1000000 in
theorem rright_c (x : Ev) (w : World) :
    Calls Try.prog 13 #[ev x] w fun e w' => e = .returned (.bool (evB x)) ∧ Gr w w' := by
  cases h0 : keyB x.key
  case false =>
    rw [show evB x = false by simp [evB, h0]]
    go_enter Try.func13, Try.ntmps13
    go_wp2_with (first | (go_at_call 39; ((with_reducible refine (rkey_c x.key _).mono ?_); rintro e w1 ⟨rfl, hb⟩; obtain ⟨hx4, hx5, hx6, hx7, hx8⟩ := tail_box hb)))
    go_ret
    first | exact ⟨rfl, gt (gal (gr _) _) hb⟩ | exact ⟨by simp [h0], gt (gal (gr _) _) hb⟩
  by_cases h1 : 0 ≤ x.a
  case neg =>
    rw [show evB x = false by simp [evB, inB, h0, h1]]
    go_enter Try.func13, Try.ntmps13
    go_wp2_with (first | (go_at_call 39; ((with_reducible refine (rkey_c x.key _).mono ?_); rintro e w1 ⟨rfl, hb⟩; obtain ⟨hx4, hx5, hx6, hx7, hx8⟩ := tail_box hb)))
    go_ret
    first | exact ⟨rfl, gt (gal (gr _) _) hb⟩ | exact ⟨by simp [h1], gt (gal (gr _) _) hb⟩
  by_cases h2 : x.a ≤ 31
  case neg =>
    rw [show evB x = false by simp [evB, inB, h0, h1, h2]]
    go_enter Try.func13, Try.ntmps13
    go_wp2_with (first | (go_at_call 39; ((with_reducible refine (rkey_c x.key _).mono ?_); rintro e w1 ⟨rfl, hb⟩; obtain ⟨hx4, hx5, hx6, hx7, hx8⟩ := tail_box hb)))
    go_ret
    first | exact ⟨rfl, gt (gal (gr _) _) hb⟩ | exact ⟨by simp [h2], gt (gal (gr _) _) hb⟩
  by_cases h3 : 0 ≤ x.g
  case neg =>
    rw [show evB x = false by simp [evB, inB, h0, h1, h2, h3]]
    go_enter Try.func13, Try.ntmps13
    go_wp2_with (first | (go_at_call 39; ((with_reducible refine (rkey_c x.key _).mono ?_); rintro e w1 ⟨rfl, hb⟩; obtain ⟨hx4, hx5, hx6, hx7, hx8⟩ := tail_box hb)))
    go_ret
    first | exact ⟨rfl, gt (gal (gr _) _) hb⟩ | exact ⟨by simp [h3], gt (gal (gr _) _) hb⟩
  by_cases h4 : x.g ≤ 32768
  case neg =>
    rw [show evB x = false by simp [evB, inB, h0, h1, h2, h3, h4]]
    go_enter Try.func13, Try.ntmps13
    go_wp2_with (first | (go_at_call 39; ((with_reducible refine (rkey_c x.key _).mono ?_); rintro e w1 ⟨rfl, hb⟩; obtain ⟨hx4, hx5, hx6, hx7, hx8⟩ := tail_box hb)))
    go_ret
    first | exact ⟨rfl, gt (gal (gr _) _) hb⟩ | exact ⟨by simp [h4], gt (gal (gr _) _) hb⟩
  by_cases h5 : (-32768) ≤ x.p
  case neg =>
    rw [show evB x = false by simp [evB, inB, h0, h1, h2, h3, h4, h5]]
    go_enter Try.func13, Try.ntmps13
    go_wp2_with (first | (go_at_call 39; ((with_reducible refine (rkey_c x.key _).mono ?_); rintro e w1 ⟨rfl, hb⟩; obtain ⟨hx4, hx5, hx6, hx7, hx8⟩ := tail_box hb)))
    go_ret
    first | exact ⟨rfl, gt (gal (gr _) _) hb⟩ | exact ⟨by simp [h5], gt (gal (gr _) _) hb⟩
  by_cases h6 : x.p ≤ 32768
  case neg =>
    rw [show evB x = false by simp [evB, inB, h0, h1, h2, h3, h4, h5, h6]]
    go_enter Try.func13, Try.ntmps13
    go_wp2_with (first | (go_at_call 39; ((with_reducible refine (rkey_c x.key _).mono ?_); rintro e w1 ⟨rfl, hb⟩; obtain ⟨hx4, hx5, hx6, hx7, hx8⟩ := tail_box hb)))
    go_ret
    first | exact ⟨rfl, gt (gal (gr _) _) hb⟩ | exact ⟨by simp [h6], gt (gal (gr _) _) hb⟩
  by_cases h7 : 0 ≤ x.r
  case neg =>
    rw [show evB x = false by simp [evB, inB, h0, h1, h2, h3, h4, h5, h6, h7]]
    go_enter Try.func13, Try.ntmps13
    go_wp2_with (first | (go_at_call 39; ((with_reducible refine (rkey_c x.key _).mono ?_); rintro e w1 ⟨rfl, hb⟩; obtain ⟨hx4, hx5, hx6, hx7, hx8⟩ := tail_box hb)))
    go_ret
    first | exact ⟨rfl, gt (gal (gr _) _) hb⟩ | exact ⟨by simp [h7], gt (gal (gr _) _) hb⟩
  by_cases h8 : x.r ≤ 15
  case neg =>
    rw [show evB x = false by simp [evB, inB, h0, h1, h2, h3, h4, h5, h6, h7, h8]]
    go_enter Try.func13, Try.ntmps13
    go_wp2_with (first | (go_at_call 39; ((with_reducible refine (rkey_c x.key _).mono ?_); rintro e w1 ⟨rfl, hb⟩; obtain ⟨hx4, hx5, hx6, hx7, hx8⟩ := tail_box hb)))
    go_ret
    first | exact ⟨rfl, gt (gal (gr _) _) hb⟩ | exact ⟨by simp [h8], gt (gal (gr _) _) hb⟩
  by_cases h9 : 0 ≤ x.l
  case neg =>
    rw [show evB x = false by simp [evB, inB, h0, h1, h2, h3, h4, h5, h6, h7, h8, h9]]
    go_enter Try.func13, Try.ntmps13
    go_wp2_with (first | (go_at_call 39; ((with_reducible refine (rkey_c x.key _).mono ?_); rintro e w1 ⟨rfl, hb⟩; obtain ⟨hx4, hx5, hx6, hx7, hx8⟩ := tail_box hb)))
    go_ret
    first | exact ⟨rfl, gt (gal (gr _) _) hb⟩ | exact ⟨by simp [h9], gt (gal (gr _) _) hb⟩
  by_cases h10 : x.l ≤ 600
  case neg =>
    rw [show evB x = false by simp [evB, inB, h0, h1, h2, h3, h4, h5, h6, h7, h8, h9, h10]]
    go_enter Try.func13, Try.ntmps13
    go_wp2_with (first | (go_at_call 39; ((with_reducible refine (rkey_c x.key _).mono ?_); rintro e w1 ⟨rfl, hb⟩; obtain ⟨hx4, hx5, hx6, hx7, hx8⟩ := tail_box hb)))
    go_ret
    first | exact ⟨rfl, gt (gal (gr _) _) hb⟩ | exact ⟨by simp [h10], gt (gal (gr _) _) hb⟩
  rw [show evB x = true by simp [evB, inB, h0, h1, h2, h3, h4, h5, h6, h7, h8, h9, h10]]
  go_enter Try.func13, Try.ntmps13
  go_wp2_with (first | (go_at_call 39; ((with_reducible refine (rkey_c x.key _).mono ?_); rintro e w1 ⟨rfl, hb⟩; obtain ⟨hx4, hx5, hx6, hx7, hx8⟩ := tail_box hb)))
  go_ret
  first | exact ⟨rfl, gt (gal (gr _) _) hb⟩ | exact ⟨by simp [h10], gt (gal (gr _) _) hb⟩

end Go.Proofs.Ytfkbkfaiplhehaa.Ev
