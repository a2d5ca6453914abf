/- Which keys and events may be, as the program and as the document asks it (layer 11, event). -/
/- Which key stands ahead, as the program and as the document asks it (layer 11, event). -/
/- Which key stands ahead, as the document says it (layer 11, event). -/
/- Two keys, or two events, are one just if all their fields are (layer 11, event). -/
import Derived.Test.YtfclnhmijjlhdaaGreatDoorJ1
import Derived.LoopN
import Derived.Deep.QuietTactic
import Derived.BigQuiet
import Derived.Laws.StructEq
namespace Go.Proofs.YtfclnhmijjlhdaaGreatDoor.Ev
open Go.RowKit
set_option linter.unusedVariables false

set_option maxRecDepth 100000 in
set_option maxHeartbeats 1000000 in
theorem within_c (x a b : Int) (w : World) :
 Calls Tryz.prog 138 #[.int .i64 x, .int .i64 a, .int .i64 b] w fun e w' => e = .returned (.bool (inB x a b)) ∧ w = w' := by
 by_cases h0 : a ≤ x
 case neg =>
  rw [show inB x a b = false by simp [inB, h0]]
  go_enter Tryz.func138, Tryz.ntmps138
  go_wp2_with fail
  go_ret
  first | exact ⟨rfl, rfl⟩ | exact ⟨by simp [h0], rfl⟩
 by_cases h1 : x ≤ b
 case neg =>
  rw [show inB x a b = false by simp [inB, h0, h1]]
  go_enter Tryz.func138, Tryz.ntmps138
  go_wp2_with fail
  go_ret
  first | exact ⟨rfl, rfl⟩ | exact ⟨by simp [h1], rfl⟩
 rw [show inB x a b = true by simp [inB, h0, h1]]
 go_enter Tryz.func138, Tryz.ntmps138
 go_wp2_with fail
 go_ret
 first | exact ⟨rfl, rfl⟩ | exact ⟨by simp [h1], rfl⟩

theorem isframe_c (x : Int) (w : World) :
 Calls Tryz.prog 100 #[.int .i64 x] w fun e w' => e = .returned (.bool (inB x 0 1073741824)) ∧ w = w' := by
 go_enter Tryz.func100, Tryz.ntmps100
 go_wp2_with (go_at_call 138; ((with_reducible refine (within_c _ _ _ _).mono ?_); rintro e w' ⟨rfl, rfl⟩))
 go_ret
 exact ⟨rfl, rfl⟩

set_option maxRecDepth 100000 in
set_option maxHeartbeats 1000000 in
theorem iskey_c (k : Ky) (w : World) :
 Calls Tryz.prog 216 #[kv k] w fun e w' => e = .returned (.bool (keyB k)) ∧ Gr w w' := by
 cases h0 : inB k.f 0 1073741824
 case false =>
  rw [show keyB k = false by simp [keyB, h0]]
  go_enter Tryz.func216, Tryz.ntmps216
  go_wp2_with (first | (go_at_call 138; ((with_reducible refine (within_c _ _ _ _).mono ?_); rintro e w' ⟨rfl, rfl⟩)) | (go_at_call 100; ((with_reducible refine (isframe_c _ _).mono ?_); rintro e w' ⟨rfl, rfl⟩)))
  go_ret
  first | exact ⟨rfl, gal (gr _) _⟩ | exact ⟨by simp [h0], gal (gr _) _⟩
 cases h1 : inB k.e 0 2
 case false =>
  rw [show keyB k = false by simp [keyB, h0, h1]]
  go_enter Tryz.func216, Tryz.ntmps216
  go_wp2_with (first | (go_at_call 138; ((with_reducible refine (within_c _ _ _ _).mono ?_); rintro e w' ⟨rfl, rfl⟩)) | (go_at_call 100; ((with_reducible refine (isframe_c _ _).mono ?_); rintro e w' ⟨rfl, rfl⟩)))
  go_ret
  first | exact ⟨rfl, gal (gr _) _⟩ | exact ⟨by simp [h1], gal (gr _) _⟩
 cases h2 : inB k.k 1 9
 case false =>
  rw [show keyB k = false by simp [keyB, h0, h1, h2]]
  go_enter Tryz.func216, Tryz.ntmps216
  go_wp2_with (first | (go_at_call 138; ((with_reducible refine (within_c _ _ _ _).mono ?_); rintro e w' ⟨rfl, rfl⟩)) | (go_at_call 100; ((with_reducible refine (isframe_c _ _).mono ?_); rintro e w' ⟨rfl, rfl⟩)))
  go_ret
  first | exact ⟨rfl, gal (gr _) _⟩ | exact ⟨by simp [h2], gal (gr _) _⟩
 cases h3 : inB k.o 0 15
 case false =>
  rw [show keyB k = false by simp [keyB, h0, h1, h2, h3]]
  go_enter Tryz.func216, Tryz.ntmps216
  go_wp2_with (first | (go_at_call 138; ((with_reducible refine (within_c _ _ _ _).mono ?_); rintro e w' ⟨rfl, rfl⟩)) | (go_at_call 100; ((with_reducible refine (isframe_c _ _).mono ?_); rintro e w' ⟨rfl, rfl⟩)))
  go_ret
  first | exact ⟨rfl, gal (gr _) _⟩ | exact ⟨by simp [h3], gal (gr _) _⟩
 rw [show keyB k = true by simp [keyB, h0, h1, h2, h3]]
 go_enter Tryz.func216, Tryz.ntmps216
 go_wp2_with (first | (go_at_call 138; ((with_reducible refine (within_c _ _ _ _).mono ?_); rintro e w' ⟨rfl, rfl⟩)) | (go_at_call 100; ((with_reducible refine (isframe_c _ _).mono ?_); rintro e w' ⟨rfl, rfl⟩)))
 go_ret
 first | exact ⟨rfl, gal (gr _) _⟩ | exact ⟨by simp [h3], gal (gr _) _⟩

set_option maxRecDepth 100000 in
set_option maxHeartbeats 1000000 in
theorem right_c (x : Ev) (w : World) :
 Calls Tryz.prog 180 #[ev x] w fun e w' => e = .returned (.bool (evB x)) ∧ Gr w w' := by
 cases h0 : keyB x.key
 case false =>
  rw [show evB x = false by simp [evB, h0]]
  go_enter Tryz.func180, Tryz.ntmps180
  go_wp2_with (first | (go_at_call 216; ((with_reducible refine (iskey_c x.key _).mono ?_); rintro e w1 ⟨rfl, hb⟩; obtain ⟨hx4, hx5, hx6, hx7, hx8⟩ := tail_box hb)) | (go_at_call 138; ((with_reducible refine (within_c _ _ _ _).mono ?_); rintro e w' ⟨rfl, rfl⟩)))
  go_ret
  first | exact ⟨rfl, gt (gal (gr _) _) hb⟩ | exact ⟨by simp [h0], gt (gal (gr _) _) hb⟩
 cases h1 : inB x.a 0 31
 case false =>
  rw [show evB x = false by simp [evB, h0, h1]]
  go_enter Tryz.func180, Tryz.ntmps180
  go_wp2_with (first | (go_at_call 216; ((with_reducible refine (iskey_c x.key _).mono ?_); rintro e w1 ⟨rfl, hb⟩; obtain ⟨hx4, hx5, hx6, hx7, hx8⟩ := tail_box hb)) | (go_at_call 138; ((with_reducible refine (within_c _ _ _ _).mono ?_); rintro e w' ⟨rfl, rfl⟩)))
  go_ret
  first | exact ⟨rfl, gt (gal (gr _) _) hb⟩ | exact ⟨by simp [h1], gt (gal (gr _) _) hb⟩
 cases h2 : inB x.g 0 32768
 case false =>
  rw [show evB x = false by simp [evB, h0, h1, h2]]
  go_enter Tryz.func180, Tryz.ntmps180
  go_wp2_with (first | (go_at_call 216; ((with_reducible refine (iskey_c x.key _).mono ?_); rintro e w1 ⟨rfl, hb⟩; obtain ⟨hx4, hx5, hx6, hx7, hx8⟩ := tail_box hb)) | (go_at_call 138; ((with_reducible refine (within_c _ _ _ _).mono ?_); rintro e w' ⟨rfl, rfl⟩)))
  go_ret
  first | exact ⟨rfl, gt (gal (gr _) _) hb⟩ | exact ⟨by simp [h2], gt (gal (gr _) _) hb⟩
 cases h3 : inB x.p (-32768) 32768
 case false =>
  rw [show evB x = false by simp [evB, h0, h1, h2, h3]]
  go_enter Tryz.func180, Tryz.ntmps180
  go_wp2_with (first | (go_at_call 216; ((with_reducible refine (iskey_c x.key _).mono ?_); rintro e w1 ⟨rfl, hb⟩; obtain ⟨hx4, hx5, hx6, hx7, hx8⟩ := tail_box hb)) | (go_at_call 138; ((with_reducible refine (within_c _ _ _ _).mono ?_); rintro e w' ⟨rfl, rfl⟩)))
  go_ret
  first | exact ⟨rfl, gt (gal (gr _) _) hb⟩ | exact ⟨by simp [h3], gt (gal (gr _) _) hb⟩
 cases h4 : inB x.r 0 15
 case false =>
  rw [show evB x = false by simp [evB, h0, h1, h2, h3, h4]]
  go_enter Tryz.func180, Tryz.ntmps180
  go_wp2_with (first | (go_at_call 216; ((with_reducible refine (iskey_c x.key _).mono ?_); rintro e w1 ⟨rfl, hb⟩; obtain ⟨hx4, hx5, hx6, hx7, hx8⟩ := tail_box hb)) | (go_at_call 138; ((with_reducible refine (within_c _ _ _ _).mono ?_); rintro e w' ⟨rfl, rfl⟩)))
  go_ret
  first | exact ⟨rfl, gt (gal (gr _) _) hb⟩ | exact ⟨by simp [h4], gt (gal (gr _) _) hb⟩
 cases h5 : inB x.l 0 600
 case false =>
  rw [show evB x = false by simp [evB, h0, h1, h2, h3, h4, h5]]
  go_enter Tryz.func180, Tryz.ntmps180
  go_wp2_with (first | (go_at_call 216; ((with_reducible refine (iskey_c x.key _).mono ?_); rintro e w1 ⟨rfl, hb⟩; obtain ⟨hx4, hx5, hx6, hx7, hx8⟩ := tail_box hb)) | (go_at_call 138; ((with_reducible refine (within_c _ _ _ _).mono ?_); rintro e w' ⟨rfl, rfl⟩)))
  go_ret
  first | exact ⟨rfl, gt (gal (gr _) _) hb⟩ | exact ⟨by simp [h5], gt (gal (gr _) _) hb⟩
 rw [show evB x = true by simp [evB, h0, h1, h2, h3, h4, h5]]
 go_enter Tryz.func180, Tryz.ntmps180
 go_wp2_with (first | (go_at_call 216; ((with_reducible refine (iskey_c x.key _).mono ?_); rintro e w1 ⟨rfl, hb⟩; obtain ⟨hx4, hx5, hx6, hx7, hx8⟩ := tail_box hb)) | (go_at_call 138; ((with_reducible refine (within_c _ _ _ _).mono ?_); rintro e w' ⟨rfl, rfl⟩)))
 go_ret
 first | exact ⟨rfl, gt (gal (gr _) _) hb⟩ | exact ⟨by simp [h5], gt (gal (gr _) _) hb⟩

set_option maxRecDepth 100000 in
set_option maxHeartbeats 1000000 in
theorem rkey_c (k : Ky) (w : World) :
 Calls Tryz.prog 241 #[kv k] w fun e w' => e = .returned (.bool (keyB k)) ∧ Gr w w' := by
 by_cases h0 : 0 ≤ k.f
 case neg =>
  rw [show keyB k = false by simp [keyB, inB, h0]]
  go_enter Tryz.func241, Tryz.ntmps241
  go_wp2_with fail
  go_ret
  first | exact ⟨rfl, gal (gr _) _⟩ | exact ⟨by simp [h0], gal (gr _) _⟩
 by_cases h1 : k.f ≤ 1073741824
 case neg =>
  rw [show keyB k = false by simp [keyB, inB, h0, h1]]
  go_enter Tryz.func241, Tryz.ntmps241
  go_wp2_with fail
  go_ret
  first | exact ⟨rfl, gal (gr _) _⟩ | exact ⟨by simp [h1], gal (gr _) _⟩
 by_cases h2 : 0 ≤ k.e
 case neg =>
  rw [show keyB k = false by simp [keyB, inB, h0, h1, h2]]
  go_enter Tryz.func241, Tryz.ntmps241
  go_wp2_with fail
  go_ret
  first | exact ⟨rfl, gal (gr _) _⟩ | exact ⟨by simp [h2], gal (gr _) _⟩
 by_cases h3 : k.e ≤ 2
 case neg =>
  rw [show keyB k = false by simp [keyB, inB, h0, h1, h2, h3]]
  go_enter Tryz.func241, Tryz.ntmps241
  go_wp2_with fail
  go_ret
  first | exact ⟨rfl, gal (gr _) _⟩ | exact ⟨by simp [h3], gal (gr _) _⟩
 by_cases h4 : 1 ≤ k.k
 case neg =>
  rw [show keyB k = false by simp [keyB, inB, h0, h1, h2, h3, h4]]
  go_enter Tryz.func241, Tryz.ntmps241
  go_wp2_with fail
  go_ret
  first | exact ⟨rfl, gal (gr _) _⟩ | exact ⟨by simp [h4], gal (gr _) _⟩
 by_cases h5 : k.k ≤ 9
 case neg =>
  rw [show keyB k = false by simp [keyB, inB, h0, h1, h2, h3, h4, h5]]
  go_enter Tryz.func241, Tryz.ntmps241
  go_wp2_with fail
  go_ret
  first | exact ⟨rfl, gal (gr _) _⟩ | exact ⟨by simp [h5], gal (gr _) _⟩
 by_cases h6 : 0 ≤ k.o
 case neg =>
  rw [show keyB k = false by simp [keyB, inB, h0, h1, h2, h3, h4, h5, h6]]
  go_enter Tryz.func241, Tryz.ntmps241
  go_wp2_with fail
  go_ret
  first | exact ⟨rfl, gal (gr _) _⟩ | exact ⟨by simp [h6], gal (gr _) _⟩
 by_cases h7 : k.o ≤ 15
 case neg =>
  rw [show keyB k = false by simp [keyB, inB, h0, h1, h2, h3, h4, h5, h6, h7]]
  go_enter Tryz.func241, Tryz.ntmps241
  go_wp2_with fail
  go_ret
  first | exact ⟨rfl, gal (gr _) _⟩ | exact ⟨by simp [h7], gal (gr _) _⟩
 rw [show keyB k = true by simp [keyB, inB, h0, h1, h2, h3, h4, h5, h6, h7]]
 go_enter Tryz.func241, Tryz.ntmps241
 go_wp2_with fail
 go_ret
 first | exact ⟨rfl, gal (gr _) _⟩ | exact ⟨by simp [h7], gal (gr _) _⟩

set_option maxRecDepth 100000 in
set_option maxHeartbeats 1000000 in
theorem rright_c (x : Ev) (w : World) :
 Calls Tryz.prog 231 #[ev x] w fun e w' => e = .returned (.bool (evB x)) ∧ Gr w w' := by
 cases h0 : keyB x.key
 case false =>
  rw [show evB x = false by simp [evB, h0]]
  go_enter Tryz.func231, Tryz.ntmps231
  go_wp2_with (first | (go_at_call 241; ((with_reducible refine (rkey_c x.key _).mono ?_); rintro e w1 ⟨rfl, hb⟩; obtain ⟨hx4, hx5, hx6, hx7, hx8⟩ := tail_box hb)))
  go_ret
  first | exact ⟨rfl, gt (gal (gr _) _) hb⟩ | exact ⟨by simp [h0], gt (gal (gr _) _) hb⟩
 by_cases h1 : 0 ≤ x.a
 case neg =>
  rw [show evB x = false by simp [evB, inB, h0, h1]]
  go_enter Tryz.func231, Tryz.ntmps231
  go_wp2_with (first | (go_at_call 241; ((with_reducible refine (rkey_c x.key _).mono ?_); rintro e w1 ⟨rfl, hb⟩; obtain ⟨hx4, hx5, hx6, hx7, hx8⟩ := tail_box hb)))
  go_ret
  first | exact ⟨rfl, gt (gal (gr _) _) hb⟩ | exact ⟨by simp [h1], gt (gal (gr _) _) hb⟩
 by_cases h2 : x.a ≤ 31
 case neg =>
  rw [show evB x = false by simp [evB, inB, h0, h1, h2]]
  go_enter Tryz.func231, Tryz.ntmps231
  go_wp2_with (first | (go_at_call 241; ((with_reducible refine (rkey_c x.key _).mono ?_); rintro e w1 ⟨rfl, hb⟩; obtain ⟨hx4, hx5, hx6, hx7, hx8⟩ := tail_box hb)))
  go_ret
  first | exact ⟨rfl, gt (gal (gr _) _) hb⟩ | exact ⟨by simp [h2], gt (gal (gr _) _) hb⟩
 by_cases h3 : 0 ≤ x.g
 case neg =>
  rw [show evB x = false by simp [evB, inB, h0, h1, h2, h3]]
  go_enter Tryz.func231, Tryz.ntmps231
  go_wp2_with (first | (go_at_call 241; ((with_reducible refine (rkey_c x.key _).mono ?_); rintro e w1 ⟨rfl, hb⟩; obtain ⟨hx4, hx5, hx6, hx7, hx8⟩ := tail_box hb)))
  go_ret
  first | exact ⟨rfl, gt (gal (gr _) _) hb⟩ | exact ⟨by simp [h3], gt (gal (gr _) _) hb⟩
 by_cases h4 : x.g ≤ 32768
 case neg =>
  rw [show evB x = false by simp [evB, inB, h0, h1, h2, h3, h4]]
  go_enter Tryz.func231, Tryz.ntmps231
  go_wp2_with (first | (go_at_call 241; ((with_reducible refine (rkey_c x.key _).mono ?_); rintro e w1 ⟨rfl, hb⟩; obtain ⟨hx4, hx5, hx6, hx7, hx8⟩ := tail_box hb)))
  go_ret
  first | exact ⟨rfl, gt (gal (gr _) _) hb⟩ | exact ⟨by simp [h4], gt (gal (gr _) _) hb⟩
 by_cases h5 : (-32768) ≤ x.p
 case neg =>
  rw [show evB x = false by simp [evB, inB, h0, h1, h2, h3, h4, h5]]
  go_enter Tryz.func231, Tryz.ntmps231
  go_wp2_with (first | (go_at_call 241; ((with_reducible refine (rkey_c x.key _).mono ?_); rintro e w1 ⟨rfl, hb⟩; obtain ⟨hx4, hx5, hx6, hx7, hx8⟩ := tail_box hb)))
  go_ret
  first | exact ⟨rfl, gt (gal (gr _) _) hb⟩ | exact ⟨by simp [h5], gt (gal (gr _) _) hb⟩
 by_cases h6 : x.p ≤ 32768
 case neg =>
  rw [show evB x = false by simp [evB, inB, h0, h1, h2, h3, h4, h5, h6]]
  go_enter Tryz.func231, Tryz.ntmps231
  go_wp2_with (first | (go_at_call 241; ((with_reducible refine (rkey_c x.key _).mono ?_); rintro e w1 ⟨rfl, hb⟩; obtain ⟨hx4, hx5, hx6, hx7, hx8⟩ := tail_box hb)))
  go_ret
  first | exact ⟨rfl, gt (gal (gr _) _) hb⟩ | exact ⟨by simp [h6], gt (gal (gr _) _) hb⟩
 by_cases h7 : 0 ≤ x.r
 case neg =>
  rw [show evB x = false by simp [evB, inB, h0, h1, h2, h3, h4, h5, h6, h7]]
  go_enter Tryz.func231, Tryz.ntmps231
  go_wp2_with (first | (go_at_call 241; ((with_reducible refine (rkey_c x.key _).mono ?_); rintro e w1 ⟨rfl, hb⟩; obtain ⟨hx4, hx5, hx6, hx7, hx8⟩ := tail_box hb)))
  go_ret
  first | exact ⟨rfl, gt (gal (gr _) _) hb⟩ | exact ⟨by simp [h7], gt (gal (gr _) _) hb⟩
 by_cases h8 : x.r ≤ 15
 case neg =>
  rw [show evB x = false by simp [evB, inB, h0, h1, h2, h3, h4, h5, h6, h7, h8]]
  go_enter Tryz.func231, Tryz.ntmps231
  go_wp2_with (first | (go_at_call 241; ((with_reducible refine (rkey_c x.key _).mono ?_); rintro e w1 ⟨rfl, hb⟩; obtain ⟨hx4, hx5, hx6, hx7, hx8⟩ := tail_box hb)))
  go_ret
  first | exact ⟨rfl, gt (gal (gr _) _) hb⟩ | exact ⟨by simp [h8], gt (gal (gr _) _) hb⟩
 by_cases h9 : 0 ≤ x.l
 case neg =>
  rw [show evB x = false by simp [evB, inB, h0, h1, h2, h3, h4, h5, h6, h7, h8, h9]]
  go_enter Tryz.func231, Tryz.ntmps231
  go_wp2_with (first | (go_at_call 241; ((with_reducible refine (rkey_c x.key _).mono ?_); rintro e w1 ⟨rfl, hb⟩; obtain ⟨hx4, hx5, hx6, hx7, hx8⟩ := tail_box hb)))
  go_ret
  first | exact ⟨rfl, gt (gal (gr _) _) hb⟩ | exact ⟨by simp [h9], gt (gal (gr _) _) hb⟩
 by_cases h10 : x.l ≤ 600
 case neg =>
  rw [show evB x = false by simp [evB, inB, h0, h1, h2, h3, h4, h5, h6, h7, h8, h9, h10]]
  go_enter Tryz.func231, Tryz.ntmps231
  go_wp2_with (first | (go_at_call 241; ((with_reducible refine (rkey_c x.key _).mono ?_); rintro e w1 ⟨rfl, hb⟩; obtain ⟨hx4, hx5, hx6, hx7, hx8⟩ := tail_box hb)))
  go_ret
  first | exact ⟨rfl, gt (gal (gr _) _) hb⟩ | exact ⟨by simp [h10], gt (gal (gr _) _) hb⟩
 rw [show evB x = true by simp [evB, inB, h0, h1, h2, h3, h4, h5, h6, h7, h8, h9, h10]]
 go_enter Tryz.func231, Tryz.ntmps231
 go_wp2_with (first | (go_at_call 241; ((with_reducible refine (rkey_c x.key _).mono ?_); rintro e w1 ⟨rfl, hb⟩; obtain ⟨hx4, hx5, hx6, hx7, hx8⟩ := tail_box hb)))
 go_ret
 first | exact ⟨rfl, gt (gal (gr _) _) hb⟩ | exact ⟨by simp [h10], gt (gal (gr _) _) hb⟩

end Go.Proofs.YtfclnhmijjlhdaaGreatDoor.Ev

namespace Go.Proofs.YtfclnhmijjlhdaaGreatDoor.Ev
open Go.RowKit
set_option linter.unusedVariables false

theorem nan_c (a : Int) (w : World) :
 Calls Tryz.prog 155 #[.int .i64 a] w fun e w' => e = .returned (.bool false) ∧ w = w' := by
 go_enter Tryz.func155, Tryz.ntmps155
 go_wp2
 go_ret
 exact ⟨rfl, rfl⟩

theorem ccompare_c (a b : Int) (w : World) :
 Calls Tryz.prog 121 #[.int .i64 a, .int .i64 b] w fun e w' => e = .returned (.int .i64 (cmpI a b)) ∧ w = w' := by
 have h : (a < b ∧ Hid (cmpI a b = -1)) ∨ (¬ a < b ∧ b < a ∧ Hid (cmpI a b = 1)) ∨ (¬ a < b ∧ ¬ b < a ∧ Hid (cmpI a b = 0)) := by
  unfold Hid cmpI
  by_cases h1 : a < b
  · exact .inl ⟨h1, by simp [h1]⟩
  · by_cases h2 : b < a
    · exact .inr (.inl ⟨h1, h2, by simp [h1, h2]⟩)
    · exact .inr (.inr ⟨h1, h2, by simp [h1, h2]⟩)
 rcases h with ⟨h1, h3⟩ | ⟨h1, h2, h3⟩ | ⟨h1, h2, h3⟩
 all_goals
  rw [h3.out]
  go_enter Tryz.func121, Tryz.ntmps121
  go_wp2_with (go_at_call 155; ((with_reducible refine (nan_c _ _).mono ?_); rintro e w' ⟨rfl, rfl⟩))
  go_ret
  exact ⟨rfl, rfl⟩

set_option maxHeartbeats 1000000 in
theorem or_c (a0 a1 a2 a3 : Int) (b : Nat) (T : TypeId) (w : World) (h : At w b #[.int .i64 a0, .int .i64 a1, .int .i64 a2, .int .i64 a3] T) :
 Calls Tryz.prog 237 #[.slice (some ⟨b, 0, none⟩) 4 4] w fun e w' => e = .returned (.int .i64 (orI a0 (orI a1 (orI a2 a3)))) ∧ w = w' := by
 obtain ⟨e0, e1, e2, e3⟩ := h.four
 clear h
 by_cases h0 : a0 = 0
 case neg =>
  rw [show orI a0 (orI a1 (orI a2 a3)) = a0 by simp [orI, h0]]
  go_enter Tryz.func237, Tryz.ntmps237
  go_wp2
  refine wp_loop_rounds 4 ?_
  rw [rounds_succ]; go_wp2
  go_ret
  exact ⟨rfl, rfl⟩
 subst h0
 by_cases h1 : a1 = 0
 case neg =>
  rw [show orI 0 (orI a1 (orI a2 a3)) = a1 by simp [orI, h1]]
  go_enter Tryz.func237, Tryz.ntmps237
  go_wp2
  refine wp_loop_rounds 4 ?_
  rw [rounds_succ]; go_wp2
  rw [rounds_succ]; go_wp2
  go_ret
  exact ⟨rfl, rfl⟩
 subst h1
 by_cases h2 : a2 = 0
 case neg =>
  rw [show orI 0 (orI 0 (orI a2 a3)) = a2 by simp [orI, h2]]
  go_enter Tryz.func237, Tryz.ntmps237
  go_wp2
  refine wp_loop_rounds 4 ?_
  rw [rounds_succ]; go_wp2
  rw [rounds_succ]; go_wp2
  rw [rounds_succ]; go_wp2
  go_ret
  exact ⟨rfl, rfl⟩
 subst h2
 by_cases h3 : a3 = 0
 case neg =>
  rw [show orI 0 (orI 0 (orI 0 a3)) = a3 by simp [orI]]
  go_enter Tryz.func237, Tryz.ntmps237
  go_wp2
  refine wp_loop_rounds 4 ?_
  rw [rounds_succ]; go_wp2
  rw [rounds_succ]; go_wp2
  rw [rounds_succ]; go_wp2
  rw [rounds_succ]; go_wp2
  go_ret
  exact ⟨rfl, rfl⟩
 subst h3
 go_enter Tryz.func237, Tryz.ntmps237
 go_wp2
 refine wp_loop_rounds 5 ?_
 rw [rounds_succ]; go_wp2
 rw [rounds_succ]; go_wp2
 rw [rounds_succ]; go_wp2
 rw [rounds_succ]; go_wp2
 rw [rounds_succ]; go_wp2
 go_ret
 exact ⟨rfl, rfl⟩

set_option maxRecDepth 100000 in
set_option maxHeartbeats 1000000 in
theorem compare_c (x y : Ky) (w : World) :
 Calls Tryz.prog 220 #[kv x, kv y] w fun e w' => e = .returned (.int .i64 (cmpK x y)) ∧ Gr w w' := by
 unfold cmpK
 have HA := hid (At.new w (kcs x).toArray 118)
 have HB := hid (At.new (w.alloc (.cells (kcs x).toArray 118)) (kcs y).toArray 118)
 go_enter Tryz.func220, Tryz.ntmps220
 go_wp2_with fail
 go_region_held3 (fun W => W.cell? ⟨w.heap.size, 0, none⟩ = some (.int .i64 x.f) ∧ W.cell? ⟨w.heap.size, 1, none⟩ = some (.int .i64 x.e) ∧ W.cell? ⟨w.heap.size, 2, none⟩ = some (.int .i64 x.k) ∧ W.cell? ⟨w.heap.size, 3, none⟩ = some (.int .i64 x.o) ∧ W.cell? ⟨w.heap.size + 1, 0, none⟩ = some (.int .i64 y.f) ∧ W.cell? ⟨w.heap.size + 1, 1, none⟩ = some (.int .i64 y.e) ∧ W.cell? ⟨w.heap.size + 1, 2, none⟩ = some (.int .i64 y.k) ∧ W.cell? ⟨w.heap.size + 1, 3, none⟩ = some (.int .i64 y.o)) (go_keep)
  (first
  | (go_at_call 121; ((with_reducible refine (ccompare_c _ _ _).mono ?_); rintro e w' ⟨rfl, rfl⟩))
  | (go_at_call 237; ((with_reducible refine (or_c _ _ _ _ (w.heap.size + 1 + 1) 3 _ (At.drew (At.newAt _ _ _ (by simp)))).mono ?_); rintro e w' ⟨rfl, rfl⟩)))
 go_wp2_with fail
 go_returns
 exact ⟨rfl, ((((Gr.refl w).alloc _).alloc _).alloc _).drew⟩

set_option maxRecDepth 100000 in
theorem place1_c (x : Ev) (k : Ky) (w : World) :
 Calls Tryz.prog 219 #[ev x, kv k] w fun e w' => e = .returned (.int .i64 (cmpK x.key k)) ∧ Gr w w' := by
 go_enter Tryz.func219, Tryz.ntmps219
 go_wp2_with (go_at_call 220; ((with_reducible refine (compare_c x.key k _).mono ?_); rintro e w' ⟨rfl, hg⟩))
 go_ret
 exact ⟨rfl, gt (gal (gal (gr w) _) _) hg⟩

end Go.Proofs.YtfclnhmijjlhdaaGreatDoor.Ev

namespace Go.Proofs.YtfclnhmijjlhdaaGreatDoor.Ev
open Go.RowKit
set_option linter.unusedVariables false

def fld (x : Ky) : Nat → Int
 | 0 => x.f
 | 1 => x.e
 | 2 => x.k
 | _ => x.o
def rest (x y : Ky) : Nat → Int
 | 0 => cmpK x y
 | 1 => orI (cmpI x.e y.e) (orI (cmpI x.k y.k) (cmpI x.o y.o))
 | 2 => orI (cmpI x.k y.k) (cmpI x.o y.o)
 | 3 => cmpI x.o y.o
 | _ => 0
theorem rest_step (x y : Ky) {k : Nat} (hk : k < 4) : rest x y k = orI (cmpI (fld x k) (fld y k)) (rest x y (k + 1)) := by
 match k, hk with
 | 0, _ => rfl
 | 1, _ => rfl
 | 2, _ => rfl
 | 3, _ => simp [rest, fld, orI]
theorem fld_cell {w : World} {b : Nat} {x : Ky} {T : TypeId} (h : At w b #[.int .i64 x.f, .int .i64 x.e, .int .i64 x.k, .int .i64 x.o] T) {k : Nat} (hk : k < 4) : w.cell? ⟨b, k, none⟩ = some (.int .i64 (fld x k)) := by
 obtain ⟨h0, h1, h2, h3⟩ := h.four
 match k, hk with
 | 0, _ => exact h0
 | 1, _ => exact h1
 | 2, _ => exact h2
 | 3, _ => exact h3

set_option maxRecDepth 100000 in
set_option maxHeartbeats 1000000 in
theorem rcompare_c (x y : Ky) (w : World) :
 Calls Tryz.prog 242 #[kv x, kv y] w fun e w' => e = .returned (.int .i64 (cmpK x y)) ∧ Gr w w' := by
 have HA := hid (At.new ((w.alloc (.cells #[.int .i64 x.f, .int .i64 x.e, .int .i64 x.k, .int .i64 x.o] 118)).alloc (.cells #[.int .i64 y.f, .int .i64 y.e, .int .i64 y.k, .int .i64 y.o] 118)) #[.int .i64 x.f, .int .i64 x.e, .int .i64 x.k, .int .i64 x.o] 3)
 have HB := hid (At.new (((w.alloc (.cells #[.int .i64 x.f, .int .i64 x.e, .int .i64 x.k, .int .i64 x.o] 118)).alloc (.cells #[.int .i64 y.f, .int .i64 y.e, .int .i64 y.k, .int .i64 y.o] 118)).alloc (.cells #[.int .i64 x.f, .int .i64 x.e, .int .i64 x.k, .int .i64 x.o] 3)) #[.int .i64 y.f, .int .i64 y.e, .int .i64 y.k, .int .i64 y.o] 3)
 have HA2 := hid (HA.out.more (.cells #[.int .i64 y.f, .int .i64 y.e, .int .i64 y.k, .int .i64 y.o] 3))
 have HW := hid (gal (gal (gal (gal (gr w) (.cells #[.int .i64 x.f, .int .i64 x.e, .int .i64 x.k, .int .i64 x.o] 118)) (.cells #[.int .i64 y.f, .int .i64 y.e, .int .i64 y.k, .int .i64 y.o] 118)) (.cells #[.int .i64 x.f, .int .i64 x.e, .int .i64 x.k, .int .i64 x.o] 3)) (.cells #[.int .i64 y.f, .int .i64 y.e, .int .i64 y.k, .int .i64 y.o] 3))
 simp only [World.size_alloc] at HA2 HB
 clear HA
 have H0 : rest x y 0 = cmpK x y := rfl
 rw [← H0]
 clear H0
 go_enter Tryz.func242, Tryz.ntmps242
 go_wp2_with fail
 generalize World.alloc (World.alloc (World.alloc (World.alloc w _) _) _) _ = w4 at HA2 HB HW ⊢
 generalize w.heap.size + 1 + 1 + 1 = b2 at HB ⊢
 generalize w.heap.size + 1 + 1 = b1 at HA2 ⊢
 go_loopw [7] (fun i wr => ∃ k q : Nat, k ≤ 4 ∧ i = .int .i64 k ∧ wr = w4.drewN q ∧ Hid (rest x y 0 = rest x y k)) (fun i _ => 4 - (intOf i).toNat)
 case atStart => exact ⟨0, 0, Nat.zero_le _, rfl, rfl, hid rfl⟩
 case round =>
  obtain ⟨k, q, hk, rfl, rfl, hr⟩ := hrel
  by_cases hlt : k < 4
  · have c1 := fld_cell HA2.out hlt
    have c2 := fld_cell HB.out hlt
    have hs := hid (hr.out.trans (rest_step x y hlt))
    generalize fld x k = X at c1 hs
    generalize fld y k = Y at c2 hs
    have hk1 : (k : Int) < 4 := by omega
    have hk0 : (0 : Int) ≤ (k : Int) := by omega
    rcases cmpI_cases X Y with ⟨h1, e1⟩ | ⟨h1, e1⟩ | ⟨h1, e1⟩
    · have hn : Hid (rest x y 0 = -1) := hid (by rw [hs.out, e1]; rfl)
      have hd : decide (X < Y) = true := by simpa using h1
      clear hs e1 h1
      go_wp2_with fail
      go_quiet (fail)
      go_wp2_with fail
      go_ret
      exact ⟨by rw [hn.out]; rfl, gt HW.out (gdn (gdn (gr _) _) _)⟩
    · have hn : Hid (rest x y 0 = 1) := hid (by rw [hs.out, e1]; rfl)
      have hd : decide (X < Y) = false := by simp; omega
      have hd2 : decide (Y < X) = true := by simpa using h1
      clear hs e1 h1
      go_wp2_with fail
      go_quiet (fail)
      go_wp2_with fail
      go_quiet (fail)
      go_wp2_with fail
      go_ret
      exact ⟨by rw [hn.out]; rfl, gt HW.out (gdn (gdn (gdn (gr _) _) _) _)⟩
    · have hn : Hid (rest x y 0 = rest x y (k + 1)) := hid (by rw [hs.out, e1]; rfl)
      have hd : decide (X < Y) = false := by simp; omega
      have hd2 : decide (Y < X) = false := by simp; omega
      clear hs e1 h1
      go_wp2_with fail
      go_quiet (fail)
      go_wp2_with fail
      go_quiet (fail)
      go_wp2_with fail
      go_roundw
      case rel => exact ⟨k + 1, _, by omega, by go_num, rfl, hn⟩
      case measure => simp [intOf]; omega
  · have hk4 : k = 4 := by omega
    subst hk4
    have hn : Hid (rest x y 0 = 0) := hid hr.out
    clear hr
    go_wp2_with fail
    go_ret
    exact ⟨by rw [hn.out]; rfl, gt HW.out (gdn (gr _) _)⟩

end Go.Proofs.YtfclnhmijjlhdaaGreatDoor.Ev

namespace Go.Proofs.YtfclnhmijjlhdaaGreatDoor.Ev
open Go.RowKit
set_option linter.unusedVariables false

theorem guardK : Tryz.prog.eqGuardType Tryz.prog.depth 118 = false := by kernel_rfl
theorem guardE : Tryz.prog.eqGuardType Tryz.prog.depth 120 = false := by kernel_rfl
theorem strK : Tryz.prog.underlying 118 = some (.struct (Tryz.prog.fieldsOf 118)) := by kernel_rfl
theorem strE : Tryz.prog.underlying 120 = some (.struct (Tryz.prog.fieldsOf 120)) := by kernel_rfl
theorem stdK : Tryz.prog.stoodInHeld 118 = false := by kernel_rfl
theorem stdE : Tryz.prog.stoodInHeld 120 = false := by kernel_rfl

theorem runK (d : Nat) (x y : Ky) (w : World) : (Op.equalIn (d + 1 + 1) 118 (kv x) (kv y)).run Tryz.prog w = .ok (decide (x = y)) w := by
 have u3 := Tryz.underlying3
 have a3 := Tryz.isAgg3
 have z3 := Tryz.sizeOf3
 rw [run_equalIn_agg w (d + 1) 118 _ _ strK stdK]
 simp only [Program.fieldsOf, Tryz.underlying118]
 go_simp
 by_cases h1 : x.f = y.f <;> by_cases h2 : x.e = y.e <;> by_cases h3 : x.k = y.k <;> by_cases h4 : x.o = y.o <;> simp [h1, h2, h3, h4]
 all_goals first
  | exact ext_ky h1 h2 h3 h4
  | (intro h; subst h; first | exact h1 rfl | exact h2 rfl | exact h3 rfl | exact h4 rfl)
theorem eqK (x y : Ky) (w : World) : (binOp .eql 118 (kv x) (kv y)).run Tryz.prog w = .ok (.bool (decide (x = y))) w := by
 rw [run_eql_struct, show (10000 : Nat) = 9998 + 1 + 1 from rfl, runK]; rfl
theorem neqK (x y : Ky) (w : World) : (binOp .neq 118 (kv x) (kv y)).run Tryz.prog w = .ok (.bool (!decide (x = y))) w := by
 rw [run_neq_struct, show (10000 : Nat) = 9998 + 1 + 1 from rfl, runK]; rfl
theorem runE (d : Nat) (x y : Ev) (w : World) : (Op.equalIn (d + 1 + 1 + 1) 120 (ev x) (ev y)).run Tryz.prog w = .ok (decide (x = y)) w := by
 have u3 := Tryz.underlying3
 have a3 := Tryz.isAgg3
 have z3 := Tryz.sizeOf3
 have a4 := Tryz.isAgg118
 have z4 := Tryz.sizeOf118
 have hk := fun w => runK d x.key y.key w
 rw [run_equalIn_agg w (d + 1 + 1) 120 _ _ strE stdE]
 simp only [Program.fieldsOf, Tryz.underlying120]
 go_simp
 by_cases h0 : x.key = y.key <;> simp [h0]
 · by_cases h1 : x.a = y.a <;> by_cases h2 : x.g = y.g <;> by_cases h3 : x.p = y.p <;> by_cases h4 : x.r = y.r <;> by_cases h5 : x.l = y.l <;> simp [h1, h2, h3, h4, h5]
   all_goals first
    | exact ext_ev h0 h1 h2 h3 h4 h5
    | (intro h; subst h; first | exact h1 rfl | exact h2 rfl | exact h3 rfl | exact h4 rfl | exact h5 rfl)
 · intro h; subst h; exact h0 rfl
theorem eqE (x y : Ev) (w : World) : (binOp .eql 120 (ev x) (ev y)).run Tryz.prog w = .ok (.bool (decide (x = y))) w := by
 rw [run_eql_struct, show (10000 : Nat) = 9997 + 1 + 1 + 1 from rfl, runE]; rfl
theorem neqE (x y : Ev) (w : World) : (binOp .neq 120 (ev x) (ev y)).run Tryz.prog w = .ok (.bool (!decide (x = y))) w := by
 rw [run_neq_struct, show (10000 : Nat) = 9997 + 1 + 1 + 1 from rfl, runE]; rfl

end Go.Proofs.YtfclnhmijjlhdaaGreatDoor.Ev
