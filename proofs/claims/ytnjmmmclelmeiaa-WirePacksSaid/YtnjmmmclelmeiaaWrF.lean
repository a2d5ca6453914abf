/- What fields of the document's layer 7 (wire) returns, kind by kind. -/
import Derived.Test.YtnjmmmclelmeiaaWrFd
import Derived.Deep.RegionWith
import Derived.Laws.Strings2
namespace Go.Proofs.Ytnjmmmclelmeiaa.Wr
open Go.RowKit Go.Proofs.Ytnjmmmclelmeiaa.Fx Go.Proofs.Ytnjmmmclelmeiaa.Pk

theorem number_l (T : ByteArray) (x : Nat) (w : World) (hs : T.size ≤ 4) (hx : val T.data.toList 0 = x) :
    Calls Try.prog 51 #[.string T] w fun e w' => e = .returned (.int .u64 (x : Int)) ∧ w = w' := by
  subst hx
  exact number_c T w hs
/-- a part of a string that is part of a string. -/
theorem part_list (s : ByteArray) (i j : Nat) : ((s.extract 2 s.size).extract i j).data.toList = ((s.data.toList.drop 2).drop i).take (j - i) := by
  rw [← ByteArray.toList_eq, Lib.extract_toList, tail_list]
theorem part_size (s : ByteArray) (i j : Nat) : ((s.extract 2 s.size).extract i j).size ≤ j - i := by rw [ByteArray.size_extract]; omega
theorem part_tsize (s : ByteArray) (i : Nat) : ((s.extract 2 s.size).extract i (s.size - 2)).size ≤ s.size := by rw [ByteArray.size_extract, ByteArray.size_extract]; omega
theorem part_tail (s : ByteArray) (i : Nat) : ((s.extract 2 s.size).extract i (s.size - 2)).data.toList = (s.data.toList.drop 2).drop i := by
  rw [show s.size - 2 = (s.extract 2 s.size).size by rw [ByteArray.size_extract]; omega, tail_list, tail_list]
/-- an answer of fields': a datagram, and whether it may be. -/
def Flds (k : Int) (s : ByteArray) (w : World) (e : Ending) (w' : World) : Prop := ∃ v m, e = .returned (.tuple #[v, .bool (rightB m)]) ∧ Holds w' v m ∧ Below w.heap.size w w' ∧ m = (parseD k (s.data.toList.drop 2)).1

set_option maxRecDepth 100000 in
set_option maxHeartbeats 4000000 in
theorem fields_k1 (s : ByteArray) (w : World) (hs : s.size ≤ 1073741824) (h2 : ¬ s.size < 2) (h80 : ((s[0].toNat : Int) != 80) = false) (hk : (s[1].toNat : Int) = 1) (hl : 6 ≤ s.size) :
    Calls Try.prog 35 #[.string s] w (Flds 1 s w) := by
  have hrl : (s.data.toList.drop 2).length = s.size - 2 := by rw [List.length_drop, ← Lib.size_eq]
  have hp := parse_in 1 (s.data.toList.drop 2) (by omega)
  obtain ⟨x1, hx1, hb1⟩ : ∃ x : Nat, Hid (x = gotN 4 (s.data.toList.drop 2)) ∧ x < 4294967296 := ⟨_, hid rfl, got4_bd _⟩
  have HN1 := hid (fun W => number_l ((s.extract 2 s.size).extract 0 4) x1 W (by have := part_size s 0 4; omega) (by rw [part_list, hx1.out]; unfold gotN; rw [if_neg (by omega)]; rfl))
  have HP : Hid (⟨1, x1, 0, 0, [], 0, 0⟩ = (parseD 1 (s.data.toList.drop 2)).1) := by
    show _ = _
    rw [hx1.out]
    rfl
  have HI : Hid (InD ⟨1, x1, 0, 0, [], 0, 0⟩) := by
    show InD _
    rw [HP.out]; exact hp
  have HR := hid (fun W => rright_c ⟨1, x1, 0, 0, [], 0, 0⟩ none 0 0 W (Rd.nil W))
  generalize hok : rightB ⟨1, x1, 0, 0, [], 0, 0⟩ = ok at HR
  have HOK := hid hok
  clear hp hrl hok
  go_enter Try.func35, Try.ntmps35
  go_wp2_with (first
    | (go_at_call 51; (with_reducible refine (HN1.out _).mono ?_; rintro e w' ⟨rfl, rfl⟩)))
  go_region_with (first | (go_at_call 10; refine (HR.out _).mono ?_; rintro e w' ⟨rfl, rfl⟩))
  all_goals
    go_wp2_with fail
    go_returns
    refine ⟨.agg (cellsD ⟨1, x1, 0, 0, [], 0, 0⟩ (.slice none 0 0)), ⟨1, x1, 0, 0, [], 0, 0⟩, by rw [HOK.out]; rfl, ⟨none, 0, 0, rfl, Rd.nil _, HI.out⟩, ?_, HP.out⟩
    repeat (first | exact Below.refl _ _ | apply bdrew | apply bdrew1 | apply ball)

set_option maxRecDepth 100000 in
set_option maxHeartbeats 4000000 in
theorem fields_k2 (s : ByteArray) (w : World) (hs : s.size ≤ 1073741824) (h2 : ¬ s.size < 2) (h80 : ((s[0].toNat : Int) != 80) = false) (hk : (s[1].toNat : Int) = 2) (hl : 6 ≤ s.size) :
    Calls Try.prog 35 #[.string s] w (Flds 2 s w) := by
  have hrl : (s.data.toList.drop 2).length = s.size - 2 := by rw [List.length_drop, ← Lib.size_eq]
  have hp := parse_in 2 (s.data.toList.drop 2) (by omega)
  obtain ⟨x1, hx1, hb1⟩ : ∃ x : Nat, Hid (x = gotN 4 (s.data.toList.drop 2)) ∧ x < 4294967296 := ⟨_, hid rfl, got4_bd _⟩
  have HN1 := hid (fun W => number_l ((s.extract 2 s.size).extract 0 4) x1 W (by have := part_size s 0 4; omega) (by rw [part_list, hx1.out]; unfold gotN; rw [if_neg (by omega)]; rfl))
  have HP : Hid (⟨2, x1, 0, 0, [], 0, 0⟩ = (parseD 2 (s.data.toList.drop 2)).1) := by
    show _ = _
    rw [hx1.out]
    rfl
  have HI : Hid (InD ⟨2, x1, 0, 0, [], 0, 0⟩) := by
    show InD _
    rw [HP.out]; exact hp
  have HR := hid (fun W => rright_c ⟨2, x1, 0, 0, [], 0, 0⟩ none 0 0 W (Rd.nil W))
  generalize hok : rightB ⟨2, x1, 0, 0, [], 0, 0⟩ = ok at HR
  have HOK := hid hok
  clear hp hrl hok
  go_enter Try.func35, Try.ntmps35
  go_wp2_with (first
    | (go_at_call 51; (with_reducible refine (HN1.out _).mono ?_; rintro e w' ⟨rfl, rfl⟩)))
  go_region_with (first | (go_at_call 10; refine (HR.out _).mono ?_; rintro e w' ⟨rfl, rfl⟩))
  all_goals
    go_wp2_with fail
    go_returns
    refine ⟨.agg (cellsD ⟨2, x1, 0, 0, [], 0, 0⟩ (.slice none 0 0)), ⟨2, x1, 0, 0, [], 0, 0⟩, by rw [HOK.out]; rfl, ⟨none, 0, 0, rfl, Rd.nil _, HI.out⟩, ?_, HP.out⟩
    repeat (first | exact Below.refl _ _ | apply bdrew | apply bdrew1 | apply ball)

set_option maxRecDepth 100000 in
set_option maxHeartbeats 4000000 in
theorem fields_k4 (s : ByteArray) (w : World) (hs : s.size ≤ 1073741824) (h2 : ¬ s.size < 2) (h80 : ((s[0].toNat : Int) != 80) = false) (hk : (s[1].toNat : Int) = 4) (hl : 8 ≤ s.size) :
    Calls Try.prog 35 #[.string s] w (Flds 4 s w) := by
  have hrl : (s.data.toList.drop 2).length = s.size - 2 := by rw [List.length_drop, ← Lib.size_eq]
  have hp := parse_in 4 (s.data.toList.drop 2) (by omega)
  obtain ⟨x1, hx1, hb1⟩ : ∃ x : Nat, Hid (x = gotN 2 (s.data.toList.drop 2)) ∧ x < 65536 := ⟨_, hid rfl, got2_bd _⟩
  have HN1 := hid (fun W => number_l ((s.extract 2 s.size).extract 0 2) x1 W (by have := part_size s 0 2; omega) (by rw [part_list, hx1.out]; unfold gotN; rw [if_neg (by omega)]; rfl))
  obtain ⟨x2, hx2, hb2⟩ : ∃ x : Nat, Hid (x = gotN 4 (leftN 2 (s.data.toList.drop 2))) ∧ x < 4294967296 := ⟨_, hid rfl, got4_bd _⟩
  have hl1 : leftN 2 (s.data.toList.drop 2) = (s.data.toList.drop 2).drop 2 := by unfold leftN; rw [if_neg (by omega)]
  have HN2 := hid (fun W => number_l ((s.extract 2 s.size).extract 2 6) x2 W (by have := part_size s 2 6; omega) (by rw [part_list, hx2.out, hl1]; unfold gotN; rw [if_neg (by rw [List.length_drop]; omega)]))
  have hsl2 : ∀ W : World, (Instr.slice 9 (.string (s.extract 2 s.size)) (some (.int .i64 2)) (some (.int .i64 6)) none).run Try.prog W = .ok (.string ((s.extract 2 s.size).extract 2 6)) W := fun W => run_slice_string W _ _ .i64 .i64 2 6 Try.underlying9 (by omega) (by omega) (by rw [ByteArray.size_extract]; omega)
  have HP : Hid (⟨4, 0, x1, 0, [], x2, 0⟩ = (parseD 4 (s.data.toList.drop 2)).1) := by
    show _ = _
    rw [hx1.out, hx2.out]
    rfl
  have HI : Hid (InD ⟨4, 0, x1, 0, [], x2, 0⟩) := by
    show InD _
    rw [HP.out]; exact hp
  have HR := hid (fun W => rright_c ⟨4, 0, x1, 0, [], x2, 0⟩ none 0 0 W (Rd.nil W))
  generalize hok : rightB ⟨4, 0, x1, 0, [], x2, 0⟩ = ok at HR
  have HOK := hid hok
  clear hp hrl hok
  go_enter Try.func35, Try.ntmps35
  go_wp2_with (first
    | (go_at_call 51; (with_reducible refine (HN1.out _).mono ?_; rintro e w' ⟨rfl, rfl⟩))
    | (go_at_call 51; (with_reducible refine (HN2.out _).mono ?_; rintro e w' ⟨rfl, rfl⟩)))
  go_region_with (first | (go_at_call 10; refine (HR.out _).mono ?_; rintro e w' ⟨rfl, rfl⟩))
  all_goals
    go_wp2_with fail
    go_returns
    refine ⟨.agg (cellsD ⟨4, 0, x1, 0, [], x2, 0⟩ (.slice none 0 0)), ⟨4, 0, x1, 0, [], x2, 0⟩, by rw [HOK.out]; rfl, ⟨none, 0, 0, rfl, Rd.nil _, HI.out⟩, ?_, HP.out⟩
    repeat (first | exact Below.refl _ _ | apply bdrew | apply bdrew1 | apply ball)

set_option maxRecDepth 100000 in
set_option maxHeartbeats 4000000 in
theorem fields_k5 (s : ByteArray) (w : World) (hs : s.size ≤ 1073741824) (h2 : ¬ s.size < 2) (h80 : ((s[0].toNat : Int) != 80) = false) (hk : (s[1].toNat : Int) = 5) (hl : 4 ≤ s.size) :
    Calls Try.prog 35 #[.string s] w (Flds 5 s w) := by
  have hrl : (s.data.toList.drop 2).length = s.size - 2 := by rw [List.length_drop, ← Lib.size_eq]
  have hp := parse_in 5 (s.data.toList.drop 2) (by omega)
  obtain ⟨x1, hx1, hb1⟩ : ∃ x : Nat, Hid (x = gotN 2 (s.data.toList.drop 2)) ∧ x < 65536 := ⟨_, hid rfl, got2_bd _⟩
  have HN1 := hid (fun W => number_l ((s.extract 2 s.size).extract 0 2) x1 W (by have := part_size s 0 2; omega) (by rw [part_list, hx1.out]; unfold gotN; rw [if_neg (by omega)]; rfl))
  have HP : Hid (⟨5, 0, 0, x1, [], 0, 0⟩ = (parseD 5 (s.data.toList.drop 2)).1) := by
    show _ = _
    rw [hx1.out]
    rfl
  have HI : Hid (InD ⟨5, 0, 0, x1, [], 0, 0⟩) := by
    show InD _
    rw [HP.out]; exact hp
  have HR := hid (fun W => rright_c ⟨5, 0, 0, x1, [], 0, 0⟩ none 0 0 W (Rd.nil W))
  generalize hok : rightB ⟨5, 0, 0, x1, [], 0, 0⟩ = ok at HR
  have HOK := hid hok
  clear hp hrl hok
  go_enter Try.func35, Try.ntmps35
  go_wp2_with (first
    | (go_at_call 51; (with_reducible refine (HN1.out _).mono ?_; rintro e w' ⟨rfl, rfl⟩)))
  go_region_with (first | (go_at_call 10; refine (HR.out _).mono ?_; rintro e w' ⟨rfl, rfl⟩))
  all_goals
    go_wp2_with fail
    go_returns
    refine ⟨.agg (cellsD ⟨5, 0, 0, x1, [], 0, 0⟩ (.slice none 0 0)), ⟨5, 0, 0, x1, [], 0, 0⟩, by rw [HOK.out]; rfl, ⟨none, 0, 0, rfl, Rd.nil _, HI.out⟩, ?_, HP.out⟩
    repeat (first | exact Below.refl _ _ | apply bdrew | apply bdrew1 | apply ball)

set_option maxRecDepth 100000 in
set_option maxHeartbeats 4000000 in
theorem fields_k6 (s : ByteArray) (w : World) (hs : s.size ≤ 1073741824) (h2 : ¬ s.size < 2) (h80 : ((s[0].toNat : Int) != 80) = false) (hk : (s[1].toNat : Int) = 6) (hl : 5 ≤ s.size) (he : (rdN ((s.data.toList.drop 2).drop 2)).2.2 = 0) (h4 : (rdN ((s.data.toList.drop 2).drop 2)).1 ≤ 4000) :
    Calls Try.prog 35 #[.string s] w (Flds 6 s w) := by
  have hrl : (s.data.toList.drop 2).length = s.size - 2 := by rw [List.length_drop, ← Lib.size_eq]
  have hp := parse_in 6 (s.data.toList.drop 2) (by omega)
  obtain ⟨x1, hx1, hb1⟩ : ∃ x : Nat, Hid (x = gotN 2 (s.data.toList.drop 2)) ∧ x < 65536 := ⟨_, hid rfl, got2_bd _⟩
  have HN1 := hid (fun W => number_l ((s.extract 2 s.size).extract 0 2) x1 W (by have := part_size s 0 2; omega) (by rw [part_list, hx1.out]; unfold gotN; rw [if_neg (by omega)]; rfl))
  have hll : leftN 2 (s.data.toList.drop 2) = (s.data.toList.drop 2).drop 2 := by unfold leftN; rw [if_neg (by omega)]
  have HRd := hid (fun W => rread_c ((s.extract 2 s.size).extract 2 (s.size - 2)) W (by have := part_tsize s 2; unfold maxLen; omega))
  rw [part_tail] at HRd
  obtain ⟨y, hy⟩ : ∃ y : Int, Hid (y = unsN (rdN (leftN 2 (s.data.toList.drop 2))).1) := ⟨_, hid rfl⟩
  have hy2 := hy.out
  rw [hll] at hy2
  generalize rdN ((s.data.toList.drop 2).drop 2) = r at HRd he h4 hy2
  obtain ⟨q, nb, c⟩ := r
  rw [show rdV (q, nb, c) = .tuple #[.int .u64 (q : Int), .int .i64 (nb : Int), .int .i64 (c : Int)] from rfl] at HRd
  dsimp only at he h4 hy2
  subst he
  unfold unsN at hy2
  clear hll
  have HP : Hid (⟨6, 0, x1, 0, [], 0, y⟩ = (parseD 6 (s.data.toList.drop 2)).1) := by
    show _ = _
    rw [hx1.out, hy.out]
    rfl
  have HI : Hid (InD ⟨6, 0, x1, 0, [], 0, y⟩) := by
    show InD _
    rw [HP.out]; exact hp
  have HR := hid (fun W => rright_c ⟨6, 0, x1, 0, [], 0, y⟩ none 0 0 W (Rd.nil W))
  generalize hok : rightB ⟨6, 0, x1, 0, [], 0, y⟩ = ok at HR
  have HOK := hid hok
  clear hp hrl hok
  by_cases hodd : q % 2 = 1
  · rw [if_pos hodd] at hy2
    have hod : ((q : Int) % 2 == 1) = true := by simp; omega
    have hyq : -((q : Int) / 2) - 1 = y := by omega
    clear hy2 hodd
    go_enter Try.func35, Try.ntmps35
    go_wp2_with (first
      | (go_at_call 51; (with_reducible refine (HN1.out _).mono ?_; rintro e w' ⟨rfl, rfl⟩))
      | (go_at_call 53; (with_reducible refine (HRd.out _).mono ?_; rintro e w' ⟨rfl, rfl⟩)))
    go_region_with (first | (go_at_call 10; refine (HR.out _).mono ?_; rintro e w' ⟨rfl, rfl⟩))
    all_goals
      go_wp2_with fail
      go_returns
      refine ⟨.agg (cellsD ⟨6, 0, x1, 0, [], 0, y⟩ (.slice none 0 0)), ⟨6, 0, x1, 0, [], 0, y⟩, by rw [HOK.out]; rfl, ⟨none, 0, 0, rfl, Rd.nil _, HI.out⟩, ?_, HP.out⟩
      repeat (first | exact Below.refl _ _ | apply bdrew | apply bdrew1 | apply ball)
  · rw [if_neg hodd] at hy2
    have hod : ((q : Int) % 2 == 1) = false := by simp; omega
    have hyq : (q : Int) / 2 = y := by omega
    clear hy2 hodd
    go_enter Try.func35, Try.ntmps35
    go_wp2_with (first
      | (go_at_call 51; (with_reducible refine (HN1.out _).mono ?_; rintro e w' ⟨rfl, rfl⟩))
      | (go_at_call 53; (with_reducible refine (HRd.out _).mono ?_; rintro e w' ⟨rfl, rfl⟩)))
    go_region_with (first | (go_at_call 10; refine (HR.out _).mono ?_; rintro e w' ⟨rfl, rfl⟩))
    all_goals
      go_wp2_with fail
      go_returns
      refine ⟨.agg (cellsD ⟨6, 0, x1, 0, [], 0, y⟩ (.slice none 0 0)), ⟨6, 0, x1, 0, [], 0, y⟩, by rw [HOK.out]; rfl, ⟨none, 0, 0, rfl, Rd.nil _, HI.out⟩, ?_, HP.out⟩
      repeat (first | exact Below.refl _ _ | apply bdrew | apply bdrew1 | apply ball)

set_option maxRecDepth 100000 in
set_option maxHeartbeats 4000000 in
theorem fields_k7 (s : ByteArray) (w : World) (hs : s.size ≤ 1073741824) (h2 : ¬ s.size < 2) (h80 : ((s[0].toNat : Int) != 80) = false) (hk : (s[1].toNat : Int) = 7) :
    Calls Try.prog 35 #[.string s] w (Flds 7 s w) := by
  have hrl : (s.data.toList.drop 2).length = s.size - 2 := by rw [List.length_drop, ← Lib.size_eq]
  have hp := parse_in 7 (s.data.toList.drop 2) (by omega)
  have HP : Hid (⟨7, 0, 0, 0, [], 0, 0⟩ = (parseD 7 (s.data.toList.drop 2)).1) := by
    show _ = _
    rfl
  have HI : Hid (InD ⟨7, 0, 0, 0, [], 0, 0⟩) := by
    show InD _
    rw [HP.out]; exact hp
  have HR := hid (fun W => rright_c ⟨7, 0, 0, 0, [], 0, 0⟩ none 0 0 W (Rd.nil W))
  generalize hok : rightB ⟨7, 0, 0, 0, [], 0, 0⟩ = ok at HR
  have HOK := hid hok
  clear hp hrl hok
  go_enter Try.func35, Try.ntmps35
  go_wp2_with fail
  go_region_with (first | (go_at_call 10; refine (HR.out _).mono ?_; rintro e w' ⟨rfl, rfl⟩))
  all_goals
    go_wp2_with fail
    go_returns
    refine ⟨.agg (cellsD ⟨7, 0, 0, 0, [], 0, 0⟩ (.slice none 0 0)), ⟨7, 0, 0, 0, [], 0, 0⟩, by rw [HOK.out]; rfl, ⟨none, 0, 0, rfl, Rd.nil _, HI.out⟩, ?_, HP.out⟩
    repeat (first | exact Below.refl _ _ | apply bdrew | apply bdrew1 | apply ball)

end Go.Proofs.Ytnjmmmclelmeiaa.Wr
