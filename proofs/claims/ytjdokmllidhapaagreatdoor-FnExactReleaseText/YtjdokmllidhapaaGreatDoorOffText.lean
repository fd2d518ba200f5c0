/- Contracts of OffsetText, the program's and the model's. -/
import Derived.Test.YtjdokmllidhapaaGreatDoorTexts
namespace Go.Proofs.YtjdokmllidhapaaGreatDoor
open Go.RowKit

set_option maxHeartbeats 1000000 in
theorem impl_OffsetText_pos (s : Nat) (w : World) (hs : s ≤ 604800) (hP : Pow w) :
    Calls Tryz.prog 160 #[.int .i64 s] w fun e w' => e = .returned (.string (S (offL s))) ∧ Below w.heap.size w w' := by
  have l1 := padL_len (u := s / 3600) (k := 1) (by omega) (by omega)
  have l2 := padL_len (u := s / 60 % 60) (k := 2) (by omega) (by omega)
  have l3 := padL_len (u := s % 60) (k := 2) (by omega) (by omega)
  by_cases hz : s % 60 = 0
  · have HZ : Hid (offL s = padL (s / 3600) 1 ++ 58 :: padL (s / 60 % 60) 2) := by unfold offL; rw [if_pos hz, pad1]; simp [Hid]
    have hz' : ((s : Int) % 60 != 0) = false := by simp; omega
    clear hz
    go_enter Tryz.func160, Tryz.ntmps160
    go_wp2_with fail
    refine (impl_padI (s / 3600) 1 _ (by omega) rfl (by omega) (by omega) hP).mono ?_
    rintro e w1 ⟨rfl, hb1⟩
    go_wp2_with fail
    refine (impl_padI (s / 60 % 60) 2 _ (by omega) rfl (by omega) (by omega) (hP.of_below hb1)).mono ?_
    rintro e w2 ⟨rfl, hb2⟩
    have hB2 := hb1.trans (hb2.mono hb1.size)
    go_wp2
    go_ret
    exact ⟨ret_str (by rw [HZ.out]; simp only [S_append]; simp), hB2⟩
  · have HZ : Hid (offL s = padL (s / 3600) 1 ++ 58 :: padL (s / 60 % 60) 2 ++ 58 :: padL (s % 60) 2) := by unfold offL; rw [if_neg hz, pad1]; simp [Hid]
    have hz' : ((s : Int) % 60 != 0) = true := by simp; omega
    clear hz
    go_enter Tryz.func160, Tryz.ntmps160
    go_wp2_with fail
    refine (impl_padI (s / 3600) 1 _ (by omega) rfl (by omega) (by omega) hP).mono ?_
    rintro e w1 ⟨rfl, hb1⟩
    go_wp2_with fail
    refine (impl_padI (s / 60 % 60) 2 _ (by omega) rfl (by omega) (by omega) (hP.of_below hb1)).mono ?_
    rintro e w2 ⟨rfl, hb2⟩
    have hB2 := hb1.trans (hb2.mono hb1.size)
    go_wp2_with fail
    refine (impl_padI (s % 60) 2 _ (by omega) rfl (by omega) (by omega) (hP.of_below hB2)).mono ?_
    rintro e w3 ⟨rfl, hb3⟩
    have hB3 := hB2.trans (hb3.mono hB2.size)
    go_wp2
    go_ret
    exact ⟨ret_str (by rw [HZ.out]; simp only [S_append]; simp), hB3⟩
set_option maxHeartbeats 1000000 in
theorem impl_OffsetText_neg (s : Nat) (w : World) (h0 : 1 ≤ s) (hs : s ≤ 604800) (hP : Pow w) :
    Calls Tryz.prog 160 #[.int .i64 (-(s : Int))] w fun e w' => e = .returned (.string (S (45 :: offL s))) ∧ Below w.heap.size w w' := by
  have l1 := padL_len (u := s / 3600) (k := 1) (by omega) (by omega)
  have l2 := padL_len (u := s / 60 % 60) (k := 2) (by omega) (by omega)
  have l3 := padL_len (u := s % 60) (k := 2) (by omega) (by omega)
  have hneg : (-(s : Int)) < 0 := by omega
  by_cases hz : s % 60 = 0
  · have HZ : Hid (offL s = padL (s / 3600) 1 ++ 58 :: padL (s / 60 % 60) 2) := by unfold offL; rw [if_pos hz, pad1]; simp [Hid]
    have hz' : ((s : Int) % 60 != 0) = false := by simp; omega
    clear hz
    go_enter Tryz.func160, Tryz.ntmps160
    go_wp2_with fail
    refine (impl_padI (s / 3600) 1 _ (by omega) rfl (by omega) (by omega) hP).mono ?_
    rintro e w1 ⟨rfl, hb1⟩
    go_wp2_with fail
    refine (impl_padI (s / 60 % 60) 2 _ (by omega) rfl (by omega) (by omega) (hP.of_below hb1)).mono ?_
    rintro e w2 ⟨rfl, hb2⟩
    have hB2 := hb1.trans (hb2.mono hb1.size)
    go_wp2
    go_ret
    exact ⟨ret_str (by rw [HZ.out]; simp only [S_append]; simp), hB2⟩
  · have HZ : Hid (offL s = padL (s / 3600) 1 ++ 58 :: padL (s / 60 % 60) 2 ++ 58 :: padL (s % 60) 2) := by unfold offL; rw [if_neg hz, pad1]; simp [Hid]
    have hz' : ((s : Int) % 60 != 0) = true := by simp; omega
    clear hz
    go_enter Tryz.func160, Tryz.ntmps160
    go_wp2_with fail
    refine (impl_padI (s / 3600) 1 _ (by omega) rfl (by omega) (by omega) hP).mono ?_
    rintro e w1 ⟨rfl, hb1⟩
    go_wp2_with fail
    refine (impl_padI (s / 60 % 60) 2 _ (by omega) rfl (by omega) (by omega) (hP.of_below hb1)).mono ?_
    rintro e w2 ⟨rfl, hb2⟩
    have hB2 := hb1.trans (hb2.mono hb1.size)
    go_wp2_with fail
    refine (impl_padI (s % 60) 2 _ (by omega) rfl (by omega) (by omega) (hP.of_below hB2)).mono ?_
    rintro e w3 ⟨rfl, hb3⟩
    have hB3 := hB2.trans (hb3.mono hB2.size)
    go_wp2
    go_ret
    exact ⟨ret_str (by rw [HZ.out]; simp only [S_append]; simp), hB3⟩
set_option maxHeartbeats 1000000 in
theorem spec_OffsetText_pos (s : Nat) (w : World) (hs : s ≤ 604800) :
    Calls Tryz.prog 151 #[.int .i64 s] w fun e w' => e = .returned (.string (S (offL s))) ∧ Below w.heap.size w w' := by
  have l1 := dd_len (n := s / 3600) (by omega)
  have hI := fun w => spec_l01Is_v (isB_t (n := (s : Int)) (lo := -604800) (hi := 604800) (by omega) (by omega)) w
  have l2 := padL_len (u := s / 60 % 60) (k := 2) (by omega) (by omega)
  have l3 := padL_len (u := s % 60) (k := 2) (by omega) (by omega)
  by_cases hz : s % 60 = 0
  · have HZ : Hid (offL s = Lib.decDigits (s / 3600) ++ 58 :: padL (s / 60 % 60) 2) := by unfold offL; rw [if_pos hz]; simp [Hid]
    have hz' : ¬ (0 : Int) < (s : Int) % 60 := by omega
    clear hz
    go_enter Tryz.func151, Tryz.ntmps151
    go_wp2_with fail
    refine (hI _).mono ?_
    rintro e w0 ⟨rfl, rfl⟩
    go_wp2_with fail
    refine (spec_decI (s / 3600) _ (by omega) (by omega)).mono ?_
    rintro e w1 ⟨rfl, hb1⟩
    go_wp2_with fail
    refine (spec_padI (s / 60 % 60) 2 _ (by omega) rfl (by omega) (by omega)).mono ?_
    rintro e w2 ⟨rfl, hb2⟩
    have hB2 := hb1.trans (hb2.mono hb1.size)
    go_wp2
    go_ret
    exact ⟨ret_str (by rw [HZ.out]; simp only [S_append]; simp), hB2⟩
  · have HZ : Hid (offL s = Lib.decDigits (s / 3600) ++ 58 :: padL (s / 60 % 60) 2 ++ 58 :: padL (s % 60) 2) := by unfold offL; rw [if_neg hz]; simp [Hid]
    have hz' : (0 : Int) < (s : Int) % 60 := by omega
    clear hz
    go_enter Tryz.func151, Tryz.ntmps151
    go_wp2_with fail
    refine (hI _).mono ?_
    rintro e w0 ⟨rfl, rfl⟩
    go_wp2_with fail
    refine (spec_decI (s / 3600) _ (by omega) (by omega)).mono ?_
    rintro e w1 ⟨rfl, hb1⟩
    go_wp2_with fail
    refine (spec_padI (s / 60 % 60) 2 _ (by omega) rfl (by omega) (by omega)).mono ?_
    rintro e w2 ⟨rfl, hb2⟩
    have hB2 := hb1.trans (hb2.mono hb1.size)
    go_wp2_with fail
    refine (spec_padI (s % 60) 2 _ (by omega) rfl (by omega) (by omega)).mono ?_
    rintro e w3 ⟨rfl, hb3⟩
    have hB3 := hB2.trans (hb3.mono hB2.size)
    go_wp2
    go_ret
    exact ⟨ret_str (by rw [HZ.out]; simp only [S_append]; simp), hB3⟩
set_option maxHeartbeats 1000000 in
theorem spec_OffsetText_neg (s : Nat) (w : World) (h0 : 1 ≤ s) (hs : s ≤ 604800) :
    Calls Tryz.prog 151 #[.int .i64 (-(s : Int))] w fun e w' => e = .returned (.string (S (45 :: offL s))) ∧ Below w.heap.size w w' := by
  have l1 := dd_len (n := s / 3600) (by omega)
  have hI := fun w => spec_l01Is_v (isB_t (n := -(s : Int)) (lo := -604800) (hi := 604800) (by omega) (by omega)) w
  have l2 := padL_len (u := s / 60 % 60) (k := 2) (by omega) (by omega)
  have l3 := padL_len (u := s % 60) (k := 2) (by omega) (by omega)
  have hneg : (-(s : Int)) < 0 := by omega
  by_cases hz : s % 60 = 0
  · have HZ : Hid (offL s = Lib.decDigits (s / 3600) ++ 58 :: padL (s / 60 % 60) 2) := by unfold offL; rw [if_pos hz]; simp [Hid]
    have hz' : ¬ (0 : Int) < (s : Int) % 60 := by omega
    clear hz
    go_enter Tryz.func151, Tryz.ntmps151
    go_wp2_with fail
    refine (hI _).mono ?_
    rintro e w0 ⟨rfl, rfl⟩
    go_wp2_with fail
    refine (spec_decI (s / 3600) _ (by omega) (by omega)).mono ?_
    rintro e w1 ⟨rfl, hb1⟩
    go_wp2_with fail
    refine (spec_padI (s / 60 % 60) 2 _ (by omega) rfl (by omega) (by omega)).mono ?_
    rintro e w2 ⟨rfl, hb2⟩
    have hB2 := hb1.trans (hb2.mono hb1.size)
    go_wp2
    go_ret
    exact ⟨ret_str (by rw [HZ.out]; simp only [S_append]; simp), hB2⟩
  · have HZ : Hid (offL s = Lib.decDigits (s / 3600) ++ 58 :: padL (s / 60 % 60) 2 ++ 58 :: padL (s % 60) 2) := by unfold offL; rw [if_neg hz]; simp [Hid]
    have hz' : (0 : Int) < (s : Int) % 60 := by omega
    clear hz
    go_enter Tryz.func151, Tryz.ntmps151
    go_wp2_with fail
    refine (hI _).mono ?_
    rintro e w0 ⟨rfl, rfl⟩
    go_wp2_with fail
    refine (spec_decI (s / 3600) _ (by omega) (by omega)).mono ?_
    rintro e w1 ⟨rfl, hb1⟩
    go_wp2_with fail
    refine (spec_padI (s / 60 % 60) 2 _ (by omega) rfl (by omega) (by omega)).mono ?_
    rintro e w2 ⟨rfl, hb2⟩
    have hB2 := hb1.trans (hb2.mono hb1.size)
    go_wp2_with fail
    refine (spec_padI (s % 60) 2 _ (by omega) rfl (by omega) (by omega)).mono ?_
    rintro e w3 ⟨rfl, hb3⟩
    have hB3 := hB2.trans (hb3.mono hB2.size)
    go_wp2
    go_ret
    exact ⟨ret_str (by rw [HZ.out]; simp only [S_append]; simp), hB3⟩
set_option maxHeartbeats 400000 in
theorem impl_OffsetText_no (n : Int) (w : World) (h : n < -604800 ∨ 604800 < n) :
    Calls Tryz.prog 160 #[.int .i64 n] w fun e w' => e = .returned (.string (S [])) ∧ Below w.heap.size w w' := by
  by_cases h1 : n < -604800
  · clear h
    go_enter Tryz.func160, Tryz.ntmps160
    go_wp2
    go_ret
    exact ⟨rfl, Below.refl _ _⟩
  · have h2 : 604800 < n := by omega
    clear h
    go_enter Tryz.func160, Tryz.ntmps160
    go_wp2
    go_ret
    exact ⟨rfl, Below.refl _ _⟩
theorem offV_no {n : Int} (h : isB n (-604800) 604800 = false) : offV n = [] := by unfold offV; rw [h]; rfl
theorem offV_pos {s : Nat} (h : s ≤ 604800) : offV s = offL s := by unfold offV; rw [if_pos (isB_t (by omega) (by omega)), if_neg (by omega)]; rfl
theorem offV_neg {s : Nat} (h0 : 1 ≤ s) (h : s ≤ 604800) : offV (-(s : Int)) = 45 :: offL s := by
  unfold offV; rw [if_pos (isB_t (by omega) (by omega)), if_pos (by omega)]; simp
theorem impl_OffsetText (n : Int) (w : World) (hP : Pow w) :
    Calls Tryz.prog 160 #[.int .i64 n] w fun e w' => e = .returned (.string (S (offV n))) ∧ Below w.heap.size w w' := by
  cases h : isB n (-604800) 604800
  · rw [offV_no h]; exact impl_OffsetText_no n w (by have := isB_of_f h; omega)
  · have ⟨h1, h2⟩ := isB_of_t h
    by_cases hn : n < 0
    · obtain ⟨u, rfl⟩ : ∃ u : Nat, n = -(u : Int) := ⟨n.natAbs, by omega⟩
      rw [offV_neg (by omega) (by omega)]; exact impl_OffsetText_neg u w (by omega) (by omega) hP
    · obtain ⟨u, rfl⟩ : ∃ u : Nat, n = (u : Int) := ⟨n.toNat, by omega⟩
      rw [offV_pos (by omega)]; exact impl_OffsetText_pos u w (by omega) hP
set_option maxHeartbeats 400000 in
theorem spec_OffsetText (n : Int) (w : World) :
    Calls Tryz.prog 151 #[.int .i64 n] w fun e w' => e = .returned (.string (S (offV n))) ∧ Below w.heap.size w w' := by
  cases h : isB n (-604800) 604800
  · rw [offV_no h]
    have hI := fun w => spec_l01Is_v h w
    clear h
    go_enter Tryz.func151, Tryz.ntmps151
    go_wp2_with (go_at_call 47; refine (hI _).mono ?_; rintro e w' ⟨rfl, rfl⟩)
    go_ret
    exact ⟨rfl, Below.refl _ _⟩
  · have ⟨h1, h2⟩ := isB_of_t h
    by_cases hn : n < 0
    · obtain ⟨u, rfl⟩ : ∃ u : Nat, n = -(u : Int) := ⟨n.natAbs, by omega⟩
      rw [offV_neg (by omega) (by omega)]; exact spec_OffsetText_neg u w (by omega) (by omega)
    · obtain ⟨u, rfl⟩ : ∃ u : Nat, n = (u : Int) := ⟨n.toNat, by omega⟩
      rw [offV_pos (by omega)]; exact spec_OffsetText_pos u w (by omega)
end Go.Proofs.YtjdokmllidhapaaGreatDoor
