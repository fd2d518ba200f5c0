/- What the model reads of a time's text. -/
import Derived.Test.YtibhbpgnjikjnaaDoorTimeRead
import Derived.Deep.Cut
import Derived.Deep.CutRange
namespace Go.Proofs.YtibhbpgnjikjnaaDoor
open Go.RowKit

theorem ldN_bd (s : ByteArray) (h : s.size ≤ 9) : -1 ≤ ldN s ∧ ldN s ≤ 999999999 := by
  cases hd : digs s
  · rw [ldN_f hd]; omega
  · have := drN_bd s h; rw [drN_t hd] at this; rw [ldN_t hd]; omega
theorem ex_size {s : ByteArray} {a b : Nat} (h : b ≤ s.size) (hb : b ≤ a + 9) : (s.extract a b).size ≤ 9 := by rw [ByteArray.size_extract]; omega
theorem below_one (w : World) (a : Obj) : Below w.heap.size w (w.alloc a).drew :=
  below_drewN ((Below.refl _ _).alloc (Nat.le_refl _) a) 1
set_option maxHeartbeats 1000000 in
theorem l01Read_no (s : ByteArray) (w : World) (hs : s.size = 19) (hv : vldB (ldN (s.extract 0 4)) (ldN (s.extract 5 7)) (ldN (s.extract 8 10)) = false) :
    Calls Tryd.prog 81 #[.string s] w fun e w' => e = .returned (.tuple #[.int .i64 0, .bool false]) ∧ Below w.heap.size w w' := by
  have c1 := fun w => spec_l01Digits (s.extract 0 4) w (ex_size (by omega) (by omega))
  have c2 := fun w => spec_l01Digits (s.extract 5 7) w (ex_size (by omega) (by omega))
  have c3 := fun w => spec_l01Digits (s.extract 8 10) w (ex_size (by omega) (by omega))
  have cR := fun w => spec_DateRight (ldN (s.extract 0 4)) (ldN (s.extract 5 7)) (ldN (s.extract 8 10)) w
  rw [hv] at cR
  clear hv
  generalize ldN (s.extract 0 4) = y at *
  generalize ldN (s.extract 5 7) = mo at *
  generalize ldN (s.extract 8 10) = d at *
  have hs' : ((s.size : Int) != 19) = false := by simp; omega
  go_enter Tryd.func81, Tryd.ntmps81
  go_upto_region 3 with fail
  go_cut [4] from 12 to 22 (fun x wx => x = .pointer (some ⟨w.heap.size, 0, none⟩) ∧ wx = (w.alloc (.cells #[.int .i64 y, .int .i64 mo, .int .i64 d] 25)).drew)
  case first =>
    go_region_held3 (fun _ => True) (go_keep) (first | (go_at_call_of 101 (s.extract 0 4); refine (c1 _).mono ?_; rintro e w' ⟨rfl, rfl⟩) | (go_at_call_of 101 (s.extract 5 7); refine (c2 _).mono ?_; rintro e w' ⟨rfl, rfl⟩) | (go_at_call_of 101 (s.extract 8 10); refine (c3 _).mono ?_; rintro e w' ⟨rfl, rfl⟩))
    all_goals
      go_wp2
      go_meet
      exact ⟨rfl, rfl⟩
  case rest =>
    obtain ⟨rfl, rfl⟩ := hcut
    go_wp2_with fail
    refine (cR _).mono ?_
    rintro e w1 ⟨rfl, hb⟩
    go_wp2
    go_ret2
    exact ⟨rfl, (below_one w _).trans (hb.mono (by simp))⟩
def mrN (s : ByteArray) : Int := 86400 * num (ldN (s.extract 0 4)) (ldN (s.extract 5 7)) (ldN (s.extract 8 10)) + 3600 * ldN (s.extract 11 13) + 60 * ldN (s.extract 14 16) + ldN (s.extract 17 19)
def mrH (s : ByteArray) : Bool := decide (0 ≤ ldN (s.extract 11 13) ∧ ldN (s.extract 11 13) < 24 ∧ 0 ≤ ldN (s.extract 14 16) ∧ 0 ≤ ldN (s.extract 17 19))
set_option maxHeartbeats 2000000 in
theorem l01Read_yes (s : ByteArray) (w : World) (hs : s.size = 19) (hv : vldB (ldN (s.extract 0 4)) (ldN (s.extract 5 7)) (ldN (s.extract 8 10)) = true) (hh : mrH s = true) :
    Calls Tryd.prog 81 #[.string s] w fun e w' => e = .returned (.tuple #[.int .i64 (mrN s), .bool (timeV (mrN s) == s.toList)]) ∧ Below w.heap.size w w' := by
  have c1 := fun w => spec_l01Digits (s.extract 0 4) w (ex_size (by omega) (by omega))
  have c2 := fun w => spec_l01Digits (s.extract 5 7) w (ex_size (by omega) (by omega))
  have c3 := fun w => spec_l01Digits (s.extract 8 10) w (ex_size (by omega) (by omega))
  have cR := fun w => spec_DateRight (ldN (s.extract 0 4)) (ldN (s.extract 5 7)) (ldN (s.extract 8 10)) w
  have hh' := of_decide_eq_true hh
  clear hh
  have cX := fun w => spec_TimeText (mrN s) w
  unfold mrN at *
  have cT := fun w => spec_l01Days (ldN (s.extract 0 4)) (ldN (s.extract 5 7)) (ldN (s.extract 8 10)) w
  have hv' := vld_t hv
  have hdim := Cal.dim_bd (ldN (s.extract 0 4)) (ldN (s.extract 5 7))
  have nb := num_bd hv
  have c4 := fun w => spec_l01Digits (s.extract 11 13) w (ex_size (by omega) (by omega))
  have c5 := fun w => spec_l01Digits (s.extract 14 16) w (ex_size (by omega) (by omega))
  have c6 := fun w => spec_l01Digits (s.extract 17 19) w (ex_size (by omega) (by omega))
  have b4 := ldN_bd (s.extract 11 13) (ex_size (by omega) (by omega))
  have b5 := ldN_bd (s.extract 14 16) (ex_size (by omega) (by omega))
  have b6 := ldN_bd (s.extract 17 19) (ex_size (by omega) (by omega))
  rw [hv] at cR
  clear hv
  generalize ldN (s.extract 0 4) = y at *
  generalize ldN (s.extract 5 7) = mo at *
  generalize ldN (s.extract 8 10) = d at *
  generalize ldN (s.extract 11 13) = hh at *
  generalize ldN (s.extract 14 16) = mm at *
  generalize ldN (s.extract 17 19) = ss at *
  have cD := fun w => cT w (by omega) (by omega) (by omega) (by omega) (by omega) (by omega)
  clear cT hv' hdim
  generalize num y mo d = q at *
  have hs' : ((s.size : Int) != 19) = false := by simp; omega
  go_enter Tryd.func81, Tryd.ntmps81
  go_upto_region 3 with fail
  go_cut [4] from 12 to 22 (fun x wx => x = .pointer (some ⟨w.heap.size, 0, none⟩) ∧ wx = (w.alloc (.cells #[.int .i64 y, .int .i64 mo, .int .i64 d] 25)).drew)
  case first =>
    go_region_held3 (fun _ => True) (go_keep) (first | (go_at_call_of 101 (s.extract 0 4); refine (c1 _).mono ?_; rintro e w' ⟨rfl, rfl⟩) | (go_at_call_of 101 (s.extract 5 7); refine (c2 _).mono ?_; rintro e w' ⟨rfl, rfl⟩) | (go_at_call_of 101 (s.extract 8 10); refine (c3 _).mono ?_; rintro e w' ⟨rfl, rfl⟩))
    all_goals
      go_wp2
      go_meet
      exact ⟨rfl, rfl⟩
  case rest =>
    obtain ⟨rfl, rfl⟩ := hcut
    go_wp2_with fail
    refine (cR _).mono ?_
    rintro e w1 ⟨rfl, hb⟩
    obtain ⟨hc, hf⟩ := bcell hb
    have hz : w.heap.size < w1.heap.size := by have := hb.size; simp at this; omega
    have hB : Below w.heap.size w w1 := (below_one w _).trans (hb.mono (by simp))
    go_wp2_with fail
    go_quiet ((first | (go_at_call_of 101 (s.extract 11 13); exact Calls.quiet_of_same (c4 _)) | (go_at_call_of 101 (s.extract 14 16); exact Calls.quiet_of_same (c5 _)) | (go_at_call_of 101 (s.extract 17 19); exact Calls.quiet_of_same (c6 _))))
    go_wp2_with fail
    refine (cD _).mono ?_
    rintro e w2 ⟨rfl, hb2⟩
    have hB2 : Below w.heap.size w w2 := (below_drewN hB nq).trans (hb2.mono (by simp; have := hB.size; omega))
    go_wp2_with fail
    refine (cX _).mono ?_
    rintro e w3 ⟨rfl, hb3⟩
    go_wp2
    go_ret2
    exact ⟨rfl, hB2.trans (hb3.mono hB2.size)⟩
set_option maxHeartbeats 2000000 in
theorem l01Read_hno (s : ByteArray) (w : World) (hs : s.size = 19) (hv : vldB (ldN (s.extract 0 4)) (ldN (s.extract 5 7)) (ldN (s.extract 8 10)) = true) (hh : mrH s = false) :
    Calls Tryd.prog 81 #[.string s] w fun e w' => (∃ n, e = .returned (.tuple #[.int .i64 n, .bool false])) ∧ Below w.heap.size w w' := by
  have c1 := fun w => spec_l01Digits (s.extract 0 4) w (ex_size (by omega) (by omega))
  have c2 := fun w => spec_l01Digits (s.extract 5 7) w (ex_size (by omega) (by omega))
  have c3 := fun w => spec_l01Digits (s.extract 8 10) w (ex_size (by omega) (by omega))
  have cR := fun w => spec_DateRight (ldN (s.extract 0 4)) (ldN (s.extract 5 7)) (ldN (s.extract 8 10)) w
  have hh' := of_decide_eq_false hh
  clear hh
  have cT := fun w => spec_l01Days (ldN (s.extract 0 4)) (ldN (s.extract 5 7)) (ldN (s.extract 8 10)) w
  have hv' := vld_t hv
  have hdim := Cal.dim_bd (ldN (s.extract 0 4)) (ldN (s.extract 5 7))
  have nb := num_bd hv
  have c4 := fun w => spec_l01Digits (s.extract 11 13) w (ex_size (by omega) (by omega))
  have c5 := fun w => spec_l01Digits (s.extract 14 16) w (ex_size (by omega) (by omega))
  have c6 := fun w => spec_l01Digits (s.extract 17 19) w (ex_size (by omega) (by omega))
  have b4 := ldN_bd (s.extract 11 13) (ex_size (by omega) (by omega))
  have b5 := ldN_bd (s.extract 14 16) (ex_size (by omega) (by omega))
  have b6 := ldN_bd (s.extract 17 19) (ex_size (by omega) (by omega))
  rw [hv] at cR
  clear hv
  generalize ldN (s.extract 0 4) = y at *
  generalize ldN (s.extract 5 7) = mo at *
  generalize ldN (s.extract 8 10) = d at *
  generalize ldN (s.extract 11 13) = hh at *
  generalize ldN (s.extract 14 16) = mm at *
  generalize ldN (s.extract 17 19) = ss at *
  have cD := fun w => cT w (by omega) (by omega) (by omega) (by omega) (by omega) (by omega)
  clear cT hv' hdim
  generalize num y mo d = q at *
  have hk : hh < 0 ∨ (0 ≤ hh ∧ 24 ≤ hh) ∨ (0 ≤ hh ∧ hh < 24 ∧ mm < 0) ∨ (0 ≤ hh ∧ hh < 24 ∧ 0 ≤ mm ∧ ss < 0) := by omega
  clear hh'
  rcases hk with hk | hk | hk | hk
  · have hs' : ((s.size : Int) != 19) = false := by simp; omega
    go_enter Tryd.func81, Tryd.ntmps81
    go_upto_region 3 with fail
    go_cut [4] from 12 to 22 (fun x wx => x = .pointer (some ⟨w.heap.size, 0, none⟩) ∧ wx = (w.alloc (.cells #[.int .i64 y, .int .i64 mo, .int .i64 d] 25)).drew)
    case first =>
      go_region_held3 (fun _ => True) (go_keep) (first | (go_at_call_of 101 (s.extract 0 4); refine (c1 _).mono ?_; rintro e w' ⟨rfl, rfl⟩) | (go_at_call_of 101 (s.extract 5 7); refine (c2 _).mono ?_; rintro e w' ⟨rfl, rfl⟩) | (go_at_call_of 101 (s.extract 8 10); refine (c3 _).mono ?_; rintro e w' ⟨rfl, rfl⟩))
      all_goals
        go_wp2
        go_meet
        exact ⟨rfl, rfl⟩
    case rest =>
      obtain ⟨rfl, rfl⟩ := hcut
      go_wp2_with fail
      refine (cR _).mono ?_
      rintro e w1 ⟨rfl, hb⟩
      obtain ⟨hc, hf⟩ := bcell hb
      have hz : w.heap.size < w1.heap.size := by have := hb.size; simp at this; omega
      have hB : Below w.heap.size w w1 := (below_one w _).trans (hb.mono (by simp))
      go_wp2_with fail
      go_quiet ((first | (go_at_call_of 101 (s.extract 11 13); exact Calls.quiet_of_same (c4 _)) | (go_at_call_of 101 (s.extract 14 16); exact Calls.quiet_of_same (c5 _)) | (go_at_call_of 101 (s.extract 17 19); exact Calls.quiet_of_same (c6 _))))
      go_wp2_with fail
      refine (cD _).mono ?_
      rintro e w2 ⟨rfl, hb2⟩
      have hB2 : Below w.heap.size w w2 := (below_drewN hB nq).trans (hb2.mono (by simp; have := hB.size; omega))
      go_wp2
      go_ret2
      exact ⟨⟨_, rfl⟩, hB2⟩
  · have hs' : ((s.size : Int) != 19) = false := by simp; omega
    go_enter Tryd.func81, Tryd.ntmps81
    go_upto_region 3 with fail
    go_cut [4] from 12 to 22 (fun x wx => x = .pointer (some ⟨w.heap.size, 0, none⟩) ∧ wx = (w.alloc (.cells #[.int .i64 y, .int .i64 mo, .int .i64 d] 25)).drew)
    case first =>
      go_region_held3 (fun _ => True) (go_keep) (first | (go_at_call_of 101 (s.extract 0 4); refine (c1 _).mono ?_; rintro e w' ⟨rfl, rfl⟩) | (go_at_call_of 101 (s.extract 5 7); refine (c2 _).mono ?_; rintro e w' ⟨rfl, rfl⟩) | (go_at_call_of 101 (s.extract 8 10); refine (c3 _).mono ?_; rintro e w' ⟨rfl, rfl⟩))
      all_goals
        go_wp2
        go_meet
        exact ⟨rfl, rfl⟩
    case rest =>
      obtain ⟨rfl, rfl⟩ := hcut
      go_wp2_with fail
      refine (cR _).mono ?_
      rintro e w1 ⟨rfl, hb⟩
      obtain ⟨hc, hf⟩ := bcell hb
      have hz : w.heap.size < w1.heap.size := by have := hb.size; simp at this; omega
      have hB : Below w.heap.size w w1 := (below_one w _).trans (hb.mono (by simp))
      go_wp2_with fail
      go_quiet ((first | (go_at_call_of 101 (s.extract 11 13); exact Calls.quiet_of_same (c4 _)) | (go_at_call_of 101 (s.extract 14 16); exact Calls.quiet_of_same (c5 _)) | (go_at_call_of 101 (s.extract 17 19); exact Calls.quiet_of_same (c6 _))))
      go_wp2_with fail
      refine (cD _).mono ?_
      rintro e w2 ⟨rfl, hb2⟩
      have hB2 : Below w.heap.size w w2 := (below_drewN hB nq).trans (hb2.mono (by simp; have := hB.size; omega))
      go_wp2
      go_ret2
      exact ⟨⟨_, rfl⟩, hB2⟩
  · have hs' : ((s.size : Int) != 19) = false := by simp; omega
    go_enter Tryd.func81, Tryd.ntmps81
    go_upto_region 3 with fail
    go_cut [4] from 12 to 22 (fun x wx => x = .pointer (some ⟨w.heap.size, 0, none⟩) ∧ wx = (w.alloc (.cells #[.int .i64 y, .int .i64 mo, .int .i64 d] 25)).drew)
    case first =>
      go_region_held3 (fun _ => True) (go_keep) (first | (go_at_call_of 101 (s.extract 0 4); refine (c1 _).mono ?_; rintro e w' ⟨rfl, rfl⟩) | (go_at_call_of 101 (s.extract 5 7); refine (c2 _).mono ?_; rintro e w' ⟨rfl, rfl⟩) | (go_at_call_of 101 (s.extract 8 10); refine (c3 _).mono ?_; rintro e w' ⟨rfl, rfl⟩))
      all_goals
        go_wp2
        go_meet
        exact ⟨rfl, rfl⟩
    case rest =>
      obtain ⟨rfl, rfl⟩ := hcut
      go_wp2_with fail
      refine (cR _).mono ?_
      rintro e w1 ⟨rfl, hb⟩
      obtain ⟨hc, hf⟩ := bcell hb
      have hz : w.heap.size < w1.heap.size := by have := hb.size; simp at this; omega
      have hB : Below w.heap.size w w1 := (below_one w _).trans (hb.mono (by simp))
      go_wp2_with fail
      go_quiet ((first | (go_at_call_of 101 (s.extract 11 13); exact Calls.quiet_of_same (c4 _)) | (go_at_call_of 101 (s.extract 14 16); exact Calls.quiet_of_same (c5 _)) | (go_at_call_of 101 (s.extract 17 19); exact Calls.quiet_of_same (c6 _))))
      go_wp2_with fail
      refine (cD _).mono ?_
      rintro e w2 ⟨rfl, hb2⟩
      have hB2 : Below w.heap.size w w2 := (below_drewN hB nq).trans (hb2.mono (by simp; have := hB.size; omega))
      go_wp2
      go_ret2
      exact ⟨⟨_, rfl⟩, hB2⟩
  · have hs' : ((s.size : Int) != 19) = false := by simp; omega
    go_enter Tryd.func81, Tryd.ntmps81
    go_upto_region 3 with fail
    go_cut [4] from 12 to 22 (fun x wx => x = .pointer (some ⟨w.heap.size, 0, none⟩) ∧ wx = (w.alloc (.cells #[.int .i64 y, .int .i64 mo, .int .i64 d] 25)).drew)
    case first =>
      go_region_held3 (fun _ => True) (go_keep) (first | (go_at_call_of 101 (s.extract 0 4); refine (c1 _).mono ?_; rintro e w' ⟨rfl, rfl⟩) | (go_at_call_of 101 (s.extract 5 7); refine (c2 _).mono ?_; rintro e w' ⟨rfl, rfl⟩) | (go_at_call_of 101 (s.extract 8 10); refine (c3 _).mono ?_; rintro e w' ⟨rfl, rfl⟩))
      all_goals
        go_wp2
        go_meet
        exact ⟨rfl, rfl⟩
    case rest =>
      obtain ⟨rfl, rfl⟩ := hcut
      go_wp2_with fail
      refine (cR _).mono ?_
      rintro e w1 ⟨rfl, hb⟩
      obtain ⟨hc, hf⟩ := bcell hb
      have hz : w.heap.size < w1.heap.size := by have := hb.size; simp at this; omega
      have hB : Below w.heap.size w w1 := (below_one w _).trans (hb.mono (by simp))
      go_wp2_with fail
      go_quiet ((first | (go_at_call_of 101 (s.extract 11 13); exact Calls.quiet_of_same (c4 _)) | (go_at_call_of 101 (s.extract 14 16); exact Calls.quiet_of_same (c5 _)) | (go_at_call_of 101 (s.extract 17 19); exact Calls.quiet_of_same (c6 _))))
      go_wp2_with fail
      refine (cD _).mono ?_
      rintro e w2 ⟨rfl, hb2⟩
      have hB2 : Below w.heap.size w w2 := (below_drewN hB nq).trans (hb2.mono (by simp; have := hB.size; omega))
      go_wp2
      go_ret2
      exact ⟨⟨_, rfl⟩, hB2⟩
end Go.Proofs.YtibhbpgnjikjnaaDoor
