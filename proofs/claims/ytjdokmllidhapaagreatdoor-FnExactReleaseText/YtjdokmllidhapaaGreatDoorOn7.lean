/- What the model tells of a year, a month and a text: the other forms; whole. -/
import Derived.Test.YtjdokmllidhapaaGreatDoorOn6
namespace Go.Proofs.YtjdokmllidhapaaGreatDoor
open Go.RowKit

theorem aB_bB {s : ByteArray} (h : aB s = true) (c : UInt8) (hc : c.toNat ≠ 116) : bB c s = false := by
  cases hb : bB c s
  · rfl
  · have h1 := (aB_byte h).2.2.2.2
    have h2 := (bB_byte hb).2.1
    rw [h1] at h2
    omega
theorem two_big {s : ByteArray} (h : 2 < s.size) : twoN s = -1 := by unfold twoN; rw [if_neg (by omega)]
theorem bB_no {s : ByteArray} {c : UInt8} (h5 : 5 < s.size) (h : bB c s = false) : ((s.extract 3 5).toList == [c, 61]) = false := by
  unfold bB at h; rw [decide_eq_true h5] at h; simpa using h
set_option maxHeartbeats 1000000 in
theorem on_lastno (y m : Int) (s : ByteArray) (w : World) (hy : ymB y m = true) (ha : aB s = true) (hw : wdN (s.extract 4 7) = -1) :
    Calls Tryz.prog 180 #[.int .i64 y, .int .i64 m, .string s] w fun e w' => e = .returned (.int .i64 (-1000000)) ∧ Below w.heap.size w w' := by
  have ⟨y1, y2, m1, m2⟩ := ymB_t hy
  have hM := fun w => spec_l01Month y m w y1 y2
  have hF := fun w => spec_l01Days y m 1 w y1 y2 m1 m2 (by omega) (by omega)
  have dm := Cal.dim_bd y m
  have nl := num_bd (vld_last hy)
  have nf := num_bd (vld_mk (y := y) (m := m) (d := 1) ⟨y1, y2, m1, m2, by omega, by omega⟩)
  rw [last_num] at nl
  have hN := fun w => spec_l01Named (s.extract 4 7) w
  rw [hw] at hN
  have hz := (aB_byte ha).1
  have g1 := bB_no (c := 62) (by omega) (aB_bB ha 62 (by decide))
  have g2 := bB_no (c := 60) (by omega) (aB_bB ha 60 (by decide))
  unfold aB at ha
  simp only [Bool.and_eq_true] at ha
  have ha2 := ha.2
  have hT := fun w => spec_l01Two s w (by unfold maxLen; omega)
  rw [two_big (by omega)] at hT
  clear ha hw hy y1 y2 m1 m2
  generalize Cal.dim y m = dd at *
  generalize num y m 1 = q at *
  have hz' : ((s.size : Int) == 7) = true := by simp; omega
  go_enter Tryz.func180, Tryz.ntmps180
  go_wp2_with fail
  refine (hM _).mono ?_
  rintro e w0 ⟨rfl, rfl⟩
  go_wp2_with fail
  refine (hF _).mono ?_
  rintro e w1 ⟨rfl, hb1⟩
  go_wp2_with fail
  refine (hN _).mono ?_
  rintro e w2 ⟨rfl, hb2⟩
  have hB2 := hb1.trans (hb2.mono hb1.size)
  go_wp2_with fail
  refine (hT _).mono ?_
  rintro e w3 ⟨rfl, rfl⟩
  go_wp2
  go_ret
  exact ⟨rfl, hB2⟩
set_option maxHeartbeats 1000000 in
theorem on_ge_no0 (y m : Int) (s : ByteArray) (w : World) (hy : ymB y m = true) (hs : s.size ≤ 1048576) (ha : aB s = false) (hb : bB 62 s = true) (hv : wdN (s.extract 0 3) = -1) :
    Calls Tryz.prog 180 #[.int .i64 y, .int .i64 m, .string s] w fun e w' => e = .returned (.int .i64 (-1000000)) ∧ Below w.heap.size w w' := by
  have ⟨y1, y2, m1, m2⟩ := ymB_t hy
  have hM := fun w => spec_l01Month y m w y1 y2
  have hF := fun w => spec_l01Days y m 1 w y1 y2 m1 m2 (by omega) (by omega)
  have dm := Cal.dim_bd y m
  have nl := num_bd (vld_last hy)
  have nf := num_bd (vld_mk (y := y) (m := m) (d := 1) ⟨y1, y2, m1, m2, by omega, by omega⟩)
  rw [last_num] at nl
  have hN := fun w => spec_l01Named (s.extract 0 3) w
  have hT := fun w => spec_l01Two (s.extract 5 s.size) w (by rw [ByteArray.size_extract]; unfold maxLen; omega)
  have kb := twoN_bd (s.extract 5 s.size)
  have vb := wdN_bd (s.extract 0 3)
  have h5 := (bB_byte hb).1
  have hc3 : ((s[3].toNat : Int) == 62) = true := by rw [byteAt_eq s 3 (by omega), (bB_byte hb).2.1]; rfl
  have g1 : ((s.extract 3 5).toList == [62, 61]) = true := by unfold bB at hb; simp only [Bool.and_eq_true] at hb; exact hb.2
  rw [hv] at hN vb
  clear hv vb hb
  clear hy y1 y2 m1 m2
  generalize Cal.dim y m = dd at *
  generalize num y m 1 = q at *
  generalize twoN (s.extract 5 s.size) = k at *
  go_enter Tryz.func180, Tryz.ntmps180
  go_wp2_with fail
  refine (hM _).mono ?_
  rintro e w0 ⟨rfl, rfl⟩
  go_wp2_with fail
  refine (hF _).mono ?_
  rintro e w1 ⟨rfl, hb1⟩
  go_upto_region 3 with fail
  go_cut [29] from 22 to 29 (fun x wx => x = .bool false ∧ wx = w1)
  case first =>
    by_cases hz : s.size = 7
    · have hz' : ((s.size : Int) == 7) = true := by simp; omega
      have ha2 : ((s.extract 0 4).toList == [108, 97, 115, 116]) = false := by unfold aB at ha; rw [decide_eq_true hz] at ha; simpa using ha
      clear ha
      go_wp2
      go_meet
      exact ⟨by simp, rfl⟩
    · have hz' : ((s.size : Int) == 7) = false := by simp; omega
      go_wp2
      go_meet
      exact ⟨rfl, rfl⟩
  case rest =>
    obtain ⟨rfl, rfl⟩ := hcut
    go_wp2_with fail
    refine (hN _).mono ?_
    rintro e w2 ⟨rfl, hb2⟩
    have hB2 := hb1.trans (hb2.mono hb1.size)
    go_wp2_with fail
    refine (hT _).mono ?_
    rintro e w3 ⟨rfl, rfl⟩
    go_wp2
    go_ret
    exact ⟨rfl, hB2⟩
set_option maxHeartbeats 1000000 in
theorem on_ge_no1 (y m : Int) (s : ByteArray) (w : World) (hy : ymB y m = true) (hs : s.size ≤ 1048576) (ha : aB s = false) (hb : bB 62 s = true) (hv : wdN (s.extract 0 3) ≠ -1) (hk : twoN (s.extract 5 s.size) < 1) :
    Calls Tryz.prog 180 #[.int .i64 y, .int .i64 m, .string s] w fun e w' => e = .returned (.int .i64 (-1000000)) ∧ Below w.heap.size w w' := by
  have ⟨y1, y2, m1, m2⟩ := ymB_t hy
  have hM := fun w => spec_l01Month y m w y1 y2
  have hF := fun w => spec_l01Days y m 1 w y1 y2 m1 m2 (by omega) (by omega)
  have dm := Cal.dim_bd y m
  have nl := num_bd (vld_last hy)
  have nf := num_bd (vld_mk (y := y) (m := m) (d := 1) ⟨y1, y2, m1, m2, by omega, by omega⟩)
  rw [last_num] at nl
  have hN := fun w => spec_l01Named (s.extract 0 3) w
  have hT := fun w => spec_l01Two (s.extract 5 s.size) w (by rw [ByteArray.size_extract]; unfold maxLen; omega)
  have kb := twoN_bd (s.extract 5 s.size)
  have vb := wdN_bd (s.extract 0 3)
  have h5 := (bB_byte hb).1
  have hc3 : ((s[3].toNat : Int) == 62) = true := by rw [byteAt_eq s 3 (by omega), (bB_byte hb).2.1]; rfl
  have g1 : ((s.extract 3 5).toList == [62, 61]) = true := by unfold bB at hb; simp only [Bool.and_eq_true] at hb; exact hb.2
  have hv2 : 0 ≤ wdN (s.extract 0 3) := by omega
  clear hv vb hb
  clear hy y1 y2 m1 m2
  generalize Cal.dim y m = dd at *
  generalize num y m 1 = q at *
  generalize wdN (s.extract 0 3) = v at *
  generalize twoN (s.extract 5 s.size) = k at *
  go_enter Tryz.func180, Tryz.ntmps180
  go_wp2_with fail
  refine (hM _).mono ?_
  rintro e w0 ⟨rfl, rfl⟩
  go_wp2_with fail
  refine (hF _).mono ?_
  rintro e w1 ⟨rfl, hb1⟩
  go_upto_region 3 with fail
  go_cut [29] from 22 to 29 (fun x wx => x = .bool false ∧ wx = w1)
  case first =>
    by_cases hz : s.size = 7
    · have hz' : ((s.size : Int) == 7) = true := by simp; omega
      have ha2 : ((s.extract 0 4).toList == [108, 97, 115, 116]) = false := by unfold aB at ha; rw [decide_eq_true hz] at ha; simpa using ha
      clear ha
      go_wp2
      go_meet
      exact ⟨by simp, rfl⟩
    · have hz' : ((s.size : Int) == 7) = false := by simp; omega
      go_wp2
      go_meet
      exact ⟨rfl, rfl⟩
  case rest =>
    obtain ⟨rfl, rfl⟩ := hcut
    go_wp2_with fail
    refine (hN _).mono ?_
    rintro e w2 ⟨rfl, hb2⟩
    have hB2 := hb1.trans (hb2.mono hb1.size)
    go_wp2_with fail
    refine (hT _).mono ?_
    rintro e w3 ⟨rfl, rfl⟩
    go_wp2
    go_ret
    exact ⟨rfl, hB2⟩
set_option maxHeartbeats 1000000 in
theorem on_ge_no2 (y m : Int) (s : ByteArray) (w : World) (hy : ymB y m = true) (hs : s.size ≤ 1048576) (ha : aB s = false) (hb : bB 62 s = true) (hv : wdN (s.extract 0 3) ≠ -1) (hk : 1 ≤ twoN (s.extract 5 s.size)) (hk2 : Cal.dim y m < twoN (s.extract 5 s.size)) :
    Calls Tryz.prog 180 #[.int .i64 y, .int .i64 m, .string s] w fun e w' => e = .returned (.int .i64 (-1000000)) ∧ Below w.heap.size w w' := by
  have ⟨y1, y2, m1, m2⟩ := ymB_t hy
  have hM := fun w => spec_l01Month y m w y1 y2
  have hF := fun w => spec_l01Days y m 1 w y1 y2 m1 m2 (by omega) (by omega)
  have dm := Cal.dim_bd y m
  have nl := num_bd (vld_last hy)
  have nf := num_bd (vld_mk (y := y) (m := m) (d := 1) ⟨y1, y2, m1, m2, by omega, by omega⟩)
  rw [last_num] at nl
  have hN := fun w => spec_l01Named (s.extract 0 3) w
  have hT := fun w => spec_l01Two (s.extract 5 s.size) w (by rw [ByteArray.size_extract]; unfold maxLen; omega)
  have kb := twoN_bd (s.extract 5 s.size)
  have vb := wdN_bd (s.extract 0 3)
  have h5 := (bB_byte hb).1
  have hc3 : ((s[3].toNat : Int) == 62) = true := by rw [byteAt_eq s 3 (by omega), (bB_byte hb).2.1]; rfl
  have g1 : ((s.extract 3 5).toList == [62, 61]) = true := by unfold bB at hb; simp only [Bool.and_eq_true] at hb; exact hb.2
  have hv2 : 0 ≤ wdN (s.extract 0 3) := by omega
  clear hv vb hb
  clear hy y1 y2 m1 m2
  generalize Cal.dim y m = dd at *
  generalize num y m 1 = q at *
  generalize wdN (s.extract 0 3) = v at *
  generalize twoN (s.extract 5 s.size) = k at *
  go_enter Tryz.func180, Tryz.ntmps180
  go_wp2_with fail
  refine (hM _).mono ?_
  rintro e w0 ⟨rfl, rfl⟩
  go_wp2_with fail
  refine (hF _).mono ?_
  rintro e w1 ⟨rfl, hb1⟩
  go_upto_region 3 with fail
  go_cut [29] from 22 to 29 (fun x wx => x = .bool false ∧ wx = w1)
  case first =>
    by_cases hz : s.size = 7
    · have hz' : ((s.size : Int) == 7) = true := by simp; omega
      have ha2 : ((s.extract 0 4).toList == [108, 97, 115, 116]) = false := by unfold aB at ha; rw [decide_eq_true hz] at ha; simpa using ha
      clear ha
      go_wp2
      go_meet
      exact ⟨by simp, rfl⟩
    · have hz' : ((s.size : Int) == 7) = false := by simp; omega
      go_wp2
      go_meet
      exact ⟨rfl, rfl⟩
  case rest =>
    obtain ⟨rfl, rfl⟩ := hcut
    go_wp2_with fail
    refine (hN _).mono ?_
    rintro e w2 ⟨rfl, hb2⟩
    have hB2 := hb1.trans (hb2.mono hb1.size)
    go_wp2_with fail
    refine (hT _).mono ?_
    rintro e w3 ⟨rfl, rfl⟩
    go_wp2
    go_ret
    exact ⟨rfl, hB2⟩
set_option maxHeartbeats 1000000 in
theorem on_ge_yes (y m : Int) (s : ByteArray) (w : World) (hy : ymB y m = true) (hs : s.size ≤ 1048576) (ha : aB s = false) (hb : bB 62 s = true) (hv : wdN (s.extract 0 3) ≠ -1) (hk : 1 ≤ twoN (s.extract 5 s.size)) (hk2 : twoN (s.extract 5 s.size) ≤ Cal.dim y m) :
    Calls Tryz.prog 180 #[.int .i64 y, .int .i64 m, .string s] w fun e w' => e = .returned (.int .i64 (num y m 1 + twoN (s.extract 5 s.size) - 1 + (wdN (s.extract 0 3) - (num y m 1 + twoN (s.extract 5 s.size) - 1 + 719163) % 7 + 7) % 7)) ∧ Below w.heap.size w w' := by
  have ⟨y1, y2, m1, m2⟩ := ymB_t hy
  have hM := fun w => spec_l01Month y m w y1 y2
  have hF := fun w => spec_l01Days y m 1 w y1 y2 m1 m2 (by omega) (by omega)
  have dm := Cal.dim_bd y m
  have nl := num_bd (vld_last hy)
  have nf := num_bd (vld_mk (y := y) (m := m) (d := 1) ⟨y1, y2, m1, m2, by omega, by omega⟩)
  rw [last_num] at nl
  have hN := fun w => spec_l01Named (s.extract 0 3) w
  have hT := fun w => spec_l01Two (s.extract 5 s.size) w (by rw [ByteArray.size_extract]; unfold maxLen; omega)
  have kb := twoN_bd (s.extract 5 s.size)
  have vb := wdN_bd (s.extract 0 3)
  have h5 := (bB_byte hb).1
  have hc3 : ((s[3].toNat : Int) == 62) = true := by rw [byteAt_eq s 3 (by omega), (bB_byte hb).2.1]; rfl
  have g1 : ((s.extract 3 5).toList == [62, 61]) = true := by unfold bB at hb; simp only [Bool.and_eq_true] at hb; exact hb.2
  have hv2 : 0 ≤ wdN (s.extract 0 3) ∧ wdN (s.extract 0 3) < 7 := by omega
  have hW := fun w => spec_l01Weekday (num y m 1 + twoN (s.extract 5 s.size) - 1) w (by omega) (by omega)
  clear hv vb hb
  clear hy y1 y2 m1 m2
  generalize Cal.dim y m = dd at *
  generalize num y m 1 = q at *
  generalize wdN (s.extract 0 3) = v at *
  generalize twoN (s.extract 5 s.size) = k at *
  have hr : 0 ≤ (q + k - 1 + 719163) % 7 ∧ (q + k - 1 + 719163) % 7 < 7 := by omega
  generalize (q + k - 1 + 719163) % 7 = u at *
  go_enter Tryz.func180, Tryz.ntmps180
  go_wp2_with fail
  refine (hM _).mono ?_
  rintro e w0 ⟨rfl, rfl⟩
  go_wp2_with fail
  refine (hF _).mono ?_
  rintro e w1 ⟨rfl, hb1⟩
  go_upto_region 3 with fail
  go_cut [29] from 22 to 29 (fun x wx => x = .bool false ∧ wx = w1)
  case first =>
    by_cases hz : s.size = 7
    · have hz' : ((s.size : Int) == 7) = true := by simp; omega
      have ha2 : ((s.extract 0 4).toList == [108, 97, 115, 116]) = false := by unfold aB at ha; rw [decide_eq_true hz] at ha; simpa using ha
      clear ha
      go_wp2
      go_meet
      exact ⟨by simp, rfl⟩
    · have hz' : ((s.size : Int) == 7) = false := by simp; omega
      go_wp2
      go_meet
      exact ⟨rfl, rfl⟩
  case rest =>
    obtain ⟨rfl, rfl⟩ := hcut
    go_wp2_with fail
    refine (hN _).mono ?_
    rintro e w2 ⟨rfl, hb2⟩
    have hB2 := hb1.trans (hb2.mono hb1.size)
    go_wp2_with fail
    refine (hT _).mono ?_
    rintro e w3 ⟨rfl, rfl⟩
    go_wp2_with fail
    refine (hW _).mono ?_
    rintro e w4 ⟨rfl, rfl⟩
    go_wp2
    go_ret
    exact ⟨ret_int (by omega), hB2⟩
set_option maxHeartbeats 1000000 in
theorem on_le_no0 (y m : Int) (s : ByteArray) (w : World) (hy : ymB y m = true) (hs : s.size ≤ 1048576) (ha : aB s = false) (hb : bB 60 s = true) (hv : wdN (s.extract 0 3) = -1) :
    Calls Tryz.prog 180 #[.int .i64 y, .int .i64 m, .string s] w fun e w' => e = .returned (.int .i64 (-1000000)) ∧ Below w.heap.size w w' := by
  have ⟨y1, y2, m1, m2⟩ := ymB_t hy
  have hM := fun w => spec_l01Month y m w y1 y2
  have hF := fun w => spec_l01Days y m 1 w y1 y2 m1 m2 (by omega) (by omega)
  have dm := Cal.dim_bd y m
  have nl := num_bd (vld_last hy)
  have nf := num_bd (vld_mk (y := y) (m := m) (d := 1) ⟨y1, y2, m1, m2, by omega, by omega⟩)
  rw [last_num] at nl
  have hN := fun w => spec_l01Named (s.extract 0 3) w
  have hT := fun w => spec_l01Two (s.extract 5 s.size) w (by rw [ByteArray.size_extract]; unfold maxLen; omega)
  have kb := twoN_bd (s.extract 5 s.size)
  have vb := wdN_bd (s.extract 0 3)
  have h5 := (bB_byte hb).1
  have hc3 : ((s[3].toNat : Int) == 62) = false := by rw [byteAt_eq s 3 (by omega), (bB_byte hb).2.1]; rfl
  have g2 : ((s.extract 3 5).toList == [60, 61]) = true := by unfold bB at hb; simp only [Bool.and_eq_true] at hb; exact hb.2
  have g1 : ((s.extract 3 5).toList == [62, 61]) = false := by
    rw [beq_iff_eq] at g2
    rw [g2]; rfl
  rw [hv] at hN vb
  clear hv vb hb
  clear hy y1 y2 m1 m2
  generalize Cal.dim y m = dd at *
  generalize num y m 1 = q at *
  generalize twoN (s.extract 5 s.size) = k at *
  go_enter Tryz.func180, Tryz.ntmps180
  go_wp2_with fail
  refine (hM _).mono ?_
  rintro e w0 ⟨rfl, rfl⟩
  go_wp2_with fail
  refine (hF _).mono ?_
  rintro e w1 ⟨rfl, hb1⟩
  go_upto_region 3 with fail
  go_cut [29] from 22 to 29 (fun x wx => x = .bool false ∧ wx = w1)
  case first =>
    by_cases hz : s.size = 7
    · have hz' : ((s.size : Int) == 7) = true := by simp; omega
      have ha2 : ((s.extract 0 4).toList == [108, 97, 115, 116]) = false := by unfold aB at ha; rw [decide_eq_true hz] at ha; simpa using ha
      clear ha
      go_wp2
      go_meet
      exact ⟨by simp, rfl⟩
    · have hz' : ((s.size : Int) == 7) = false := by simp; omega
      go_wp2
      go_meet
      exact ⟨rfl, rfl⟩
  case rest =>
    obtain ⟨rfl, rfl⟩ := hcut
    go_wp2_with fail
    refine (hN _).mono ?_
    rintro e w2 ⟨rfl, hb2⟩
    have hB2 := hb1.trans (hb2.mono hb1.size)
    go_wp2_with fail
    refine (hT _).mono ?_
    rintro e w3 ⟨rfl, rfl⟩
    go_wp2
    go_ret
    exact ⟨rfl, hB2⟩
set_option maxHeartbeats 1000000 in
theorem on_le_no1 (y m : Int) (s : ByteArray) (w : World) (hy : ymB y m = true) (hs : s.size ≤ 1048576) (ha : aB s = false) (hb : bB 60 s = true) (hv : wdN (s.extract 0 3) ≠ -1) (hk : twoN (s.extract 5 s.size) < 1) :
    Calls Tryz.prog 180 #[.int .i64 y, .int .i64 m, .string s] w fun e w' => e = .returned (.int .i64 (-1000000)) ∧ Below w.heap.size w w' := by
  have ⟨y1, y2, m1, m2⟩ := ymB_t hy
  have hM := fun w => spec_l01Month y m w y1 y2
  have hF := fun w => spec_l01Days y m 1 w y1 y2 m1 m2 (by omega) (by omega)
  have dm := Cal.dim_bd y m
  have nl := num_bd (vld_last hy)
  have nf := num_bd (vld_mk (y := y) (m := m) (d := 1) ⟨y1, y2, m1, m2, by omega, by omega⟩)
  rw [last_num] at nl
  have hN := fun w => spec_l01Named (s.extract 0 3) w
  have hT := fun w => spec_l01Two (s.extract 5 s.size) w (by rw [ByteArray.size_extract]; unfold maxLen; omega)
  have kb := twoN_bd (s.extract 5 s.size)
  have vb := wdN_bd (s.extract 0 3)
  have h5 := (bB_byte hb).1
  have hc3 : ((s[3].toNat : Int) == 62) = false := by rw [byteAt_eq s 3 (by omega), (bB_byte hb).2.1]; rfl
  have g2 : ((s.extract 3 5).toList == [60, 61]) = true := by unfold bB at hb; simp only [Bool.and_eq_true] at hb; exact hb.2
  have g1 : ((s.extract 3 5).toList == [62, 61]) = false := by
    rw [beq_iff_eq] at g2
    rw [g2]; rfl
  have hv2 : 0 ≤ wdN (s.extract 0 3) := by omega
  clear hv vb hb
  clear hy y1 y2 m1 m2
  generalize Cal.dim y m = dd at *
  generalize num y m 1 = q at *
  generalize wdN (s.extract 0 3) = v at *
  generalize twoN (s.extract 5 s.size) = k at *
  go_enter Tryz.func180, Tryz.ntmps180
  go_wp2_with fail
  refine (hM _).mono ?_
  rintro e w0 ⟨rfl, rfl⟩
  go_wp2_with fail
  refine (hF _).mono ?_
  rintro e w1 ⟨rfl, hb1⟩
  go_upto_region 3 with fail
  go_cut [29] from 22 to 29 (fun x wx => x = .bool false ∧ wx = w1)
  case first =>
    by_cases hz : s.size = 7
    · have hz' : ((s.size : Int) == 7) = true := by simp; omega
      have ha2 : ((s.extract 0 4).toList == [108, 97, 115, 116]) = false := by unfold aB at ha; rw [decide_eq_true hz] at ha; simpa using ha
      clear ha
      go_wp2
      go_meet
      exact ⟨by simp, rfl⟩
    · have hz' : ((s.size : Int) == 7) = false := by simp; omega
      go_wp2
      go_meet
      exact ⟨rfl, rfl⟩
  case rest =>
    obtain ⟨rfl, rfl⟩ := hcut
    go_wp2_with fail
    refine (hN _).mono ?_
    rintro e w2 ⟨rfl, hb2⟩
    have hB2 := hb1.trans (hb2.mono hb1.size)
    go_wp2_with fail
    refine (hT _).mono ?_
    rintro e w3 ⟨rfl, rfl⟩
    go_wp2
    go_ret
    exact ⟨rfl, hB2⟩
set_option maxHeartbeats 1000000 in
theorem on_le_no2 (y m : Int) (s : ByteArray) (w : World) (hy : ymB y m = true) (hs : s.size ≤ 1048576) (ha : aB s = false) (hb : bB 60 s = true) (hv : wdN (s.extract 0 3) ≠ -1) (hk : 1 ≤ twoN (s.extract 5 s.size)) (hk2 : Cal.dim y m < twoN (s.extract 5 s.size)) :
    Calls Tryz.prog 180 #[.int .i64 y, .int .i64 m, .string s] w fun e w' => e = .returned (.int .i64 (-1000000)) ∧ Below w.heap.size w w' := by
  have ⟨y1, y2, m1, m2⟩ := ymB_t hy
  have hM := fun w => spec_l01Month y m w y1 y2
  have hF := fun w => spec_l01Days y m 1 w y1 y2 m1 m2 (by omega) (by omega)
  have dm := Cal.dim_bd y m
  have nl := num_bd (vld_last hy)
  have nf := num_bd (vld_mk (y := y) (m := m) (d := 1) ⟨y1, y2, m1, m2, by omega, by omega⟩)
  rw [last_num] at nl
  have hN := fun w => spec_l01Named (s.extract 0 3) w
  have hT := fun w => spec_l01Two (s.extract 5 s.size) w (by rw [ByteArray.size_extract]; unfold maxLen; omega)
  have kb := twoN_bd (s.extract 5 s.size)
  have vb := wdN_bd (s.extract 0 3)
  have h5 := (bB_byte hb).1
  have hc3 : ((s[3].toNat : Int) == 62) = false := by rw [byteAt_eq s 3 (by omega), (bB_byte hb).2.1]; rfl
  have g2 : ((s.extract 3 5).toList == [60, 61]) = true := by unfold bB at hb; simp only [Bool.and_eq_true] at hb; exact hb.2
  have g1 : ((s.extract 3 5).toList == [62, 61]) = false := by
    rw [beq_iff_eq] at g2
    rw [g2]; rfl
  have hv2 : 0 ≤ wdN (s.extract 0 3) := by omega
  clear hv vb hb
  clear hy y1 y2 m1 m2
  generalize Cal.dim y m = dd at *
  generalize num y m 1 = q at *
  generalize wdN (s.extract 0 3) = v at *
  generalize twoN (s.extract 5 s.size) = k at *
  go_enter Tryz.func180, Tryz.ntmps180
  go_wp2_with fail
  refine (hM _).mono ?_
  rintro e w0 ⟨rfl, rfl⟩
  go_wp2_with fail
  refine (hF _).mono ?_
  rintro e w1 ⟨rfl, hb1⟩
  go_upto_region 3 with fail
  go_cut [29] from 22 to 29 (fun x wx => x = .bool false ∧ wx = w1)
  case first =>
    by_cases hz : s.size = 7
    · have hz' : ((s.size : Int) == 7) = true := by simp; omega
      have ha2 : ((s.extract 0 4).toList == [108, 97, 115, 116]) = false := by unfold aB at ha; rw [decide_eq_true hz] at ha; simpa using ha
      clear ha
      go_wp2
      go_meet
      exact ⟨by simp, rfl⟩
    · have hz' : ((s.size : Int) == 7) = false := by simp; omega
      go_wp2
      go_meet
      exact ⟨rfl, rfl⟩
  case rest =>
    obtain ⟨rfl, rfl⟩ := hcut
    go_wp2_with fail
    refine (hN _).mono ?_
    rintro e w2 ⟨rfl, hb2⟩
    have hB2 := hb1.trans (hb2.mono hb1.size)
    go_wp2_with fail
    refine (hT _).mono ?_
    rintro e w3 ⟨rfl, rfl⟩
    go_wp2
    go_ret
    exact ⟨rfl, hB2⟩
set_option maxHeartbeats 1000000 in
theorem on_le_yes (y m : Int) (s : ByteArray) (w : World) (hy : ymB y m = true) (hs : s.size ≤ 1048576) (ha : aB s = false) (hb : bB 60 s = true) (hv : wdN (s.extract 0 3) ≠ -1) (hk : 1 ≤ twoN (s.extract 5 s.size)) (hk2 : twoN (s.extract 5 s.size) ≤ Cal.dim y m) :
    Calls Tryz.prog 180 #[.int .i64 y, .int .i64 m, .string s] w fun e w' => e = .returned (.int .i64 (num y m 1 + twoN (s.extract 5 s.size) - 1 - ((num y m 1 + twoN (s.extract 5 s.size) - 1 + 719163) % 7 - wdN (s.extract 0 3) + 7) % 7)) ∧ Below w.heap.size w w' := by
  have ⟨y1, y2, m1, m2⟩ := ymB_t hy
  have hM := fun w => spec_l01Month y m w y1 y2
  have hF := fun w => spec_l01Days y m 1 w y1 y2 m1 m2 (by omega) (by omega)
  have dm := Cal.dim_bd y m
  have nl := num_bd (vld_last hy)
  have nf := num_bd (vld_mk (y := y) (m := m) (d := 1) ⟨y1, y2, m1, m2, by omega, by omega⟩)
  rw [last_num] at nl
  have hN := fun w => spec_l01Named (s.extract 0 3) w
  have hT := fun w => spec_l01Two (s.extract 5 s.size) w (by rw [ByteArray.size_extract]; unfold maxLen; omega)
  have kb := twoN_bd (s.extract 5 s.size)
  have vb := wdN_bd (s.extract 0 3)
  have h5 := (bB_byte hb).1
  have hc3 : ((s[3].toNat : Int) == 62) = false := by rw [byteAt_eq s 3 (by omega), (bB_byte hb).2.1]; rfl
  have g2 : ((s.extract 3 5).toList == [60, 61]) = true := by unfold bB at hb; simp only [Bool.and_eq_true] at hb; exact hb.2
  have g1 : ((s.extract 3 5).toList == [62, 61]) = false := by
    rw [beq_iff_eq] at g2
    rw [g2]; rfl
  have hv2 : 0 ≤ wdN (s.extract 0 3) ∧ wdN (s.extract 0 3) < 7 := by omega
  have hW := fun w => spec_l01Weekday (num y m 1 + twoN (s.extract 5 s.size) - 1) w (by omega) (by omega)
  clear hv vb hb
  clear hy y1 y2 m1 m2
  generalize Cal.dim y m = dd at *
  generalize num y m 1 = q at *
  generalize wdN (s.extract 0 3) = v at *
  generalize twoN (s.extract 5 s.size) = k at *
  have hr : 0 ≤ (q + k - 1 + 719163) % 7 ∧ (q + k - 1 + 719163) % 7 < 7 := by omega
  generalize (q + k - 1 + 719163) % 7 = u at *
  go_enter Tryz.func180, Tryz.ntmps180
  go_wp2_with fail
  refine (hM _).mono ?_
  rintro e w0 ⟨rfl, rfl⟩
  go_wp2_with fail
  refine (hF _).mono ?_
  rintro e w1 ⟨rfl, hb1⟩
  go_upto_region 3 with fail
  go_cut [29] from 22 to 29 (fun x wx => x = .bool false ∧ wx = w1)
  case first =>
    by_cases hz : s.size = 7
    · have hz' : ((s.size : Int) == 7) = true := by simp; omega
      have ha2 : ((s.extract 0 4).toList == [108, 97, 115, 116]) = false := by unfold aB at ha; rw [decide_eq_true hz] at ha; simpa using ha
      clear ha
      go_wp2
      go_meet
      exact ⟨by simp, rfl⟩
    · have hz' : ((s.size : Int) == 7) = false := by simp; omega
      go_wp2
      go_meet
      exact ⟨rfl, rfl⟩
  case rest =>
    obtain ⟨rfl, rfl⟩ := hcut
    go_wp2_with fail
    refine (hN _).mono ?_
    rintro e w2 ⟨rfl, hb2⟩
    have hB2 := hb1.trans (hb2.mono hb1.size)
    go_wp2_with fail
    refine (hT _).mono ?_
    rintro e w3 ⟨rfl, rfl⟩
    go_wp2_with fail
    refine (hW _).mono ?_
    rintro e w4 ⟨rfl, rfl⟩
    go_wp2
    go_ret
    exact ⟨ret_int (by omega), hB2⟩
set_option maxHeartbeats 1000000 in
theorem on_num_0 (y m : Int) (s : ByteArray) (w : World) (hy : ymB y m = true) (hs : s.size ≤ 1048576) (ha : aB s = false) (h5 : s.size ≤ 5) (hk : twoN s < 1) :
    Calls Tryz.prog 180 #[.int .i64 y, .int .i64 m, .string s] w fun e w' => e = .returned (.int .i64 (-1000000)) ∧ Below w.heap.size w w' := by
  have ⟨y1, y2, m1, m2⟩ := ymB_t hy
  have hM := fun w => spec_l01Month y m w y1 y2
  have hF := fun w => spec_l01Days y m 1 w y1 y2 m1 m2 (by omega) (by omega)
  have dm := Cal.dim_bd y m
  have nl := num_bd (vld_last hy)
  have nf := num_bd (vld_mk (y := y) (m := m) (d := 1) ⟨y1, y2, m1, m2, by omega, by omega⟩)
  rw [last_num] at nl
  have hT := fun w => spec_l01Two s w (by unfold maxLen; omega)
  have kb := twoN_bd s
  clear hy y1 y2 m1 m2
  generalize Cal.dim y m = dd at *
  generalize num y m 1 = q at *
  generalize twoN s = k at *
  go_enter Tryz.func180, Tryz.ntmps180
  go_wp2_with fail
  refine (hM _).mono ?_
  rintro e w0 ⟨rfl, rfl⟩
  go_wp2_with fail
  refine (hF _).mono ?_
  rintro e w1 ⟨rfl, hb1⟩
  go_upto_region 3 with fail
  go_cut [29] from 22 to 29 (fun x wx => x = .bool false ∧ wx = w1)
  case first =>
    by_cases hz : s.size = 7
    · have hz' : ((s.size : Int) == 7) = true := by simp; omega
      have ha2 : ((s.extract 0 4).toList == [108, 97, 115, 116]) = false := by unfold aB at ha; rw [decide_eq_true hz] at ha; simpa using ha
      clear ha
      go_wp2
      go_meet
      exact ⟨by simp, rfl⟩
    · have hz' : ((s.size : Int) == 7) = false := by simp; omega
      go_wp2
      go_meet
      exact ⟨rfl, rfl⟩
  case rest =>
    obtain ⟨rfl, rfl⟩ := hcut
    go_wp2_with fail
    refine (hT _).mono ?_
    rintro e w3 ⟨rfl, rfl⟩
    go_wp2
    go_ret
    exact ⟨rfl, hb1⟩
set_option maxHeartbeats 1000000 in
theorem on_num_1 (y m : Int) (s : ByteArray) (w : World) (hy : ymB y m = true) (hs : s.size ≤ 1048576) (ha : aB s = false) (h5 : s.size ≤ 5) (hk : 1 ≤ twoN s) (hk2 : Cal.dim y m < twoN s) :
    Calls Tryz.prog 180 #[.int .i64 y, .int .i64 m, .string s] w fun e w' => e = .returned (.int .i64 (-1000000)) ∧ Below w.heap.size w w' := by
  have ⟨y1, y2, m1, m2⟩ := ymB_t hy
  have hM := fun w => spec_l01Month y m w y1 y2
  have hF := fun w => spec_l01Days y m 1 w y1 y2 m1 m2 (by omega) (by omega)
  have dm := Cal.dim_bd y m
  have nl := num_bd (vld_last hy)
  have nf := num_bd (vld_mk (y := y) (m := m) (d := 1) ⟨y1, y2, m1, m2, by omega, by omega⟩)
  rw [last_num] at nl
  have hT := fun w => spec_l01Two s w (by unfold maxLen; omega)
  have kb := twoN_bd s
  clear hy y1 y2 m1 m2
  generalize Cal.dim y m = dd at *
  generalize num y m 1 = q at *
  generalize twoN s = k at *
  go_enter Tryz.func180, Tryz.ntmps180
  go_wp2_with fail
  refine (hM _).mono ?_
  rintro e w0 ⟨rfl, rfl⟩
  go_wp2_with fail
  refine (hF _).mono ?_
  rintro e w1 ⟨rfl, hb1⟩
  go_upto_region 3 with fail
  go_cut [29] from 22 to 29 (fun x wx => x = .bool false ∧ wx = w1)
  case first =>
    by_cases hz : s.size = 7
    · have hz' : ((s.size : Int) == 7) = true := by simp; omega
      have ha2 : ((s.extract 0 4).toList == [108, 97, 115, 116]) = false := by unfold aB at ha; rw [decide_eq_true hz] at ha; simpa using ha
      clear ha
      go_wp2
      go_meet
      exact ⟨by simp, rfl⟩
    · have hz' : ((s.size : Int) == 7) = false := by simp; omega
      go_wp2
      go_meet
      exact ⟨rfl, rfl⟩
  case rest =>
    obtain ⟨rfl, rfl⟩ := hcut
    go_wp2_with fail
    refine (hT _).mono ?_
    rintro e w3 ⟨rfl, rfl⟩
    go_wp2
    go_ret
    exact ⟨rfl, hb1⟩
set_option maxHeartbeats 1000000 in
theorem on_num_2 (y m : Int) (s : ByteArray) (w : World) (hy : ymB y m = true) (hs : s.size ≤ 1048576) (ha : aB s = false) (h5 : s.size ≤ 5) (hk : 1 ≤ twoN s) (hk2 : twoN s ≤ Cal.dim y m) :
    Calls Tryz.prog 180 #[.int .i64 y, .int .i64 m, .string s] w fun e w' => e = .returned (.int .i64 (num y m 1 + twoN s - 1)) ∧ Below w.heap.size w w' := by
  have ⟨y1, y2, m1, m2⟩ := ymB_t hy
  have hM := fun w => spec_l01Month y m w y1 y2
  have hF := fun w => spec_l01Days y m 1 w y1 y2 m1 m2 (by omega) (by omega)
  have dm := Cal.dim_bd y m
  have nl := num_bd (vld_last hy)
  have nf := num_bd (vld_mk (y := y) (m := m) (d := 1) ⟨y1, y2, m1, m2, by omega, by omega⟩)
  rw [last_num] at nl
  have hT := fun w => spec_l01Two s w (by unfold maxLen; omega)
  have kb := twoN_bd s
  clear hy y1 y2 m1 m2
  generalize Cal.dim y m = dd at *
  generalize num y m 1 = q at *
  generalize twoN s = k at *
  go_enter Tryz.func180, Tryz.ntmps180
  go_wp2_with fail
  refine (hM _).mono ?_
  rintro e w0 ⟨rfl, rfl⟩
  go_wp2_with fail
  refine (hF _).mono ?_
  rintro e w1 ⟨rfl, hb1⟩
  go_upto_region 3 with fail
  go_cut [29] from 22 to 29 (fun x wx => x = .bool false ∧ wx = w1)
  case first =>
    by_cases hz : s.size = 7
    · have hz' : ((s.size : Int) == 7) = true := by simp; omega
      have ha2 : ((s.extract 0 4).toList == [108, 97, 115, 116]) = false := by unfold aB at ha; rw [decide_eq_true hz] at ha; simpa using ha
      clear ha
      go_wp2
      go_meet
      exact ⟨by simp, rfl⟩
    · have hz' : ((s.size : Int) == 7) = false := by simp; omega
      go_wp2
      go_meet
      exact ⟨rfl, rfl⟩
  case rest =>
    obtain ⟨rfl, rfl⟩ := hcut
    go_wp2_with fail
    refine (hT _).mono ?_
    rintro e w3 ⟨rfl, rfl⟩
    go_wp2
    go_ret
    exact ⟨ret_int (by omega), hb1⟩
set_option maxHeartbeats 1000000 in
theorem on_num_l (y m : Int) (s : ByteArray) (w : World) (hy : ymB y m = true) (hs : s.size ≤ 1048576) (ha : aB s = false) (h5 : 5 < s.size) (hb1 : bB 62 s = false) (hb2 : bB 60 s = false) :
    Calls Tryz.prog 180 #[.int .i64 y, .int .i64 m, .string s] w fun e w' => e = .returned (.int .i64 (-1000000)) ∧ Below w.heap.size w w' := by
  have ⟨y1, y2, m1, m2⟩ := ymB_t hy
  have hM := fun w => spec_l01Month y m w y1 y2
  have hF := fun w => spec_l01Days y m 1 w y1 y2 m1 m2 (by omega) (by omega)
  have dm := Cal.dim_bd y m
  have nl := num_bd (vld_last hy)
  have nf := num_bd (vld_mk (y := y) (m := m) (d := 1) ⟨y1, y2, m1, m2, by omega, by omega⟩)
  rw [last_num] at nl
  have g1 := bB_no (c := 62) h5 hb1
  have g2 := bB_no (c := 60) h5 hb2
  clear hb1 hb2
  have hT := fun w => spec_l01Two s w (by unfold maxLen; omega)
  have kb := twoN_bd s
  rw [two_big (by omega)] at hT
  clear kb
  clear hy y1 y2 m1 m2
  generalize Cal.dim y m = dd at *
  generalize num y m 1 = q at *
  go_enter Tryz.func180, Tryz.ntmps180
  go_wp2_with fail
  refine (hM _).mono ?_
  rintro e w0 ⟨rfl, rfl⟩
  go_wp2_with fail
  refine (hF _).mono ?_
  rintro e w1 ⟨rfl, hb1⟩
  go_upto_region 3 with fail
  go_cut [29] from 22 to 29 (fun x wx => x = .bool false ∧ wx = w1)
  case first =>
    by_cases hz : s.size = 7
    · have hz' : ((s.size : Int) == 7) = true := by simp; omega
      have ha2 : ((s.extract 0 4).toList == [108, 97, 115, 116]) = false := by unfold aB at ha; rw [decide_eq_true hz] at ha; simpa using ha
      clear ha
      go_wp2
      go_meet
      exact ⟨by simp, rfl⟩
    · have hz' : ((s.size : Int) == 7) = false := by simp; omega
      go_wp2
      go_meet
      exact ⟨rfl, rfl⟩
  case rest =>
    obtain ⟨rfl, rfl⟩ := hcut
    go_wp2_with fail
    refine (hT _).mono ?_
    rintro e w3 ⟨rfl, rfl⟩
    go_wp2
    go_ret
    exact ⟨rfl, hb1⟩
/-- the model's l01On, whole. -/
theorem spec_l01On (y m : Int) (s : ByteArray) (w : World) (hy : ymB y m = true) (hs : s.size ≤ 1048576) :
    Calls Tryz.prog 180 #[.int .i64 y, .int .i64 m, .string s] w fun e w' => e = .returned (.int .i64 (moV y m s)) ∧ Below w.heap.size w w' := by
  have ⟨y1, y2, m1, m2⟩ := ymB_t hy
  have dm := Cal.dim_bd y m
  have nl := num_bd (vld_last hy)
  have nf := num_bd (vld_mk (y := y) (m := m) (d := 1) ⟨y1, y2, m1, m2, by omega, by omega⟩)
  rw [last_num] at nl
  unfold moV
  cases ha : aB s
  · rw [if_neg (by simp)]
    cases h1 : bB 62 s
    · rw [if_neg (by simp)]
      cases h2 : bB 60 s
      · rw [if_neg (by simp), nb_two hy]
        by_cases h5 : 5 < s.size
        · rw [two_big (by omega), if_neg (by omega)]
          exact on_num_l y m s w hy hs ha h5 h1 h2
        · by_cases hk : twoN s < 1
          · rw [if_neg (by omega)]
            exact on_num_0 y m s w hy hs ha (by omega) hk
          by_cases hk2 : Cal.dim y m < twoN s
          · rw [if_neg (by omega)]
            exact on_num_1 y m s w hy hs ha (by omega) (by omega) hk2
          · rw [if_pos (by omega)]
            exact on_num_2 y m s w hy hs ha (by omega) (by omega) (by omega)
      · rw [if_pos rfl]
        unfold uptoV
        rw [nb_two hy]
        by_cases hv : wdN (s.extract 0 3) = -1
        · rw [if_pos (.inl hv)]
          exact on_le_no0 y m s w hy hs ha h2 hv
        by_cases hk : twoN (s.extract 5 s.size) < 1
        · rw [if_pos (.inr (by rw [if_neg (by omega)]))]
          exact on_le_no1 y m s w hy hs ha h2 hv hk
        by_cases hk2 : Cal.dim y m < twoN (s.extract 5 s.size)
        · rw [if_pos (.inr (by rw [if_neg (by omega)]))]
          exact on_le_no2 y m s w hy hs ha h2 hv (by omega) hk2
        · have e : (if 1 ≤ twoN (s.extract 5 s.size) ∧ twoN (s.extract 5 s.size) ≤ Cal.dim y m then num y m 1 + twoN (s.extract 5 s.size) - 1 else -1000000) = num y m 1 + twoN (s.extract 5 s.size) - 1 := if_pos (by omega)
          rw [e, if_neg (by omega)]
          exact on_le_yes y m s w hy hs ha h2 hv (by omega) (by omega)
    · rw [if_pos rfl]
      unfold fromV
      rw [nb_two hy]
      by_cases hv : wdN (s.extract 0 3) = -1
      · rw [if_pos (.inl hv)]
        exact on_ge_no0 y m s w hy hs ha h1 hv
      by_cases hk : twoN (s.extract 5 s.size) < 1
      · rw [if_pos (.inr (by rw [if_neg (by omega)]))]
        exact on_ge_no1 y m s w hy hs ha h1 hv hk
      by_cases hk2 : Cal.dim y m < twoN (s.extract 5 s.size)
      · rw [if_pos (.inr (by rw [if_neg (by omega)]))]
        exact on_ge_no2 y m s w hy hs ha h1 hv (by omega) hk2
      · have e : (if 1 ≤ twoN (s.extract 5 s.size) ∧ twoN (s.extract 5 s.size) ≤ Cal.dim y m then num y m 1 + twoN (s.extract 5 s.size) - 1 else -1000000) = num y m 1 + twoN (s.extract 5 s.size) - 1 := if_pos (by omega)
        rw [e, if_neg (by omega)]
        exact on_ge_yes y m s w hy hs ha h1 hv (by omega) (by omega)
  · by_cases hw : wdN (s.extract 4 7) = -1
    · rw [if_neg (by simp [hw]), aB_bB ha 62 (by decide), aB_bB ha 60 (by decide)]
      simp only [Bool.false_eq_true, if_false]
      rw [nb_two hy s, two_big (s := s) (by have := (aB_byte ha).1; omega), if_neg (by omega)]
      exact on_lastno y m s w hy ha hw
    · rw [if_pos ⟨rfl, hw⟩]
      exact on_last y m s w hy ha hw
end Go.Proofs.YtjdokmllidhapaaGreatDoor
