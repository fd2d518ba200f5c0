/- Contracts of the days' numbers: weekdays, the number of a date, the date of a number; the program's and the model's. -/
import Derived.Test.YtibhbpgnjikjnaaDoorDates
import Derived.Test.YtibhbpgnjikjnaaDoorWd
namespace Go.Proofs.YtibhbpgnjikjnaaDoor
open Go.RowKit

set_option maxHeartbeats 400000 in
theorem impl_dby (y : Int) (w : World) (h1 : 1 ≤ y) (h2 : y ≤ 10001) :
    Calls Tryd.prog 49 #[.int .i64 y] w fun e w' => e = .returned (.int .i64 (Cal.dby y)) ∧ w' = w := by
  unfold Cal.dby
  go_enter Tryd.func49, Tryd.ntmps49
  go_wp2
  go_ret
  exact ⟨ret_int (by omega), rfl⟩
set_option maxHeartbeats 400000 in
theorem spec_dby (y : Int) (w : World) (h1 : 1 ≤ y) (h2 : y ≤ 10001) :
    Calls Tryd.prog 86 #[.int .i64 y] w fun e w' => e = .returned (.int .i64 (Cal.dby y)) ∧ w' = w := by
  unfold Cal.dby
  go_enter Tryd.func86, Tryd.ntmps86
  go_wp2
  go_ret
  exact ⟨ret_int (by omega), rfl⟩
set_option maxHeartbeats 400000 in
theorem impl_yearOfDay (n : Int) (w : World) (h1 : 0 ≤ n) (h2 : n ≤ 3652058) :
    Calls Tryd.prog 48 #[.int .i64 n] w fun e w' => e = .returned (.int .i64 (Cal.yr n)) ∧ w' = w := by
  unfold Cal.yr
  go_enter Tryd.func48, Tryd.ntmps48
  go_wp2
  all_goals go_ret
  all_goals exact ⟨ret_int (by omega), rfl⟩

/-- the number of a date's day. -/
def num (y m d : Int) : Int := Cal.dby y - 719162 + Cal.cum y m + d - 1
def numv (y m d : Int) : Int := if vldB y m d = true then num y m d else 0
theorem numv_ok {y m d : Int} (h : vldB y m d = true) : numv y m d = num y m d := by unfold numv; rw [if_pos h]
theorem numv_no {y m d : Int} (h : vldB y m d = false) : numv y m d = 0 := by unfold numv; rw [h]; rfl
set_option maxHeartbeats 1000000 in
theorem impl_DaysOf_ok (y m d : Int) (w : World) (hT : Tab w) (hv : vldB y m d = true) :
    Calls Tryd.prog 18 #[.agg #[.int .i64 y, .int .i64 m, .int .i64 d]] w fun e w' => e = .returned (.int .i64 (num y m d)) ∧ Below w.heap.size w w' := by
  have ⟨y1, y2, m1, m2, d1, d2⟩ := vld_t hv
  have hR := fun w (h : Tab w) => impl_DateRight y m d w h
  rw [hv] at hR
  have db := Cal.dby_bd y y1 (by omega)
  have dm := Cal.dim_bd y m
  clear hv
  go_enter Tryd.func18, Tryd.ntmps18
  go_wp2_with fail
  refine (hR _ (hT.alloc _)).mono ?_
  rintro e w1 ⟨rfl, hb⟩
  obtain ⟨hc, hf⟩ := bcell hb
  have hz : w.heap.size + 1 ≤ w1.heap.size := by have := hb.size; simpa using this
  have hT1 : Tab w1 := (hT.alloc _).of_below hb
  have hB : Below w.heap.size w w1 := ((Below.refl _ _).alloc (Nat.le_refl _) _).trans (hb.mono (by simp))
  clear hR hb hT
  go_wp2_with (go_at_call 49; refine (impl_dby _ _ y1 (by omega)).mono ?_; rintro e w' ⟨rfl, rfl⟩)
  go_loop [3, 4] (fun t k => ∃ j : Int, 1 ≤ j ∧ j ≤ m ∧ k = .int .i64 j ∧ t = .int .i64 (Cal.dby y - 719162 + Cal.cum y j)) (fun _ k => (m - intOf k).toNat)
  case atStart => exact ⟨1, by omega, by omega, rfl, by rw [Cal.cum_one]; go_num⟩
  case round =>
    obtain ⟨j, j1, j2, rfl, rfl⟩ := hrel
    have cb := Cal.cum_bd y j
    have cs := Cal.cum_succ y j j1 (by omega)
    have dj := Cal.dim_bd y j
    have CS : Hid (Cal.cum y (j + 1) = Cal.cum y j + Cal.dim y j) := cs
    clear cs
    by_cases hlt : j < m
    · go_wp2_with (go_at_call 22; refine (impl_MonthDays_ok _ _ _ hT1 y1 y2 j1 (by omega)).mono ?_; rintro e w' ⟨rfl, rfl⟩)
      go_round
      case rel => exact ⟨j + 1, by omega, by omega, rfl, by rw [CS.out]; go_num⟩
      case measure => simp [intOf]; omega
    · have e : j = m := by omega
      subst e
      go_wp2
      go_ret
      exact ⟨ret_int (by unfold num; omega), hB⟩
theorem impl_DaysOf_no (y m d : Int) (w : World) (hT : Tab w) (hv : vldB y m d = false) :
    Calls Tryd.prog 18 #[.agg #[.int .i64 y, .int .i64 m, .int .i64 d]] w fun e w' => e = .returned (.int .i64 0) ∧ Below w.heap.size w w' := by
  have hR := fun w (h : Tab w) => impl_DateRight y m d w h
  rw [hv] at hR
  clear hv
  go_enter Tryd.func18, Tryd.ntmps18
  go_wp2_with fail
  refine (hR _ (hT.alloc _)).mono ?_
  rintro e w1 ⟨rfl, hb⟩
  have hB : Below w.heap.size w w1 := ((Below.refl _ _).alloc (Nat.le_refl _) _).trans (hb.mono (by simp))
  go_wp2
  go_ret
  exact ⟨rfl, hB⟩
theorem impl_DaysOf (y m d : Int) (w : World) (hT : Tab w) :
    Calls Tryd.prog 18 #[.agg #[.int .i64 y, .int .i64 m, .int .i64 d]] w fun e w' => e = .returned (.int .i64 (numv y m d)) ∧ Below w.heap.size w w' := by
  cases h : vldB y m d
  · rw [numv_no h]; exact impl_DaysOf_no y m d w hT h
  · rw [numv_ok h]; exact impl_DaysOf_ok y m d w hT h

set_option maxHeartbeats 1000000 in
theorem spec_l01Days (y m d : Int) (w : World) (y1 : 1 ≤ y) (y2 : y ≤ 9999) (m1 : 1 ≤ m) (m2 : m ≤ 12) (d1 : 0 ≤ d) (d2 : d ≤ 1000) :
    Calls Tryd.prog 53 #[.agg #[.int .i64 y, .int .i64 m, .int .i64 d]] w fun e w' => e = .returned (.int .i64 (num y m d)) ∧ Below w.heap.size w w' := by
  have db := Cal.dby_bd y y1 (by omega)
  go_enter Tryd.func53, Tryd.ntmps53
  go_wp2_with (go_at_call 86; refine (spec_dby _ _ y1 (by omega)).mono ?_; rintro e w' ⟨rfl, rfl⟩)
  go_loop [3, 4] (fun t k => ∃ j : Int, 1 ≤ j ∧ j ≤ m ∧ k = .int .i64 j ∧ t = .int .i64 (Cal.dby y - 719162 + Cal.cum y j)) (fun _ k => (m - intOf k).toNat)
  case atStart => exact ⟨1, by omega, by omega, rfl, by rw [Cal.cum_one]; go_num⟩
  case round =>
    obtain ⟨j, j1, j2, rfl, rfl⟩ := hrel
    have cb := Cal.cum_bd y j
    have cs := Cal.cum_succ y j j1 (by omega)
    have dj := Cal.dim_bd y j
    have CS : Hid (Cal.cum y (j + 1) = Cal.cum y j + Cal.dim y j) := cs
    clear cs
    by_cases hlt : j < m
    · go_wp2_with (go_at_call 56; refine (spec_l01Month _ _ _ y1 y2).mono ?_; rintro e w' ⟨rfl, rfl⟩)
      go_round
      case rel => exact ⟨j + 1, by omega, by omega, rfl, by rw [CS.out]; go_num⟩
      case measure => simp [intOf]; omega
    · have e : j = m := by omega
      subst e
      go_wp2
      go_ret
      exact ⟨ret_int (by unfold num; omega), (Below.refl _ _).alloc (Nat.le_refl _) _⟩
set_option maxHeartbeats 1000000 in
theorem spec_DaysOf (y m d : Int) (w : World) :
    Calls Tryd.prog 19 #[.agg #[.int .i64 y, .int .i64 m, .int .i64 d]] w fun e w' => e = .returned (.int .i64 (numv y m d)) ∧ Below w.heap.size w w' := by
  have hR := fun w => spec_DateRight y m d w
  cases hv : vldB y m d
  · rw [numv_no hv]
    rw [hv] at hR
    clear hv
    go_enter Tryd.func19, Tryd.ntmps19
    go_wp2_with fail
    refine (hR _).mono ?_
    rintro e w1 ⟨rfl, hb⟩
    have hB : Below w.heap.size w w1 := ((Below.refl _ _).alloc (Nat.le_refl _) _).trans (hb.mono (by simp))
    go_wp2
    go_ret
    exact ⟨rfl, hB⟩
  · have ⟨y1, y2, m1, m2, d1, d2⟩ := vld_t hv
    have dm := Cal.dim_bd y m
    rw [numv_ok hv]
    rw [hv] at hR
    clear hv
    go_enter Tryd.func19, Tryd.ntmps19
    go_wp2_with fail
    refine (hR _).mono ?_
    rintro e w1 ⟨rfl, hb⟩
    have hc := (bcell hb).1
    have hz : w.heap.size + 1 ≤ w1.heap.size := by have := hb.size; simpa using this
    have hB : Below w.heap.size w w1 := ((Below.refl _ _).alloc (Nat.le_refl _) _).trans (hb.mono (by simp))
    go_wp2_with fail
    refine (spec_l01Days y m d _ y1 y2 m1 m2 (by omega) (by omega)).mono ?_
    rintro e w2 ⟨rfl, hb2⟩
    go_wp2
    go_ret
    exact ⟨rfl, hB.trans (hb2.mono hB.size)⟩

set_option maxHeartbeats 400000 in
theorem laws_toDate (y m d : Int) (w : World) :
    Calls Tryd.prog 41 #[.agg #[.int .i64 y, .int .i64 m, .int .i64 d]] w fun e w' => e = .returned (.agg #[.int .i64 y, .int .i64 m, .int .i64 d]) ∧ Below w.heap.size w w' := by
  go_enter Tryd.func41, Tryd.ntmps41
  go_wp2
  exact bodyPost_ret (v := .agg #[.int .i64 y, .int .i64 m, .int .i64 d]) (by simp [results, Tryd.results41, go_sem]) rfl ⟨rfl, (((Below.refl _ _).alloc (Nat.le_refl _) _).alloc (by simp) _).alloc (by simp; omega) _⟩
end Go.Proofs.YtibhbpgnjikjnaaDoor
