/- The forms of a day's text, the others; what DayOn tells. -/
import Derived.Test.YtjdokmllidhapaaGreatDoorOn3
namespace Go.Proofs.YtjdokmllidhapaaGreatDoor
open Go.RowKit Go.Sort

theorem below_twoO (w : World) (a b : Obj) : Below w.heap.size w ((w.alloc a).alloc b).drew :=
  below_drewN (((Below.refl _ _).alloc (Nat.le_refl _) a).alloc (by simp) b) 1
set_option maxHeartbeats 1000000 in
theorem impl_lastUpTo (y m : Int) (s : ByteArray) (w : World) (hT : Tab w) (hM : Mx w) (hz : s.size ≤ 1048576) :
    Calls Tryz.prog 246 #[.agg #[.int .i64 y, .int .i64 m, .string s]] w fun e w' => e = .returned (.int .i64 (lastV y m s)) ∧ Below w.heap.size w w' := by
  have hC := fun w (h : Mx w) => impl_Cut s 60 61 w h (by omega)
  have hN := fun w (h : Tab w) => impl_numbered y m s (cutZ s 60 61) w h (by have := cutZ_le s 60 61; unfold maxLen; omega)
  have hD := fun w => impl_weekdayNamed (cutA s 60 61) w
  have hF := fun w => impl_weekdayUpTo (wdN (cutA s 60 61)) (nbV y m (cutZ s 60 61)) w (wdN_bd _) (nbV_bd _ _ _)
  unfold lastV
  generalize wdN (cutA s 60 61) = v at *
  generalize nbV y m (cutZ s 60 61) = k at *
  generalize cutA s 60 61 = sa at *
  generalize cutZ s 60 61 = sz at *
  cases hb : cutB s 60 61
  · rw [hb] at hC
    clear hb
    simp only [Bool.false_eq_true, if_false]
    go_enter Tryz.func246, Tryz.ntmps246
    go_wp2_with fail
    refine (hC _ (hM.alloc _)).mono ?_
    rintro e w1 ⟨rfl, n, rfl⟩
    go_wp2
    go_ret
    exact ⟨rfl, below1 _ _ _⟩
  · rw [hb] at hC
    clear hb
    simp only [if_true]
    generalize uptoV v k = r at *
    go_enter Tryz.func246, Tryz.ntmps246
    go_wp2_with fail
    refine (hC _ (hM.alloc _)).mono ?_
    rintro e w1 ⟨rfl, n, rfl⟩
    go_wp2_with fail
    have hBW := below1 w (.cells #[.int .i64 y, .int .i64 m, .string s] 236) n
    have hTW := hT.of_below hBW
    have k0 := cell_regrown (w := (w.alloc (.cells #[.int .i64 y, .int .i64 m, .string s] 236)).drewN n) (a := ⟨w.heap.size, 0, none⟩) (v := .int .i64 y) (by simp)
    have k1 := cell_regrown (w := (w.alloc (.cells #[.int .i64 y, .int .i64 m, .string s] 236)).drewN n) (a := ⟨w.heap.size, 1, none⟩) (v := .int .i64 m) (by simp)
    have k2 := cell_regrown (w := (w.alloc (.cells #[.int .i64 y, .int .i64 m, .string s] 236)).drewN n) (a := ⟨w.heap.size, 2, none⟩) (v := .string s) (by simp)
    generalize (w.alloc (.cells #[.int .i64 y, .int .i64 m, .string s] 236)).drewN n = W at *
    have cD := rgS (W := W) hD
    have cF := rgS (W := W) hF
    have cN := rgA hTW hN
    refine wp_region_quiet_below (by kernel_rfl) (by kernel_rfl) ?_
    repeat (quiet_step (first | (go_at_call 283; exact cD _ _) | (go_at_call 280; exact cN _ _) | (go_at_call 282; exact cF _ _)))
    refine wpQuiet_nil ?_
    intro _ hw'
    obtain ⟨⟨dq, osq⟩, hw''⟩ := hw'
    subst hw''
    go_wp2
    go_ret
    exact ⟨rfl, hBW.trans ((below_regrown _ dq osq).mono hBW.size)⟩

/-- what is behind the word last, and whether it stands ahead. -/
def laR (s : ByteArray) : ByteArray := ⟨(Lib.trimPrefix s.data.toList [108, 97, 115, 116]).toArray⟩
def laB (s : ByteArray) : Bool := Lib.hasPrefix s.data.toList [108, 97, 115, 116]
def lomV (y m : Int) (s : ByteArray) : Int := if laB s = true then uptoV (wdN (laR s)) (num y m (Cal.dim y m)) else -1000000
theorem vld_last {y m : Int} (h : ymB y m = true) : vldB y m (Cal.dim y m) = true := by
  have ⟨a, b, c, d⟩ := ymB_t h
  have := Cal.dim_bd y m
  exact vld_mk ⟨a, b, c, d, by omega, by omega⟩
set_option maxHeartbeats 2000000 in
theorem impl_lastOfMonth (y m : Int) (s : ByteArray) (w : World) (hT : Tab w) (hy : ymB y m = true) :
    Calls Tryz.prog 244 #[.agg #[.int .i64 y, .int .i64 m, .string s]] w fun e w' => e = .returned (.int .i64 (lomV y m s)) ∧ Below w.heap.size w w' := by
  have hC := fun w => Tryz.strings_CutPrefix s ⟨#[108, 97, 115, 116]⟩ w
  have er : (⟨(Lib.trimPrefix s.data.toList (⟨#[108, 97, 115, 116]⟩ : ByteArray).data.toList).toArray⟩ : ByteArray) = laR s := rfl
  have eb : Lib.hasPrefix s.data.toList (⟨#[108, 97, 115, 116]⟩ : ByteArray).data.toList = laB s := rfl
  rw [er, eb] at hC
  have ⟨y1, y2, m1, m2⟩ := ymB_t hy
  have hM := fun w (h : Tab w) => impl_MonthDays_ok y m w h y1 y2 m1 m2
  have hX := fun w (h : Tab w) => impl_DaysOf_ok y m (Cal.dim y m) w h (vld_last hy)
  have hD := fun w => impl_weekdayNamed (laR s) w
  have nb := num_bd (vld_last hy)
  have hF := fun w => impl_weekdayUpTo (wdN (laR s)) (num y m (Cal.dim y m)) w (wdN_bd _) (.inr nb)
  unfold lomV
  clear er eb hy nb y1 y2 m1 m2
  generalize uptoV (wdN (laR s)) (num y m (Cal.dim y m)) = r at *
  generalize wdN (laR s) = v at *
  generalize num y m (Cal.dim y m) = k at *
  generalize Cal.dim y m = d at *
  generalize laR s = sr at *
  cases hb : laB s
  · rw [hb] at hC
    clear hb
    simp only [Bool.false_eq_true, if_false]
    go_enter Tryz.func244, Tryz.ntmps244
    go_wp2_with (go_at_call 281; refine (hC _).mono ?_; rintro e w' ⟨rfl, rfl⟩)
    go_ret
    exact ⟨rfl, (Below.refl _ _).alloc (Nat.le_refl _) _⟩
  · rw [hb] at hC
    clear hb
    simp only [if_true]
    go_enter Tryz.func244, Tryz.ntmps244
    go_wp2_with fail
    refine (hC _).mono ?_
    rintro e w1 ⟨rfl, rfl⟩
    go_upto_region 4 with fail
    go_cut [5] from 14 to 23 (fun x wx => x = .pointer (some ⟨w.heap.size + 1, 0, none⟩) ∧ wx = ((w.alloc (.cells #[.int .i64 y, .int .i64 m, .string s] 236)).alloc (.cells #[.int .i64 y, .int .i64 m, .int .i64 d] 200)).drew)
    case first =>
      go_region_held3 (fun w' => w'.cell? ⟨w.heap.size, 0, none⟩ = some (.int .i64 y) ∧ w'.cell? ⟨w.heap.size, 1, none⟩ = some (.int .i64 m)) (go_keep) ((go_at_call 242; refine (hM _ ?_).mono ?_; (first | exact hT.alloc _ | exact (hT.alloc _).alloc _); rintro e w' ⟨rfl, rfl⟩))
      all_goals
        go_wp2
        go_meet
        exact ⟨rfl, rfl⟩
    case rest =>
      obtain ⟨rfl, rfl⟩ := hcut
      go_wp2_with fail
      have hBW := below_twoO w (.cells #[.int .i64 y, .int .i64 m, .string s] 236) (.cells #[.int .i64 y, .int .i64 m, .int .i64 d] 200)
      have hTW := hT.of_below hBW
      have k0 := cell_regrown (w := ((w.alloc (.cells #[.int .i64 y, .int .i64 m, .string s] 236)).alloc (.cells #[.int .i64 y, .int .i64 m, .int .i64 d] 200)).drew) (a := ⟨w.heap.size + 1, 0, none⟩) (v := .int .i64 y) (by simp)
      have k1 := cell_regrown (w := ((w.alloc (.cells #[.int .i64 y, .int .i64 m, .string s] 236)).alloc (.cells #[.int .i64 y, .int .i64 m, .int .i64 d] 200)).drew) (a := ⟨w.heap.size + 1, 1, none⟩) (v := .int .i64 m) (by simp)
      have k2 := cell_regrown (w := ((w.alloc (.cells #[.int .i64 y, .int .i64 m, .string s] 236)).alloc (.cells #[.int .i64 y, .int .i64 m, .int .i64 d] 200)).drew) (a := ⟨w.heap.size + 1, 2, none⟩) (v := .int .i64 d) (by simp)
      generalize ((w.alloc (.cells #[.int .i64 y, .int .i64 m, .string s] 236)).alloc (.cells #[.int .i64 y, .int .i64 m, .int .i64 d] 200)).drew = W at *
      have cD := rgS (W := W) hD
      have cF := rgS (W := W) hF
      have cX := rgA hTW hX
      refine wp_region_quiet_below (by kernel_rfl) (by kernel_rfl) ?_
      repeat (quiet_step (first | (go_at_call 283; exact cD _ _) | (go_at_call 284; exact cX _ _) | (go_at_call 282; exact cF _ _)))
      refine wpQuiet_nil ?_
      intro _ hw'
      obtain ⟨⟨dq, osq⟩, hw''⟩ := hw'
      subst hw''
      go_wp2
      go_ret
      exact ⟨rfl, hBW.trans ((below_regrown _ dq osq).mono hBW.size)⟩
end Go.Proofs.YtjdokmllidhapaaGreatDoor
