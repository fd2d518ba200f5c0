/- Contracts in the words of a region that draws its order and makes memory: each of the calendar's functions, in every world of the class. -/
import Derived.Test.YtibhbpgnjikjnaaDoorRounds
import Derived.Test.YtibhbpgnjikjnaaDoorDraws2
import Derived.Lib.QuietBelow
import Derived.Deep.Cut
import Derived.Deep.CutRange
namespace Go.Proofs.YtibhbpgnjikjnaaDoor
open Go.RowKit Go.Sort

theorem rg_same {f : FuncId} {args : Array Value} {W : World} {v : Value} (h : ∀ w, Calls Tryd.prog f args w fun e w' => e = .returned v ∧ w' = w) :
    ∀ dd os, Calls Tryd.prog f args (grow (redrawn W dd) os) fun e w'' => e = .returned v ∧ ∃ p : Regrown, w'' = grow (redrawn W p.d) p.os :=
  fun dd os => Calls.regrown_of ((h _).mono fun e w' ⟨he, hw⟩ => ⟨he, by subst hw; exact Below.refl _ _⟩)
theorem rg_tab {f : FuncId} {args : Array Value} {W : World} {v : Value} (hT : Tab W) (h : ∀ w, Tab w → Calls Tryd.prog f args w fun e w' => e = .returned v ∧ Below w.heap.size w w') :
    ∀ dd os, Calls Tryd.prog f args (grow (redrawn W dd) os) fun e w'' => e = .returned v ∧ ∃ p : Regrown, w'' = grow (redrawn W p.d) p.os :=
  fun dd os => Calls.regrown_of (h _ (hT.of_below (below_regrown W dd os)))
theorem rg_below {f : FuncId} {args : Array Value} {W : World} {v : Value} (h : ∀ w, Calls Tryd.prog f args w fun e w' => e = .returned v ∧ Below w.heap.size w w') :
    ∀ dd os, Calls Tryd.prog f args (grow (redrawn W dd) os) fun e w'' => e = .returned v ∧ ∃ p : Regrown, w'' = grow (redrawn W p.d) p.os :=
  fun _ _ => Calls.regrown_of (h _)
theorem impl_MonthDays_b (y m : Int) (w : World) (hT : Tab w) :
    Calls Tryd.prog 22 #[.int .i64 y, .int .i64 m] w fun e w' => e = .returned (.int .i64 (mdays y m)) ∧ Below w.heap.size w w' :=
  (impl_MonthDays y m w hT).mono fun e w' ⟨he, hw⟩ => ⟨he, by subst hw; exact Below.refl _ _⟩

theorem wrapS (n : Int) (h0 : 0 ≤ n) (h1 : n < 100000) : IntKind.i64.wrap n = n := wrap_small n h0 (by omega)
set_option maxRecDepth 100000 in
set_option maxHeartbeats 4000000 in
theorem dates_walk (a0 a1 : Option Addr) (len0 cap0 len1 cap1 : Nat) (w : World) (hT : Tab w) (l0 : len0 ≤ 1048576) (l1 : len1 ≤ 1048576) (r0 : RowOf w a0 len0) (r1 : RowOf w a1 len1) :
    Calls Tryd.prog 3 #[.slice a0 len0 cap0, .slice a1 len1 cap1] w fun e w' => e = .returned (.bool true) ∧ Below w.heap.size w w' := by
  go_enter Tryd.func3, Tryd.ntmps3
  go_wp2_with fail
  refine (draw_DateOf a0 len0 cap0 _ r0 l0).mono ?_
  rintro e w1 ⟨n, rfl, hb1⟩
  go_wp2_with fail
  refine (impl_DateOf n _ (hT.of_below hb1)).mono ?_
  rintro e w2 ⟨rfl, hb2⟩
  have hB2 := hb1.trans (hb2.mono hb1.size)
  go_wp2_with fail
  refine (draw_DaysOf a1 len1 cap1 _ (r1.grown (hB2.alloc hB2.size _)) l1).mono ?_
  rintro e w3 ⟨x, y, z, rfl, hb3⟩
  have hd3 := (Box.mk' w2 (yV n) (mV n) (dV n) 25).below hb3
  have hB3 : Below w.heap.size w w3 := (hB2.alloc hB2.size _).trans (hb3.mono (by simp; have := hB2.size; omega))
  have he := Box.mk' w3 x y z 25
  have hd := hd3.alloc (.cells #[.int .i64 x, .int .i64 y, .int .i64 z] 25)
  have hlt := hd3.lt
  have hT3 : Tab (w3.alloc (.cells #[.int .i64 x, .int .i64 y, .int .i64 z] 25)) := (hT.of_below hB3).alloc _
  have hB4 : Below w.heap.size w (w3.alloc (.cells #[.int .i64 x, .int .i64 y, .int .i64 z] 25)) := hB3.alloc hB3.size _
  clear hb1 hb2 hb3 hB2 hd3 r0 r1 hT
  generalize w2.heap.size = q at *
  go_wp2_with fail
  generalize w3.alloc (.cells #[.int .i64 x, .int .i64 y, .int .i64 z] 25) = W at *
  have hqr : q ≠ w3.heap.size := by omega
  clear hB3 hlt
  generalize w3.heap.size = r at *
  have hIDO := fun w h => impl_DateOf n w h
  have hSDO := fun w => spec_DateOf n w
  have cSDO := rg_below (W := W) hSDO
  have cIDA := rg_tab hT3 (fun w h => impl_DaysOf x y z w h)
  have cSDA := rg_below (W := W) (fun w => spec_DaysOf x y z w)
  have cIDR := rg_tab hT3 (fun w h => impl_DateRight x y z w h)
  have cSDR := rg_below (W := W) (fun w => spec_DateRight x y z w)
  have cIMD := rg_tab hT3 (fun w h => impl_MonthDays_b x y w h)
  have cSMD := rg_same (W := W) (fun w => spec_MonthDays x y w)
  have cIWD := rg_same (W := W) (fun w => impl_Weekday n w)
  have cSWD := rg_same (W := W) (fun w => spec_Weekday n w)
  have k0 := cell_regrown hd.1
  have k1 := cell_regrown hd.2.1
  have k2 := cell_regrown hd.2.2.1
  have k3 := cell_regrown he.1
  have k4 := cell_regrown he.2.1
  have k5 := cell_regrown he.2.2.1
  refine wp_region_quiet_below (by kernel_rfl) (by kernel_rfl) ?_
  repeat (quiet_step (first | (go_at_call 17; exact cSDO _ _) | (go_at_call 18; exact cIDA _ _) | (go_at_call 19; exact cSDA _ _) | (go_at_call 20; exact cIDR _ _) | (go_at_call 21; exact cSDR _ _) | (go_at_call 22; exact cIMD _ _) | (go_at_call 23; exact cSMD _ _) | (go_at_call 24; exact cIWD _ _) | (go_at_call 25; exact cSWD _ _)))
  refine wpQuiet_nil ?_
  intro _ hw'
  obtain ⟨⟨dq, osq⟩, hw''⟩ := hw'
  subst hw''
  go_wp2_with fail
  have hbW := below_regrown W dq osq
  have hd2 := hd.below hbW
  have he2 := he.below hbW
  have hT4 := hT3.of_below hbW
  have hB5 := hB4.trans (hbW.mono hB4.size)
  clear hbW hd he hT3 hB4 k0 k1 k2 k3 k4 k5 cSDO cIDA cSDA cIDR cSDR cIMD cSMD cIWD cSWD
  generalize grow (redrawn W dq) osq = W2 at *
  clear W dq osq
  go_cut [71] from 19 to 71 (fun t wx => t = .bool false ∧ Below W2.heap.size W2 wx)
  case first =>
    cases hv : vldB x y z
    · have cSDR := rg_below (W := W2) (fun w => spec_DateRight x y z w)
      rw [hv] at cSDR
      clear hv
      have k3 := cell_regrown he2.1
      have k4 := cell_regrown he2.2.1
      have k5 := cell_regrown he2.2.2.1
      refine wp_region_quiet_below (by kernel_rfl) (by kernel_rfl) ?_
      repeat (quiet_step (first | (go_at_call 21; exact cSDR _ _)))
      refine wpQuiet_nil ?_
      intro _ hw'
      obtain ⟨⟨dq, osq⟩, hw''⟩ := hw'
      subst hw''
      go_wp2
      go_meet
      exact ⟨rfl, below_regrown _ _ _⟩
    · have cSDR := rg_below (W := W2) (fun w => spec_DateRight x y z w)
      have cIDA := rg_tab hT4 (fun w h => impl_DaysOf x y z w h)
      have cIDO := rg_tab hT4 (fun w h => impl_DateOf (num x y z) w h)
      have ⟨n1, n2⟩ := num_bd hv
      have ⟨ea, eb, ec⟩ := ymd_ok (isB_t n1 n2)
      have ⟨fa, fb, fc⟩ := date_round hv
      rw [ea, eb, ec, fa, fb, fc] at cIDO
      rw [numv_ok hv] at cIDA
      rw [hv] at cSDR
      clear hv n1 n2 ea eb ec fa fb fc
      generalize num x y z = k at *
      have k3 := cell_regrown he2.1
      have k4 := cell_regrown he2.2.1
      have k5 := cell_regrown he2.2.2.1
      refine wp_region_quiet_below (by kernel_rfl) (by kernel_rfl) ?_
      repeat (quiet_step (first | (go_at_call 21; exact cSDR _ _) | (go_at_call 18; exact cIDA _ _) | (go_at_call 15; exact cIDO _ _)))
      refine wpQuiet_nil ?_
      intro _ hw'
      obtain ⟨⟨dq, osq⟩, hw''⟩ := hw'
      subst hw''
      go_wp2
      go_meet
      exact ⟨rfl, below_regrown _ _ _⟩
  case rest =>
    obtain ⟨rfl, hbc⟩ := hcut
    have hd3 := hd2.below hbc
    have hT5 := hT4.of_below hbc
    have hB6 := hB5.trans (hbc.mono hB5.size)
    clear hbc hd2 he2 hT4 hB5
    by_cases ho : n < -719162 ∨ 2932896 < n
    · have hb : isB n (-719162) 2932896 = false := isB_f (by omega)
      have ⟨ea, eb, ec⟩ := ymd_no hb
      have hW := fun w => impl_Weekday n w
      rw [wdv_no (by omega)] at hW
      rw [ea, eb, ec] at hd3
      obtain ⟨c0, c1, c2, _, _, _⟩ := hd3
      have hne : (n == 2932896) = false := by simp; omega
      clear hb ea eb ec hIDO hSDO
      by_cases h1 : n < -719162
      · clear ho
        go_wp2_with (go_at_call 24; refine (hW _).mono ?_; rintro e w' ⟨rfl, rfl⟩)
        go_ret
        exact ⟨rfl, hB6⟩
      · have h2 : 2932896 ≤ n := by omega
        clear ho
        go_wp2_with (go_at_call 24; refine (hW _).mono ?_; rintro e w' ⟨rfl, rfl⟩)
        go_ret
        exact ⟨rfl, hB6⟩
    by_cases hm : n = 2932896
    · subst hm
      obtain ⟨c0, c1, c2, _, _, _⟩ := hd3
      clear hIDO hSDO ho
      go_wp2
      go_ret
      exact ⟨rfl, hB6⟩
    have h1 : -719162 ≤ n := by omega
    have h2 : n < 2932896 := by omega
    clear ho hm
    have ⟨ea, eb, ec⟩ := ymd_ok (isB_t (n := n) (lo := -719162) (hi := 2932896) h1 (by omega))
    have ⟨fa, fb, fc⟩ := ymd_ok (isB_t (n := n + 1) (lo := -719162) (hi := 2932896) (by omega) (by omega))
    have hv := vld_of h1 (show n ≤ 2932896 by omega)
    have ⟨y1, y2, m1, m2, d1, d2⟩ := vld_t hv
    have db := Cal.dim_bd (yOf n) (mOf n)
    have hNX := fun w h => impl_DateOf (n + 1) w h
    have hDA := fun w h => impl_DaysOf (yOf n) (mOf n) (dOf n) w h
    have hMD := fun w h => impl_MonthDays_b (yOf n) (mOf n) w h
    have hWD := fun w => impl_Weekday n w
    have hWN := fun w => impl_Weekday (n + 1) w
    rw [wdv_ok h1 (by omega)] at hWD
    rw [wdv_ok (show -719162 ≤ n + 1 by omega) (by omega)] at hWN
    rw [numv_ok hv, num_of] at hDA
    rw [mdays_ok y1 y2 m1 m2] at hMD
    rw [ea, eb, ec] at hd3
    rw [fa, fb, fc] at hNX
    have hnd := next_day h1 h2
    clear ea eb ec fa fb fc hv hIDO hSDO
    generalize yOf n = Y at *
    generalize mOf n = M at *
    generalize dOf n = D at *
    generalize Cal.dim Y M = v at *
    generalize yOf (n + 1) = Y2 at *
    generalize mOf (n + 1) = M2 at *
    generalize dOf (n + 1) = D2 at *
    have xY : IntKind.i64.wrap (Y + 1) = Y + 1 := wrapS _ (by omega) (by omega)
    have xM : IntKind.i64.wrap (M + 1) = M + 1 := wrapS _ (by omega) (by omega)
    have xD : IntKind.i64.wrap (D + 1) = D + 1 := wrapS _ (by omega) (by omega)
    rcases hnd with ⟨hz, e1, e2, e3⟩ | ⟨hz, hm, e1, e2, e3⟩ | ⟨hz, hm, e1, e2, e3⟩
    · rw [e1, e2, e3] at hNX
      clear e1 e2 e3
      have g1 : (D + 1 == 1) = false := by simp; omega
      have g0 : (D == 0) = false := by simp; omega
      go_wp2_with fail
      refine (hNX _ hT5).mono ?_
      rintro e w5 ⟨rfl, hb5⟩
      have hd5 := (hd3.below hb5).alloc (.cells #[.int .i64 (Y), .int .i64 (M), .int .i64 (D + 1)] 25)
      have hx5 := Box.mk' w5 (Y) (M) (D + 1) 25
      have hB7 := hB6.trans (hb5.mono hB6.size)
      have hB8 : RowKit.Below w.heap.size w (w5.alloc (.cells #[.int .i64 (Y), .int .i64 (M), .int .i64 (D + 1)] 25)) := hB7.alloc hB7.size _
      have hT7 : Tab (w5.alloc (.cells #[.int .i64 (Y), .int .i64 (M), .int .i64 (D + 1)] 25)) := (hT5.of_below hb5).alloc _
      clear hb5 hB6 hB7 hT5 hd3 hNX
      go_wp2_with fail
      generalize w5.alloc (.cells #[.int .i64 (Y), .int .i64 (M), .int .i64 (D + 1)] 25) = V at *
      generalize w5.heap.size = g at *
      have cMD := rg_tab hT7 hMD
      have k0 := cell_regrown hd5.1
      have k1 := cell_regrown hd5.2.1
      have k2 := cell_regrown hd5.2.2.1
      have k3 := cell_regrown hx5.1
      have k4 := cell_regrown hx5.2.1
      have k5 := cell_regrown hx5.2.2.1
      refine wp_region_quiet_below (by kernel_rfl) (by kernel_rfl) ?_
      repeat (first | go_big_quiet_step ((go_at_call 22; exact cMD _ _)) | quiet_step ((go_at_call 22; exact cMD _ _)))
      refine wpQuiet_nil ?_
      intro _ hw'
      obtain ⟨⟨dq, osq⟩, hw''⟩ := hw'
      subst hw''
      have hbV := below_regrown V dq osq
      have hd6 := hd5.below hbV
      have hx6 := hx5.below hbV
      have hT8 := hT7.of_below hbV
      have hB9 := hB8.trans (hbV.mono hB8.size)
      clear hbV k0 k1 k2 k3 k4 k5 cMD hd5 hx5 hT7 hB8
      go_wp2_with fail
      generalize grow (redrawn V dq) osq = V2 at *
      clear dq osq
      have cMD := rg_tab hT8 hMD
      have k0 := cell_regrown hd6.1
      have k1 := cell_regrown hd6.2.1
      have k2 := cell_regrown hd6.2.2.1
      have k3 := cell_regrown hx6.1
      have k4 := cell_regrown hx6.2.1
      have k5 := cell_regrown hx6.2.2.1
      refine wp_region_quiet_below (by kernel_rfl) (by kernel_rfl) ?_
      repeat (first | go_big_quiet_step ((go_at_call 22; exact cMD _ _)) | quiet_step ((go_at_call 22; exact cMD _ _)))
      refine wpQuiet_nil ?_
      intro _ hw'
      obtain ⟨⟨dq, osq⟩, hw''⟩ := hw'
      subst hw''
      have hbV := below_regrown V2 dq osq
      have hd7 := hd6.below hbV
      have hx7 := hx6.below hbV
      have hT9 := hT8.of_below hbV
      have hB10 := hB9.trans (hbV.mono hB9.size)
      clear hbV k0 k1 k2 k3 k4 k5 cMD hd6 hx6 hT8 hB9
      obtain ⟨c0, c1, c2, _, _, _⟩ := hd7
      go_wp2_with fail
      generalize grow (redrawn V2 dq) osq = V3 at *
      clear dq osq
      refine (hDA _ hT9).mono ?_
      rintro e w8 ⟨rfl, hb8⟩
      go_wp2_with fail
      refine (hWN _).mono ?_
      rintro e w9 ⟨rfl, rfl⟩
      go_wp2_with fail
      refine (hWD _).mono ?_
      rintro e w9 ⟨rfl, rfl⟩
      go_wp2
      go_ret
      exact ⟨ret_bool (by simp; omega), hB10.trans (hb8.mono hB10.size)⟩
    · rw [e1, e2, e3] at hNX
      clear e1 e2 e3
      have hz' : (D == v) = true := beq_iff_eq.2 hz
      have g2 : (M + 1 == M) = false := beq_false_of_ne (by omega)
      clear hz
      go_wp2_with fail
      refine (hNX _ hT5).mono ?_
      rintro e w5 ⟨rfl, hb5⟩
      have hd5 := (hd3.below hb5).alloc (.cells #[.int .i64 (Y), .int .i64 (M + 1), .int .i64 (1)] 25)
      have hx5 := Box.mk' w5 (Y) (M + 1) (1) 25
      have hB7 := hB6.trans (hb5.mono hB6.size)
      have hB8 : RowKit.Below w.heap.size w (w5.alloc (.cells #[.int .i64 (Y), .int .i64 (M + 1), .int .i64 (1)] 25)) := hB7.alloc hB7.size _
      have hT7 : Tab (w5.alloc (.cells #[.int .i64 (Y), .int .i64 (M + 1), .int .i64 (1)] 25)) := (hT5.of_below hb5).alloc _
      clear hb5 hB6 hB7 hT5 hd3 hNX
      go_wp2_with fail
      generalize w5.alloc (.cells #[.int .i64 (Y), .int .i64 (M + 1), .int .i64 (1)] 25) = V at *
      generalize w5.heap.size = g at *
      have cMD := rg_tab hT7 hMD
      have k0 := cell_regrown hd5.1
      have k1 := cell_regrown hd5.2.1
      have k2 := cell_regrown hd5.2.2.1
      have k3 := cell_regrown hx5.1
      have k4 := cell_regrown hx5.2.1
      have k5 := cell_regrown hx5.2.2.1
      refine wp_region_quiet_below (by kernel_rfl) (by kernel_rfl) ?_
      repeat (first | go_big_quiet_step ((go_at_call 22; exact cMD _ _)) | quiet_step ((go_at_call 22; exact cMD _ _)))
      refine wpQuiet_nil ?_
      intro _ hw'
      obtain ⟨⟨dq, osq⟩, hw''⟩ := hw'
      subst hw''
      have hbV := below_regrown V dq osq
      have hd6 := hd5.below hbV
      have hx6 := hx5.below hbV
      have hT8 := hT7.of_below hbV
      have hB9 := hB8.trans (hbV.mono hB8.size)
      clear hbV k0 k1 k2 k3 k4 k5 cMD hd5 hx5 hT7 hB8
      go_wp2_with fail
      generalize grow (redrawn V dq) osq = V2 at *
      clear dq osq
      have cMD := rg_tab hT8 hMD
      have k0 := cell_regrown hd6.1
      have k1 := cell_regrown hd6.2.1
      have k2 := cell_regrown hd6.2.2.1
      have k3 := cell_regrown hx6.1
      have k4 := cell_regrown hx6.2.1
      have k5 := cell_regrown hx6.2.2.1
      refine wp_region_quiet_below (by kernel_rfl) (by kernel_rfl) ?_
      repeat (first | go_big_quiet_step ((go_at_call 22; exact cMD _ _)) | quiet_step ((go_at_call 22; exact cMD _ _)))
      refine wpQuiet_nil ?_
      intro _ hw'
      obtain ⟨⟨dq, osq⟩, hw''⟩ := hw'
      subst hw''
      have hbV := below_regrown V2 dq osq
      have hd7 := hd6.below hbV
      have hx7 := hx6.below hbV
      have hT9 := hT8.of_below hbV
      have hB10 := hB9.trans (hbV.mono hB9.size)
      clear hbV k0 k1 k2 k3 k4 k5 cMD hd6 hx6 hT8 hB9
      obtain ⟨c0, c1, c2, _, _, _⟩ := hd7
      go_wp2_with fail
      generalize grow (redrawn V2 dq) osq = V3 at *
      clear dq osq
      refine (hDA _ hT9).mono ?_
      rintro e w8 ⟨rfl, hb8⟩
      go_wp2_with fail
      refine (hWN _).mono ?_
      rintro e w9 ⟨rfl, rfl⟩
      go_wp2_with fail
      refine (hWD _).mono ?_
      rintro e w9 ⟨rfl, rfl⟩
      go_wp2
      go_ret
      exact ⟨ret_bool (by simp; omega), hB10.trans (hb8.mono hB10.size)⟩
    · rw [e1, e2, e3] at hNX
      clear e1 e2 e3
      have hz' : (D == v) = true := beq_iff_eq.2 hz
      have g1 : (Y + 1 == Y) = false := beq_false_of_ne (by omega)
      have g2 : (M == 12) = true := beq_iff_eq.2 hm
      clear hz hm
      go_wp2_with fail
      refine (hNX _ hT5).mono ?_
      rintro e w5 ⟨rfl, hb5⟩
      have hd5 := (hd3.below hb5).alloc (.cells #[.int .i64 (Y + 1), .int .i64 (1), .int .i64 (1)] 25)
      have hx5 := Box.mk' w5 (Y + 1) (1) (1) 25
      have hB7 := hB6.trans (hb5.mono hB6.size)
      have hB8 : RowKit.Below w.heap.size w (w5.alloc (.cells #[.int .i64 (Y + 1), .int .i64 (1), .int .i64 (1)] 25)) := hB7.alloc hB7.size _
      have hT7 : Tab (w5.alloc (.cells #[.int .i64 (Y + 1), .int .i64 (1), .int .i64 (1)] 25)) := (hT5.of_below hb5).alloc _
      clear hb5 hB6 hB7 hT5 hd3 hNX
      go_wp2_with fail
      generalize w5.alloc (.cells #[.int .i64 (Y + 1), .int .i64 (1), .int .i64 (1)] 25) = V at *
      generalize w5.heap.size = g at *
      have cMD := rg_tab hT7 hMD
      have k0 := cell_regrown hd5.1
      have k1 := cell_regrown hd5.2.1
      have k2 := cell_regrown hd5.2.2.1
      have k3 := cell_regrown hx5.1
      have k4 := cell_regrown hx5.2.1
      have k5 := cell_regrown hx5.2.2.1
      refine wp_region_quiet_below (by kernel_rfl) (by kernel_rfl) ?_
      repeat (first | go_big_quiet_step ((go_at_call 22; exact cMD _ _)) | quiet_step ((go_at_call 22; exact cMD _ _)))
      refine wpQuiet_nil ?_
      intro _ hw'
      obtain ⟨⟨dq, osq⟩, hw''⟩ := hw'
      subst hw''
      have hbV := below_regrown V dq osq
      have hd6 := hd5.below hbV
      have hx6 := hx5.below hbV
      have hT8 := hT7.of_below hbV
      have hB9 := hB8.trans (hbV.mono hB8.size)
      clear hbV k0 k1 k2 k3 k4 k5 cMD hd5 hx5 hT7 hB8
      go_wp2_with fail
      generalize grow (redrawn V dq) osq = V2 at *
      clear dq osq
      have cMD := rg_tab hT8 hMD
      have k0 := cell_regrown hd6.1
      have k1 := cell_regrown hd6.2.1
      have k2 := cell_regrown hd6.2.2.1
      have k3 := cell_regrown hx6.1
      have k4 := cell_regrown hx6.2.1
      have k5 := cell_regrown hx6.2.2.1
      refine wp_region_quiet_below (by kernel_rfl) (by kernel_rfl) ?_
      repeat (first | go_big_quiet_step ((go_at_call 22; exact cMD _ _)) | quiet_step ((go_at_call 22; exact cMD _ _)))
      refine wpQuiet_nil ?_
      intro _ hw'
      obtain ⟨⟨dq, osq⟩, hw''⟩ := hw'
      subst hw''
      have hbV := below_regrown V2 dq osq
      have hd7 := hd6.below hbV
      have hx7 := hx6.below hbV
      have hT9 := hT8.of_below hbV
      have hB10 := hB9.trans (hbV.mono hB9.size)
      clear hbV k0 k1 k2 k3 k4 k5 cMD hd6 hx6 hT8 hB9
      obtain ⟨c0, c1, c2, _, _, _⟩ := hd7
      go_wp2_with fail
      generalize grow (redrawn V2 dq) osq = V3 at *
      clear dq osq
      refine (hDA _ hT9).mono ?_
      rintro e w8 ⟨rfl, hb8⟩
      go_wp2_with fail
      refine (hWN _).mono ?_
      rintro e w9 ⟨rfl, rfl⟩
      go_wp2_with fail
      refine (hWD _).mono ?_
      rintro e w9 ⟨rfl, rfl⟩
      go_wp2
      go_ret
      exact ⟨ret_bool (by simp; omega), hB10.trans (hb8.mono hB10.size)⟩
end Go.Proofs.YtibhbpgnjikjnaaDoor
