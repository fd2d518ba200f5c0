/- Contracts of TimeText, the program's and the model's. -/
import Derived.Test.YtibhbpgnjikjnaaDoorDateOf
import Derived.Test.YtibhbpgnjikjnaaDoorTexts
import Derived.Lib.QuietBelow
namespace Go.Proofs.YtibhbpgnjikjnaaDoor
open Go.RowKit Go.Sort

def dateL (y m d : Nat) : List UInt8 := padL y 4 ++ 45 :: padL m 2 ++ 45 :: padL d 2
def clockL (s : Nat) : List UInt8 := padL (s / 3600) 2 ++ 58 :: padL (s / 60 % 60) 2 ++ 58 :: padL (s % 60) 2
/-- the text of a time. -/
def timeL (n : Int) : List UInt8 := dateL (yOf (n / 86400)).toNat (mOf (n / 86400)).toNat (dOf (n / 86400)).toNat ++ 32 :: clockL (n % 86400).toNat
def timeV (n : Int) : List UInt8 := if isB n (-62135596800) 253402300799 = true then timeL n else []

theorem pad4 {u : Nat} (h : u < 10000) : (padL u 4).length = 4 := by
  have := dd_len4 h
  unfold padL
  simp; omega
theorem dd_len2 {u : Nat} (h : u < 100) : (Lib.decDigits u).length ≤ 2 := by
  by_cases h1 : u < 10
  · rw [Lib.decDigits_one h1]; simp
  · rw [Lib.decDigits_two h1 h]; simp
theorem pad2 {u : Nat} (h : u < 100) : (padL u 2).length = 2 := by
  have := dd_len2 h
  unfold padL
  simp; omega
set_option maxHeartbeats 1000000 in
theorem impl_dateText (y m d : Nat) (w : World) (hy : y < 10000) (hm : m < 100) (hd : d < 100) (hP : Pow w) :
    Calls Tryd.prog 65 #[.agg #[.int .i64 y, .int .i64 m, .int .i64 d]] w fun e w' => e = .returned (.string (S (dateL y m d))) ∧ Below w.heap.size w w' := by
  have l1 := pad4 hy
  have l2 := pad2 hm
  have l3 := pad2 hd
  have hP0 : ∀ o, Pow (w.alloc o) := fun o => hP.alloc o
  have c1 : ∀ (W : World), Pow W → ∀ dd os, Calls Tryd.prog 70 #[.int .i64 y, .int .i64 4] (grow (redrawn W dd) os) fun e w'' => e = .returned (.string (S (padL y 4))) ∧ ∃ p : Regrown, w'' = grow (redrawn W p.d) p.os :=
    fun W h dd os => Calls.regrown_of (impl_padI y 4 _ rfl rfl (by omega) (by omega) (h.of_below (below_regrown W dd os)))
  have c2 : ∀ (W : World), Pow W → ∀ dd os, Calls Tryd.prog 70 #[.int .i64 m, .int .i64 2] (grow (redrawn W dd) os) fun e w'' => e = .returned (.string (S (padL m 2))) ∧ ∃ p : Regrown, w'' = grow (redrawn W p.d) p.os :=
    fun W h dd os => Calls.regrown_of (impl_padI m 2 _ rfl rfl (by omega) (by omega) (h.of_below (below_regrown W dd os)))
  have c3 : ∀ (W : World), Pow W → ∀ dd os, Calls Tryd.prog 70 #[.int .i64 d, .int .i64 2] (grow (redrawn W dd) os) fun e w'' => e = .returned (.string (S (padL d 2))) ∧ ∃ p : Regrown, w'' = grow (redrawn W p.d) p.os :=
    fun W h dd os => Calls.regrown_of (impl_padI d 2 _ rfl rfl (by omega) (by omega) (h.of_below (below_regrown W dd os)))
  clear hP
  go_enter Tryd.func65, Tryd.ntmps65
  go_wp2
  have k0 := cell_regrown (w := w.alloc (.cells #[.int .i64 y, .int .i64 m, .int .i64 d] 25)) (a := ⟨w.heap.size, 0, none⟩) (v := .int .i64 y) (by simp)
  have k1 := cell_regrown (w := w.alloc (.cells #[.int .i64 y, .int .i64 m, .int .i64 d] 25)) (a := ⟨w.heap.size, 1, none⟩) (v := .int .i64 m) (by simp)
  have k2 := cell_regrown (w := w.alloc (.cells #[.int .i64 y, .int .i64 m, .int .i64 d] 25)) (a := ⟨w.heap.size, 2, none⟩) (v := .int .i64 d) (by simp)
  refine wp_region_quiet_below (by kernel_rfl) (by kernel_rfl) ?_
  repeat (quiet_step (first | (go_at_call_of 70 y; exact c1 _ (hP0 _) _ _) | (go_at_call_of 70 m; exact c2 _ (hP0 _) _ _) | (go_at_call_of 70 d; exact c3 _ (hP0 _) _ _)))
  refine wpQuiet_nil ?_
  intro _ hw'
  obtain ⟨⟨dq, osq⟩, hw''⟩ := hw'
  subst hw''
  go_wp2
  go_ret
  exact ⟨ret_str (by unfold dateL; simp only [S_append]; simp), ((Below.refl _ _).alloc (Nat.le_refl _) _).trans ((below_regrown _ dq osq).mono (by simp))⟩
set_option maxHeartbeats 1000000 in
theorem impl_clockText (s : Nat) (w : World) (hs : s < 86400) (hP : Pow w) :
    Calls Tryd.prog 66 #[.int .i64 s] w fun e w' => e = .returned (.string (S (clockL s))) ∧ Below w.heap.size w w' := by
  have l1 := pad2 (u := s / 3600) (by omega)
  have l2 := pad2 (u := s / 60 % 60) (by omega)
  have l3 := pad2 (u := s % 60) (by omega)
  go_enter Tryd.func66, Tryd.ntmps66
  go_wp2_with fail
  refine (impl_padI (s / 3600) 2 _ (by omega) rfl (by omega) (by omega) hP).mono ?_
  rintro e w1 ⟨rfl, hb1⟩
  go_wp2_with fail
  refine (impl_padI (s / 60 % 60) 2 _ (by omega) rfl (by omega) (by omega) (hP.of_below hb1)).mono ?_
  rintro e w2 ⟨rfl, hb2⟩
  have hB2 := hb1.trans (hb2.mono hb1.size)
  go_wp2_with fail
  refine (impl_padI (s % 60) 2 _ (by omega) rfl (by omega) (by omega) (hP.of_below hB2)).mono ?_
  rintro e w3 ⟨rfl, hb3⟩
  have hB3 := hB2.trans (hb3.mono hB2.size)
  go_wp2
  go_ret
  exact ⟨ret_str (by unfold clockL; simp only [S_append]; simp), hB3⟩
theorem dateL_len {y m d : Nat} (hy : y < 10000) (hm : m < 100) (hd : d < 100) : (dateL y m d).length = 10 := by
  unfold dateL; simp [pad4 hy, pad2 hm, pad2 hd]
theorem clockL_len {s : Nat} (hs : s < 86400) : (clockL s).length = 8 := by
  unfold clockL; simp [pad2 (u := s / 3600) (by omega), pad2 (u := s / 60 % 60) (by omega), pad2 (u := s % 60) (by omega)]
/-- the fields of a time's date, as numbers that are not below 0. -/
theorem date_nat {n : Int} (h1 : -719162 ≤ n) (h2 : n ≤ 2932896) : ∃ y m d : Nat, yOf n = y ∧ mOf n = m ∧ dOf n = d ∧ 1 ≤ y ∧ y < 10000 ∧ 1 ≤ m ∧ m ≤ 12 ∧ 1 ≤ d ∧ d ≤ 31 := by
  have ⟨a, b, c, d, e, f⟩ := vld_t (vld_of h1 h2)
  have := Cal.dim_bd (yOf n) (mOf n)
  exact ⟨(yOf n).toNat, (mOf n).toNat, (dOf n).toNat, by omega, by omega, by omega, by omega, by omega, by omega, by omega, by omega, by omega⟩

theorem impl_dayAndClock (n : Int) (w : World) (h1 : -62135596800 ≤ n) (h2 : n ≤ 253402300799) :
    Calls Tryd.prog 64 #[.int .i64 n] w fun e w' => e = .returned (.tuple #[.int .i64 (n / 86400), .int .i64 (n % 86400)]) ∧ w' = w := by
  have e1 : Hid (-719162 + (n + 62135596800) / 86400 = n / 86400) := by simp only [Hid]; omega
  have e2 : Hid ((n + 62135596800) % 86400 = n % 86400) := by simp only [Hid]; omega
  go_enter Tryd.func64, Tryd.ntmps64
  go_wp2
  go_ret2
  exact ⟨by rw [← e1.out, ← e2.out]; rfl, rfl⟩
set_option maxHeartbeats 400000 in
theorem impl_isTimeX (n : Int) (w : World) :
    Calls Tryd.prog 63 #[.int .i64 n] w fun e w' => e = .returned (.bool (isB n (-62135596800) 253402300799)) ∧ w' = w := by
  by_cases h : -62135596800 ≤ n
  · go_enter Tryd.func63, Tryd.ntmps63
    go_wp2
    go_ret
    exact ⟨ret_bool (by unfold isB; simp [h]), rfl⟩
  · go_enter Tryd.func63, Tryd.ntmps63
    go_wp2
    go_ret
    exact ⟨ret_bool (isB_f (by omega)).symm, rfl⟩
set_option maxHeartbeats 1000000 in
theorem impl_TimeText_ok (n : Int) (w : World) (h1 : -62135596800 ≤ n) (h2 : n ≤ 253402300799) (hT : Tab w) (hP : Pow w) :
    Calls Tryd.prog 30 #[.int .i64 n] w fun e w' => e = .returned (.string (S (timeL n))) ∧ Below w.heap.size w w' := by
  have hD := fun w h => impl_DateOf_ok (n / 86400) w h (by omega) (by omega)
  obtain ⟨y, m, d, ey, em, ed, y1, y2, m1, m2, d1, d2⟩ := date_nat (n := n / 86400) (by omega) (by omega)
  have HT : Hid (timeL n = dateL y m d ++ 32 :: clockL (n % 86400).toNat) := by unfold timeL; rw [ey, em, ed]; simp [Hid]
  rw [ey, em, ed] at hD
  clear ey em ed
  obtain ⟨s, es⟩ : ∃ s : Nat, n % 86400 = s := ⟨(n % 86400).toNat, by omega⟩
  have hs : s < 86400 := by omega
  have HS : Hid (n % 86400 = s) := es
  rw [es] at HT
  clear es
  have l1 := dateL_len y2 (show m < 100 by omega) (show d < 100 by omega)
  have l2 := clockL_len hs
  have hC := fun w => impl_dayAndClock n w h1 h2
  rw [HS.out] at hC
  have hM := fun w => impl_isTimeX n w
  rw [isB_t h1 h2] at hM
  go_enter Tryd.func30, Tryd.ntmps30
  go_wp2_with fail
  refine (hM _).mono ?_
  rintro e wM ⟨rfl, rfl⟩
  go_wp2_with fail
  refine (hC _).mono ?_
  rintro e w0 ⟨rfl, rfl⟩
  go_wp2_with fail
  refine (hD _ hT).mono ?_
  rintro e w1 ⟨rfl, hb1⟩
  go_wp2_with fail
  refine (impl_dateText y m d _ y2 (by omega) (by omega) (hP.of_below hb1)).mono ?_
  rintro e w2 ⟨rfl, hb2⟩
  have hB2 := hb1.trans (hb2.mono hb1.size)
  go_wp2_with fail
  refine (impl_clockText s _ hs (hP.of_below hB2)).mono ?_
  rintro e w3 ⟨rfl, hb3⟩
  have hB3 := hB2.trans (hb3.mono hB2.size)
  go_wp2
  go_ret
  exact ⟨ret_str (by rw [HT.out]; simp only [S_append]; simp), hB3⟩
set_option maxHeartbeats 400000 in
theorem impl_TimeText_no (n : Int) (w : World) (h : n < -62135596800 ∨ 253402300799 < n) :
    Calls Tryd.prog 30 #[.int .i64 n] w fun e w' => e = .returned (.string (S [])) ∧ Below w.heap.size w w' := by
  have hM := fun w => impl_isTimeX n w
  rw [isB_f (by omega)] at hM
  go_enter Tryd.func30, Tryd.ntmps30
  go_wp2_with fail
  refine (hM _).mono ?_
  rintro e wM ⟨rfl, rfl⟩
  go_wp2
  go_ret
  exact ⟨rfl, Below.refl _ _⟩
theorem timeV_ok {n : Int} (h1 : -62135596800 ≤ n) (h2 : n ≤ 253402300799) : timeV n = timeL n := by unfold timeV; rw [if_pos (isB_t h1 h2)]
theorem timeV_no {n : Int} (h : isB n (-62135596800) 253402300799 = false) : timeV n = [] := by unfold timeV; rw [h]; rfl
theorem impl_TimeText (n : Int) (w : World) (hT : Tab w) (hP : Pow w) :
    Calls Tryd.prog 30 #[.int .i64 n] w fun e w' => e = .returned (.string (S (timeV n))) ∧ Below w.heap.size w w' := by
  cases h : isB n (-62135596800) 253402300799
  · rw [timeV_no h]; exact impl_TimeText_no n w (by have := isB_of_f h; omega)
  · have ⟨h1, h2⟩ := isB_of_t h
    rw [timeV_ok h1 h2]; exact impl_TimeText_ok n w h1 h2 hT hP

set_option maxHeartbeats 400000 in
theorem spec_l01Floor (n : Int) (w : World) (h1 : -62135596800 ≤ n) (h2 : n ≤ 253402300799) :
    Calls Tryd.prog 72 #[.int .i64 n, .int .i64 86400] w fun e w' => e = .returned (.int .i64 (n / 86400)) ∧ w' = w := by
  by_cases h : 0 ≤ n
  · have hz : (0 : Int) ≤ n % 86400 := by omega
    go_enter Tryd.func72, Tryd.ntmps72
    go_wp2
    go_ret
    exact ⟨ret_int (by omega), rfl⟩
  · obtain ⟨u, rfl⟩ : ∃ u : Nat, n = -(u : Int) := ⟨n.natAbs, by omega⟩
    go_enter Tryd.func72, Tryd.ntmps72
    go_wp2
    all_goals go_ret
    all_goals exact ⟨ret_int (by omega), rfl⟩
set_option maxHeartbeats 400000 in
theorem spec_l01Time (n : Int) (w : World) :
    Calls Tryd.prog 71 #[.int .i64 n] w fun e w' => e = .returned (.bool (isB n (-62135596800) 253402300799)) ∧ w' = w := by
  go_enter Tryd.func71, Tryd.ntmps71
  go_wp2_with (go_at_call 55; refine (spec_l01Is _ _ _ _).mono ?_; rintro e w' ⟨rfl, rfl⟩)
  go_ret
  exact ⟨rfl, rfl⟩
theorem spec_l01Time_v {n : Int} {b : Bool} (h : isB n (-62135596800) 253402300799 = b) (w : World) :
    Calls Tryd.prog 71 #[.int .i64 n] w fun e w' => e = .returned (.bool b) ∧ w' = w := h ▸ spec_l01Time n w
theorem wrapI64 (n : Int) (h0 : 0 ≤ n) (h1 : n < 100000) : IntKind.i64.wrap n = n := by
  exact wrap_small n h0 (by omega)
set_option maxHeartbeats 2000000 in
theorem spec_TimeText_ok (n : Int) (w : World) (h1 : -62135596800 ≤ n) (h2 : n ≤ 253402300799) :
    Calls Tryd.prog 33 #[.int .i64 n] w fun e w' => e = .returned (.string (S (timeL n))) ∧ Below w.heap.size w w' := by
  have hD := fun w => spec_l01Date (n / 86400) w (by omega) (by omega)
  have hM := fun w => spec_l01Time_v (isB_t h1 h2) w
  have hF := fun w => spec_l01Floor n w h1 h2
  obtain ⟨y, m, d, ey, em, ed, y1, y2, m1, m2, d1, d2⟩ := date_nat (n := n / 86400) (by omega) (by omega)
  have HT : Hid (timeL n = dateL y m d ++ 32 :: clockL (n % 86400).toNat) := by unfold timeL; rw [ey, em, ed]; simp [Hid]
  rw [ey, em, ed] at hD
  clear ey em ed
  obtain ⟨s, es⟩ : ∃ s : Nat, n % 86400 = s := ⟨(n % 86400).toNat, by omega⟩
  have hs : s < 86400 := by omega
  obtain ⟨q, eq⟩ : ∃ q : Int, n / 86400 = q := ⟨_, rfl⟩
  have en : n = 86400 * q + s := by omega
  rw [es] at HT
  rw [eq] at hD hF
  clear es eq
  subst en
  have q1 : -719162 ≤ q := by omega
  have q2 : q ≤ 2932896 := by omega
  have l1 := pad4 y2
  have l2 := pad2 (u := m) (by omega)
  have l3 := pad2 (u := d) (by omega)
  have l4 := pad2 (u := s / 3600) (by omega)
  have l5 := pad2 (u := s / 60 % 60) (by omega)
  have l6 := pad2 (u := s % 60) (by omega)
  obtain ⟨hh, eh⟩ : ∃ x : Int, (s : Int) / 3600 = x := ⟨_, rfl⟩
  obtain ⟨mm, emm⟩ : ∃ x : Int, (s : Int) / 60 % 60 = x := ⟨_, rfl⟩
  obtain ⟨ss, ess⟩ : ∃ x : Int, (s : Int) % 60 = x := ⟨_, rfl⟩
  have c1 : ∀ (W : World) dd os, Calls Tryd.prog 73 #[.int .i64 y, .int .i64 4] (grow (redrawn W dd) os) fun e w'' => e = .returned (.string (S (padL y 4))) ∧ ∃ p : Regrown, w'' = grow (redrawn W p.d) p.os :=
    fun W dd os => Calls.regrown_of (spec_padI (y) 4 _ (by omega) rfl (by omega) (by omega))
  have c2 : ∀ (W : World) dd os, Calls Tryd.prog 73 #[.int .i64 m, .int .i64 2] (grow (redrawn W dd) os) fun e w'' => e = .returned (.string (S (padL m 2))) ∧ ∃ p : Regrown, w'' = grow (redrawn W p.d) p.os :=
    fun W dd os => Calls.regrown_of (spec_padI (m) 2 _ (by omega) rfl (by omega) (by omega))
  have c3 : ∀ (W : World) dd os, Calls Tryd.prog 73 #[.int .i64 d, .int .i64 2] (grow (redrawn W dd) os) fun e w'' => e = .returned (.string (S (padL d 2))) ∧ ∃ p : Regrown, w'' = grow (redrawn W p.d) p.os :=
    fun W dd os => Calls.regrown_of (spec_padI (d) 2 _ (by omega) rfl (by omega) (by omega))
  have c4 : ∀ (W : World) dd os, Calls Tryd.prog 73 #[.int .i64 hh, .int .i64 2] (grow (redrawn W dd) os) fun e w'' => e = .returned (.string (S (padL (s / 3600) 2))) ∧ ∃ p : Regrown, w'' = grow (redrawn W p.d) p.os :=
    fun W dd os => Calls.regrown_of (spec_padI (s / 3600) 2 _ (by omega) rfl (by omega) (by omega))
  have c5 : ∀ (W : World) dd os, Calls Tryd.prog 73 #[.int .i64 mm, .int .i64 2] (grow (redrawn W dd) os) fun e w'' => e = .returned (.string (S (padL (s / 60 % 60) 2))) ∧ ∃ p : Regrown, w'' = grow (redrawn W p.d) p.os :=
    fun W dd os => Calls.regrown_of (spec_padI (s / 60 % 60) 2 _ (by omega) rfl (by omega) (by omega))
  have c6 : ∀ (W : World) dd os, Calls Tryd.prog 73 #[.int .i64 ss, .int .i64 2] (grow (redrawn W dd) os) fun e w'' => e = .returned (.string (S (padL (s % 60) 2))) ∧ ∃ p : Regrown, w'' = grow (redrawn W p.d) p.os :=
    fun W dd os => Calls.regrown_of (spec_padI (s % 60) 2 _ (by omega) rfl (by omega) (by omega))
  have e0 : Hid (86400 * q + (s : Int) - 86400 * q = s) := by simp only [Hid]; omega
  go_enter Tryd.func33, Tryd.ntmps33
  go_wp2_with fail
  refine (hM _).mono ?_
  rintro e w0 ⟨rfl, rfl⟩
  go_wp2_with fail
  refine (hF _).mono ?_
  rintro e w0 ⟨rfl, rfl⟩
  go_wp2_with fail
  refine (hD _).mono ?_
  rintro e w1 ⟨rfl, hb1⟩
  go_wp2_with fail
  rw [e0.out]
  have k0 := cell_regrown (w := w1.alloc (.cells #[.int .i64 y, .int .i64 m, .int .i64 d] 25)) (a := ⟨w1.heap.size, 0, none⟩) (v := .int .i64 y) (by simp)
  have k1 := cell_regrown (w := w1.alloc (.cells #[.int .i64 y, .int .i64 m, .int .i64 d] 25)) (a := ⟨w1.heap.size, 1, none⟩) (v := .int .i64 m) (by simp)
  have k2 := cell_regrown (w := w1.alloc (.cells #[.int .i64 y, .int .i64 m, .int .i64 d] 25)) (a := ⟨w1.heap.size, 2, none⟩) (v := .int .i64 d) (by simp)
  clear hM hF hD
  have x1 : IntKind.i64.wrap hh = hh := wrapI64 _ (by omega) (by omega)
  have x2 : IntKind.i64.wrap ((s : Int) / 60) = (s : Int) / 60 := wrapI64 _ (by omega) (by omega)
  have x3 : IntKind.i64.wrap mm = mm := wrapI64 _ (by omega) (by omega)
  have x4 : IntKind.i64.wrap ss = ss := wrapI64 _ (by omega) (by omega)
  have x5 : ((s : Int) / 60).tmod 60 = mm := by rw [Int.tmod_eq_emod_of_nonneg (by omega)]; exact emm
  have x6 : (s : Int).tmod 60 = ss := by rw [Int.tmod_eq_emod_of_nonneg (by omega)]; exact ess
  refine wp_region_quiet_below (by kernel_rfl) (by kernel_rfl) ?_
  repeat (quiet_step (first | (go_at_call_of 73 y; exact c1 _ _ _) | (go_at_call_of 73 m; exact c2 _ _ _) | (go_at_call_of 73 d; exact c3 _ _ _) | (go_at_call_of 73 hh; exact c4 _ _ _) | (go_at_call_of 73 mm; exact c5 _ _ _) | (go_at_call_of 73 ss; exact c6 _ _ _)))
  refine wpQuiet_nil ?_
  intro _ hw'
  obtain ⟨⟨dq, osq⟩, hw''⟩ := hw'
  subst hw''
  go_wp2
  go_ret
  exact ⟨ret_str (by rw [HT.out]; unfold dateL clockL; simp only [S_append]; simp), (hb1.alloc hb1.size _).trans ((below_regrown _ dq osq).mono (by simp; have := hb1.size; omega))⟩
set_option maxHeartbeats 400000 in
theorem spec_TimeText (n : Int) (w : World) :
    Calls Tryd.prog 33 #[.int .i64 n] w fun e w' => e = .returned (.string (S (timeV n))) ∧ Below w.heap.size w w' := by
  cases h : isB n (-62135596800) 253402300799
  · rw [timeV_no h]
    have hI := fun w => spec_l01Time_v h w
    clear h
    go_enter Tryd.func33, Tryd.ntmps33
    go_wp2_with (go_at_call 71; refine (hI _).mono ?_; rintro e w' ⟨rfl, rfl⟩)
    go_ret
    exact ⟨rfl, Below.refl _ _⟩
  · have ⟨h1, h2⟩ := isB_of_t h
    rw [timeV_ok h1 h2]; exact spec_TimeText_ok n w h1 h2
end Go.Proofs.YtibhbpgnjikjnaaDoor
