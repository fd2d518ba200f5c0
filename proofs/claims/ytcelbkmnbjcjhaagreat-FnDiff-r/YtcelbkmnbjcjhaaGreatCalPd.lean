/- Packed: Cal Dates Wd Days DateOf Rounds. -/
import Derived.Test.YtcelbkmnbjcjhaaGreatBaseAd
import Derived.Lib.LaidTab
namespace Go.Cal
/-- 1 of a leap year, else 0. -/
def lp (y : Int) : Int := if y % 4 = 0 ∧ (y % 100 ≠ 0 ∨ y % 400 = 0) then 1 else 0
/-- the days of a month. -/
def dim (y m : Int) : Int :=
 if m = 2 then 28 + lp y else if m = 4 ∨ m = 6 ∨ m = 9 ∨ m = 11 then 30 else 31
/-- days ahead of a year, from the year 1 on. -/
def dby (y : Int) : Int := 365 * (y - 1) + (y - 1) / 4 - (y - 1) / 100 + (y - 1) / 400
/-- days ahead of a month of its year. -/
def cum (y m : Int) : Int :=
 if m ≤ 1 then 0 else if m = 2 then 31 else
 (if m = 3 then 59 else if m = 4 then 90 else if m = 5 then 120 else if m = 6 then 151 else if m = 7 then 181 else
 if m = 8 then 212 else if m = 9 then 243 else if m = 10 then 273 else if m = 11 then 304 else if m = 12 then 334 else 365) + lp y

theorem lp_01 (y : Int) : 0 ≤ lp y ∧ lp y ≤ 1 := by unfold lp; split <;> omega
theorem dim_bd (y m : Int) : 28 ≤ dim y m ∧ dim y m ≤ 31 := by
 have := lp_01 y; unfold dim; split; omega; split <;> omega
theorem cum_one (y : Int) : cum y 1 = 0 := by unfold cum; simp
theorem cum_succ (y m : Int) (h1 : 1 ≤ m) (h2 : m ≤ 12) : cum y (m + 1) = cum y m + dim y m := by
 have := lp_01 y
 have hm : m = 1 ∨ m = 2 ∨ m = 3 ∨ m = 4 ∨ m = 5 ∨ m = 6 ∨ m = 7 ∨ m = 8 ∨ m = 9 ∨ m = 10 ∨ m = 11 ∨ m = 12 := by omega
 rcases hm with h | h | h | h | h | h | h | h | h | h | h | h <;> subst h <;> simp [cum, dim] <;> omega
theorem cum_13 (y : Int) : cum y 13 = 365 + lp y := by simp [cum]
theorem cum_bd (y m : Int) : 0 ≤ cum y m ∧ cum y m ≤ 366 := by
 have := lp_01 y
 unfold cum; repeat' split
 all_goals omega
theorem dby_succ (y : Int) (_h : 1 ≤ y) : dby (y + 1) = dby y + 365 + lp y := by
 unfold dby lp
 split <;> omega
theorem dby_mono {a b : Int} (_h0 : 1 ≤ a) (_h : a ≤ b) : dby a ≤ dby b := by unfold dby; omega
theorem dby_bd (y : Int) (h0 : 1 ≤ y) (h : y ≤ 10000) : 0 ≤ dby y ∧ dby y ≤ 3652059 := by unfold dby; omega
theorem dby_10000 : dby 10000 = 3652059 := by unfold dby; omega
theorem cum_mono {y a b : Int} (h0 : 1 ≤ a) (h : a ≤ b) (hb : b ≤ 13) : cum y a ≤ cum y b := by
 obtain ⟨n, rfl⟩ : ∃ n : Nat, b = a + n := ⟨(b - a).toNat, by omega⟩
 induction n with
 | zero => simp
 | succ k ih =>
  have h1 := ih (by omega) (by omega)
  have h2 := cum_succ y (a + k) (by omega) (by omega)
  have h3 := dim_bd y (a + k)
  have e : a + ((k + 1 : Nat) : Int) = a + k + 1 := by omega
  rw [e]; omega
end Go.Cal
namespace Go.Proofs.YtcelbkmnbjcjhaaGreat
open Go.RowKit

def lpB (y : Int) : Bool := decide (Cal.lp y = 1)
theorem lpB_t {y : Int} (h : lpB y = true) : Cal.lp y = 1 := of_decide_eq_true h
theorem lpB_f {y : Int} (h : lpB y = false) : Cal.lp y = 0 := by
 have := of_decide_eq_false h; have := Cal.lp_01 y; omega
theorem lpB_mk_t {y : Int} (h : y % 4 = 0 ∧ (y % 100 ≠ 0 ∨ y % 400 = 0)) : lpB y = true := by
 unfold lpB Cal.lp; rw [if_pos h]; rfl
theorem lpB_mk_f {y : Int} (h : ¬ (y % 4 = 0 ∧ (y % 100 ≠ 0 ∨ y % 400 = 0))) : lpB y = false := by
 unfold lpB Cal.lp; rw [if_neg h]; rfl
theorem lp_way1 {y : Int} (h4 : y % 4 = 0) (h100 : y % 100 = 0) : (y % 400 == 0) = lpB y := by
 by_cases h : y % 400 = 0
 ·
  rw [lpB_mk_t ⟨h4, .inr h⟩]; simp [h]
 ·
  rw [lpB_mk_f (by omega)]; simp [h]
theorem lp_way2 {y : Int} (h4 : y % 4 = 0) (h100 : ¬ y % 100 = 0) : true = lpB y := (lpB_mk_t ⟨h4, .inl h100⟩).symm
theorem lp_way3 {y : Int} (h4 : ¬ y % 4 = 0) : false = lpB y := (lpB_mk_f (by omega)).symm

set_option maxHeartbeats 400000 in
theorem spec_l01Leap (y : Int) (w : World) (h1 : 1 ≤ y) (h2 : y ≤ 9999) :
  Calls Tryz.prog 110 #[.int .i64 y] w fun e w' => e = .returned (.bool (lpB y)) ∧ w' = w := by
 go_enter Tryz.func110, Tryz.ntmps110
 go_wp2
 all_goals go_ret
 ·
  exact ⟨ret_bool (lp_way1 ‹_› ‹_›), rfl⟩
 ·
  exact ⟨ret_bool (lp_way2 ‹_› ‹_›), rfl⟩
 ·
  exact ⟨ret_bool (lp_way3 ‹_›), rfl⟩

def ymB (y m : Int) : Bool := decide (1 ≤ y ∧ y ≤ 9999 ∧ 1 ≤ m ∧ m ≤ 12)
theorem ymB_t {y m : Int} (h : ymB y m = true) : 1 ≤ y ∧ y ≤ 9999 ∧ 1 ≤ m ∧ m ≤ 12 := of_decide_eq_true h
set_option maxHeartbeats 400000 in
theorem spec_l01Month (y m : Int) (w : World) (h1 : 1 ≤ y) (h2 : y ≤ 9999) :
  Calls Tryz.prog 103 #[.int .i64 y, .int .i64 m] w fun e w' => e = .returned (.int .i64 (Cal.dim y m)) ∧ w' = w := by
 by_cases hm : m = 2
 ·
  subst hm
  cases hl : lpB y
  ·
   have e : Cal.dim y 2 = 28 := by have := lpB_f hl; simp [Cal.dim, this]
   rw [e]
   go_enter Tryz.func103, Tryz.ntmps103
   go_wp2_with (go_at_call 110; refine (spec_l01Leap _ _ (by omega) (by omega)).mono ?_; rintro e w' ⟨rfl, rfl⟩)
   go_ret
   exact ⟨rfl, rfl⟩
  ·
   have e : Cal.dim y 2 = 29 := by have := lpB_t hl; simp [Cal.dim, this]
   rw [e]
   go_enter Tryz.func103, Tryz.ntmps103
   go_wp2_with (go_at_call 110; refine (spec_l01Leap _ _ (by omega) (by omega)).mono ?_; rintro e w' ⟨rfl, rfl⟩)
   go_ret
   exact ⟨rfl, rfl⟩
 ·
  have hb : (m == 2) = false := by simpa using hm
  by_cases h30 : m = 4 ∨ m = 6 ∨ m = 9 ∨ m = 11
  ·
   have e : Cal.dim y m = 30 := by unfold Cal.dim; rw [if_neg hm, if_pos h30]
   rw [e]
   rcases h30 with h | h | h | h <;> subst h <;> clear hm hb e
   all_goals
    go_enter Tryz.func103, Tryz.ntmps103
    go_wp2
    go_ret
    exact ⟨rfl, rfl⟩
  ·
   have e : Cal.dim y m = 31 := by unfold Cal.dim; rw [if_neg hm, if_neg h30]
   rw [e]
   have b4 : (m == 4) = false := by simp; omega
   have b6 : (m == 6) = false := by simp; omega
   have b9 : (m == 9) = false := by simp; omega
   have b11 : (m == 11) = false := by simp; omega
   clear e h30 hm
   go_enter Tryz.func103, Tryz.ntmps103
   go_wp2
   go_ret
   exact ⟨rfl, rfl⟩

set_option maxHeartbeats 400000 in
theorem spec_l01Year (y : Int) (w : World) :
  Calls Tryz.prog 77 #[.int .i64 y] w fun e w' => e = .returned (.bool (isB y 1 9999)) ∧ w' = w := by
 go_enter Tryz.func77, Tryz.ntmps77
 go_wp2_with (go_at_call 27; refine (spec_l01Is _ _ _ _).mono ?_; rintro e w' ⟨rfl, rfl⟩)
 go_ret
 exact ⟨rfl, rfl⟩
/-- is it a right date? -/
def vldB (y m d : Int) : Bool := decide (1 ≤ y ∧ y ≤ 9999 ∧ 1 ≤ m ∧ m ≤ 12 ∧ 1 ≤ d ∧ d ≤ Cal.dim y m)
theorem vld_t {y m d : Int} (h : vldB y m d = true) : 1 ≤ y ∧ y ≤ 9999 ∧ 1 ≤ m ∧ m ≤ 12 ∧ 1 ≤ d ∧ d ≤ Cal.dim y m := of_decide_eq_true h
theorem vld_f {y m d : Int} (h : vldB y m d = false) : ¬ (1 ≤ y ∧ y ≤ 9999 ∧ 1 ≤ m ∧ m ≤ 12 ∧ 1 ≤ d ∧ d ≤ Cal.dim y m) := of_decide_eq_false h
theorem vld_mk {y m d : Int} (h : 1 ≤ y ∧ y ≤ 9999 ∧ 1 ≤ m ∧ m ≤ 12 ∧ 1 ≤ d ∧ d ≤ Cal.dim y m) : vldB y m d = true := decide_eq_true h
end Go.Proofs.YtcelbkmnbjcjhaaGreat
namespace Go.Proofs.YtcelbkmnbjcjhaaGreat
open Go.RowKit

set_option maxHeartbeats 400000 in
theorem spec_l01Weekday (n : Int) (w : World) (h1 : -800000 ≤ n) (h2 : n ≤ 3000000) :
  Calls Tryz.prog 106 #[.int .i64 n] w fun e w' => e = .returned (.int .i64 ((n + 719163) % 7)) ∧ w' = w := by
 go_enter Tryz.func106, Tryz.ntmps106
 go_wp2
 go_ret
 exact ⟨ret_int (by omega), rfl⟩
end Go.Proofs.YtcelbkmnbjcjhaaGreat
namespace Go.Proofs.YtcelbkmnbjcjhaaGreat
open Go.RowKit

set_option maxHeartbeats 400000 in
theorem spec_dby (y : Int) (w : World) (h1 : 1 ≤ y) (h2 : y ≤ 10001) :
  Calls Tryz.prog 111 #[.int .i64 y] w fun e w' => e = .returned (.int .i64 (Cal.dby y)) ∧ w' = w := by
 unfold Cal.dby
 go_enter Tryz.func111, Tryz.ntmps111
 go_wp2
 go_ret
 exact ⟨ret_int (by omega), rfl⟩
/-- the number of a date's day. -/
def num (y m d : Int) : Int := Cal.dby y - 719162 + Cal.cum y m + d - 1
set_option maxHeartbeats 1000000 in
theorem spec_l01Days (y m d : Int) (w : World) (y1 : 1 ≤ y) (y2 : y ≤ 9999) (m1 : 1 ≤ m) (m2 : m ≤ 12) (d1 : 0 ≤ d) (d2 : d ≤ 1000) :
  Calls Tryz.prog 104 #[.agg #[.int .i64 y, .int .i64 m, .int .i64 d]] w fun e w' => e = .returned (.int .i64 (num y m d)) ∧ Below w.heap.size w w' := by
 have db := Cal.dby_bd y y1 (by omega)
 go_enter Tryz.func104, Tryz.ntmps104
 go_wp2_with (go_at_call 111; refine (spec_dby _ _ y1 (by omega)).mono ?_; rintro e w' ⟨rfl, rfl⟩)
 go_loop [3, 4] (fun t k => ∃ j : Int, 1 ≤ j ∧ j ≤ m ∧ k = .int .i64 j ∧ t = .int .i64 (Cal.dby y - 719162 + Cal.cum y j)) (fun _ k => (m - intOf k).toNat)
 case atStart => exact ⟨1, by omega, by omega, rfl, by rw [Cal.cum_one]; go_num⟩
 case round =>
  obtain ⟨j, j1, j2, rfl, rfl⟩ := hrel
  have cb := Cal.cum_bd y j
  have cs := Cal.cum_succ y j j1 (by omega)
  have dj := Cal.dim_bd y j
  have CS : Hid (Cal.cum y (j + 1) = Cal.cum y j + Cal.dim y j) := cs
  clear cs
  by_cases hlt : j < m
  ·
   go_wp2_with (go_at_call 103; refine (spec_l01Month _ _ _ y1 y2).mono ?_; rintro e w' ⟨rfl, rfl⟩)
   go_round
   case rel => exact ⟨j + 1, by omega, by omega, rfl, by rw [CS.out]; go_num⟩
   case measure => simp [intOf]; omega
  ·
   have e : j = m := by omega
   subst e
   go_wp2
   go_ret
   exact ⟨ret_int (by unfold num; omega), (Below.refl _ _).alloc (Nat.le_refl _) _⟩
end Go.Proofs.YtcelbkmnbjcjhaaGreat
namespace Go.Proofs.YtcelbkmnbjcjhaaGreat
open Go.RowKit

end Go.Proofs.YtcelbkmnbjcjhaaGreat
namespace Go.Proofs.YtcelbkmnbjcjhaaGreat

theorem num_bd {x y z : Int} (h : vldB x y z = true) : -719162 ≤ num x y z ∧ num x y z ≤ 2932896 := by
 have ⟨a, b, c, d, e, f⟩ := vld_t h
 have h1 := Cal.dby_bd x a (by omega)
 have h2 := Cal.cum_bd x y
 have h3 := Cal.cum_succ x y c d
 have h4 := Cal.cum_mono (y := x) (a := y + 1) (b := 13) (by omega) (by omega) (by omega)
 have h5 := Cal.cum_13 x
 have h6 := Cal.dby_succ x a
 have h7 := Cal.dby_mono (a := x + 1) (b := 10000) (by omega) (by omega)
 have h8 := Cal.dby_10000
 unfold num
 omega
end Go.Proofs.YtcelbkmnbjcjhaaGreat
