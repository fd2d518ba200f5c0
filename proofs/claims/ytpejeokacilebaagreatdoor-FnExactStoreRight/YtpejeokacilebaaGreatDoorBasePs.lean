/- Packed. -/
import Derived.Test.YtpejeokacilebaaGreatDoorProg
import Derived.WalkKit
import Derived.WalkSpells
import Derived.WalkLawsBesides
import Derived.Deep.QuietTactic
import Derived.BigQuiet
import Derived.Deep.RegionWith
import Derived.Lib.LaidTab
set_option maxHeartbeats 20000000
set_option linter.unusedSimpArgs false
namespace Go.Proofs.YtpejeokacilebaaGreatDoor
open Go.RowKit
theorem hid {p : Prop} (h : p) : Hid p := h
theorem qtr {a b c : World} (h : Below a.heap.size a b) (k : Below b.heap.size b c) : Below a.heap.size a c := h.trans (k.mono h.size)
theorem qal (w : World) (o : Obj) : Below w.heap.size w (w.alloc o) := (Below.refl _ _).alloc (Nat.le_refl _) o
theorem qbl {w : World} {a : Addr} {v : Value} (h : w.cell? a = some v) : a.block < w.heap.size := World.block_lt_of_cell? _ _ h
theorem qgg {α : Type} {l : List α} {i : Nat} (h : i < l.length) : ∃ x, l[i]? = some x := ⟨_, List.getElem?_eq_getElem h⟩
theorem ret_bool {a b : Bool} (h : a = b) : Ending.returned (.bool a) = .returned (.bool b) := by rw [h]
theorem ret_int {k : IntKind} {a b : Int} (h : a = b) : Ending.returned (.int k a) = .returned (.int k b) := by rw [h]
theorem below1 (w : World) (o : Obj) (n : Nat) : Below w.heap.size w ((w.alloc o).drewN n) := below_drewN (qal _ o) n
theorem jaf {W w1 : World} (hb : Below W.heap.size W w1) : (∀ b o, b < W.heap.size -> w1.cell? ⟨b, o, none⟩ = W.cell? ⟨b, o, none⟩) /\ (∀ b o, b < W.heap.size -> w1.frozen? ⟨b, o, none⟩ = W.frozen? ⟨b, o, none⟩) :=
 ⟨fun b o h => hb.cell (p := ⟨b, o, none⟩) h, fun b o h => hb.frozen (p := ⟨b, o, none⟩) h⟩
theorem qfz {w v : World} (hb : Below w.heap.size w v) {b o p : Nat} {u : Value} {x : Bool} (h : w.cell? ⟨b, o, none⟩ = some u) (k : w.frozen? ⟨b, p, none⟩ = x) : v.frozen? ⟨b, p, none⟩ = x := ((jaf hb).2 _ _ (World.block_lt_of_cell? _ _ h)).trans k
theorem qce {w v : World} (hb : Below w.heap.size w v) {b o : Nat} {u : Value} {x : Option Value} (h : w.cell? ⟨b, o, none⟩ = some u) (k : w.cell? ⟨b, o, none⟩ = x) : v.cell? ⟨b, o, none⟩ = x := ((jaf hb).1 _ _ (World.block_lt_of_cell? _ _ h)).trans k
theorem spec_l01Is_t (n lo hi : Int) (w : World) (h1 : lo <= n) (h2 : n <= hi) :
  Calls Tryz.prog 13 #[.int .i64 n, .int .i64 lo, .int .i64 hi] w fun e w' => e = .returned (.bool true) /\ w' = w := by
 go_enter Tryz.func13, Tryz.ntmps13
 go_wp2
 go_ret
 exact ⟨ret_bool (by simp), rfl⟩
theorem spec_l01Is_f (n lo hi : Int) (w : World) (h : n < lo \/ hi < n) :
  Calls Tryz.prog 13 #[.int .i64 n, .int .i64 lo, .int .i64 hi] w fun e w' => e = .returned (.bool false) /\ w' = w := by
 by_cases h1 : lo <= n
 ·have h2 : hi < n := by omega
  clear h
  go_enter Tryz.func13, Tryz.ntmps13
  go_wp2
  go_ret
  exact ⟨ret_bool (by simp; omega), rfl⟩
 ·clear h
  go_enter Tryz.func13, Tryz.ntmps13
  go_wp2
  go_ret
  exact ⟨ret_bool (by simp), rfl⟩
def isB (n lo hi : Int) : Bool := decide (lo <= n /\ n <= hi)
theorem isB_t {n lo hi : Int} (h1 : lo <= n) (h2 : n <= hi) : isB n lo hi = true := decide_eq_true ⟨h1, h2⟩
theorem isB_f {n lo hi : Int} (h : ¬ (lo <= n /\ n <= hi)) : isB n lo hi = false := decide_eq_false h
theorem jav {n lo hi : Int} (h : isB n lo hi = true) : lo <= n /\ n <= hi := of_decide_eq_true h
theorem isB_of_f {n lo hi : Int} (h : isB n lo hi = false) : ¬ (lo <= n /\ n <= hi) := of_decide_eq_false h
theorem jap (n lo hi : Int) (w : World) :
  Calls Tryz.prog 13 #[.int .i64 n, .int .i64 lo, .int .i64 hi] w fun e w' => e = .returned (.bool (isB n lo hi)) /\ w' = w := by
 cases h : isB n lo hi
 ·exact spec_l01Is_f n lo hi w (by have := isB_of_f h; omega)
 ·exact spec_l01Is_t n lo hi w (jav h).1 (jav h).2
end Go.Proofs.YtpejeokacilebaaGreatDoor
namespace Go.Cal
def lp (y : Int) : Int := if y % 4 = 0 /\ (y % 100 ≠ 0 \/ y % 400 = 0) then 1 else 0
def dim (y m : Int) : Int :=
 if m = 2 then 28 + lp y else if m = 4 \/ m = 6 \/ m = 9 \/ m = 11 then 30 else 31
def dby (y : Int) : Int := 365 * (y - 1) + (y - 1) / 4 - (y - 1) / 100 + (y - 1) / 400
def cum (y m : Int) : Int :=
 if m <= 1 then 0 else if m = 2 then 31 else
 (if m = 3 then 59 else if m = 4 then 90 else if m = 5 then 120 else if m = 6 then 151 else if m = 7 then 181 else
 if m = 8 then 212 else if m = 9 then 243 else if m = 10 then 273 else if m = 11 then 304 else if m = 12 then 334 else 365) + lp y
theorem lp_01 (y : Int) : 0 <= lp y /\ lp y <= 1 := by unfold lp; split <;> omega
theorem dim_bd (y m : Int) : 28 <= dim y m /\ dim y m <= 31 := by
 have := lp_01 y; unfold dim; split; omega; split <;> omega
theorem cum_one (y : Int) : cum y 1 = 0 := by unfold cum; simp
theorem cum_succ (y m : Int) (h1 : 1 <= m) (h2 : m <= 12) : cum y (m + 1) = cum y m + dim y m := by
 have := lp_01 y
 have hm : m = 1 \/ m = 2 \/ m = 3 \/ m = 4 \/ m = 5 \/ m = 6 \/ m = 7 \/ m = 8 \/ m = 9 \/ m = 10 \/ m = 11 \/ m = 12 := by omega
 rcases hm with h | h | h | h | h | h | h | h | h | h | h | h <;> subst h <;> simp [cum, dim] <;> omega
theorem cum_13 (y : Int) : cum y 13 = 365 + lp y := by simp [cum]
theorem cum_bd (y m : Int) : 0 <= cum y m /\ cum y m <= 366 := by
 have := lp_01 y
 unfold cum; repeat' split
 all_goals omega
theorem dby_succ (y : Int) (_h : 1 <= y) : dby (y + 1) = dby y + 365 + lp y := by
 unfold dby lp
 split <;> omega
theorem dby_mono {a b : Int} (_h0 : 1 <= a) (_h : a <= b) : dby a <= dby b := by unfold dby; omega
theorem dby_bd (y : Int) (h0 : 1 <= y) (h : y <= 10000) : 0 <= dby y /\ dby y <= 3652059 := by unfold dby; omega
theorem dby_10000 : dby 10000 = 3652059 := by unfold dby; omega
theorem cum_mono {y a b : Int} (h0 : 1 <= a) (h : a <= b) (hb : b <= 13) : cum y a <= cum y b := by
 obtain ⟨n, rfl⟩ : ∃ n : Nat, b = a + n := ⟨(b - a).toNat, by omega⟩
 induction n with
 | zero => simp
 | succ k ih =>
  have h1 := ih (by omega) (by omega)
  have h2 := cum_succ y (a + k) (by omega) (by omega)
  have h3 := dim_bd y (a + k)
  have e : a + ((k + 1 : Nat) : Int) = a + k + 1 := by omega
  rw [e]; omega
end Go.Cal
namespace Go.Proofs.YtpejeokacilebaaGreatDoor
section
open Go.RowKit
def lpB (y : Int) : Bool := decide (Cal.lp y = 1)
theorem lpB_t {y : Int} (h : lpB y = true) : Cal.lp y = 1 := of_decide_eq_true h
theorem lpB_f {y : Int} (h : lpB y = false) : Cal.lp y = 0 := by
 have := of_decide_eq_false h; have := Cal.lp_01 y; omega
theorem lpB_mk_t {y : Int} (h : y % 4 = 0 /\ (y % 100 ≠ 0 \/ y % 400 = 0)) : lpB y = true := by
 unfold lpB Cal.lp; rw [if_pos h]; rfl
theorem lpB_mk_f {y : Int} (h : ¬ (y % 4 = 0 /\ (y % 100 ≠ 0 \/ y % 400 = 0))) : lpB y = false := by
 unfold lpB Cal.lp; rw [if_neg h]; rfl
theorem lp_way1 {y : Int} (h4 : y % 4 = 0) (h100 : y % 100 = 0) : (y % 400 == 0) = lpB y := by
 by_cases h : y % 400 = 0
 ·rw [lpB_mk_t ⟨h4, .inr h⟩]; simp [h]
 ·rw [lpB_mk_f (by omega)]; simp [h]
theorem lp_way2 {y : Int} (h4 : y % 4 = 0) (h100 : ¬ y % 100 = 0) : true = lpB y := (lpB_mk_t ⟨h4, .inl h100⟩).symm
theorem lp_way3 {y : Int} (h4 : ¬ y % 4 = 0) : false = lpB y := (lpB_mk_f (by omega)).symm
theorem impl_isLeap (y : Int) (w : World) (h1 : 1 <= y) (h2 : y <= 9999) :
  Calls Tryz.prog 214 #[.int .i64 y] w fun e w' => e = .returned (.bool (lpB y)) /\ w' = w := by
 go_enter Tryz.func214, Tryz.ntmps214
 go_wp2
 all_goals go_ret
 ·exact ⟨ret_bool (lp_way1 ‹_› ‹_›), rfl⟩
 ·exact ⟨ret_bool (lp_way2 ‹_› ‹_›), rfl⟩
 ·exact ⟨ret_bool (lp_way3 ‹_›), rfl⟩
theorem spec_l01Leap (y : Int) (w : World) (h1 : 1 <= y) (h2 : y <= 9999) :
  Calls Tryz.prog 155 #[.int .i64 y] w fun e w' => e = .returned (.bool (lpB y)) /\ w' = w := by
 go_enter Tryz.func155, Tryz.ntmps155
 go_wp2
 all_goals go_ret
 ·exact ⟨ret_bool (lp_way1 ‹_› ‹_›), rfl⟩
 ·exact ⟨ret_bool (lp_way2 ‹_› ‹_›), rfl⟩
 ·exact ⟨ret_bool (lp_way3 ‹_›), rfl⟩
def tabList : List Int := [0, 31, 28, 31, 30, 31, 30, 31, 31, 30, 31, 30, 31]
def Tab (w : World) : Prop := ∀ i : Nat, i < 13 -> w.cell? ⟨0, i, none⟩ = some (.int .i64 (tabList.getD i 0))
theorem tab_dim {y m : Int} (h1 : 1 <= m) (h2 : m <= 12) (h : lpB y = false \/ m ≠ 2) : tabList.getD m.toNat 0 = Cal.dim y m := by
 have hm : m = 1 \/ m = 2 \/ m = 3 \/ m = 4 \/ m = 5 \/ m = 6 \/ m = 7 \/ m = 8 \/ m = 9 \/ m = 10 \/ m = 11 \/ m = 12 := by omega
 rcases hm with e | e | e | e | e | e | e | e | e | e | e | e
 case inr.inl =>
  subst e
  have := lpB_f (h.resolve_right (by simp))
  simp [tabList, Cal.dim, this]
 all_goals subst e; simp [tabList, Cal.dim]
theorem Tab.at {w : World} (h : Tab w) {m : Int} (h1 : 1 <= m) (h2 : m <= 12) : w.cell? ⟨0, m.toNat, none⟩ = some (.int .i64 (tabList.getD m.toNat 0)) := h _ (by omega)
theorem jbp (y m : Int) (w : World) (hT : Tab w) (h1 : 1 <= y) (h2 : y <= 9999) (h3 : 1 <= m) (h4 : m <= 12) :
  Calls Tryz.prog 186 #[.int .i64 y, .int .i64 m] w fun e w' => e = .returned (.int .i64 (Cal.dim y m)) /\ w' = w := by
 have hc2 : w.cell? ⟨0, 2, none⟩ = some (.int .i64 28) := hT 2 (by omega)
 by_cases hm : m = 2
 ·subst hm
  clear hT
  cases hl : lpB y
  ·have e : Cal.dim y 2 = 28 := by have := lpB_f hl; simp [Cal.dim, this]
   rw [e]
   go_enter Tryz.func186, Tryz.ntmps186
   go_wp2_with (go_at_call 214; refine (impl_isLeap _ _ (by omega) (by omega)).mono ?_; rintro e w' ⟨rfl, rfl⟩)
   go_ret
   exact ⟨rfl, rfl⟩
  ·have e : Cal.dim y 2 = 29 := by have := lpB_t hl; simp [Cal.dim, this]
   rw [e]
   go_enter Tryz.func186, Tryz.ntmps186
   go_wp2_with (go_at_call 214; refine (impl_isLeap _ _ (by omega) (by omega)).mono ?_; rintro e w' ⟨rfl, rfl⟩)
   go_ret
   exact ⟨rfl, rfl⟩
 ·have hc := hT.at h3 h4
  rw [tab_dim (y := y) h3 h4 (.inr hm)] at hc
  have hb : (m == 2) = false := by simpa using hm
  clear hT hc2
  generalize Cal.dim y m = v at hc
  go_enter Tryz.func186, Tryz.ntmps186
  go_wp2
  go_ret
  exact ⟨rfl, rfl⟩
def ymB (y m : Int) : Bool := decide (1 <= y /\ y <= 9999 /\ 1 <= m /\ m <= 12)
theorem ymB_t {y m : Int} (h : ymB y m = true) : 1 <= y /\ y <= 9999 /\ 1 <= m /\ m <= 12 := of_decide_eq_true h
theorem ymB_f {y m : Int} (h : ymB y m = false) : y < 1 \/ 9999 < y \/ m < 1 \/ 12 < m := by have := of_decide_eq_false h; omega
def mdays (y m : Int) : Int := if ymB y m = true then Cal.dim y m else 0
theorem mdays_ok {y m : Int} (h1 : 1 <= y) (h2 : y <= 9999) (h3 : 1 <= m) (h4 : m <= 12) : mdays y m = Cal.dim y m := by
 unfold mdays ymB; rw [if_pos (decide_eq_true ⟨h1, h2, h3, h4⟩)]
theorem mdays_no {y m : Int} (h : ymB y m = false) : mdays y m = 0 := by unfold mdays; rw [h]; rfl
theorem mdays_bd (y m : Int) : 0 <= mdays y m /\ mdays y m <= 31 := by
 have := Cal.dim_bd y m; unfold mdays; split <;> omega
theorem impl_MonthDays_no (y m : Int) (w : World) (h : ymB y m = false) :
  Calls Tryz.prog 186 #[.int .i64 y, .int .i64 m] w fun e w' => e = .returned (.int .i64 0) /\ w' = w := by
 have h' := ymB_f h
 clear h
 by_cases c1 : y < 1
 ·go_enter Tryz.func186, Tryz.ntmps186
  go_wp2
  go_ret
  exact ⟨rfl, rfl⟩
 by_cases c2 : 9999 < y
 ·go_enter Tryz.func186, Tryz.ntmps186
  go_wp2
  go_ret
  exact ⟨rfl, rfl⟩
 by_cases c3 : m < 1
 ·go_enter Tryz.func186, Tryz.ntmps186
  go_wp2
  go_ret
  exact ⟨rfl, rfl⟩
 have c4 : 12 < m := by omega
 clear h'
 go_enter Tryz.func186, Tryz.ntmps186
 go_wp2
 go_ret
 exact ⟨rfl, rfl⟩
theorem impl_MonthDays (y m : Int) (w : World) (hT : Tab w) :
  Calls Tryz.prog 186 #[.int .i64 y, .int .i64 m] w fun e w' => e = .returned (.int .i64 (mdays y m)) /\ w' = w := by
 cases h : ymB y m
 ·rw [mdays_no h]; exact impl_MonthDays_no y m w h
 ·have ⟨a, b, c, d⟩ := ymB_t h
  rw [mdays_ok a b c d]; exact jbp y m w hT a b c d
theorem ja9 (y m : Int) (w : World) (h1 : 1 <= y) (h2 : y <= 9999) :
  Calls Tryz.prog 120 #[.int .i64 y, .int .i64 m] w fun e w' => e = .returned (.int .i64 (Cal.dim y m)) /\ w' = w := by
 by_cases hm : m = 2
 ·subst hm
  cases hl : lpB y
  ·have e : Cal.dim y 2 = 28 := by have := lpB_f hl; simp [Cal.dim, this]
   rw [e]
   go_enter Tryz.func120, Tryz.ntmps120
   go_wp2_with (go_at_call 155; refine (spec_l01Leap _ _ (by omega) (by omega)).mono ?_; rintro e w' ⟨rfl, rfl⟩)
   go_ret
   exact ⟨rfl, rfl⟩
  ·have e : Cal.dim y 2 = 29 := by have := lpB_t hl; simp [Cal.dim, this]
   rw [e]
   go_enter Tryz.func120, Tryz.ntmps120
   go_wp2_with (go_at_call 155; refine (spec_l01Leap _ _ (by omega) (by omega)).mono ?_; rintro e w' ⟨rfl, rfl⟩)
   go_ret
   exact ⟨rfl, rfl⟩
 ·have hb : (m == 2) = false := by simpa using hm
  by_cases h30 : m = 4 \/ m = 6 \/ m = 9 \/ m = 11
  ·have e : Cal.dim y m = 30 := by unfold Cal.dim; rw [if_neg hm, if_pos h30]
   rw [e]
   rcases h30 with h | h | h | h <;> subst h <;> clear hm hb e
   all_goals
    go_enter Tryz.func120, Tryz.ntmps120
    go_wp2
    go_ret
    exact ⟨rfl, rfl⟩
  ·have e : Cal.dim y m = 31 := by unfold Cal.dim; rw [if_neg hm, if_neg h30]
   rw [e]
   have b4 : (m == 4) = false := by simp; omega
   have b6 : (m == 6) = false := by simp; omega
   have b9 : (m == 9) = false := by simp; omega
   have b11 : (m == 11) = false := by simp; omega
   clear e h30 hm
   go_enter Tryz.func120, Tryz.ntmps120
   go_wp2
   go_ret
   exact ⟨rfl, rfl⟩
theorem Tab.of_below {w w' : World} (h : Tab w) (hb : Below w.heap.size w w') : Tab w' := fun i hi => by
 rw [hb.cell (p := ⟨0, i, none⟩) (qbl (h i hi))]; exact h i hi
theorem Tab.alloc {w : World} (h : Tab w) (o : Obj) : Tab (w.alloc o) := h.of_below (qal _ o)
theorem Tab.drewN {w : World} (h : Tab w) (n : Nat) : Tab (w.drewN n) := h
theorem spec_l01Year (y : Int) (w : World) :
  Calls Tryz.prog 61 #[.int .i64 y] w fun e w' => e = .returned (.bool (isB y 1 9999)) /\ w' = w := by
 go_enter Tryz.func61, Tryz.ntmps61
 go_wp2_with (go_at_call 13; refine (jap _ _ _ _).mono ?_; rintro e w' ⟨rfl, rfl⟩)
 go_ret
 exact ⟨rfl, rfl⟩
def vldB (y m d : Int) : Bool := decide (1 <= y /\ y <= 9999 /\ 1 <= m /\ m <= 12 /\ 1 <= d /\ d <= Cal.dim y m)
theorem vld_t {y m d : Int} (h : vldB y m d = true) : 1 <= y /\ y <= 9999 /\ 1 <= m /\ m <= 12 /\ 1 <= d /\ d <= Cal.dim y m := of_decide_eq_true h
theorem vld_f {y m d : Int} (h : vldB y m d = false) : ¬ (1 <= y /\ y <= 9999 /\ 1 <= m /\ m <= 12 /\ 1 <= d /\ d <= Cal.dim y m) := of_decide_eq_false h
theorem vld_mk {y m d : Int} (h : 1 <= y /\ y <= 9999 /\ 1 <= m /\ m <= 12 /\ 1 <= d /\ d <= Cal.dim y m) : vldB y m d = true := decide_eq_true h
theorem vld_no {y m d : Int} (h : ¬ (1 <= y /\ y <= 9999 /\ 1 <= m /\ m <= 12 /\ 1 <= d /\ d <= Cal.dim y m)) : vldB y m d = false := decide_eq_false h
theorem vld_mdays {y m d : Int} (h1 : 1 <= d) : vldB y m d = decide (d <= mdays y m) := by
 cases h : ymB y m
 ·rw [mdays_no h]
  have := ymB_f h
  rw [vld_no (by omega)]
  symm; simp; omega
 ·have ⟨a, b, c, e⟩ := ymB_t h
  rw [mdays_ok a b c e]
  by_cases hd : d <= Cal.dim y m
  ·rw [vld_mk ⟨a, b, c, e, h1, hd⟩]; simp [hd]
  ·rw [vld_no (by omega)]; simp [hd]
theorem impl_DateRight (y m d : Int) (w : World) (hT : Tab w) :
  Calls Tryz.prog 238 #[.agg #[.int .i64 y, .int .i64 m, .int .i64 d]] w fun e w' => e = .returned (.bool (vldB y m d)) /\ Below w.heap.size w w' := by
 by_cases h : 1 <= d
 ·rw [vld_mdays h]
  have hM : ∀ o n, Calls Tryz.prog 186 #[.int .i64 y, .int .i64 m] ((w.alloc o).drewN n) fun e w' => e = .returned (.int .i64 (mdays y m)) /\ w' = (w.alloc o).drewN n := fun o n => impl_MonthDays y m _ ((hT.alloc o).drewN n)
  have bd := mdays_bd y m
  generalize mdays y m = v at *
  clear hT
  go_enter Tryz.func238, Tryz.ntmps238
  go_wp2_with fail
  go_quiet ((go_at_call 186; exact Calls.quiet_of_same (hM _ _)))
  go_wp2
  go_ret
  exact ⟨rfl, below1 _ _ _⟩
 ·rw [vld_no (by omega)]
  have hd : decide (1 <= d) = false := by simpa using h
  clear hT
  go_enter Tryz.func238, Tryz.ntmps238
  go_wp2_with fail
  go_quiet (fail)
  go_wp2
  go_ret
  exact ⟨rfl, below1 _ _ _⟩
end
section
open Go.RowKit
def digB (c : Int) : Bool := decide (48 <= c /\ c <= 57)
theorem digB_eq {c : Int} {b : Bool} (h : b = true ↔ (48 <= c /\ c <= 57)) : b = digB c := by
 unfold digB; rw [Bool.eq_iff_iff]; simpa using h
def jad (s : ByteArray) (k : Nat) : Int := if h : k < s.size then (s[k].toNat : Int) else 0
theorem jai (s : ByteArray) (k : Nat) (h : k < s.size) : (s[k].toNat : Int) = jad s k := by unfold jad; rw [dif_pos h]
theorem impl_isDigit (c : Int) (w : World) :
  Calls Tryz.prog 168 #[.int .u8 c] w fun e w' => e = .returned (.bool (digB c)) /\ w' = w := by
 go_enter Tryz.func168, Tryz.ntmps168
 go_wp2
 all_goals go_ret
 all_goals exact ⟨ret_bool (digB_eq (by simp; omega)), rfl⟩
theorem spec_l01Digit (c : Int) (w : World) :
  Calls Tryz.prog 68 #[.int .u8 c] w fun e w' => e = .returned (.bool (digB c)) /\ w' = w := by
 go_enter Tryz.func68, Tryz.ntmps68
 go_wp2
 all_goals go_ret
 all_goals exact ⟨ret_bool (digB_eq (by simp; omega)), rfl⟩
theorem upto_one {p : Nat -> Prop} (h : p 0) : Hid (∀ j, j < 1 -> p j) := fun j hj => by
 obtain rfl : j = 0 := by omega
 exact h
theorem upto_zero {p : Nat -> Prop} : Hid (∀ j, j < 0 -> p j) := fun j hj => by omega
theorem jbg {p : Nat -> Prop} {k : Nat} (h : ∀ j, j < k -> p j) (hk : p k) : Hid (∀ j, j < k + 1 -> p j) := fun j hj => by
 by_cases e : j = k
 ·subst e; exact hk
 ·exact h j (by omega)
theorem digB_t {c : Int} (h : digB c = true) : 48 <= c /\ c <= 57 := of_decide_eq_true h
def jc7 (s : ByteArray) : Nat -> Int
 | 0 => 0
 | k + 1 => 10 * jc7 s k + (jad s k - 48)
def digs (s : ByteArray) : Bool := decide (1 <= s.size /\ ∀ i, i < s.size -> digB (jad s i) = true)
theorem digs_t {s : ByteArray} (h : digs s = true) : 1 <= s.size /\ ∀ i, i < s.size -> digB (jad s i) = true := of_decide_eq_true h
theorem digs_no0 {s : ByteArray} (h : s.size = 0) : digs s = false := decide_eq_false fun hn => by omega
theorem digs_no {s : ByteArray} {k : Nat} (hk : k < s.size) (h : digB (jad s k) = false) : digs s = false := decide_eq_false fun hn => by rw [hn.2 k hk] at h; cases h
theorem digs_yes {s : ByteArray} (h1 : 1 <= s.size) (h : ∀ i, i < s.size -> digB (jad s i) = true) : digs s = true := decide_eq_true ⟨h1, h⟩
theorem numAt_bd {s : ByteArray} {k : Nat} (h : ∀ j, j < k -> digB (jad s j) = true) : 0 <= jc7 s k /\ jc7 s k + 1 <= 10 ^ k := by
 induction k with
 | zero => simp [jc7]
 | succ k ih =>
  have ⟨a, b⟩ := ih (fun j hj => h j (by omega))
  have ⟨c, d⟩ := digB_t (h k (by omega))
  simp only [jc7]
  have e : (10 : Int) ^ (k + 1) = 10 * 10 ^ k := by rw [Int.pow_succ]; omega
  rw [e]
  omega
theorem numAt_bd9 {s : ByteArray} {k : Nat} (hk : k <= 9) (h : ∀ j, j < k -> digB (jad s j) = true) : 0 <= jc7 s k /\ jc7 s k <= 999999999 := by
 have ⟨a, b⟩ := numAt_bd h
 have e : (10 : Int) ^ k <= 10 ^ 9 := by
  have := Nat.pow_le_pow_right (n := 10) (by omega) hk
  exact_mod_cast this
 omega
def drN (s : ByteArray) : Int := if digs s = true then jc7 s s.size else 0
theorem drN_t {s : ByteArray} (h : digs s = true) : drN s = jc7 s s.size := by unfold drN; rw [if_pos h]
theorem drN_f {s : ByteArray} (h : digs s = false) : drN s = 0 := by unfold drN; rw [h]; rfl
theorem ret_pair {a b : Int} {c d : Bool} (h1 : a = b) (h2 : c = d) : Ending.returned (.tuple #[.int .i64 a, .bool c]) = .returned (.tuple #[.int .i64 b, .bool d]) := by rw [h1, h2]
theorem impl_digitsRead (s : ByteArray) (w : World) (hs : s.size <= 9) :
  Calls Tryz.prog 237 #[.string s] w fun e w' => e = .returned (.tuple #[.int .i64 (drN s), .bool (digs s)]) /\ w' = w := by
 by_cases h0 : s.size = 0
 ·have h := digs_no0 h0
  rw [drN_f h, h]
  have hs0 : s = ⟨#[]⟩ := by
   apply ByteArray.ext
   have : s.data.size = 0 := h0
   exact Array.eq_empty_of_size_eq_zero this
  subst hs0
  go_enter Tryz.func237, Tryz.ntmps237
  go_wp2
  go_ret2
  exact ⟨rfl, rfl⟩
 ·have hne : s.toList.isEmpty = false := by
   rw [ByteArray.toList_eq]
   cases hl : s.data.toList with
   | nil => exact absurd (by have := congrArg List.length hl; simpa using this) h0
   | cons _ _ => rfl
  go_enter Tryz.func237, Tryz.ntmps237
  go_wp2
  go_loop [4, 5] (fun x i => ∃ k : Nat, k <= s.size /\ i = .int .i64 k /\ x = .int .i64 (jc7 s k) /\ Hid (∀ j, j < k -> digB (jad s j) = true)) (fun _ i => s.size - (intOf i).toNat)
  case atStart => exact ⟨0, by omega, rfl, rfl, upto_zero⟩
  case round =>
   obtain ⟨k, hk, rfl, rfl, hall⟩ := hrel
   by_cases hlt : k < s.size
   ·have hB := fun w => impl_isDigit (jad s k) w
    have nb := numAt_bd9 (s := s) (k := k) (by omega) hall.out
    have e := jai s k hlt
    cases hb : digB (jad s k)
    ·have HB : Hid (digs s = false) := digs_no hlt hb
     rw [hb, <- e] at hB
     clear hb e
     go_wp2_with (go_at_call 168; refine (hB _).mono ?_; rintro e w' ⟨rfl, rfl⟩)
     go_ret2
     exact ⟨ret_pair (drN_f HB.out).symm HB.out.symm, rfl⟩
    ·have HB := hid hb
     have ⟨b1, b2⟩ := digB_t hb
     have HN : Hid (jc7 s (k + 1) = 10 * jc7 s k + ((s[k].toNat : Int) - 48)) := by simp only [Hid, jc7]; rw [e]
     rw [hb, <- e] at hB
     rw [<- e] at b1 b2
     clear hb e
     go_wp2_with (go_at_call 168; refine (hB _).mono ?_; rintro e w' ⟨rfl, rfl⟩)
     go_round
     case rel => exact ⟨k + 1, by omega, by go_num, by rw [HN.out]; congr 1; omega, jbg hall.out HB.out⟩
     case measure => simp [intOf]; omega
   ·have e : k = s.size := by omega
    subst e
    have HB : Hid (digs s = true) := digs_yes (by omega) hall.out
    go_wp2
    go_ret2
    exact ⟨ret_pair (drN_t HB.out).symm HB.out.symm, rfl⟩
def ldN (s : ByteArray) : Int := if digs s = true then jc7 s s.size else -1
theorem ldN_t {s : ByteArray} (h : digs s = true) : ldN s = jc7 s s.size := by unfold ldN; rw [if_pos h]
theorem ldN_f {s : ByteArray} (h : digs s = false) : ldN s = -1 := by unfold ldN; rw [h]; rfl
end
section
open Go.RowKit
def letB (c : Int) : Bool := decide (97 <= c /\ c <= 122 \/ 65 <= c /\ c <= 90)
def nmB (c : Int) : Bool := letB c || digB c || c == 95 || c == 47 || c == 43 || c == 45
theorem letB_eq {c : Int} {b : Bool} (h : b = true ↔ (97 <= c /\ c <= 122 \/ 65 <= c /\ c <= 90)) : b = letB c := by
 unfold letB; rw [Bool.eq_iff_iff]; simpa using h
theorem jcl (c : Int) (w : World) :
  Calls Tryz.prog 146 #[.int .u8 c] w fun e w' => e = .returned (.bool (letB c)) /\ w' = w := by
 go_enter Tryz.func146, Tryz.ntmps146
 go_wp2
 all_goals go_ret
 all_goals exact ⟨ret_bool (letB_eq (by simp; omega)), rfl⟩
theorem jb9 (c : Int) (w : World) :
  Calls Tryz.prog 67 #[.int .u8 c] w fun e w' => e = .returned (.bool (letB c)) /\ w' = w := by
 go_enter Tryz.func67, Tryz.ntmps67
 go_wp2
 all_goals go_ret
 all_goals exact ⟨ret_bool (letB_eq (by simp; omega)), rfl⟩
theorem nmB_eq {c : Int} {b : Bool} (h : b = true ↔ (letB c = true \/ digB c = true \/ c = 95 \/ c = 47 \/ c = 43 \/ c = 45)) : b = nmB c := by
 unfold nmB; rw [Bool.eq_iff_iff, h]; simp [or_assoc]
theorem impl_isNameByte (c : Int) (w : World) :
  Calls Tryz.prog 147 #[.int .u8 c] w fun e w' => e = .returned (.bool (nmB c)) /\ w' = w := by
 have hL := fun w => jcl c w
 have hD := fun w => impl_isDigit c w
 cases hl : letB c
 ·cases hd : digB c
  ·have key : ∀ b : Bool, (b = true ↔ (c = 95 \/ c = 47 \/ c = 43 \/ c = 45)) -> b = nmB c := fun b h => nmB_eq (by rw [hl, hd]; simpa using h)
   rw [hl] at hL
   rw [hd] at hD
   have KEY := hid key
   clear hl hd key
   go_enter Tryz.func147, Tryz.ntmps147
   go_wp2_with (first | (go_at_call 146; refine (hL _).mono ?_; rintro e w' ⟨rfl, rfl⟩) | (go_at_call 168; refine (hD _).mono ?_; rintro e w' ⟨rfl, rfl⟩))
   all_goals go_ret
   all_goals exact ⟨ret_bool (KEY.out _ (by (try simp) <;> (try omega))), rfl⟩
  ·have key : nmB c = true := by unfold nmB; rw [hd]; simp
   rw [key]
   rw [hl] at hL
   rw [hd] at hD
   clear hl hd key
   go_enter Tryz.func147, Tryz.ntmps147
   go_wp2_with (first | (go_at_call 146; refine (hL _).mono ?_; rintro e w' ⟨rfl, rfl⟩) | (go_at_call 168; refine (hD _).mono ?_; rintro e w' ⟨rfl, rfl⟩))
   go_ret
   exact ⟨rfl, rfl⟩
 ·have key : nmB c = true := by unfold nmB; rw [hl]; simp
  rw [key]
  rw [hl] at hL
  clear hl key
  go_enter Tryz.func147, Tryz.ntmps147
  go_wp2_with (first | (go_at_call 146; refine (hL _).mono ?_; rintro e w' ⟨rfl, rfl⟩) | (go_at_call 168; refine (hD _).mono ?_; rintro e w' ⟨rfl, rfl⟩))
  go_ret
  exact ⟨rfl, rfl⟩
def jay (s : ByteArray) : Bool := decide (1 <= s.size /\ s.size <= 20 /\ letB (jad s 0) = true /\ ∀ i, i < s.size -> nmB (jad s i) = true)
theorem nameB_t {s : ByteArray} (h : jay s = true) : 1 <= s.size /\ s.size <= 20 /\ letB (jad s 0) = true /\ ∀ i, i < s.size -> nmB (jad s i) = true := of_decide_eq_true h
theorem name_no1 {s : ByteArray} (h : ¬ (1 <= s.size /\ s.size <= 20)) : jay s = false := decide_eq_false fun hn => h ⟨hn.1, hn.2.1⟩
theorem name_no2 {s : ByteArray} (h : letB (jad s 0) = false) : jay s = false := decide_eq_false fun hn => by rw [hn.2.2.1] at h; cases h
theorem name_no3 {s : ByteArray} {k : Nat} (hk : k < s.size) (h : nmB (jad s k) = false) : jay s = false := decide_eq_false fun hn => by rw [hn.2.2.2 k hk] at h; cases h
theorem name_yes {s : ByteArray} (h1 : 1 <= s.size) (h2 : s.size <= 20) (h3 : letB (jad s 0) = true) (h4 : ∀ i, i < s.size -> nmB (jad s i) = true) : jay s = true := decide_eq_true ⟨h1, h2, h3, h4⟩
theorem nm_of_let {c : Int} (h : letB c = true) : nmB c = true := by unfold nmB; rw [h]; simp
theorem nmB_cases {c : Int} : (nmB c = true) ↔ (letB c = true \/ digB c = true \/ c = 95 \/ c = 47 \/ c = 43 \/ c = 45) := by
 unfold nmB; simp [or_assoc]
theorem ja4 (s : ByteArray) (w : World) (hs : s.size <= maxLen) :
  Calls Tryz.prog 105 #[.string s] w fun e w' => e = .returned (.bool (jay s)) /\ w' = w := by
 unfold maxLen at hs
 by_cases h1 : s.size < 1
 ·rw [name_no1 (by omega)]
  go_enter Tryz.func105, Tryz.ntmps105
  go_wp2
  go_ret
  exact ⟨rfl, rfl⟩
 by_cases h2 : 20 < s.size
 ·rw [name_no1 (by omega)]
  go_enter Tryz.func105, Tryz.ntmps105
  go_wp2
  go_ret
  exact ⟨rfl, rfl⟩
 have hb0 : 0 < s.size := by omega
 have hL := fun w => jcl (jad s 0) w
 rw [<- jai s 0 hb0] at hL
 cases hl : letB (jad s 0)
 ·rw [name_no2 hl]
  rw [jai s 0 hb0, hl, <- jai s 0 hb0] at hL
  clear hl
  go_enter Tryz.func105, Tryz.ntmps105
  go_wp2_with (go_at_call 146; refine (hL _).mono ?_; rintro e w' ⟨rfl, rfl⟩)
  go_ret
  exact ⟨rfl, rfl⟩
 ·rw [jai s 0 hb0, hl, <- jai s 0 hb0] at hL
  have hN := nm_of_let hl
  have HL := hid hl
  have HN := hid hN
  clear hl hN
  go_enter Tryz.func105, Tryz.ntmps105
  go_wp2_with (go_at_call 146; refine (hL _).mono ?_; rintro e w' ⟨rfl, rfl⟩)
  go_loop [3] (fun i => ∃ k : Nat, 1 <= k /\ k <= s.size /\ i = .int .i64 k /\ Hid (∀ j, j < k -> nmB (jad s j) = true)) (fun i => s.size - (intOf i).toNat)
  case atStart => exact ⟨1, by omega, by omega, rfl, upto_one HN.out⟩
  case round =>
   obtain ⟨k, k1, k2, rfl, hall⟩ := hrel
   by_cases hlt : k < s.size
   ·have hB := fun w => impl_isNameByte (jad s k) w
    cases hb : nmB (jad s k)
    ·have HB := hid hb
     rw [hb, <- jai s k hlt] at hB
     clear hb
     go_wp2_with (go_at_call 147; refine (hB _).mono ?_; rintro e w' ⟨rfl, rfl⟩)
     go_ret
     exact ⟨ret_bool (name_no3 hlt HB.out).symm, rfl⟩
    ·have HB := hid hb
     rw [hb, <- jai s k hlt] at hB
     clear hb
     go_wp2_with (go_at_call 147; refine (hB _).mono ?_; rintro e w' ⟨rfl, rfl⟩)
     go_round
     case rel => exact ⟨k + 1, by omega, by omega, by go_num, jbg hall.out HB.out⟩
     case measure => simp [intOf]; omega
   ·go_wp2
    go_ret
    exact ⟨ret_bool (name_yes (by omega) (by omega) HL.out (fun i hi => hall.out i (by omega))).symm, rfl⟩
theorem jbr (s : ByteArray) (w : World) (hs : s.size <= maxLen) :
  Calls Tryz.prog 32 #[.string s] w fun e w' => e = .returned (.bool (jay s)) /\ w' = w := by
 unfold maxLen at hs
 by_cases h1 : s.size < 1
 ·rw [name_no1 (by omega)]
  go_enter Tryz.func32, Tryz.ntmps32
  go_wp2
  go_ret
  exact ⟨rfl, rfl⟩
 by_cases h2 : 20 < s.size
 ·rw [name_no1 (by omega)]
  go_enter Tryz.func32, Tryz.ntmps32
  go_wp2
  go_ret
  exact ⟨rfl, rfl⟩
 have hb0 : 0 < s.size := by omega
 have hL := fun w => jb9 (jad s 0) w
 rw [<- jai s 0 hb0] at hL
 cases hl : letB (jad s 0)
 ·rw [name_no2 hl]
  rw [jai s 0 hb0, hl, <- jai s 0 hb0] at hL
  clear hl
  go_enter Tryz.func32, Tryz.ntmps32
  go_wp2_with (go_at_call 67; refine (hL _).mono ?_; rintro e w' ⟨rfl, rfl⟩)
  go_ret
  exact ⟨rfl, rfl⟩
 ·rw [jai s 0 hb0, hl, <- jai s 0 hb0] at hL
  have HL := hid hl
  clear hl
  go_enter Tryz.func32, Tryz.ntmps32
  go_wp2_with (go_at_call 67; refine (hL _).mono ?_; rintro e w' ⟨rfl, rfl⟩)
  clear hL
  go_loop [3] (fun i => ∃ k : Nat, k <= s.size /\ i = .int .i64 k /\ Hid (∀ j, j < k -> nmB (jad s j) = true)) (fun i => s.size - (intOf i).toNat)
  case atStart => exact ⟨0, by omega, rfl, upto_zero⟩
  case round =>
   obtain ⟨k, k2, rfl, hall⟩ := hrel
   by_cases hlt : k < s.size
   ·have hN : Hid (nmB (jad s k) = false -> jay s = false) := fun h => name_no3 hlt h
    have hC : Hid (nmB (jad s k) = true ↔ _) := nmB_cases
    have hB := fun w => jb9 (jad s k) w
    have hD := fun w => spec_l01Digit (jad s k) w
    have e := jai s k hlt
    cases hl : letB (jad s k)
    ·cases hd : digB (jad s k)
     ·rw [hl, <- e] at hB
      rw [hd, <- e] at hD
      rw [hl, hd] at hC
      by_cases ho : jad s k = 95 \/ jad s k = 47 \/ jad s k = 43 \/ jad s k = 45
      ·have HB : Hid (nmB (jad s k) = true) := hC.out.2 (by simpa using ho)
       rw [<- e] at ho
       clear hl hd e hC hN
       rcases ho with ho | ho | ho | ho
       all_goals
        rw [ho] at hB hD
        go_wp2_with (first | (go_at_call 67; refine (hB _).mono ?_; rintro e w' ⟨rfl, rfl⟩) | (go_at_call 68; refine (hD _).mono ?_; rintro e w' ⟨rfl, rfl⟩))
        go_round
        case rel => exact ⟨k + 1, by omega, by go_num, jbg hall.out HB.out⟩
        case measure => simp [intOf]; omega
      ·have HB : Hid (nmB (jad s k) = false) := by
        cases h : nmB (jad s k)
        ·rfl
        ·exact absurd (hC.out.1 h) (by simpa using ho)
       rw [<- e] at ho
       have o1 : ((s[k].toNat : Int) != 95) = true := by simp; omega
       have o2 : ((s[k].toNat : Int) != 47) = true := by simp; omega
       have o3 : ((s[k].toNat : Int) != 43) = true := by simp; omega
       have o4 : ((s[k].toNat : Int) != 45) = true := by simp; omega
       clear hl hd e hC ho
       go_wp2_with (first | (go_at_call 67; refine (hB _).mono ?_; rintro e w' ⟨rfl, rfl⟩) | (go_at_call 68; refine (hD _).mono ?_; rintro e w' ⟨rfl, rfl⟩))
       go_ret
       exact ⟨ret_bool (hN.out HB.out).symm, rfl⟩
     ·have HB : Hid (nmB (jad s k) = true) := by unfold nmB; rw [hd]; simp [Hid]
      rw [hl, <- e] at hB
      rw [hd, <- e] at hD
      clear hl hd e hC hN
      go_wp2_with (first | (go_at_call 67; refine (hB _).mono ?_; rintro e w' ⟨rfl, rfl⟩) | (go_at_call 68; refine (hD _).mono ?_; rintro e w' ⟨rfl, rfl⟩))
      go_round
      case rel => exact ⟨k + 1, by omega, by go_num, jbg hall.out HB.out⟩
      case measure => simp [intOf]; omega
    ·have HB : Hid (nmB (jad s k) = true) := nm_of_let hl
     rw [hl, <- e] at hB
     clear hl e hC hN
     go_wp2_with (first | (go_at_call 67; refine (hB _).mono ?_; rintro e w' ⟨rfl, rfl⟩) | (go_at_call 68; refine (hD _).mono ?_; rintro e w' ⟨rfl, rfl⟩))
     go_round
     case rel => exact ⟨k + 1, by omega, by go_num, jbg hall.out HB.out⟩
     case measure => simp [intOf]; omega
   ·go_wp2
    go_ret
    exact ⟨ret_bool (name_yes (by omega) (by omega) HL.out (fun i hi => hall.out i (by omega))).symm, rfl⟩
end
section
open Go.RowKit
def wdv (n : Int) : Int := if isB n (-719162) 2932896 = true then (n + 719163) % 7 else -1
theorem wdv_ok {n : Int} (h1 : -719162 <= n) (h2 : n <= 2932896) : wdv n = (n + 719163) % 7 := by unfold wdv; rw [if_pos (isB_t h1 h2)]
theorem wdv_no {n : Int} (h : ¬ (-719162 <= n /\ n <= 2932896)) : wdv n = -1 := by unfold wdv; rw [isB_f h]; rfl
theorem impl_Weekday (n : Int) (w : World) :
  Calls Tryz.prog 240 #[.int .i64 n] w fun e w' => e = .returned (.int .i64 (wdv n)) /\ w' = w := by
 by_cases h1 : n < -719162
 ·rw [wdv_no (by omega)]
  go_enter Tryz.func240, Tryz.ntmps240
  go_wp2
  go_ret
  exact ⟨rfl, rfl⟩
 by_cases h2 : 2932896 < n
 ·rw [wdv_no (by omega)]
  go_enter Tryz.func240, Tryz.ntmps240
  go_wp2
  go_ret
  exact ⟨rfl, rfl⟩
 ·rw [wdv_ok (by omega) (by omega)]
  go_enter Tryz.func240, Tryz.ntmps240
  go_wp2
  go_ret
  exact ⟨ret_int (by omega), rfl⟩
theorem jco (n : Int) (w : World) (h1 : -800000 <= n) (h2 : n <= 3000000) :
  Calls Tryz.prog 123 #[.int .i64 n] w fun e w' => e = .returned (.int .i64 ((n + 719163) % 7)) /\ w' = w := by
 go_enter Tryz.func123, Tryz.ntmps123
 go_wp2
 go_ret
 exact ⟨ret_int (by omega), rfl⟩
end
section
open Go.RowKit
theorem impl_dby (y : Int) (w : World) (h1 : 1 <= y) (h2 : y <= 10001) :
  Calls Tryz.prog 242 #[.int .i64 y] w fun e w' => e = .returned (.int .i64 (Cal.dby y)) /\ w' = w := by
 unfold Cal.dby
 go_enter Tryz.func242, Tryz.ntmps242
 go_wp2
 go_ret
 exact ⟨ret_int (by omega), rfl⟩
theorem spec_dby (y : Int) (w : World) (h1 : 1 <= y) (h2 : y <= 10001) :
  Calls Tryz.prog 156 #[.int .i64 y] w fun e w' => e = .returned (.int .i64 (Cal.dby y)) /\ w' = w := by
 unfold Cal.dby
 go_enter Tryz.func156, Tryz.ntmps156
 go_wp2
 go_ret
 exact ⟨ret_int (by omega), rfl⟩
def num (y m d : Int) : Int := Cal.dby y - 719162 + Cal.cum y m + d - 1
theorem impl_DaysOf_ok (y m d : Int) (w : World) (hT : Tab w) (hv : vldB y m d = true) :
  Calls Tryz.prog 219 #[.agg #[.int .i64 y, .int .i64 m, .int .i64 d]] w fun e w' => e = .returned (.int .i64 (num y m d)) /\ Below w.heap.size w w' := by
 have ⟨y1, y2, m1, m2, d1, d2⟩ := vld_t hv
 have hR := fun w (h : Tab w) => impl_DateRight y m d w h
 rw [hv] at hR
 have db := Cal.dby_bd y y1 (by omega)
 have dm := Cal.dim_bd y m
 clear hv
 go_enter Tryz.func219, Tryz.ntmps219
 go_wp2_with fail
 refine (hR _ (hT.alloc _)).mono ?_
 rintro e w1 ⟨rfl, hb⟩
 obtain ⟨hc, hf⟩ := jaf hb
 have hz : w.heap.size + 1 <= w1.heap.size := by have := hb.size; simpa using this
 have hT1 : Tab w1 := (hT.alloc _).of_below hb
 have hB : Below w.heap.size w w1 := (qal _ _).trans (hb.mono (by simp))
 clear hR hb hT
 go_wp2_with (go_at_call 242; refine (impl_dby _ _ y1 (by omega)).mono ?_; rintro e w' ⟨rfl, rfl⟩)
 go_loop [3, 4] (fun t k => ∃ j : Int, 1 <= j /\ j <= m /\ k = .int .i64 j /\ t = .int .i64 (Cal.dby y - 719162 + Cal.cum y j)) (fun _ k => (m - intOf k).toNat)
 case atStart => exact ⟨1, by omega, by omega, rfl, by rw [Cal.cum_one]; go_num⟩
 case round =>
  obtain ⟨j, j1, j2, rfl, rfl⟩ := hrel
  have cb := Cal.cum_bd y j
  have cs := Cal.cum_succ y j j1 (by omega)
  have dj := Cal.dim_bd y j
  have CS := hid cs
  clear cs
  by_cases hlt : j < m
  ·go_wp2_with (go_at_call 186; refine (jbp _ _ _ hT1 y1 y2 j1 (by omega)).mono ?_; rintro e w' ⟨rfl, rfl⟩)
   go_round
   case rel => exact ⟨j + 1, by omega, by omega, rfl, by rw [CS.out]; go_num⟩
   case measure => simp [intOf]; omega
  ·have e : j = m := by omega
   subst e
   go_wp2
   go_ret
   exact ⟨ret_int (by unfold num; omega), hB⟩
theorem jby (y m d : Int) (w : World) (y1 : 1 <= y) (y2 : y <= 9999) (m1 : 1 <= m) (m2 : m <= 12) (d1 : 0 <= d) (d2 : d <= 1000) :
  Calls Tryz.prog 121 #[.agg #[.int .i64 y, .int .i64 m, .int .i64 d]] w fun e w' => e = .returned (.int .i64 (num y m d)) /\ Below w.heap.size w w' := by
 have db := Cal.dby_bd y y1 (by omega)
 go_enter Tryz.func121, Tryz.ntmps121
 go_wp2_with (go_at_call 156; refine (spec_dby _ _ y1 (by omega)).mono ?_; rintro e w' ⟨rfl, rfl⟩)
 go_loop [3, 4] (fun t k => ∃ j : Int, 1 <= j /\ j <= m /\ k = .int .i64 j /\ t = .int .i64 (Cal.dby y - 719162 + Cal.cum y j)) (fun _ k => (m - intOf k).toNat)
 case atStart => exact ⟨1, by omega, by omega, rfl, by rw [Cal.cum_one]; go_num⟩
 case round =>
  obtain ⟨j, j1, j2, rfl, rfl⟩ := hrel
  have cb := Cal.cum_bd y j
  have cs := Cal.cum_succ y j j1 (by omega)
  have dj := Cal.dim_bd y j
  have CS := hid cs
  clear cs
  by_cases hlt : j < m
  ·go_wp2_with (go_at_call 120; refine (ja9 _ _ _ y1 y2).mono ?_; rintro e w' ⟨rfl, rfl⟩)
   go_round
   case rel => exact ⟨j + 1, by omega, by omega, rfl, by rw [CS.out]; go_num⟩
   case measure => simp [intOf]; omega
  ·have e : j = m := by omega
   subst e
   go_wp2
   go_ret
   exact ⟨ret_int (by unfold num; omega), qal _ _⟩
end
section
theorem jb2 {x y z : Int} (h : vldB x y z = true) : -719162 <= num x y z /\ num x y z <= 2932896 := by
 have ⟨a, b, c, d, e, f⟩ := vld_t h
 have h1 := Cal.dby_bd x a (by omega)
 have h2 := Cal.cum_bd x y
 have h3 := Cal.cum_succ x y c d
 have h4 := Cal.cum_mono (y := x) (a := y + 1) (b := 13) (by omega) (by omega) (by omega)
 have h5 := Cal.cum_13 x
 have h6 := Cal.dby_succ x a
 have h7 := Cal.dby_mono (a := x + 1) (b := 10000) (by omega) (by omega)
 have h8 := Cal.dby_10000
 unfold num
 omega
end
section
abbrev S (l : List UInt8) : ByteArray := ⟨l.toArray⟩
theorem S_size (l : List UInt8) : (S l).size = l.length := by simp [ByteArray.size]
theorem byteAt_ex {s : ByteArray} {a b i : Nat} (hb : b <= s.size) (hi : i < b - a) : jad (s.extract a b) i = jad s (a + i) := by
 have h1 : i < (s.extract a b).size := by rw [ByteArray.size_extract]; omega
 have h2 : a + i < s.size := by omega
 rw [<- jai _ _ h1, <- jai _ _ h2, ByteArray.getElem_extract]
theorem byteAt_S {l : List UInt8} {i : Nat} {c : UInt8} (h : l[i]? = some c) : jad (S l) i = (c.toNat : Int) := by
 obtain ⟨hi, hc⟩ := List.getElem?_eq_some_iff.mp h
 have h1 : i < (S l).size := by rw [S_size]; exact hi
 rw [<- jai _ _ h1]
 subst hc
 rfl
theorem bytes_ext {s t : ByteArray} (hz : s.size = t.size) (h : ∀ i, i < s.size -> jad s i = jad t i) : s = t := by
 apply ByteArray.ext_getElem hz
 intro i h1 h2
 have := h i h1
 rw [<- jai _ _ h1, <- jai _ _ h2] at this
 apply UInt8.toNat_inj.mp
 omega
end
end Go.Proofs.YtpejeokacilebaaGreatDoor
