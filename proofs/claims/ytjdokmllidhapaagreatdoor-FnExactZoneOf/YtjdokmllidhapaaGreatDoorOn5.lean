/- What DayOn tells: the program's. -/
import Derived.Test.YtjdokmllidhapaaGreatDoorOn4
import Derived.LoopN
import Derived.Laws.EntriesVeiled
namespace Go.Proofs.YtjdokmllidhapaaGreatDoor
open Go.RowKit

/-- the first of four that is a day. -/
def orV (a b c d : Int) : Int := if a = -1000000 then (if b = -1000000 then (if c = -1000000 then d else c) else b) else a
def onV (y m : Int) (s : ByteArray) : Int := orV (nbV y m s) (lomV y m s) (firstV y m s) (lastV y m s)
set_option maxHeartbeats 1000000 in
theorem impl_told_ok (y m : Int) (s : ByteArray) (w : World) (hT : Tab w) (hM : Mx w) (hy : ymB y m = true) (hz : s.size ≤ 1048576) :
    Calls Tryz.prog 207 #[.agg #[.int .i64 y, .int .i64 m, .string s]] w fun e w' => e = .returned (.int .i64 (onV y m s)) ∧ Below w.heap.size w w' := by
  have ⟨y1, y2, m1, m2⟩ := ymB_t hy
  have hD := fun w (h : Tab w) => impl_MonthDays_ok y m w h y1 y2 m1 m2
  have dm := Cal.dim_bd y m
  have h0 := fun w (h : Tab w) => impl_dayOfMonth y m s w h (by unfold maxLen; omega)
  have h1 := fun w (h : Tab w) => impl_lastOfMonth y m s w h hy
  have h2 := fun w (h : Tab w) (k : Mx w) => impl_firstFrom y m s w h k hz
  have h3 := fun w (h : Tab w) (k : Mx w) => impl_lastUpTo y m s w h k hz
  have i0 : ∀ (w : World) (x0 x1 x2 x3 : Value), (Instr.index 268 (.agg #[x0, x1, x2, x3]) (.int .i64 0)).run Tryz.prog w = .ok x0 w := fun _ _ _ _ _ => by kernel_rfl
  have i1 : ∀ (w : World) (x0 x1 x2 x3 : Value), (Instr.index 268 (.agg #[x0, x1, x2, x3]) (.int .i64 1)).run Tryz.prog w = .ok x1 w := fun _ _ _ _ _ => by kernel_rfl
  have i2 : ∀ (w : World) (x0 x1 x2 x3 : Value), (Instr.index 268 (.agg #[x0, x1, x2, x3]) (.int .i64 2)).run Tryz.prog w = .ok x2 w := fun _ _ _ _ _ => by kernel_rfl
  have i3 : ∀ (w : World) (x0 x1 x2 x3 : Value), (Instr.index 268 (.agg #[x0, x1, x2, x3]) (.int .i64 3)).run Tryz.prog w = .ok x3 w := fun _ _ _ _ _ => by kernel_rfl
  unfold onV
  generalize nbV y m s = d0 at *
  generalize lomV y m s = d1 at *
  generalize firstV y m s = d2 at *
  generalize lastV y m s = d3 at *
  generalize Cal.dim y m = dd at *
  have hne : (dd == 0) = false := by simp; omega
  clear y1 y2 m1 m2 hy
  go_enter Tryz.func207, Tryz.ntmps207
  go_wp2_with fail
  refine (hD _ (hT.alloc _)).mono ?_
  rintro e w' ⟨rfl, rfl⟩
  go_wp2_with fail
  refine wp_loop_rounds 5 ?_
  rw [rounds_succ]
  go_wp2_with fail
  refine (h0 _ ((hT.alloc _).alloc _)).mono ?_
  rintro e w1 ⟨rfl, hb1⟩
  have hB1 := (((Below.refl w.heap.size w).alloc (Nat.le_refl _) _).alloc (by simp) _).trans (hb1.mono (by simp; omega))
  obtain ⟨hc1, _⟩ := bcell hb1
  by_cases e0 : d0 = -1000000
  case neg =>
    have g0 : (d0 != -1000000) = true := by simpa using e0
    go_wp2
    go_ret
    exact ⟨ret_int (by simp [orV, e0]), hB1⟩
  subst e0
  have hT1 := hT.of_below hB1
  have hM1 := hM.of_below hB1
  have q0 : w1.cell? ⟨w.heap.size, 0, none⟩ = some (.int .i64 y) := by rw [hc1 _ _ (by simp; omega)]; simp
  have q1 : w1.cell? ⟨w.heap.size, 1, none⟩ = some (.int .i64 m) := by rw [hc1 _ _ (by simp; omega)]; simp
  have q2 : w1.cell? ⟨w.heap.size, 2, none⟩ = some (.string s) := by rw [hc1 _ _ (by simp; omega)]; simp
  have hlt1 : w.heap.size < w1.heap.size := World.block_lt_of_cell? _ _ q0
  clear hb1 hc1
  go_wp2_with fail
  rw [rounds_succ]
  go_wp2_with fail
  refine (h1 _ hT1).mono ?_
  rintro e w2 ⟨rfl, hb2⟩
  have hB2 := hB1.trans (hb2.mono hB1.size)
  obtain ⟨hc2, _⟩ := bcell hb2
  by_cases e1 : d1 = -1000000
  case neg =>
    have g0 : (d1 != -1000000) = true := by simpa using e1
    go_wp2
    go_ret
    exact ⟨ret_int (by simp [orV, e1]), hB2⟩
  subst e1
  have hT2 := hT.of_below hB2
  have hM2 := hM.of_below hB2
  have p0 : w2.cell? ⟨w.heap.size, 0, none⟩ = some (.int .i64 y) := by rw [hc2 _ _ hlt1]; exact q0
  have p1 : w2.cell? ⟨w.heap.size, 1, none⟩ = some (.int .i64 m) := by rw [hc2 _ _ hlt1]; exact q1
  have p2 : w2.cell? ⟨w.heap.size, 2, none⟩ = some (.string s) := by rw [hc2 _ _ hlt1]; exact q2
  have hlt2 : w.heap.size < w2.heap.size := World.block_lt_of_cell? _ _ p0
  clear hb2 hc2 q0 q1 q2
  go_wp2_with fail
  rw [rounds_succ]
  go_wp2_with fail
  refine (h2 _ hT2 hM2).mono ?_
  rintro e w3 ⟨rfl, hb3⟩
  have hB3 := hB2.trans (hb3.mono hB2.size)
  obtain ⟨hc3, _⟩ := bcell hb3
  by_cases e2 : d2 = -1000000
  case neg =>
    have g0 : (d2 != -1000000) = true := by simpa using e2
    go_wp2
    go_ret
    exact ⟨ret_int (by simp [orV, e2]), hB3⟩
  subst e2
  have hT3 := hT.of_below hB3
  have hM3 := hM.of_below hB3
  have q0 : w3.cell? ⟨w.heap.size, 0, none⟩ = some (.int .i64 y) := by rw [hc3 _ _ hlt2]; exact p0
  have q1 : w3.cell? ⟨w.heap.size, 1, none⟩ = some (.int .i64 m) := by rw [hc3 _ _ hlt2]; exact p1
  have q2 : w3.cell? ⟨w.heap.size, 2, none⟩ = some (.string s) := by rw [hc3 _ _ hlt2]; exact p2
  clear hb3 hc3 p0 p1 p2
  go_wp2_with fail
  rw [rounds_succ]
  go_wp2_with fail
  refine (h3 _ hT3 hM3).mono ?_
  rintro e w4 ⟨rfl, hb4⟩
  have hB4 := hB3.trans (hb4.mono hB3.size)
  by_cases e3 : d3 = -1000000
  case neg =>
    have g0 : (d3 != -1000000) = true := by simpa using e3
    go_wp2
    go_ret
    exact ⟨ret_int (by simp [orV]), hB4⟩
  subst e3
  go_wp2_with fail
  rw [rounds_succ]
  go_wp2
  go_ret
  exact ⟨ret_int (by simp [orV]), hB4⟩
set_option maxHeartbeats 400000 in
theorem impl_told_no (y m : Int) (s : ByteArray) (w : World) (hT : Tab w) (hy : ymB y m = false) :
    Calls Tryz.prog 207 #[.agg #[.int .i64 y, .int .i64 m, .string s]] w fun e w' => e = .returned (.int .i64 (-1000000)) ∧ Below w.heap.size w w' := by
  have hD := fun w (h : Tab w) => impl_MonthDays y m w h
  rw [mdays_no hy] at hD
  go_enter Tryz.func207, Tryz.ntmps207
  go_wp2_with fail
  refine (hD _ (hT.alloc _)).mono ?_
  rintro e w' ⟨rfl, rfl⟩
  go_wp2
  go_ret
  exact ⟨rfl, (Below.refl _ _).alloc (Nat.le_refl _) _⟩
/-- what is told of a year, a month and a text. -/
def toldV (y m : Int) (s : ByteArray) : Int := if ymB y m = true then onV y m s else -1000000
theorem impl_told (y m : Int) (s : ByteArray) (w : World) (hT : Tab w) (hM : Mx w) (hz : s.size ≤ 1048576) :
    Calls Tryz.prog 207 #[.agg #[.int .i64 y, .int .i64 m, .string s]] w fun e w' => e = .returned (.int .i64 (toldV y m s)) ∧ Below w.heap.size w w' := by
  unfold toldV
  cases hy : ymB y m
  · exact impl_told_no y m s w hT hy
  · exact impl_told_ok y m s w hT hM hy hz
set_option maxHeartbeats 400000 in
theorem impl_DayOn (y m : Int) (s : ByteArray) (w : World) (hT : Tab w) (hM : Mx w) (hz : s.size ≤ 8000) :
    Calls Tryz.prog 174 #[.int .i64 y, .int .i64 m, .string s] w fun e w' => e = .returned (.int .i64 (toldV y m s)) ∧ Below w.heap.size w w' := by
  have hX := fun w (h : Tab w) (k : Mx w) => impl_told y m s w h k (by omega)
  generalize toldV y m s = r at *
  go_enter Tryz.func174, Tryz.ntmps174
  go_wp2_with fail
  refine (hX _ hT hM).mono ?_
  rintro e w1 ⟨rfl, hb⟩
  go_wp2
  go_ret
  exact ⟨rfl, hb⟩
end Go.Proofs.YtjdokmllidhapaaGreatDoor
