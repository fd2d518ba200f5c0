/- The forms of a day's text: the program's four. -/
import Derived.Test.YtjdokmllidhapaaGreatDoorOn2
import Derived.Test.YtjdokmllidhapaaGreatDoorShelf
import Derived.Lib.QuietBelow
import Derived.Deep.RegionHeld3
import Derived.Deep.Cut
import Derived.Deep.CutRange
namespace Go.Proofs.YtjdokmllidhapaaGreatDoor
open Go.RowKit Go.Sort

theorem rgS {f : FuncId} {args : Array Value} {W : World} {v : Value} (h : ∀ w, Calls Tryz.prog f args w fun e w' => e = .returned v ∧ w' = w) :
    ∀ dd os, Calls Tryz.prog f args (grow (redrawn W dd) os) fun e w'' => e = .returned v ∧ ∃ p : Regrown, w'' = grow (redrawn W p.d) p.os :=
  fun dd os => Calls.regrown_of ((h _).mono fun e w' ⟨he, hw⟩ => ⟨he, by subst hw; exact Below.refl _ _⟩)
theorem rgA {f : FuncId} {args : Array Value} {W : World} {v : Value} (hT : Tab W) (h : ∀ w, Tab w → Calls Tryz.prog f args w fun e w' => e = .returned v ∧ Below w.heap.size w w') :
    ∀ dd os, Calls Tryz.prog f args (grow (redrawn W dd) os) fun e w'' => e = .returned v ∧ ∃ p : Regrown, w'' = grow (redrawn W p.d) p.os :=
  fun dd os => Calls.regrown_of (h _ (hT.of_below (below_regrown W dd os)))
/-- the machine's greatest length for a search by its own means: some number. -/
def Mx (w : World) : Prop := ∃ m : Int, w.cell? ⟨0, 0, none⟩ = some (.int .i64 m)
theorem Mx.of_below {w w' : World} (h : Mx w) (hb : Below w.heap.size w w') : Mx w' := by
  obtain ⟨m, hm⟩ := h
  exact ⟨m, by rw [(bcell hb).1 _ _ (World.block_lt_of_cell? _ _ hm)]; exact hm⟩
theorem Mx.alloc {w : World} (h : Mx w) (o : Obj) : Mx (w.alloc o) := h.of_below ((Below.refl _ _).alloc (Nat.le_refl _) o)
set_option maxHeartbeats 400000 in
theorem impl_dayOfMonth (y m : Int) (s : ByteArray) (w : World) (hT : Tab w) (hz : s.size ≤ maxLen) :
    Calls Tryz.prog 243 #[.agg #[.int .i64 y, .int .i64 m, .string s]] w fun e w' => e = .returned (.int .i64 (nbV y m s)) ∧ Below w.heap.size w w' := by
  have hN := fun w (h : Tab w) => impl_numbered y m s s w h hz
  generalize nbV y m s = k at *
  go_enter Tryz.func243, Tryz.ntmps243
  go_wp2_with fail
  refine (hN _ (hT.alloc _)).mono ?_
  rintro e w1 ⟨rfl, hb⟩
  go_wp2
  go_ret
  exact ⟨rfl, ((Below.refl _ _).alloc (Nat.le_refl _) _).trans (hb.mono (by simp))⟩
/-- what is ahead of a sign of two bytes, behind it, and whether it is there. -/
def cutA (s : ByteArray) (a b : UInt8) : ByteArray := ⟨(Lib.cut s.data.toList [a, b]).1.toArray⟩
def cutZ (s : ByteArray) (a b : UInt8) : ByteArray := ⟨(Lib.cut s.data.toList [a, b]).2.1.toArray⟩
def cutB (s : ByteArray) (a b : UInt8) : Bool := (Lib.cut s.data.toList [a, b]).2.2
def firstV (y m : Int) (s : ByteArray) : Int := if cutB s 62 61 = true then fromV (wdN (cutA s 62 61)) (nbV y m (cutZ s 62 61)) else -1000000
def lastV (y m : Int) (s : ByteArray) : Int := if cutB s 60 61 = true then uptoV (wdN (cutA s 60 61)) (nbV y m (cutZ s 60 61)) else -1000000
theorem cutZ_le (s : ByteArray) (a b : UInt8) : (cutZ s a b).size ≤ s.size := by
  unfold cutZ Lib.cut
  simp only [ByteArray.size]
  split <;> simp
theorem impl_Cut (s : ByteArray) (a b : UInt8) (w : World) (hM : Mx w) (hs : s.size < 4294967281) :
    Calls Tryz.prog 49 #[.string s, .string ⟨#[a, b]⟩] w fun e w' => e = .returned (.tuple #[.string (cutA s a b), .string (cutZ s a b), .bool (cutB s a b)]) ∧ ∃ n, w' = w.drewN n := by
  obtain ⟨m, hm⟩ := hM
  exact Tryz.strings_Cut s ⟨#[a, b]⟩ m w hs hm
set_option maxHeartbeats 1000000 in
theorem impl_firstFrom (y m : Int) (s : ByteArray) (w : World) (hT : Tab w) (hM : Mx w) (hz : s.size ≤ 1048576) :
    Calls Tryz.prog 245 #[.agg #[.int .i64 y, .int .i64 m, .string s]] w fun e w' => e = .returned (.int .i64 (firstV y m s)) ∧ Below w.heap.size w w' := by
  have hC := fun w (h : Mx w) => impl_Cut s 62 61 w h (by omega)
  have hN := fun w (h : Tab w) => impl_numbered y m s (cutZ s 62 61) w h (by have := cutZ_le s 62 61; unfold maxLen; omega)
  have hD := fun w => impl_weekdayNamed (cutA s 62 61) w
  have hF := fun w => impl_weekdayFrom (wdN (cutA s 62 61)) (nbV y m (cutZ s 62 61)) w (wdN_bd _) (nbV_bd _ _ _)
  unfold firstV
  generalize wdN (cutA s 62 61) = v at *
  generalize nbV y m (cutZ s 62 61) = k at *
  generalize cutA s 62 61 = sa at *
  generalize cutZ s 62 61 = sz at *
  cases hb : cutB s 62 61
  · rw [hb] at hC
    clear hb
    simp only [Bool.false_eq_true, if_false]
    go_enter Tryz.func245, Tryz.ntmps245
    go_wp2_with fail
    refine (hC _ (hM.alloc _)).mono ?_
    rintro e w1 ⟨rfl, n, rfl⟩
    go_wp2
    go_ret
    exact ⟨rfl, below1 _ _ _⟩
  · rw [hb] at hC
    clear hb
    simp only [if_true]
    generalize fromV v k = r at *
    go_enter Tryz.func245, Tryz.ntmps245
    go_wp2_with fail
    refine (hC _ (hM.alloc _)).mono ?_
    rintro e w1 ⟨rfl, n, rfl⟩
    go_wp2_with fail
    have hBW := below1 w (.cells #[.int .i64 y, .int .i64 m, .string s] 236) n
    have hTW := hT.of_below hBW
    have k0 := cell_regrown (w := (w.alloc (.cells #[.int .i64 y, .int .i64 m, .string s] 236)).drewN n) (a := ⟨w.heap.size, 0, none⟩) (v := .int .i64 y) (by simp)
    have k1 := cell_regrown (w := (w.alloc (.cells #[.int .i64 y, .int .i64 m, .string s] 236)).drewN n) (a := ⟨w.heap.size, 1, none⟩) (v := .int .i64 m) (by simp)
    have k2 := cell_regrown (w := (w.alloc (.cells #[.int .i64 y, .int .i64 m, .string s] 236)).drewN n) (a := ⟨w.heap.size, 2, none⟩) (v := .string s) (by simp)
    generalize (w.alloc (.cells #[.int .i64 y, .int .i64 m, .string s] 236)).drewN n = W at *
    have cD := rgS (W := W) hD
    have cF := rgS (W := W) hF
    have cN := rgA hTW hN
    refine wp_region_quiet_below (by kernel_rfl) (by kernel_rfl) ?_
    repeat (quiet_step (first | (go_at_call 283; exact cD _ _) | (go_at_call 280; exact cN _ _) | (go_at_call 285; exact cF _ _)))
    refine wpQuiet_nil ?_
    intro _ hw'
    obtain ⟨⟨dq, osq⟩, hw''⟩ := hw'
    subst hw''
    go_wp2
    go_ret
    exact ⟨rfl, hBW.trans ((below_regrown _ dq osq).mono hBW.size)⟩
end Go.Proofs.YtjdokmllidhapaaGreatDoor
