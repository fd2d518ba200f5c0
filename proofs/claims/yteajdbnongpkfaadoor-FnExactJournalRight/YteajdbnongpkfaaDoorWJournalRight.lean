/- The walk of the law FnExactJournalRight. -/
import Derived.Test.YteajdbnongpkfaaDoorJ8
import Derived.Test.YteajdbnongpkfaaDoorJ11
namespace Go.Proofs.YteajdbnongpkfaaDoor.journalRight
open Go.RowKit

set_option maxRecDepth 20000 in
set_option maxHeartbeats 2000000 in
theorem walk (s : ByteArray) (y : Int) (w : World) (hs : s.size ≤ maxLen) (hMx : MxA w) :
    Calls Tryd.prog 3 #[.agg #[.string s, .int .i64 y]] w fun e w' => e = .returned (.bool true) ∧ Below w.heap.size w w' := by
  have hB0 := (Below.refl w.heap.size w).alloc (Nat.le_refl _) (.cells #[.string s, .int .i64 y] 23)
  have x0 : (w.alloc (.cells #[.string s, .int .i64 y] 23)).cell? ⟨w.heap.size, 0, none⟩ = some (.string s) := by simp [go_sem]
  have y0 : (w.alloc (.cells #[.string s, .int .i64 y] 23)).cell? ⟨w.heap.size, 1, none⟩ = some (.int .i64 y) := by simp [go_sem]
  have hZ := fun w => laws_szJournal s y w (by unfold maxLen at hs; omega)
  have hT := fun w => laws_toJournal s y w
  unfold maxLen at hs
  by_cases g : s.size ≤ 1048576
  · rw [if_pos g] at hZ
    have hS := fun w => spec_JournalRight s y w
    have hI := fun w (h : MxA w) => impl_JournalRight s y w h
    generalize jB s y = J at *
    have g' : ¬ ((1048576 : Int) - s.size < 0) := by omega
    go_enter Tryd.func3, Tryd.ntmps3
    go_wp2_with fail
    refine (hZ _).mono ?_
    rintro e w1 ⟨rfl, hb1⟩
    have hB1 := hB0.trans (hb1.mono hB0.size)
    have x1 := ((bcell hb1).1 _ _ (World.block_lt_of_cell? _ _ x0)).trans x0
    have y1 := ((bcell hb1).1 _ _ (World.block_lt_of_cell? _ _ y0)).trans y0
    clear hb1 x0 y0
    go_wp2_with fail
    refine (hT _).mono ?_
    rintro e w2 ⟨rfl, hb2⟩
    have hB2 := hB1.trans (hb2.mono hB1.size)
    have x2 := ((bcell hb2).1 _ _ (World.block_lt_of_cell? _ _ x1)).trans x1
    have y2 := ((bcell hb2).1 _ _ (World.block_lt_of_cell? _ _ y1)).trans y1
    clear hb2 x1 y1
    go_wp2_with fail
    refine (hS _).mono ?_
    rintro e w3 ⟨rfl, hb3⟩
    have hB3 := hB2.trans (hb3.mono hB2.size)
    have x3 := ((bcell hb3).1 _ _ (World.block_lt_of_cell? _ _ x2)).trans x2
    have y3 := ((bcell hb3).1 _ _ (World.block_lt_of_cell? _ _ y2)).trans y2
    clear hb3 x2 y2
    go_wp2_with fail
    refine (hT _).mono ?_
    rintro e w4 ⟨rfl, hb4⟩
    have hB4 := hB3.trans (hb4.mono hB3.size)
    have x4 := ((bcell hb4).1 _ _ (World.block_lt_of_cell? _ _ x3)).trans x3
    have y4 := ((bcell hb4).1 _ _ (World.block_lt_of_cell? _ _ y3)).trans y3
    clear hb4 x3 y3
    go_wp2_with fail
    refine (hI _ (hMx.of_below hB4)).mono ?_
    rintro e w5 ⟨rfl, hb5⟩
    have hB5 := hB4.trans (hb5.mono hB4.size)
    have x5 := ((bcell hb5).1 _ _ (World.block_lt_of_cell? _ _ x4)).trans x4
    have y5 := ((bcell hb5).1 _ _ (World.block_lt_of_cell? _ _ y4)).trans y4
    clear hb5 x4 y4
    go_wp2
    go_ret
    exact ⟨rfl, hB5⟩
  · rw [if_neg g] at hZ
    clear hT
    go_enter Tryd.func3, Tryd.ntmps3
    go_wp2_with fail
    refine (hZ _).mono ?_
    rintro e w1 ⟨rfl, hb1⟩
    go_wp2
    go_ret
    exact ⟨rfl, hB0.trans (hb1.mono hB0.size)⟩
end Go.Proofs.YteajdbnongpkfaaDoor.journalRight
