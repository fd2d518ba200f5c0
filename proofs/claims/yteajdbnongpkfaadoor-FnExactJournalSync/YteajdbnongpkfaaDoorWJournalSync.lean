/- The walk of the law FnExactJournalSync. -/
import Derived.Test.YteajdbnongpkfaaDoorJ9
import Derived.Test.YteajdbnongpkfaaDoorJ11
namespace Go.Proofs.YteajdbnongpkfaaDoor.journalSync
open Go.RowKit

set_option maxRecDepth 20000 in
set_option maxHeartbeats 2000000 in
theorem walk (s : ByteArray) (y : Int) (w : World) (hs : s.size ≤ maxLen) (hMx : MxA w) :
    Calls Tryd.prog 5 #[.agg #[.string s, .int .i64 y]] w fun e w' => e = .returned (.bool true) ∧ Below w.heap.size w w' := by
  have hB0 := (Below.refl w.heap.size w).alloc (Nat.le_refl _) (.cells #[.string s, .int .i64 y] 23)
  have x0 : (w.alloc (.cells #[.string s, .int .i64 y] 23)).cell? ⟨w.heap.size, 0, none⟩ = some (.string s) := by simp [go_sem]
  have y0 : (w.alloc (.cells #[.string s, .int .i64 y] 23)).cell? ⟨w.heap.size, 1, none⟩ = some (.int .i64 y) := by simp [go_sem]
  have hZ := fun w => laws_szJournal s y w (by unfold maxLen at hs; omega)
  have hT := fun w => laws_toJournal s y w
  unfold maxLen at hs
  by_cases g : s.size ≤ 1048576
  · rw [if_pos g] at hZ
    have hS := fun w => spec_JournalSync s y w
    have hI := fun w (h : MxA w) => impl_JournalSync s y w h
    have hE := fun w => laws_eqJournal s (syncY s y) w
    generalize syncY s y = Y at *
    have g' : ¬ ((1048576 : Int) - s.size < 0) := by omega
    go_enter Tryd.func5, Tryd.ntmps5
    go_wp2_with fail
    refine (hZ _).mono ?_
    rintro e w1 ⟨rfl, hb1⟩
    have hB1 := hB0.trans (hb1.mono hB0.size)
    have x1 := ((bcell hb1).1 _ _ (World.block_lt_of_cell? _ _ x0)).trans x0
    have y1 := ((bcell hb1).1 _ _ (World.block_lt_of_cell? _ _ y0)).trans y0
    clear hb1 x0 y0
    go_wp2_with fail
    refine (hT _).mono ?_
    rintro e w2 ⟨rfl, hb2⟩
    have hB2 := hB1.trans (hb2.mono hB1.size)
    have x2 := ((bcell hb2).1 _ _ (World.block_lt_of_cell? _ _ x1)).trans x1
    have y2 := ((bcell hb2).1 _ _ (World.block_lt_of_cell? _ _ y1)).trans y1
    clear hb2 x1 y1
    go_wp2_with fail
    refine (hS _).mono ?_
    rintro e w3 ⟨rfl, hb3⟩
    have hB3 := hB2.trans (hb3.mono hB2.size)
    have x3 := ((bcell hb3).1 _ _ (World.block_lt_of_cell? _ _ x2)).trans x2
    have y3 := ((bcell hb3).1 _ _ (World.block_lt_of_cell? _ _ y2)).trans y2
    clear hb3 x2 y2
    have hB4 : Below w.heap.size w (w3.alloc (.cells #[.string s, .int .i64 Y] 26)) := hB3.alloc hB3.size _
    have x4 : (w3.alloc (.cells #[.string s, .int .i64 Y] 26)).cell? ⟨w.heap.size, 0, none⟩ = _ := ((bcell ((Below.refl w3.heap.size w3).alloc (Nat.le_refl _) _)).1 _ _ (World.block_lt_of_cell? _ _ x3)).trans x3
    have y4 : (w3.alloc (.cells #[.string s, .int .i64 Y] 26)).cell? ⟨w.heap.size, 1, none⟩ = _ := ((bcell ((Below.refl w3.heap.size w3).alloc (Nat.le_refl _) _)).1 _ _ (World.block_lt_of_cell? _ _ y3)).trans y3
    have p4 : (w3.alloc (.cells #[.string s, .int .i64 Y] 26)).cell? ⟨w3.heap.size, 0, none⟩ = some (.string s) := by simp [go_sem]
    have q4 : (w3.alloc (.cells #[.string s, .int .i64 Y] 26)).cell? ⟨w3.heap.size, 1, none⟩ = some (.int .i64 Y) := by simp [go_sem]
    clear x3 y3
    go_wp2_with fail
    refine (hT _).mono ?_
    rintro e w5 ⟨rfl, hb5⟩
    have hB5 := hB4.trans (hb5.mono hB4.size)
    have x5 := ((bcell hb5).1 _ _ (World.block_lt_of_cell? _ _ x4)).trans x4
    have y5 := ((bcell hb5).1 _ _ (World.block_lt_of_cell? _ _ y4)).trans y4
    have p5 := ((bcell hb5).1 _ _ (World.block_lt_of_cell? _ _ p4)).trans p4
    have q5 := ((bcell hb5).1 _ _ (World.block_lt_of_cell? _ _ q4)).trans q4
    clear hb5 x4 y4 p4 q4
    go_wp2_with fail
    refine (hI _ (hMx.of_below hB5)).mono ?_
    rintro e w6 ⟨rfl, hb6⟩
    have hB6 := hB5.trans (hb6.mono hB5.size)
    have x6 := ((bcell hb6).1 _ _ (World.block_lt_of_cell? _ _ x5)).trans x5
    have y6 := ((bcell hb6).1 _ _ (World.block_lt_of_cell? _ _ y5)).trans y5
    have p6 := ((bcell hb6).1 _ _ (World.block_lt_of_cell? _ _ p5)).trans p5
    have q6 := ((bcell hb6).1 _ _ (World.block_lt_of_cell? _ _ q5)).trans q5
    clear hb6 x5 y5 p5 q5
    have hB7 : Below w.heap.size w (w6.alloc (.cells #[.string s, .int .i64 Y] 26)) := hB6.alloc hB6.size _
    have p7 : (w6.alloc (.cells #[.string s, .int .i64 Y] 26)).cell? ⟨w3.heap.size, 0, none⟩ = _ := ((bcell ((Below.refl w6.heap.size w6).alloc (Nat.le_refl _) _)).1 _ _ (World.block_lt_of_cell? _ _ p6)).trans p6
    have q7 : (w6.alloc (.cells #[.string s, .int .i64 Y] 26)).cell? ⟨w3.heap.size, 1, none⟩ = _ := ((bcell ((Below.refl w6.heap.size w6).alloc (Nat.le_refl _) _)).1 _ _ (World.block_lt_of_cell? _ _ q6)).trans q6
    have p8 : (w6.alloc (.cells #[.string s, .int .i64 Y] 26)).cell? ⟨w6.heap.size, 0, none⟩ = some (.string s) := by simp [go_sem]
    have q8 : (w6.alloc (.cells #[.string s, .int .i64 Y] 26)).cell? ⟨w6.heap.size, 1, none⟩ = some (.int .i64 Y) := by simp [go_sem]
    clear x6 y6 p6 q6
    go_wp2_with fail
    refine (hE _).mono ?_
    rintro e w9 ⟨rfl, hb9⟩
    have hB9 := hB7.trans (hb9.mono hB7.size)
    clear hb9
    go_wp2
    go_ret
    exact ⟨rfl, hB9⟩
  · rw [if_neg g] at hZ
    clear hT
    go_enter Tryd.func5, Tryd.ntmps5
    go_wp2_with fail
    refine (hZ _).mono ?_
    rintro e w1 ⟨rfl, hb1⟩
    go_wp2
    go_ret
    exact ⟨rfl, hB0.trans (hb1.mono hB0.size)⟩
end Go.Proofs.YteajdbnongpkfaaDoor.journalSync
