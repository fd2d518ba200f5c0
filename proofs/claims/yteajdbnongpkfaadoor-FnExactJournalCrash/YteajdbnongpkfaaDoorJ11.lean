/- The laws' own helpers: sizes, copies, one held against another. -/
import Derived.Test.YteajdbnongpkfaaDoorJ5
namespace Go.Proofs.YteajdbnongpkfaaDoor
open Go.RowKit

set_option maxRecDepth 20000 in
set_option maxHeartbeats 1000000 in
theorem laws_szJournal (s : ByteArray) (y : Int) (w : World) (hs : s.size ≤ 9223372036854775807) :
    Calls Tryd.prog 7 #[.agg #[.string s, .int .i64 y], .int .i64 1048576] w fun e w' => e = .returned (.int .i64 (if s.size ≤ 1048576 then 1048576 - s.size else -1)) ∧ Below w.heap.size w w' := by
  have hB0 := fun o => (Below.refl w.heap.size w).alloc (Nat.le_refl _) o
  by_cases h : s.size ≤ 1048576
  · rw [if_pos h]
    go_enter Tryd.func7, Tryd.ntmps7
    go_wp2
    go_ret
    exact ⟨rfl, hB0 _⟩
  · rw [if_neg h]
    go_enter Tryd.func7, Tryd.ntmps7
    go_wp2
    go_ret
    exact ⟨rfl, hB0 _⟩
set_option maxHeartbeats 1000000 in
theorem laws_toJournal (s : ByteArray) (y : Int) (w : World) :
    Calls Tryd.prog 9 #[.agg #[.string s, .int .i64 y]] w fun e w' => e = .returned (.agg #[.string s, .int .i64 y]) ∧ Below w.heap.size w w' := by
  have hB0 := fun o o2 o3 => (((Below.refl w.heap.size w).alloc (Nat.le_refl _) o).alloc (by simp) o2).alloc (by simp; omega) o3
  go_enter Tryd.func9, Tryd.ntmps9
  go_wp2
  exact bodyPost_ret (v := .agg #[.string s, .int .i64 y]) (by simp [results, Tryd.results9, go_sem]) rfl ⟨rfl, hB0 _ _ _⟩
set_option maxHeartbeats 1000000 in
theorem laws_eqJournal (s : ByteArray) (y : Int) (w : World) :
    Calls Tryd.prog 16 #[.agg #[.string s, .int .i64 y], .agg #[.string s, .int .i64 y]] w fun e w' => e = .returned (.bool true) ∧ Below w.heap.size w w' := by
  have hB0 := fun o o2 => ((Below.refl w.heap.size w).alloc (Nat.le_refl _) o).alloc (by simp) o2
  go_enter Tryd.func16, Tryd.ntmps16
  go_wp2
  go_ret
  exact ⟨rfl, hB0 _ _⟩
set_option maxHeartbeats 1000000 in
theorem laws_eqJournalOut (d : AddD) (w : World) :
    Calls Tryd.prog 13 #[d.val, d.val] w fun e w' => e = .returned (.bool true) ∧ Below w.heap.size w w' := by
  obtain ⟨t, y, c⟩ := d
  unfold AddD.val
  have hB0 := fun o o2 => ((Below.refl w.heap.size w).alloc (Nat.le_refl _) o).alloc (by simp) o2
  have hE := fun w => laws_eqJournal t y w
  go_enter Tryd.func13, Tryd.ntmps13
  go_wp2_with fail
  refine (hE _).mono ?_
  rintro e w1 ⟨rfl, hb1⟩
  obtain ⟨hc1, hf1⟩ := bcell hb1
  have c12 : w1.cell? ⟨w.heap.size, 2, none⟩ = some (.string ⟨#[]⟩) := (hc1 _ _ (by simp; omega)).trans (by simp [go_sem])
  have c13 : w1.cell? ⟨w.heap.size, 3, none⟩ = some (.int .i64 c) := (hc1 _ _ (by simp; omega)).trans (by simp [go_sem])
  have c22 : w1.cell? ⟨w.heap.size + 1, 2, none⟩ = some (.string ⟨#[]⟩) := (hc1 _ _ (by simp)).trans (by simp [go_sem])
  have c23 : w1.cell? ⟨w.heap.size + 1, 3, none⟩ = some (.int .i64 c) := (hc1 _ _ (by simp)).trans (by simp [go_sem])
  have hB1 := (hB0 (.cells #[.string t, .int .i64 y, .string ⟨#[]⟩, .int .i64 c] 30) (.cells #[.string t, .int .i64 y, .string ⟨#[]⟩, .int .i64 c] 30)).trans (hb1.mono (by simp; omega))
  clear hc1 hf1 hb1
  go_wp2
  go_ret
  exact ⟨rfl, hB1⟩
end Go.Proofs.YteajdbnongpkfaaDoor
