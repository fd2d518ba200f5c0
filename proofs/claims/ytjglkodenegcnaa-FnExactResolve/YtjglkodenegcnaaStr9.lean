/- A wall time resolved: the model's, of any arguments. -/
import Derived.Test.YtjglkodenegcnaaStr8
namespace Go.Proofs.Ytjglkodenegcnaa
open Go.RowKit

theorem rightR_f {l : List TurnD} {n g f : Int} (h : rightR l n g f = false) : resD l n g f = (0, 1) := by
  unfold rightR at h
  unfold resD
  rw [if_neg]
  rintro ⟨h1, h2, h3, h4⟩
  rw [h1, h2, h3, h4] at h
  cases h
theorem rightR_t {l : List TurnD} {n g f : Int} (h : rightR l n g f = true) : tabB l = true ∧ isB n (-62135596800) 253402300799 = true ∧ isB g 0 2 = true ∧ isB f 0 2 = true := by
  unfold rightR at h
  simpa only [Bool.and_eq_true] using h
set_option maxRecDepth 20000 in
set_option maxHeartbeats 2000000 in
theorem spec_Resolve (l : List TurnD) (v : Value) (n g f : Int) (w : World) (hv : TabAt w v l) (hok : ∀ r ∈ l, r.ok) :
    Calls Try.prog 22 #[v, .int .i64 n, .int .i64 g, .int .i64 f] w fun e w' => e = .returned (outV (resD l n g f)) ∧ Below w.heap.size w w' := by
  obtain ⟨a, cap, rfl, hA⟩ := hv
  have hv : TabAt w (.agg #[.slice a l.length cap]) l := ⟨a, cap, rfl, hA⟩
  have hB0 := fun o o2 => ((Below.refl w.heap.size w).alloc (Nat.le_refl _) o).alloc (by simp) o2
  have KEEP : ∀ w1, Below ((w.alloc (.cells #[.slice a l.length cap] 25)).alloc (.cells #[.int .i64 0, .int .i64 0] 29)).heap.size ((w.alloc (.cells #[.slice a l.length cap] 25)).alloc (.cells #[.int .i64 0, .int .i64 0] 29)) w1 →
      (w1.cell? ⟨w.heap.size + 1, 0, none⟩ = some (.int .i64 0) ∧ w1.cell? ⟨w.heap.size + 1, 1, none⟩ = some (.int .i64 0)) ∧ (∀ i, w1.frozen? ⟨w.heap.size + 1, i, none⟩ = false) ∧ w1.cell? ⟨w.heap.size, 0, none⟩ = some (.slice a l.length cap) ∧ Below w.heap.size w w1 := fun w1 hb1 => by
    obtain ⟨hc1, hf1⟩ := bcell hb1
    exact ⟨⟨(hc1 _ _ (by simp)).trans (by simp [go_sem]), (hc1 _ _ (by simp)).trans (by simp [go_sem])⟩, fun i => (hf1 _ _ (by simp)).trans (by simp [go_sem]), (hc1 _ _ (by simp; omega)).trans (by simp [go_sem]), (hB0 _ _).trans (hb1.mono (by simp; omega))⟩
  have hI := fun w (h : TabAt w (.agg #[.slice a l.length cap]) l) => spec_l04Right l _ n g f w h hok
  cases hr : rightR l n g f
  · rw [rightR_f hr]
    rw [hr] at hI
    clear hr
    go_enter Try.func22, Try.ntmps22
    go_wp2_with fail
    refine (hI _ (hv.below (hB0 _ _))).mono ?_
    rintro e w1 ⟨rfl, hb1⟩
    obtain ⟨⟨r0, r1⟩, fz, t0, hB1⟩ := KEEP w1 hb1
    have f0 := fz 0
    have f1 := fz 1
    clear fz KEEP hb1
    obtain ⟨s0, s1⟩ := set_two (v0 := .int .i64 0) (v1 := .int .i64 1) r0 r1
    go_wp2
    exact bodyPost_ret (v := outV (0, 1)) (by simp [results, Try.results22, go_sem, outV, s0, s1]) rfl ⟨rfl, (hB1.setCell (show w.heap.size ≤ w.heap.size + 1 by omega) _).setCell (show w.heap.size ≤ w.heap.size + 1 by omega) _⟩
  rw [hr] at hI
  obtain ⟨h1, h2, h3, h4⟩ := rightR_t hr
  rw [resD_yes h1 h2 h3 h4]
  have hS := fun w (h : TabAt w (.agg #[.slice a l.length cap]) l) => spec_l04Resolve l _ n g f w h (tab_of h1) (isB_of_t h2).1 (isB_of_t h2).2 (isB_of_t h3).1 (isB_of_t h3).2 (isB_of_t h4).1 (isB_of_t h4).2
  clear hr h1 h2 h3 h4
  generalize resR l n g f = R at *
  obtain ⟨p1, p2⟩ := R
  unfold outV at hS ⊢
  go_enter Try.func22, Try.ntmps22
  go_wp2_with fail
  refine (hI _ (hv.below (hB0 _ _))).mono ?_
  rintro e w1 ⟨rfl, hb1⟩
  obtain ⟨⟨r0, r1⟩, fz, t0, hB1⟩ := KEEP w1 hb1
  clear KEEP hb1
  go_wp2_with fail
  refine (hS _ (hv.below hB1)).mono ?_
  rintro e w3 ⟨rfl, hb3⟩
  obtain ⟨hc3, hf3⟩ := bcell hb3
  have hB3 := hB1.trans (hb3.mono hB1.size)
  have k0 := (hc3 _ _ (World.block_lt_of_cell? _ _ r0)).trans r0
  have k1 := (hc3 _ _ (World.block_lt_of_cell? _ _ r1)).trans r1
  have g0 := (hf3 _ _ (World.block_lt_of_cell? _ _ r0)).trans (fz 0)
  have g1 := (hf3 _ _ (World.block_lt_of_cell? _ _ r1)).trans (fz 1)
  obtain ⟨s0, s1⟩ := set_two (v0 := .int .i64 p1) (v1 := .int .i64 p2) k0 k1
  clear hc3 hf3 hb3 r0 r1 fz t0
  go_wp2
  exact bodyPost_ret (v := .agg #[.int .i64 p1, .int .i64 p2]) (by simp [results, Try.results22, go_sem, s0, s1]) rfl ⟨rfl, (hB3.setCell (show w.heap.size ≤ w.heap.size + 1 by omega) _).setCell (show w.heap.size ≤ w.heap.size + 1 by omega) _⟩
end Go.Proofs.Ytjglkodenegcnaa
