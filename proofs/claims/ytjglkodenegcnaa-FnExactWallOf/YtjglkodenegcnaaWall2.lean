/- What the clock shows at an instant: the model's. -/
import Derived.Test.YtjglkodenegcnaaWall1
namespace Go.Proofs.Ytjglkodenegcnaa
open Go.RowKit Go.Sort

set_option maxRecDepth 20000 in
set_option maxHeartbeats 4000000 in
theorem spec_WallOf (l : List TurnD) (v : Value) (n : Int) (w : World) (hv : TabAt w v l) (hok : ∀ r ∈ l, r.ok) :
    Calls Try.prog 11 #[v, .int .i64 n] w fun e w' => e = .returned (outV (wallD l n)) ∧ Below w.heap.size w w' := by
  obtain ⟨a, cap, rfl, hA⟩ := hv
  have hv : TabAt w (.agg #[.slice a l.length cap]) l := ⟨a, cap, rfl, hA⟩
  have hB0 := fun o o2 => ((Below.refl w.heap.size w).alloc (Nat.le_refl _) o).alloc (by simp) o2
  have hI := fun w (h : TabAt w (.agg #[.slice a l.length cap]) l) => spec_TableRight l _ w h hok
  have hM := fun w => spec_l01TimeT n w
  have KEEP : ∀ w1, Below ((w.alloc (.cells #[.slice a l.length cap] 25)).alloc (.cells #[.int .i64 0, .int .i64 0] 29)).heap.size ((w.alloc (.cells #[.slice a l.length cap] 25)).alloc (.cells #[.int .i64 0, .int .i64 0] 29)) w1 →
      (w1.cell? ⟨w.heap.size + 1, 0, none⟩ = some (.int .i64 0) ∧ w1.cell? ⟨w.heap.size + 1, 1, none⟩ = some (.int .i64 0)) ∧ (∀ i, w1.frozen? ⟨w.heap.size + 1, i, none⟩ = false) ∧ w1.cell? ⟨w.heap.size, 0, none⟩ = some (.slice a l.length cap) ∧ Below w.heap.size w w1 := fun w1 hb1 => by
    obtain ⟨hc1, hf1⟩ := bcell hb1
    exact ⟨⟨(hc1 _ _ (by simp)).trans (by simp [go_sem]), (hc1 _ _ (by simp)).trans (by simp [go_sem])⟩, fun i => (hf1 _ _ (by simp)).trans (by simp [go_sem]), (hc1 _ _ (by simp; omega)).trans (by simp [go_sem]), (hB0 _ _).trans (hb1.mono (by simp; omega))⟩
  cases ht : tabB l
  · rw [wallD_no1 ht]
    rw [ht] at hI
    clear ht
    go_enter Try.func11, Try.ntmps11
    go_wp2_with fail
    refine (hI _ (hv.below (hB0 _ _))).mono ?_
    rintro e w1 ⟨rfl, hb1⟩
    obtain ⟨⟨r0, r1⟩, f, t0, hB1⟩ := KEEP w1 hb1
    have f0 := f 0
    have f1 := f 1
    clear f KEEP hb1
    obtain ⟨s0, s1⟩ := set_two (v0 := .int .i64 0) (v1 := .int .i64 1) r0 r1
    go_wp2
    exact bodyPost_ret (v := outV (0, 1)) (by simp [results, Try.results11, go_sem, outV, s0, s1]) rfl ⟨rfl, (hB1.setCell (show w.heap.size ≤ w.heap.size + 1 by omega) _).setCell (show w.heap.size ≤ w.heap.size + 1 by omega) _⟩
  rw [ht] at hI
  cases hn : isB n (-62135596800) 253402300799
  · rw [wallD_no2 hn]
    rw [hn] at hM
    clear hn ht
    go_enter Try.func11, Try.ntmps11
    go_wp2_with fail
    refine (hI _ (hv.below (hB0 _ _))).mono ?_
    rintro e w1 ⟨rfl, hb1⟩
    obtain ⟨⟨r0, r1⟩, f, t0, hB1⟩ := KEEP w1 hb1
    have f0 := f 0
    have f1 := f 1
    clear f KEEP hb1
    obtain ⟨s0, s1⟩ := set_two (v0 := .int .i64 0) (v1 := .int .i64 1) r0 r1
    go_wp2_with fail
    refine (hM _).mono ?_
    rintro e w' ⟨rfl, rfl⟩
    go_wp2
    exact bodyPost_ret (v := outV (0, 1)) (by simp [results, Try.results11, go_sem, outV, s0, s1]) rfl ⟨rfl, (hB1.setCell (show w.heap.size ≤ w.heap.size + 1 by omega) _).setCell (show w.heap.size ≤ w.heap.size + 1 by omega) _⟩
  rw [hn] at hM
  have hoff := turnAt_off ht hn
  obtain ⟨n1, n2⟩ := isB_of_t hn
  have hR := tab_of ht
  have hlen := hR.len
  obtain ⟨f, hf⟩ : ∃ r, l[0]? = some r := ⟨_, List.getElem?_eq_getElem (by omega)⟩
  have hp1 := cnt_pos (n := n) hf (by rw [hR.first f hf]; omega)
  have hp2 := cnt_le l n
  obtain ⟨x, hx⟩ : ∃ r, l[cntT l n - 1]? = some r := ⟨_, List.getElem?_eq_getElem (by omega)⟩
  rw [wallD_yes ht hn]
  rw [turnAt_yes ht hn hx] at hoff ⊢
  obtain ⟨o1, o2⟩ := hoff
  have hS := fun w (h : SeqAt w a 4 (l.map TurnD.cs)) => spec_l03At l a cap n w h hR n1
  obtain ⟨c, hcc⟩ : ∃ c, cntT l n = c + 1 := ⟨cntT l n - 1, by omega⟩
  rw [hcc] at hS hp1 hp2 hx
  simp only [Nat.add_sub_cancel] at hx hS
  clear ht hcc hR hf hp1 hn
  have hM2 := fun w => spec_l01TimeT (n + x.offset) w
  have HT : Hid ((isB (n + x.offset) (-62135596800) 253402300799 = true → timeD (n + x.offset) = (n + x.offset, 0)) ∧ (isB (n + x.offset) (-62135596800) 253402300799 = false → timeD (n + x.offset) = (0, 4))) := ⟨timeD_t, timeD_f⟩
  generalize timeD (n + x.offset) = P at *
  generalize isB (n + x.offset) (-62135596800) 253402300799 = Bm at *
  go_enter Try.func11, Try.ntmps11
  go_wp2_with fail
  refine (hI _ (hv.below (hB0 _ _))).mono ?_
  rintro e w1 ⟨rfl, hb1⟩
  obtain ⟨⟨r0, r1⟩, f, t0, hB1⟩ := KEEP w1 hb1
  have f0 := f 0
  have f1 := f 1
  clear f KEEP hb1
  go_wp2_with fail
  refine (hM _).mono ?_
  rintro e w' ⟨rfl, rfl⟩
  clear hM hI
  have hD : Below w'.heap.size w' w'.drew := ⟨rfl, rfl, rfl, Nat.le_refl _, fun _ _ => rfl⟩
  have hBD : Below w.heap.size w w'.drew := hB1.trans (hD.mono hB1.size)
  have hAD := hA.below hBD
  obtain ⟨b, o, rfl, hc⟩ := hAD.at (i := c) (r := x.cs) (by rw [List.getElem?_map, hx]; rfl)
  have c1 : w'.drew.cell? ⟨b, o + c * 4 + 1, none⟩ = some (.int .i64 x.offset) := hc 1 _ rfl
  have i0 : (0 : Int) ≤ (c : Int) := by omega
  have i1 : (c : Int) < (l.length : Int) := by omega
  clear hc
  have R0 : w'.drew.cell? ⟨w.heap.size + 1, 0, none⟩ = some (.int .i64 0) := r0
  have R1 : w'.drew.cell? ⟨w.heap.size + 1, 1, none⟩ = some (.int .i64 0) := r1
  have T0 : w'.drew.cell? ⟨w.heap.size, 0, none⟩ = some (.slice (some ⟨b, o, none⟩) l.length cap) := t0
  have F0 : w'.drew.frozen? ⟨w.heap.size + 1, 0, none⟩ = false := f0
  have F1 : w'.drew.frozen? ⟨w.heap.size + 1, 1, none⟩ = false := f1
  go_wp2_with fail
  go_region_held3 (fun w' => w'.cell? ⟨w.heap.size, 0, none⟩ = some (.slice (some ⟨b, o, none⟩) l.length cap) ∧ w'.cell? ⟨b, o + c * 4 + 1, none⟩ = some (.int .i64 x.offset)) (go_keep) (first | (go_at_call 38; refine (hS _ hAD).mono ?_; rintro e w2 ⟨rfl, hb2⟩; have gc := (bcell hb2).1; have gf := (bcell hb2).2; have u0 := (gc _ _ (World.block_lt_of_cell? _ _ T0)).trans T0; have d1 := (gc _ _ (World.block_lt_of_cell? _ _ c1)).trans c1; have q0 := (gc _ _ (World.block_lt_of_cell? _ _ R0)).trans R0; have q1 := (gc _ _ (World.block_lt_of_cell? _ _ R1)).trans R1; have p0 := (gf _ _ (World.block_lt_of_cell? _ _ R0)).trans F0; have p1 := (gf _ _ (World.block_lt_of_cell? _ _ R1)).trans F1; clear gc gf))
  have hB2 := hBD.trans (hb2.mono hBD.size)
  clear hb2
  cases Bm
  · obtain rfl := HT.out.2 rfl
    obtain ⟨s0, s1⟩ := set_two (v0 := .int .i64 0) (v1 := .int .i64 4) q0 q1
    go_wp2_with fail
    refine (hM2 _).mono ?_
    rintro e w3 ⟨rfl, rfl⟩
    go_wp2
    exact bodyPost_ret (v := outV (0, 4)) (by simp [results, Try.results11, go_sem, outV, s0, s1]) rfl ⟨rfl, (hB2.setCell (show w.heap.size ≤ w.heap.size + 1 by omega) _).setCell (show w.heap.size ≤ w.heap.size + 1 by omega) _⟩
  · obtain rfl := HT.out.1 rfl
    obtain ⟨s0, s1⟩ := set_two (v0 := .int .i64 (n + x.offset)) (v1 := .int .i64 0) q0 q1
    go_wp2_with fail
    refine (hM2 _).mono ?_
    rintro e w3 ⟨rfl, rfl⟩
    go_wp2
    exact bodyPost_ret (v := outV (n + x.offset, 0)) (by simp [results, Try.results11, go_sem, outV, s0, s1]) rfl ⟨rfl, (hB2.setCell (show w.heap.size ≤ w.heap.size + 1 by omega) _).setCell (show w.heap.size ≤ w.heap.size + 1 by omega) _⟩
end Go.Proofs.Ytjglkodenegcnaa
