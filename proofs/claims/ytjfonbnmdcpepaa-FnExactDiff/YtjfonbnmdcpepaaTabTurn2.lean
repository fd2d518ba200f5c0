/- The turn of an instant: the model's. -/
import Derived.Test.YtjfonbnmdcpepaaTabTurn
namespace Go.Proofs.Ytjfonbnmdcpepaa
open Go.RowKit Go.Sort

set_option maxHeartbeats 4000000 in
theorem spec_TurnAt (l : List TurnD) (v : Value) (n : Int) (w : World) (hv : TabAt w v l) (hok : ∀ r ∈ l, r.ok) :
    Calls Try.prog 12 #[v, .int .i64 n] w fun e w' => e = .returned (turnAtD l n).v ∧ Below w.heap.size w w' := by
  obtain ⟨a, cap, rfl, hA⟩ := hv
  have hv : TabAt w (.agg #[.slice a l.length cap]) l := ⟨a, cap, rfl, hA⟩
  have hB0 := fun o o2 => ((Below.refl w.heap.size w).alloc (Nat.le_refl _) o).alloc (by simp) o2
  have hI := fun w (h : TabAt w (.agg #[.slice a l.length cap]) l) => spec_TableRight l _ w h hok
  have hM := fun w => spec_l01TimeT n w
  have KEEP : ∀ w1, Below ((w.alloc (.cells #[.slice a l.length cap] 25)).alloc (.cells #[.int .i64 0, .int .i64 0, .int .i64 0, .string ⟨#[]⟩] 32)).heap.size ((w.alloc (.cells #[.slice a l.length cap] 25)).alloc (.cells #[.int .i64 0, .int .i64 0, .int .i64 0, .string ⟨#[]⟩] 32)) w1 →
      (w1.cell? ⟨w.heap.size + 1, 0, none⟩ = some (.int .i64 0) ∧ w1.cell? ⟨w.heap.size + 1, 1, none⟩ = some (.int .i64 0) ∧ w1.cell? ⟨w.heap.size + 1, 2, none⟩ = some (.int .i64 0) ∧ w1.cell? ⟨w.heap.size + 1, 3, none⟩ = some (.string ⟨#[]⟩)) ∧ (∀ i, w1.frozen? ⟨w.heap.size + 1, i, none⟩ = false) ∧ w1.cell? ⟨w.heap.size, 0, none⟩ = some (.slice a l.length cap) ∧ Below w.heap.size w w1 := fun w1 hb1 => by
    obtain ⟨hc1, hf1⟩ := bcell hb1
    exact ⟨⟨(hc1 _ _ (by simp)).trans (by simp [go_sem]), (hc1 _ _ (by simp)).trans (by simp [go_sem]), (hc1 _ _ (by simp)).trans (by simp [go_sem]), (hc1 _ _ (by simp)).trans (by simp [go_sem])⟩, fun i => (hf1 _ _ (by simp)).trans (by simp [go_sem]), (hc1 _ _ (by simp; omega)).trans (by simp [go_sem]), (hB0 _ _).trans (hb1.mono (by simp; omega))⟩
  cases ht : tabB l
  · rw [turnAt_no1 ht]
    rw [ht] at hI
    clear ht
    go_enter Try.func12, Try.ntmps12
    go_wp2_with fail
    refine (hI _ (hv.below (hB0 _ _))).mono ?_
    rintro e w1 ⟨rfl, hb1⟩
    obtain ⟨⟨r0, r1, r2, r3⟩, f, t0, hB1⟩ := KEEP w1 hb1
    have f0 := f 0
    have f1 := f 1
    have f2 := f 2
    have f3 := f 3
    clear f KEEP hb1
    obtain ⟨s0, s1, s2, s3⟩ := set_four (v0 := .int .i64 0) (v1 := .int .i64 0) (v2 := .int .i64 0) (v3 := .string ⟨#[]⟩) r0 r1 r2 r3
    go_wp2
    exact bodyPost_ret (v := zeroT.v) (by simp [results, Try.results12, go_sem, zeroT, TurnD.v, s0, s1, s2, s3]) rfl ⟨rfl, (((hB1.setCell (show w.heap.size ≤ w.heap.size + 1 by omega) _).setCell (show w.heap.size ≤ w.heap.size + 1 by omega) _).setCell (show w.heap.size ≤ w.heap.size + 1 by omega) _).setCell (show w.heap.size ≤ w.heap.size + 1 by omega) _⟩
  rw [ht] at hI
  cases hn : isB n (-62135596800) 253402300799
  · rw [turnAt_no2 hn]
    rw [hn] at hM
    clear hn ht
    go_enter Try.func12, Try.ntmps12
    go_wp2_with fail
    refine (hI _ (hv.below (hB0 _ _))).mono ?_
    rintro e w1 ⟨rfl, hb1⟩
    obtain ⟨⟨r0, r1, r2, r3⟩, f, t0, hB1⟩ := KEEP w1 hb1
    have f0 := f 0
    have f1 := f 1
    have f2 := f 2
    have f3 := f 3
    clear f KEEP hb1
    obtain ⟨s0, s1, s2, s3⟩ := set_four (v0 := .int .i64 0) (v1 := .int .i64 0) (v2 := .int .i64 0) (v3 := .string ⟨#[]⟩) r0 r1 r2 r3
    go_wp2_with fail
    refine (hM _).mono ?_
    rintro e w' ⟨rfl, rfl⟩
    go_wp2
    exact bodyPost_ret (v := zeroT.v) (by simp [results, Try.results12, go_sem, zeroT, TurnD.v, s0, s1, s2, s3]) rfl ⟨rfl, (((hB1.setCell (show w.heap.size ≤ w.heap.size + 1 by omega) _).setCell (show w.heap.size ≤ w.heap.size + 1 by omega) _).setCell (show w.heap.size ≤ w.heap.size + 1 by omega) _).setCell (show w.heap.size ≤ w.heap.size + 1 by omega) _⟩
  rw [hn] at hM
  have hnn := isB_of_t hn
  have hR := tab_of ht
  have hlen := hR.len
  obtain ⟨f, hf⟩ : ∃ r, l[0]? = some r := ⟨_, List.getElem?_eq_getElem (by omega)⟩
  have hp1 := cnt_pos (n := n) hf (by rw [hR.first f hf]; omega)
  have hp2 := cnt_le l n
  obtain ⟨x, hx⟩ : ∃ r, l[cntT l n - 1]? = some r := ⟨_, List.getElem?_eq_getElem (by omega)⟩
  rw [turnAt_yes ht hn hx]
  have hS := fun w (h : SeqAt w a 4 (l.map TurnD.cs)) => spec_l03At l a cap n w h hR hnn.1
  obtain ⟨c, hcc⟩ : ∃ c, cntT l n = c + 1 := ⟨cntT l n - 1, by omega⟩
  rw [hcc] at hS hp1 hp2 hx
  simp only [Nat.add_sub_cancel] at hx hS
  clear ht hcc hR hf hp1 hn
  go_enter Try.func12, Try.ntmps12
  go_wp2_with fail
  refine (hI _ (hv.below (hB0 _ _))).mono ?_
  rintro e w1 ⟨rfl, hb1⟩
  obtain ⟨⟨r0, r1, r2, r3⟩, f, t0, hB1⟩ := KEEP w1 hb1
  have f0 := f 0
  have f1 := f 1
  have f2 := f 2
  have f3 := f 3
  clear f KEEP hb1
  go_wp2_with fail
  refine (hM _).mono ?_
  rintro e w' ⟨rfl, rfl⟩
  clear hM hI
  have hD : Below w'.heap.size w' w'.drew := ⟨rfl, rfl, rfl, Nat.le_refl _, fun _ _ => rfl⟩
  have hBD : Below w.heap.size w w'.drew := hB1.trans (hD.mono hB1.size)
  have hAD := hA.below hBD
  obtain ⟨b, o, rfl, hc⟩ := hAD.at (i := c) (r := x.cs) (by rw [List.getElem?_map, hx]; rfl)
  have hbl : b < w.heap.size := by
    obtain ⟨b', o', he, hd⟩ := hA.at (i := c) (r := x.cs) (by rw [List.getElem?_map, hx]; rfl)
    injection he with he
    injection he with u1 u2
    subst u1 u2
    exact World.block_lt_of_cell? _ _ (hd 0 _ rfl)
  have hne1 : b ≠ w.heap.size + 1 := by omega
  have hne2 : w.heap.size + 1 ≠ b := by omega
  have c0 : w'.drew.cell? ⟨b, o + c * 4, none⟩ = some (.int .i64 x.at_) := hc 0 _ rfl
  have c1 : w'.drew.cell? ⟨b, o + c * 4 + 1, none⟩ = some (.int .i64 x.offset) := hc 1 _ rfl
  have c2 : w'.drew.cell? ⟨b, o + c * 4 + 2, none⟩ = some (.int .i64 x.save) := hc 2 _ rfl
  have c3 : w'.drew.cell? ⟨b, o + c * 4 + 3, none⟩ = some (.string x.abbr) := hc 3 _ rfl
  have i0 : (0 : Int) ≤ (c : Int) := by omega
  have i1 : (c : Int) < (l.length : Int) := by omega
  clear hc
  have R0 : w'.drew.cell? ⟨w.heap.size + 1, 0, none⟩ = some (.int .i64 0) := r0
  have R1 : w'.drew.cell? ⟨w.heap.size + 1, 1, none⟩ = some (.int .i64 0) := r1
  have R2 : w'.drew.cell? ⟨w.heap.size + 1, 2, none⟩ = some (.int .i64 0) := r2
  have R3 : w'.drew.cell? ⟨w.heap.size + 1, 3, none⟩ = some (.string ⟨#[]⟩) := r3
  have T0 : w'.drew.cell? ⟨w.heap.size, 0, none⟩ = some (.slice (some ⟨b, o, none⟩) l.length cap) := t0
  have F0 : w'.drew.frozen? ⟨w.heap.size + 1, 0, none⟩ = false := f0
  have F1 : w'.drew.frozen? ⟨w.heap.size + 1, 1, none⟩ = false := f1
  have F2 : w'.drew.frozen? ⟨w.heap.size + 1, 2, none⟩ = false := f2
  have F3 : w'.drew.frozen? ⟨w.heap.size + 1, 3, none⟩ = false := f3
  go_wp2_with fail
  go_region_held3 (fun w' => w'.cell? ⟨w.heap.size, 0, none⟩ = some (.slice (some ⟨b, o, none⟩) l.length cap) ∧ w'.cell? ⟨b, o + c * 4, none⟩ = some (.int .i64 x.at_) ∧ w'.cell? ⟨b, o + c * 4 + 1, none⟩ = some (.int .i64 x.offset) ∧ w'.cell? ⟨b, o + c * 4 + 2, none⟩ = some (.int .i64 x.save) ∧ w'.cell? ⟨b, o + c * 4 + 3, none⟩ = some (.string x.abbr)) (go_keep) (first | (go_at_call 43; refine (hS _ hAD).mono ?_; rintro e w2 ⟨rfl, hb2⟩; have gc := (bcell hb2).1; have gf := (bcell hb2).2; have u0 := (gc _ _ (World.block_lt_of_cell? _ _ T0)).trans T0; have d0 := (gc _ _ (World.block_lt_of_cell? _ _ c0)).trans c0; have d1 := (gc _ _ (World.block_lt_of_cell? _ _ c1)).trans c1; have d2 := (gc _ _ (World.block_lt_of_cell? _ _ c2)).trans c2; have d3 := (gc _ _ (World.block_lt_of_cell? _ _ c3)).trans c3; have q0 := (gc _ _ (World.block_lt_of_cell? _ _ R0)).trans R0; have q1 := (gc _ _ (World.block_lt_of_cell? _ _ R1)).trans R1; have q2 := (gc _ _ (World.block_lt_of_cell? _ _ R2)).trans R2; have q3 := (gc _ _ (World.block_lt_of_cell? _ _ R3)).trans R3; have p0 := (gf _ _ (World.block_lt_of_cell? _ _ R0)).trans F0; have p1 := (gf _ _ (World.block_lt_of_cell? _ _ R1)).trans F1; have p2 := (gf _ _ (World.block_lt_of_cell? _ _ R2)).trans F2; have p3 := (gf _ _ (World.block_lt_of_cell? _ _ R3)).trans F3; clear gc gf))
  have hB2 := hBD.trans (hb2.mono hBD.size)
  obtain ⟨s0, s1, s2, s3⟩ := set_four (v0 := .int .i64 x.at_) (v1 := .int .i64 x.offset) (v2 := .int .i64 x.save) (v3 := .string x.abbr) q0 q1 q2 q3
  go_wp2
  exact bodyPost_ret (v := x.v) (by simp [results, Try.results12, go_sem, TurnD.v, s0, s1, s2, s3]) rfl ⟨rfl, (((hB2.setCell (show w.heap.size ≤ w.heap.size + 1 by omega) _).setCell (show w.heap.size ≤ w.heap.size + 1 by omega) _).setCell (show w.heap.size ≤ w.heap.size + 1 by omega) _).setCell (show w.heap.size ≤ w.heap.size + 1 by omega) _⟩
end Go.Proofs.Ytjfonbnmdcpepaa
