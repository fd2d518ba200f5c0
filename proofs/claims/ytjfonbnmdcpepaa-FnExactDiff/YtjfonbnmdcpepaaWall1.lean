/- What the clock shows at an instant: both sides. -/
import Derived.Test.YtjfonbnmdcpepaaTabTurn2
namespace Go.Proofs.Ytjfonbnmdcpepaa
open Go.RowKit Go.Sort

/-- a number and a code. -/
def outV (p : Int × Int) : Value := .agg #[.int .i64 p.1, .int .i64 p.2]
def timeD (m : Int) : Int × Int := if isB m (-62135596800) 253402300799 = true then (m, 0) else (0, 4)
theorem timeD_t {m : Int} (h : isB m (-62135596800) 253402300799 = true) : timeD m = (m, 0) := by unfold timeD; rw [if_pos h]
theorem timeD_f {m : Int} (h : isB m (-62135596800) 253402300799 = false) : timeD m = (0, 4) := by unfold timeD; rw [if_neg (by rw [h]; simp)]
def wallD (l : List TurnD) (n : Int) : Int × Int := if tabB l = true ∧ isB n (-62135596800) 253402300799 = true then timeD (n + (turnAtD l n).offset) else (0, 1)
theorem wallD_no1 {l : List TurnD} {n : Int} (h : tabB l = false) : wallD l n = (0, 1) := by unfold wallD; rw [if_neg (by rw [h]; simp)]
theorem wallD_no2 {l : List TurnD} {n : Int} (h : isB n (-62135596800) 253402300799 = false) : wallD l n = (0, 1) := by unfold wallD; rw [if_neg (by rw [h]; simp)]
theorem wallD_yes {l : List TurnD} {n : Int} (h : tabB l = true) (h2 : isB n (-62135596800) 253402300799 = true) : wallD l n = timeD (n + (turnAtD l n).offset) := by unfold wallD; rw [if_pos ⟨h, h2⟩]
theorem set_two {w : World} {b : Nat} {x0 x1 v0 v1 : Value} (h0 : w.cell? ⟨b, 0, none⟩ = some x0) (h1 : w.cell? ⟨b, 1, none⟩ = some x1) :
    ((w.setCell ⟨b, 0, none⟩ v0).setCell ⟨b, 1, none⟩ v1).cell? ⟨b, 0, none⟩ = some v0 ∧ ((w.setCell ⟨b, 0, none⟩ v0).setCell ⟨b, 1, none⟩ v1).cell? ⟨b, 1, none⟩ = some v1 := by
  refine ⟨?_, ?_⟩
  · rw [World.cell?_setCell_other _ _ _ _ (by simp), World.cell?_setCell_same _ _ _ h0]
  · refine World.cell?_setCell_same _ _ _ (u := x1) ?_
    rw [World.cell?_setCell_other _ _ _ _ (by simp)]; exact h1
set_option maxHeartbeats 1000000 in
theorem impl_timeOrRange (m : Int) (w : World) :
    Calls Try.prog 41 #[.int .i64 m] w fun e w' => e = .returned (outV (timeD m)) ∧ Below w.heap.size w w' := by
  have hB0 := fun o => (Below.refl w.heap.size w).alloc (Nat.le_refl _) o
  have hM := fun w => impl_isTimeT m w
  cases h : isB m (-62135596800) 253402300799
  · rw [timeD_f h]
    rw [h] at hM
    clear h
    go_enter Try.func41, Try.ntmps41
    go_wp2_with (go_at_call 40; refine (hM _).mono ?_; rintro e w' ⟨rfl, rfl⟩)
    exact bodyPost_ret (v := outV (0, 4)) (by simp [results, Try.results41, go_sem, outV]) rfl ⟨rfl, hB0 _⟩
  · rw [timeD_t h]
    rw [h] at hM
    clear h
    go_enter Try.func41, Try.ntmps41
    go_wp2_with (go_at_call 40; refine (hM _).mono ?_; rintro e w' ⟨rfl, rfl⟩)
    exact bodyPost_ret (v := outV (m, 0)) (by simp [results, Try.results41, go_sem, outV]) rfl ⟨rfl, hB0 _⟩
/-- the offset of a right table's turn is small. -/
theorem turnAt_off {l : List TurnD} {n : Int} (h : tabB l = true) (h2 : isB n (-62135596800) 253402300799 = true) : -100000 ≤ (turnAtD l n).offset ∧ (turnAtD l n).offset ≤ 100000 := by
  have hR := tab_of h
  have hlen := hR.len
  obtain ⟨f, hf⟩ : ∃ r, l[0]? = some r := ⟨_, List.getElem?_eq_getElem (by omega)⟩
  have hn := isB_of_t h2
  have hp1 := cnt_pos (n := n) hf (by rw [hR.first f hf]; omega)
  have hp2 := cnt_le l n
  obtain ⟨x, hx⟩ : ∃ r, l[cntT l n - 1]? = some r := ⟨_, List.getElem?_eq_getElem (by omega)⟩
  rw [turnAt_yes h h2 hx]
  have := hR.one x (List.mem_of_getElem? hx)
  unfold turnB at this
  rw [Bool.and_eq_true] at this
  exact isB_of_t this.1
set_option maxRecDepth 20000 in
set_option maxHeartbeats 4000000 in
theorem impl_WallOf (l : List TurnD) (v : Value) (n : Int) (w : World) (hv : TabAt w v l) (hok : ∀ r ∈ l, r.ok) (hl : l.length ≤ 1048576) :
    Calls Try.prog 9 #[v, .int .i64 n] w fun e w' => e = .returned (outV (wallD l n)) ∧ Below w.heap.size w w' := by
  obtain ⟨a, cap, rfl, hA⟩ := hv
  have hv : TabAt w (.agg #[.slice a l.length cap]) l := ⟨a, cap, rfl, hA⟩
  have hB0 := fun o o2 => ((Below.refl w.heap.size w).alloc (Nat.le_refl _) o).alloc (by simp) o2
  have hM := fun w => impl_isTimeT n w
  have hI := fun w (h : TabAt w (.agg #[.slice a l.length cap]) l) => impl_TableRight l _ w h hok hl
  have hT := fun w (h : TabAt w (.agg #[.slice a l.length cap]) l) => impl_TurnAt l _ n w h hok hl
  have hR := fun m w => impl_timeOrRange m w
  have KEEP : ∀ w1, Below ((w.alloc (.cells #[.slice a l.length cap] 25)).alloc (.cells #[.int .i64 0, .int .i64 0] 29)).heap.size ((w.alloc (.cells #[.slice a l.length cap] 25)).alloc (.cells #[.int .i64 0, .int .i64 0] 29)) w1 →
      (w1.cell? ⟨w.heap.size + 1, 0, none⟩ = some (.int .i64 0) ∧ w1.cell? ⟨w.heap.size + 1, 1, none⟩ = some (.int .i64 0)) ∧ (∀ i, w1.frozen? ⟨w.heap.size + 1, i, none⟩ = false) ∧ w1.cell? ⟨w.heap.size, 0, none⟩ = some (.slice a l.length cap) ∧ Below w.heap.size w w1 := fun w1 hb1 => by
    obtain ⟨hc1, hf1⟩ := bcell hb1
    exact ⟨⟨(hc1 _ _ (by simp)).trans (by simp [go_sem]), (hc1 _ _ (by simp)).trans (by simp [go_sem])⟩, fun i => (hf1 _ _ (by simp)).trans (by simp [go_sem]), (hc1 _ _ (by simp; omega)).trans (by simp [go_sem]), (hB0 _ _).trans (hb1.mono (by simp; omega))⟩
  cases hn : isB n (-62135596800) 253402300799
  · rw [wallD_no2 hn]
    rw [hn] at hM
    clear hn
    go_enter Try.func9, Try.ntmps9
    go_wp2_with (go_at_call 40; refine (hM _).mono ?_; rintro e w' ⟨rfl, rfl⟩)
    exact bodyPost_ret (v := outV (0, 1)) (by simp [results, Try.results9, go_sem, outV]) rfl ⟨rfl, hB0 _ _⟩
  rw [hn] at hM
  cases ht : tabB l
  · rw [wallD_no1 ht]
    rw [ht] at hI
    clear ht hn
    go_enter Try.func9, Try.ntmps9
    go_wp2_with fail
    refine (hM _).mono ?_
    rintro e wM ⟨rfl, rfl⟩
    go_wp2_with fail
    refine (hI _ (hv.below (hB0 _ _))).mono ?_
    rintro e w1 ⟨rfl, hb1⟩
    obtain ⟨⟨r0, r1⟩, f, t0, hB1⟩ := KEEP w1 hb1
    have f0 := f 0
    have f1 := f 1
    obtain ⟨s0, s1⟩ := set_two (v0 := .int .i64 0) (v1 := .int .i64 1) r0 r1
    clear f KEEP hb1
    go_wp2
    exact bodyPost_ret (v := outV (0, 1)) (by simp [results, Try.results9, go_sem, outV, s0, s1]) rfl ⟨rfl, (hB1.setCell (show w.heap.size ≤ w.heap.size + 1 by omega) _).setCell (show w.heap.size ≤ w.heap.size + 1 by omega) _⟩
  rw [wallD_yes ht hn]
  rw [ht] at hI
  have hoff := turnAt_off ht hn
  obtain ⟨n1, n2⟩ := isB_of_t hn
  clear ht hn
  generalize turnAtD l n = T at *
  obtain ⟨tA, tO, tS, tB⟩ := T
  simp only [TurnD.v] at hT hoff ⊢
  obtain ⟨o1, o2⟩ := hoff
  have hR := fun w => impl_timeOrRange (n + tO) w
  generalize timeD (n + tO) = P at *
  obtain ⟨pN, pC⟩ := P
  unfold outV at hR ⊢
  have hfd : ∀ w : World, (Instr.field 32 (.agg #[.int .i64 tA, .int .i64 tO, .int .i64 tS, .string tB]) 1).run Try.prog w = .ok (.int .i64 tO) w := fun _ => by kernel_rfl
  go_enter Try.func9, Try.ntmps9
  go_wp2_with fail
  refine (hM _).mono ?_
  rintro e wM ⟨rfl, rfl⟩
  go_wp2_with fail
  refine (hI _ (hv.below (hB0 _ _))).mono ?_
  rintro e w1 ⟨rfl, hb1⟩
  obtain ⟨⟨r0, r1⟩, f, t0, hB1⟩ := KEEP w1 hb1
  clear KEEP
  go_wp2_with fail
  refine (hT _ (hv.below hB1)).mono ?_
  rintro e w2 ⟨rfl, hb2⟩
  obtain ⟨hc2, hf2⟩ := bcell hb2
  have hB2 := hB1.trans (hb2.mono hB1.size)
  have p0 := (hc2 _ _ (World.block_lt_of_cell? _ _ r0)).trans r0
  have p1 := (hc2 _ _ (World.block_lt_of_cell? _ _ r1)).trans r1
  have g0 := (hf2 _ _ (World.block_lt_of_cell? _ _ r0)).trans (f 0)
  have g1 := (hf2 _ _ (World.block_lt_of_cell? _ _ r1)).trans (f 1)
  clear hc2 hf2 hb2 hb1 r0 r1 f t0
  go_wp2_with fail
  refine (hR _).mono ?_
  rintro e w3 ⟨rfl, hb3⟩
  obtain ⟨hc3, hf3⟩ := bcell hb3
  have hB3 := hB2.trans (hb3.mono hB2.size)
  have q0 := (hc3 _ _ (World.block_lt_of_cell? _ _ p0)).trans p0
  have q1 := (hc3 _ _ (World.block_lt_of_cell? _ _ p1)).trans p1
  have e0 := (hf3 _ _ (World.block_lt_of_cell? _ _ p0)).trans g0
  have e1 := (hf3 _ _ (World.block_lt_of_cell? _ _ p1)).trans g1
  obtain ⟨s0, s1⟩ := set_two (v0 := .int .i64 pN) (v1 := .int .i64 pC) q0 q1
  clear hc3 hf3 hb3 p0 p1 g0 g1
  go_wp2
  exact bodyPost_ret (v := .agg #[.int .i64 pN, .int .i64 pC]) (by simp [results, Try.results9, go_sem, s0, s1]) rfl ⟨rfl, (hB3.setCell (show w.heap.size ≤ w.heap.size + 1 by omega) _).setCell (show w.heap.size ≤ w.heap.size + 1 by omega) _⟩
end Go.Proofs.Ytjfonbnmdcpepaa
