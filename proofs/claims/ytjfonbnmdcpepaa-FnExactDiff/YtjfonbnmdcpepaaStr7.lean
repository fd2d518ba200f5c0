/- A wall time resolved, and its instants. -/
import Derived.Test.YtjfonbnmdcpepaaStr6
namespace Go.Proofs.Ytjfonbnmdcpepaa
open Go.RowKit

theorem row_shape {w : World} {base : Nat} {e : TypeId} {size : Nat} {v : Value} {n : Nat} {xs : List Value} (h : w.ownsRow base e size v n xs) : ∃ a c, v = .slice a n c := by
  rcases h.2 with ⟨rfl, rfl⟩ | ⟨g, cap, cur, rfl, _⟩
  · exact ⟨_, _, rfl⟩
  · exact ⟨_, _, rfl⟩
theorem inst_le (l : List TurnD) (n : Int) : (instL l n).length ≤ l.length := by
  have := shownL_le n (uptoS l l.length)
  rw [uptoS_length] at this
  exact this
theorem resR_gap {l : List TurnD} {n g f : Int} (h : (instL l n).length = 0) : resR l n g f = gapR (gapD l n) n g := by unfold resR; rw [if_pos h]
theorem resR_fold {l : List TurnD} {n g f : Int} (h : (instL l n).length ≠ 0) : resR l n g f = foldD (instL l n) f := by unfold resR; rw [if_neg h]
set_option maxRecDepth 20000 in
set_option maxHeartbeats 4000000 in
theorem impl_Resolve (l : List TurnD) (v : Value) (n g f : Int) (w : World) (hv : TabAt w v l) (hok : ∀ r ∈ l, r.ok) (hl : l.length ≤ 1048576) :
    Calls Try.prog 20 #[v, .int .i64 n, .int .i64 g, .int .i64 f] w fun e w' => e = .returned (outV (resD l n g f)) ∧ Below w.heap.size w w' := by
  obtain ⟨a, cap, rfl, hA⟩ := hv
  have hv : TabAt w (.agg #[.slice a l.length cap]) l := ⟨a, cap, rfl, hA⟩
  have hB0 := fun o o2 => ((Below.refl w.heap.size w).alloc (Nat.le_refl _) o).alloc (by simp) o2
  have KEEP : ∀ w1, Below ((w.alloc (.cells #[.slice a l.length cap] 25)).alloc (.cells #[.int .i64 0, .int .i64 0] 29)).heap.size ((w.alloc (.cells #[.slice a l.length cap] 25)).alloc (.cells #[.int .i64 0, .int .i64 0] 29)) w1 →
      (w1.cell? ⟨w.heap.size + 1, 0, none⟩ = some (.int .i64 0) ∧ w1.cell? ⟨w.heap.size + 1, 1, none⟩ = some (.int .i64 0)) ∧ (∀ i, w1.frozen? ⟨w.heap.size + 1, i, none⟩ = false) ∧ w1.cell? ⟨w.heap.size, 0, none⟩ = some (.slice a l.length cap) ∧ Below w.heap.size w w1 := fun w1 hb1 => by
    obtain ⟨hc1, hf1⟩ := bcell hb1
    exact ⟨⟨(hc1 _ _ (by simp)).trans (by simp [go_sem]), (hc1 _ _ (by simp)).trans (by simp [go_sem])⟩, fun i => (hf1 _ _ (by simp)).trans (by simp [go_sem]), (hc1 _ _ (by simp; omega)).trans (by simp [go_sem]), (hB0 _ _).trans (hb1.mono (by simp; omega))⟩
  have hM := fun w => impl_isTimeT n w
  have hG := fun w => impl_choiceRight g w
  have hF := fun w => impl_choiceRight f w
  have hI := fun w (h : TabAt w (.agg #[.slice a l.length cap]) l) => impl_TableRight l _ w h hok hl
  cases hn : isB n (-62135596800) 253402300799
  · rw [resD_no2 hn]
    rw [hn] at hM
    clear hn hG hF hI
    go_enter Try.func20, Try.ntmps20
    go_wp2_with fail
    refine (hM _).mono ?_
    rintro e wM ⟨rfl, rfl⟩
    go_wp2
    exact bodyPost_ret (v := outV (0, 1)) (by simp [results, Try.results20, go_sem, outV]) rfl ⟨rfl, hB0 _ _⟩
  rw [hn] at hM
  cases hg : isB g 0 2
  · rw [resD_no3 hg]
    rw [hg] at hG
    clear hn hg hF hI
    go_enter Try.func20, Try.ntmps20
    go_wp2_with fail
    refine (hM _).mono ?_
    rintro e wM ⟨rfl, rfl⟩
    go_wp2_with fail
    refine (hG _).mono ?_
    rintro e wM ⟨rfl, rfl⟩
    go_wp2
    exact bodyPost_ret (v := outV (0, 1)) (by simp [results, Try.results20, go_sem, outV]) rfl ⟨rfl, hB0 _ _⟩
  rw [hg] at hG
  cases hf : isB f 0 2
  · rw [resD_no4 hf]
    rw [hf] at hF
    clear hn hg hf hI
    go_enter Try.func20, Try.ntmps20
    go_wp2_with fail
    refine (hM _).mono ?_
    rintro e wM ⟨rfl, rfl⟩
    go_wp2_with fail
    refine (hG _).mono ?_
    rintro e wM ⟨rfl, rfl⟩
    go_wp2_with fail
    refine (hF _).mono ?_
    rintro e wM ⟨rfl, rfl⟩
    go_wp2
    exact bodyPost_ret (v := outV (0, 1)) (by simp [results, Try.results20, go_sem, outV]) rfl ⟨rfl, hB0 _ _⟩
  rw [hf] at hF
  cases ht : tabB l
  · rw [resD_no1 ht]
    rw [ht] at hI
    clear hn hg hf ht
    go_enter Try.func20, Try.ntmps20
    go_wp2_with fail
    refine (hM _).mono ?_
    rintro e wM ⟨rfl, rfl⟩
    go_wp2_with fail
    refine (hG _).mono ?_
    rintro e wM ⟨rfl, rfl⟩
    go_wp2_with fail
    refine (hF _).mono ?_
    rintro e wM ⟨rfl, rfl⟩
    go_wp2_with fail
    refine (hI _ (hv.below (hB0 _ _))).mono ?_
    rintro e w1 ⟨rfl, hb1⟩
    obtain ⟨⟨r0, r1⟩, fz, t0, hB1⟩ := KEEP w1 hb1
    have f0 := fz 0
    have f1 := fz 1
    obtain ⟨s0, s1⟩ := set_two (v0 := .int .i64 0) (v1 := .int .i64 1) r0 r1
    clear fz KEEP hb1
    go_wp2
    exact bodyPost_ret (v := outV (0, 1)) (by simp [results, Try.results20, go_sem, outV, s0, s1]) rfl ⟨rfl, (hB1.setCell (show w.heap.size ≤ w.heap.size + 1 by omega) _).setCell (show w.heap.size ≤ w.heap.size + 1 by omega) _⟩
  rw [resD_yes ht hn hg hf]
  rw [ht] at hI
  have hR := tab_of ht
  obtain ⟨n1, n2⟩ := isB_of_t hn
  have hlen := hR.len
  have hil := inst_le l n
  have hS := fun w (h : TabAt w (.agg #[.slice a l.length cap]) l) => impl_shownAt l _ n hR n1 n2 w h
  have hP := fun w (h : TabAt w (.agg #[.slice a l.length cap]) l) => impl_gapResolved l _ n g hR n1 n2 w h
  have hD := fun v w base h1 h2 h3 => impl_foldResolved (instL l n) v f w base h1 h2 h3
  have E1 := @resR_gap l n g f
  have E2 := @resR_fold l n g f
  clear hn hg hf ht
  generalize instL l n = L at *
  generalize gapR (gapD l n) n g = Pg at *
  generalize foldD L f = Pf at *
  generalize resR l n g f = R at *
  by_cases hL : L.length = 0
  · obtain rfl := E1 hL
    obtain ⟨p1, p2⟩ := R
    rw [hL] at hS
    unfold outV at hP ⊢
    clear E1 E2 hD
    go_enter Try.func20, Try.ntmps20
    go_wp2_with fail
    refine (hM _).mono ?_
    rintro e wM ⟨rfl, rfl⟩
    go_wp2_with fail
    refine (hG _).mono ?_
    rintro e wM ⟨rfl, rfl⟩
    go_wp2_with fail
    refine (hF _).mono ?_
    rintro e wM ⟨rfl, rfl⟩
    go_wp2_with fail
    refine (hI _ (hv.below (hB0 _ _))).mono ?_
    rintro e w1 ⟨rfl, hb1⟩
    obtain ⟨⟨r0, r1⟩, fz, t0, hB1⟩ := KEEP w1 hb1
    clear KEEP hb1
    go_wp2_with fail
    refine (hS _ (hv.below hB1)).mono ?_
    rintro e w2 ⟨v2, rfl, hrow, hb2⟩
    obtain ⟨a2, c2, rfl⟩ := row_shape hrow
    obtain ⟨hc2, hf2⟩ := bcell hb2
    have hB2 := hB1.trans (hb2.mono hB1.size)
    have q0 := (hc2 _ _ (World.block_lt_of_cell? _ _ r0)).trans r0
    have q1 := (hc2 _ _ (World.block_lt_of_cell? _ _ r1)).trans r1
    have e0 := (hf2 _ _ (World.block_lt_of_cell? _ _ r0)).trans (fz 0)
    have e1 := (hf2 _ _ (World.block_lt_of_cell? _ _ r1)).trans (fz 1)
    have u0 := (hc2 _ _ (World.block_lt_of_cell? _ _ t0)).trans t0
    clear hc2 hf2 hb2 hrow r0 r1 fz t0
    go_wp2_with fail
    refine (hP _ (hv.below hB2)).mono ?_
    rintro e w3 ⟨rfl, hb3⟩
    obtain ⟨hc3, hf3⟩ := bcell hb3
    have hB3 := hB2.trans (hb3.mono hB2.size)
    have k0 := (hc3 _ _ (World.block_lt_of_cell? _ _ q0)).trans q0
    have k1 := (hc3 _ _ (World.block_lt_of_cell? _ _ q1)).trans q1
    have g0 := (hf3 _ _ (World.block_lt_of_cell? _ _ q0)).trans e0
    have g1 := (hf3 _ _ (World.block_lt_of_cell? _ _ q1)).trans e1
    obtain ⟨s0, s1⟩ := set_two (v0 := .int .i64 p1) (v1 := .int .i64 p2) k0 k1
    clear hc3 hf3 hb3 q0 q1 e0 e1 u0
    go_wp2
    exact bodyPost_ret (v := .agg #[.int .i64 p1, .int .i64 p2]) (by simp [results, Try.results20, go_sem, s0, s1]) rfl ⟨rfl, (hB3.setCell (show w.heap.size ≤ w.heap.size + 1 by omega) _).setCell (show w.heap.size ≤ w.heap.size + 1 by omega) _⟩
  · obtain rfl := E2 hL
    obtain ⟨p1, p2⟩ := R
    have hne : ((L.length : Int) == 0) = false := beq_eq_false_iff_ne.mpr (by omega)
    unfold outV at hD ⊢
    clear E1 E2 hP
    go_enter Try.func20, Try.ntmps20
    go_wp2_with fail
    refine (hM _).mono ?_
    rintro e wM ⟨rfl, rfl⟩
    go_wp2_with fail
    refine (hG _).mono ?_
    rintro e wM ⟨rfl, rfl⟩
    go_wp2_with fail
    refine (hF _).mono ?_
    rintro e wM ⟨rfl, rfl⟩
    go_wp2_with fail
    refine (hI _ (hv.below (hB0 _ _))).mono ?_
    rintro e w1 ⟨rfl, hb1⟩
    obtain ⟨⟨r0, r1⟩, fz, t0, hB1⟩ := KEEP w1 hb1
    clear KEEP hb1
    go_wp2_with fail
    refine (hS _ (hv.below hB1)).mono ?_
    rintro e w2 ⟨v2, rfl, hrow, hb2⟩
    have hD2 := hD _ _ _ (by omega) (by omega) hrow
    obtain ⟨a2, c2, rfl⟩ := row_shape hrow
    obtain ⟨hc2, hf2⟩ := bcell hb2
    have hB2 := hB1.trans (hb2.mono hB1.size)
    have q0 := (hc2 _ _ (World.block_lt_of_cell? _ _ r0)).trans r0
    have q1 := (hc2 _ _ (World.block_lt_of_cell? _ _ r1)).trans r1
    have e0 := (hf2 _ _ (World.block_lt_of_cell? _ _ r0)).trans (fz 0)
    have e1 := (hf2 _ _ (World.block_lt_of_cell? _ _ r1)).trans (fz 1)
    clear hc2 hf2 hb2 hrow r0 r1 fz t0 hD
    go_wp2_with fail
    refine hD2.mono ?_
    rintro e w3 ⟨rfl, hb3⟩
    obtain ⟨hc3, hf3⟩ := bcell hb3
    have hB3 := hB2.trans (hb3.mono hB2.size)
    have k0 := (hc3 _ _ (World.block_lt_of_cell? _ _ q0)).trans q0
    have k1 := (hc3 _ _ (World.block_lt_of_cell? _ _ q1)).trans q1
    have g0 := (hf3 _ _ (World.block_lt_of_cell? _ _ q0)).trans e0
    have g1 := (hf3 _ _ (World.block_lt_of_cell? _ _ q1)).trans e1
    obtain ⟨s0, s1⟩ := set_two (v0 := .int .i64 p1) (v1 := .int .i64 p2) k0 k1
    clear hc3 hf3 hb3 q0 q1 e0 e1
    go_wp2
    exact bodyPost_ret (v := .agg #[.int .i64 p1, .int .i64 p2]) (by simp [results, Try.results20, go_sem, s0, s1]) rfl ⟨rfl, (hB3.setCell (show w.heap.size ≤ w.heap.size + 1 by omega) _).setCell (show w.heap.size ≤ w.heap.size + 1 by omega) _⟩
/-- the instants, of any arguments. -/
def instD (l : List TurnD) (n : Int) : List Int := if tabB l = true ∧ isB n (-62135596800) 253402300799 = true then instL l n else []
theorem instD_no1 {l : List TurnD} {n : Int} (h : tabB l = false) : instD l n = [] := by unfold instD; rw [if_neg (by rw [h]; simp)]
theorem instD_no2 {l : List TurnD} {n : Int} (h : isB n (-62135596800) 253402300799 = false) : instD l n = [] := by unfold instD; rw [if_neg (by rw [h]; simp)]
theorem instD_yes {l : List TurnD} {n : Int} (h : tabB l = true) (h2 : isB n (-62135596800) 253402300799 = true) : instD l n = instL l n := by unfold instD; rw [if_pos ⟨h, h2⟩]
set_option maxRecDepth 20000 in
set_option maxHeartbeats 2000000 in
theorem impl_InstantsOf (l : List TurnD) (v : Value) (n : Int) (w : World) (hv : TabAt w v l) (hok : ∀ r ∈ l, r.ok) (hl : l.length ≤ 1048576) :
    Calls Try.prog 16 #[v, .int .i64 n] w fun e w' => ∃ v', e = .returned v' ∧ w'.ownsRow w.heap.size 2 1 v' (instD l n).length ((instD l n).map (Value.int .i64)) ∧ Below w.heap.size w w' := by
  obtain ⟨a, cap, rfl, hA⟩ := hv
  have hv : TabAt w (.agg #[.slice a l.length cap]) l := ⟨a, cap, rfl, hA⟩
  have hB0 := fun o => (Below.refl w.heap.size w).alloc (Nat.le_refl _) o
  have hM := fun w => impl_isTimeT n w
  have hI := fun w (h : TabAt w (.agg #[.slice a l.length cap]) l) => impl_TableRight l _ w h hok hl
  cases hn : isB n (-62135596800) 253402300799
  · rw [instD_no2 hn]
    rw [hn] at hM
    clear hn
    go_enter Try.func16, Try.ntmps16
    go_wp2_with fail
    refine (hM _).mono ?_
    rintro e wM ⟨rfl, rfl⟩
    go_wp2
    go_ret
    exact ⟨_, rfl, World.ownsRow_nil _ _ _ _, hB0 _⟩
  rw [hn] at hM
  cases ht : tabB l
  · rw [instD_no1 ht]
    rw [ht] at hI
    clear ht hn
    go_enter Try.func16, Try.ntmps16
    go_wp2_with fail
    refine (hM _).mono ?_
    rintro e wM ⟨rfl, rfl⟩
    go_wp2_with fail
    refine (hI _ (hv.below (hB0 _))).mono ?_
    rintro e w1 ⟨rfl, hb1⟩
    go_wp2
    go_ret
    exact ⟨_, rfl, World.ownsRow_nil _ _ _ _, (hB0 _).trans (hb1.mono (by simp))⟩
  rw [instD_yes ht hn]
  rw [ht] at hI
  obtain ⟨n1, n2⟩ := isB_of_t hn
  have hS := fun w (h : TabAt w (.agg #[.slice a l.length cap]) l) => impl_shownAt l _ n (tab_of ht) n1 n2 w h
  clear ht hn
  generalize instL l n = L at *
  go_enter Try.func16, Try.ntmps16
  go_wp2_with fail
  refine (hM _).mono ?_
  rintro e wM ⟨rfl, rfl⟩
  go_wp2_with fail
  refine (hI _ (hv.below (hB0 _))).mono ?_
  rintro e w1 ⟨rfl, hb1⟩
  have t0 : w1.cell? ⟨w.heap.size, 0, none⟩ = some (.slice a l.length cap) := ((bcell hb1).1 _ _ (by simp)).trans (by simp [go_sem])
  have hB1 := (hB0 _).trans (hb1.mono (by simp))
  clear hb1
  go_wp2_with fail
  refine (hS _ (hv.below hB1)).mono ?_
  rintro e w2 ⟨v2, rfl, hrow, hb2⟩
  have hrow2 := owns_mono hrow hB1.size
  clear hrow
  go_wp2
  go_ret
  exact ⟨_, rfl, hrow2, hB1.trans (hb2.mono hB1.size)⟩
set_option maxRecDepth 20000 in
set_option maxHeartbeats 2000000 in
theorem spec_InstantsOf (l : List TurnD) (v : Value) (n : Int) (w : World) (hv : TabAt w v l) (hok : ∀ r ∈ l, r.ok) :
    Calls Try.prog 18 #[v, .int .i64 n] w fun e w' => ∃ v', e = .returned v' ∧ w'.ownsRow w.heap.size 2 1 v' (instD l n).length ((instD l n).map (Value.int .i64)) ∧ Below w.heap.size w w' := by
  obtain ⟨a, cap, rfl, hA⟩ := hv
  have hv : TabAt w (.agg #[.slice a l.length cap]) l := ⟨a, cap, rfl, hA⟩
  have hB0 := fun o => (Below.refl w.heap.size w).alloc (Nat.le_refl _) o
  have hM := fun w => spec_l01TimeT n w
  have hI := fun w (h : TabAt w (.agg #[.slice a l.length cap]) l) => spec_TableRight l _ w h hok
  cases ht : tabB l
  · rw [instD_no1 ht]
    rw [ht] at hI
    clear ht
    go_enter Try.func18, Try.ntmps18
    go_wp2_with fail
    refine (hI _ (hv.below (hB0 _))).mono ?_
    rintro e w1 ⟨rfl, hb1⟩
    have hB1 := (hB0 _).trans (hb1.mono (by simp))
    have hE := owns_mono (own_emptyI w1 2) hB1.size
    have hBE := hB1.alloc hB1.size (.cells #[] 2)
    clear hb1
    go_wp2
    go_ret
    exact ⟨_, rfl, hE, hBE⟩
  rw [ht] at hI
  cases hn : isB n (-62135596800) 253402300799
  · rw [instD_no2 hn]
    rw [hn] at hM
    clear hn ht
    go_enter Try.func18, Try.ntmps18
    go_wp2_with fail
    refine (hI _ (hv.below (hB0 _))).mono ?_
    rintro e w1 ⟨rfl, hb1⟩
    have hB1 := (hB0 _).trans (hb1.mono (by simp))
    clear hb1
    go_wp2_with fail
    refine (hM _).mono ?_
    rintro e wM ⟨rfl, rfl⟩
    have hE := owns_mono (own_emptyI wM 2) hB1.size
    have hBE := hB1.alloc hB1.size (.cells #[] 2)
    go_wp2
    go_ret
    exact ⟨_, rfl, hE, hBE⟩
  rw [instD_yes ht hn]
  rw [hn] at hM
  obtain ⟨n1, n2⟩ := isB_of_t hn
  have hS := fun w (h : TabAt w (.agg #[.slice a l.length cap]) l) => spec_l04Instants l _ n (tab_of ht) n1 n2 w h
  clear ht hn
  generalize instL l n = L at *
  go_enter Try.func18, Try.ntmps18
  go_wp2_with fail
  refine (hI _ (hv.below (hB0 _))).mono ?_
  rintro e w1 ⟨rfl, hb1⟩
  have t0 : w1.cell? ⟨w.heap.size, 0, none⟩ = some (.slice a l.length cap) := ((bcell hb1).1 _ _ (by simp)).trans (by simp [go_sem])
  have hB1 := (hB0 _).trans (hb1.mono (by simp))
  clear hb1
  go_wp2_with fail
  refine (hM _).mono ?_
  rintro e wM ⟨rfl, rfl⟩
  go_wp2_with fail
  refine (hS _ (hv.below hB1)).mono ?_
  rintro e w2 ⟨v2, rfl, hrow, hb2⟩
  have hrow2 := owns_mono hrow hB1.size
  clear hrow
  go_wp2
  go_ret
  exact ⟨_, rfl, hrow2, hB1.trans (hb2.mono hB1.size)⟩
end Go.Proofs.Ytjfonbnmdcpepaa
