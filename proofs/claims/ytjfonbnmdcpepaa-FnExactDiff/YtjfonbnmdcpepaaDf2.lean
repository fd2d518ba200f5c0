/- Two rising lists gone through at once: the program's meetings. -/
import Derived.Test.YtjfonbnmdcpepaaDf1
import Derived.Test.YtjfonbnmdcpepaaInts
import Derived.Test.YtjfonbnmdcpepaaTwo
import Derived.Deep.AppendLies
import Derived.Deep.RegionHeld3
namespace Go.Proofs.Ytjfonbnmdcpepaa
open Go.RowKit

theorem infoMeet : (Try.prog.info? 128).map (fun i => (i.zero, i.size, i.bytes)) = some (some (.agg #[.int .i64 0, .int .i64 0, .int .i64 0]), 3, 24) := by kernel_rfl
theorem meet_len {M : List MeetD} : ∀ r ∈ M.map MeetD.cs, r.length = 3 := fun r hr => by
  obtain ⟨x, _, rfl⟩ := List.mem_map.mp hr; rfl
def OwnsM (w : World) (base : Nat) (v : Value) (M : List MeetD) : Prop := w.ownsRow base 128 3 v M.length (M.map MeetD.cs).flatten
theorem OwnsM.add {w : World} {base : Nat} {v : Value} {M : List MeetD} {m : MeetD} (h : w.ownsRow base 128 3 v (M.length + 1) ((M.map MeetD.cs).flatten ++ m.cs)) : OwnsM w base v (M ++ [m]) := by
  unfold OwnsM
  rw [List.length_append, List.map_append, List.flatten_append]
  simpa using h
set_option maxRecDepth 20000 in
set_option maxHeartbeats 8000000 in
theorem impl_meetings (A B : List Int) (ga gb ca cb : Nat) (w : World) (hA : ∀ (i : Nat) x, A[i]? = some x → w.cell? ⟨ga, i, none⟩ = some (.int .i64 x)) (hB : ∀ (i : Nat) x, B[i]? = some x → w.cell? ⟨gb, i, none⟩ = some (.int .i64 x)) (ha : ga < w.heap.size) (hb : gb < w.heap.size)
    (upA : A.Pairwise (· < ·)) (upB : B.Pairwise (· < ·)) {z : Int} (a0 : A[0]? = some z) (b0 : B[0]? = some z) (lA : A.length ≤ 600) (lB : B.length ≤ 600) :
    Calls Try.prog 84 #[.slice (some ⟨ga, 0, none⟩) A.length ca, .slice (some ⟨gb, 0, none⟩) B.length cb] w fun e W' => ∃ v' M i j, e = .returned v' ∧ OwnsM W' w.heap.size v' M ∧ Met A B i j M ∧ A.length = i + 1 ∧ B.length = j + 1 ∧ Below w.heap.size w W' := by
  obtain ⟨i0, hi, hz0, hz1, hz2⟩ := info_parts infoMeet
  have k0 := hA 0 z a0
  have HM0 : Hid (Met A B 0 0 [⟨z, 0, 0⟩]) := Met.begin upA upB a0 b0
  have hAl : 0 < A.length := (List.getElem?_eq_some_iff.mp a0).1
  have hBl : 0 < B.length := (List.getElem?_eq_some_iff.mp b0).1
  have HA : Hid (∀ (i : Nat) x, A[i]? = some x → w.cell? ⟨ga, i, none⟩ = some (.int .i64 x)) := hA
  have HB : Hid (∀ (i : Nat) x, B[i]? = some x → w.cell? ⟨gb, i, none⟩ = some (.int .i64 x)) := hB
  clear a0 b0 upA upB hA hB
  go_enter Try.func84, Try.ntmps84
  go_wp2
  go_loopw [5, 6, 7] (fun s5 s6 s7 wr => ∃ (i j : Nat) (M : List MeetD), i < A.length ∧ j < B.length ∧ s6 = .int .i64 i ∧ s7 = .int .i64 j ∧ OwnsM wr w.heap.size s5 M ∧ Hid (Met A B i j M) ∧ Below w.heap.size w wr) (fun _ s6 s7 _ => A.length + B.length - (intOf s6).toNat - (intOf s7).toNat)
  case atStart => exact ⟨0, 0, _, hAl, hBl, rfl, rfl, ⟨rfl, .inr ⟨w.heap.size, 1, _, rfl, Nat.le_refl _, World.alloc_heap_new w _, Nat.le_refl _, by unfold maxLen; omega, rfl, rfl⟩⟩, HM0, (Below.refl _ _).alloc (Nat.le_refl _) _⟩
  case round =>
    clear HM0 k0 hAl hBl
    obtain ⟨i, j, M, hil, hjl, rfl, rfl, hown, HM, hBw⟩ := hrel
    have hML := HM.out.len
    have hsW := hBw.size
    obtain ⟨a5, c5, rfl⟩ := row_shape hown
    obtain ⟨x, hx⟩ : ∃ x, A[i]? = some x := ⟨_, List.getElem?_eq_getElem hil⟩
    obtain ⟨y, hy⟩ : ∃ y, B[j]? = some y := ⟨_, List.getElem?_eq_getElem hjl⟩
    have kx := (hBw.cell (p := ⟨ga, i, none⟩) ha).trans (HA.out i x hx)
    have ky := (hBw.cell (p := ⟨gb, j, none⟩) hb).trans (HB.out j y hy)
    by_cases gi : i + 1 < A.length
    · obtain ⟨x1, hx1⟩ : ∃ x, A[i + 1]? = some x := ⟨_, List.getElem?_eq_getElem gi⟩
      have kx1 := (hBw.cell (p := ⟨ga, i + 1, none⟩) ha).trans (HA.out (i + 1) x1 hx1)
      have di : decide ((i : Int) + 1 < (A.length : Int)) = true := by simp; omega
      have ei : ((i : Int) + 1 == (A.length : Int)) = false := by simp; omega
      by_cases gj : j + 1 < B.length
      · obtain ⟨y1, hy1⟩ : ∃ y, B[j + 1]? = some y := ⟨_, List.getElem?_eq_getElem gj⟩
        have ky1 := (hBw.cell (p := ⟨gb, j + 1, none⟩) hb).trans (HB.out (j + 1) y1 hy1)
        have dj : decide ((j : Int) + 1 < (B.length : Int)) = true := by simp; omega
        have ej : ((j : Int) + 1 == (B.length : Int)) = false := by simp; omega
        by_cases g1 : x1 < y1
        · have d1 : decide (x1 < y1) = true := decide_eq_true g1
          have HN : Hid (Met A B (i + 1) (j) (M ++ [⟨max x1 y, i + 1, j⟩])) := HM.out.first hx hy hx1 fun q hq => by rw [hy1] at hq; obtain rfl := Option.some.inj hq; exact g1
          have HI : Hid ((i + 1 : Nat) < A.length ∧ (j : Nat) < B.length) := ⟨by omega, by omega⟩
          have na : some ga ≠ (Value.slice a5 M.length c5).ownBlock := fun e => by have := (hown.lt ga e.symm).1; omega
          have nb : some gb ≠ (Value.slice a5 M.length c5).ownBlock := fun e => by have := (hown.lt gb e.symm).1; omega
          have bi : (0 : Int) ≤ (i : Int) + 1 := by omega
          have bi2 : (i : Int) + 1 < (A.length : Int) := by omega
          have ti : ((i : Int) + 1).toNat = i + 1 := by omega
          clear HM HA HB hx hy hx1 hy1
          go_wp2_with fail
          go_quiet (fail)
          go_wp2_with fail
          go_region_held3 (fun w' => w'.cell? ⟨ga, i + 1, none⟩ = some (.int .i64 x1) ∧ w'.cell? ⟨gb, j, none⟩ = some (.int .i64 y)) (go_keep) ((refine step_append_lies _ (by rfl) (.tmp 78) (.tmp 91) 124 (by rfl) w.heap.size 128 i0 (.agg #[.int .i64 0, .int .i64 0, .int .i64 0]) 3 24 Try.underlying124 hi hz0 hz1 hz2 rfl (by omega) (.slice a5 M.length c5) M.length (M.map MeetD.cs).flatten (by rfl) (World.ownsRow.alloc (w := wr.drew) hown _) ⟨wr.heap.size, 0, none⟩ 1 1 [.int .i64 (max x1 y), .int .i64 ((i : Int) + 1), .int .i64 (j : Int)] (by rfl) rfl (cells_new _ _ _) (by intro u hu; simp at hu; rcases hu with rfl | rfl | rfl <;> rfl) (by omega) (by unfold maxLen; omega) (by omega) (by simp; omega) _ rfl ?_; intro g1 cap1 w1 hown1 hgrow hat hlt; have n1 := hgrow.cell (a := ⟨ga, i + 1, none⟩) (keepC ((Below.refl _ wr.drew).alloc (Nat.le_refl _) _) kx1) na; have n2 := hgrow.cell (a := ⟨gb, j, none⟩) (keepC ((Below.refl _ wr.drew).alloc (Nat.le_refl _) _) ky) nb))
          have hB1 : Below w.heap.size w w1 := Below.grown (Below.alloc (below_drewN hBw _) (by simp; omega) _) hgrow (by simp; omega) (fun k hk => (hown.lt k hk).1)
          have HO : Hid (OwnsM w1 w.heap.size (.slice (some ⟨g1, 0, none⟩) (M.length + 1) cap1) (M ++ [⟨max x1 y, i + 1, j⟩])) := OwnsM.add (by simpa [MeetD.cs] using hown1)
          clear hgrow hown1 hown n1 n2 hat hlt na nb kx ky
          go_wp2
          go_roundw
          case rel => exact ⟨i + 1, j, _, HI.out.1, HI.out.2, by go_num, rfl, HO.out, HN, hB1⟩
          case measure => simp [intOf]; omega
        · have d1 : decide (x1 < y1) = false := decide_eq_false g1
          by_cases g2 : y1 < x1
          · have d2 : decide (y1 < x1) = true := decide_eq_true g2
            have HN : Hid (Met A B (i) (j + 1) (M ++ [⟨max x y1, i, j + 1⟩])) := HM.out.second hx hy hy1 fun q hq => by rw [hx1] at hq; obtain rfl := Option.some.inj hq; exact g2
            have HI : Hid ((i : Nat) < A.length ∧ (j + 1 : Nat) < B.length) := ⟨by omega, by omega⟩
            have na : some ga ≠ (Value.slice a5 M.length c5).ownBlock := fun e => by have := (hown.lt ga e.symm).1; omega
            have nb : some gb ≠ (Value.slice a5 M.length c5).ownBlock := fun e => by have := (hown.lt gb e.symm).1; omega
            have bj : (0 : Int) ≤ (j : Int) + 1 := by omega
            have bj2 : (j : Int) + 1 < (B.length : Int) := by omega
            have tj : ((j : Int) + 1).toNat = j + 1 := by omega
            clear HM HA HB hx hy hx1 hy1
            go_wp2_with fail
            go_quiet (fail)
            go_wp2_with fail
            go_quiet (fail)
            go_wp2_with fail
            go_region_held3 (fun w' => w'.cell? ⟨ga, i, none⟩ = some (.int .i64 x) ∧ w'.cell? ⟨gb, j + 1, none⟩ = some (.int .i64 y1)) (go_keep) ((refine step_append_lies _ (by rfl) (.tmp 78) (.tmp 91) 124 (by rfl) w.heap.size 128 i0 (.agg #[.int .i64 0, .int .i64 0, .int .i64 0]) 3 24 Try.underlying124 hi hz0 hz1 hz2 rfl (by omega) (.slice a5 M.length c5) M.length (M.map MeetD.cs).flatten (by rfl) (World.ownsRow.alloc (w := wr.drew) hown _) ⟨wr.heap.size, 0, none⟩ 1 1 [.int .i64 (max x y1), .int .i64 (i : Int), .int .i64 ((j : Int) + 1)] (by rfl) rfl (cells_new _ _ _) (by intro u hu; simp at hu; rcases hu with rfl | rfl | rfl <;> rfl) (by omega) (by unfold maxLen; omega) (by omega) (by simp; omega) _ rfl ?_; intro g1 cap1 w1 hown1 hgrow hat hlt; have n1 := hgrow.cell (a := ⟨ga, i, none⟩) (keepC ((Below.refl _ wr.drew).alloc (Nat.le_refl _) _) kx) na; have n2 := hgrow.cell (a := ⟨gb, j + 1, none⟩) (keepC ((Below.refl _ wr.drew).alloc (Nat.le_refl _) _) ky1) nb))
            have hB1 : Below w.heap.size w w1 := Below.grown (Below.alloc (below_drewN hBw _) (by simp; omega) _) hgrow (by simp; omega) (fun k hk => (hown.lt k hk).1)
            have HO : Hid (OwnsM w1 w.heap.size (.slice (some ⟨g1, 0, none⟩) (M.length + 1) cap1) (M ++ [⟨max x y1, i, j + 1⟩])) := OwnsM.add (by simpa [MeetD.cs] using hown1)
            clear hgrow hown1 hown n1 n2 hat hlt na nb kx ky
            go_wp2
            go_roundw
            case rel => exact ⟨i, j + 1, _, HI.out.1, HI.out.2, rfl, by go_num, HO.out, HN, hB1⟩
            case measure => simp [intOf]; omega
          · have d2 : decide (y1 < x1) = false := decide_eq_false g2
            have HN : Hid (Met A B (i + 1) (j + 1) (M ++ [⟨max x1 y1, i + 1, j + 1⟩])) := HM.out.both hx hy hx1 hy1 (by omega)
            have HI : Hid ((i + 1 : Nat) < A.length ∧ (j + 1 : Nat) < B.length) := ⟨by omega, by omega⟩
            have na : some ga ≠ (Value.slice a5 M.length c5).ownBlock := fun e => by have := (hown.lt ga e.symm).1; omega
            have nb : some gb ≠ (Value.slice a5 M.length c5).ownBlock := fun e => by have := (hown.lt gb e.symm).1; omega
            have bi : (0 : Int) ≤ (i : Int) + 1 := by omega
            have bi2 : (i : Int) + 1 < (A.length : Int) := by omega
            have ti : ((i : Int) + 1).toNat = i + 1 := by omega
            have bj : (0 : Int) ≤ (j : Int) + 1 := by omega
            have bj2 : (j : Int) + 1 < (B.length : Int) := by omega
            have tj : ((j : Int) + 1).toNat = j + 1 := by omega
            clear HM HA HB hx hy hx1 hy1
            go_wp2_with fail
            go_quiet (fail)
            go_wp2_with fail
            go_quiet (fail)
            go_wp2_with fail
            go_region_held3 (fun w' => w'.cell? ⟨ga, i + 1, none⟩ = some (.int .i64 x1) ∧ w'.cell? ⟨gb, j + 1, none⟩ = some (.int .i64 y1)) (go_keep) ((refine step_append_lies _ (by rfl) (.tmp 78) (.tmp 91) 124 (by rfl) w.heap.size 128 i0 (.agg #[.int .i64 0, .int .i64 0, .int .i64 0]) 3 24 Try.underlying124 hi hz0 hz1 hz2 rfl (by omega) (.slice a5 M.length c5) M.length (M.map MeetD.cs).flatten (by rfl) (World.ownsRow.alloc (w := wr.drew) hown _) ⟨wr.heap.size, 0, none⟩ 1 1 [.int .i64 (max x1 y1), .int .i64 ((i : Int) + 1), .int .i64 ((j : Int) + 1)] (by rfl) rfl (cells_new _ _ _) (by intro u hu; simp at hu; rcases hu with rfl | rfl | rfl <;> rfl) (by omega) (by unfold maxLen; omega) (by omega) (by simp; omega) _ rfl ?_; intro g1 cap1 w1 hown1 hgrow hat hlt; have n1 := hgrow.cell (a := ⟨ga, i + 1, none⟩) (keepC ((Below.refl _ wr.drew).alloc (Nat.le_refl _) _) kx1) na; have n2 := hgrow.cell (a := ⟨gb, j + 1, none⟩) (keepC ((Below.refl _ wr.drew).alloc (Nat.le_refl _) _) ky1) nb))
            have hB1 : Below w.heap.size w w1 := Below.grown (Below.alloc (below_drewN hBw _) (by simp; omega) _) hgrow (by simp; omega) (fun k hk => (hown.lt k hk).1)
            have HO : Hid (OwnsM w1 w.heap.size (.slice (some ⟨g1, 0, none⟩) (M.length + 1) cap1) (M ++ [⟨max x1 y1, i + 1, j + 1⟩])) := OwnsM.add (by simpa [MeetD.cs] using hown1)
            clear hgrow hown1 hown n1 n2 hat hlt na nb kx ky
            go_wp2
            go_roundw
            case rel => exact ⟨i + 1, j + 1, _, HI.out.1, HI.out.2, by go_num, by go_num, HO.out, HN, hB1⟩
            case measure => simp [intOf]; omega
      · have dj : decide ((j : Int) + 1 < (B.length : Int)) = false := by simp; omega
        have ej : ((j : Int) + 1 == (B.length : Int)) = true := by simp; omega
        have hy1 : B[j + 1]? = none := List.getElem?_eq_none (by omega)
        have HN : Hid (Met A B (i + 1) (j) (M ++ [⟨max x1 y, i + 1, j⟩])) := HM.out.first hx hy hx1 fun q hq => by rw [hy1] at hq; cases hq
        have HI : Hid ((i + 1 : Nat) < A.length ∧ (j : Nat) < B.length) := ⟨by omega, by omega⟩
        have na : some ga ≠ (Value.slice a5 M.length c5).ownBlock := fun e => by have := (hown.lt ga e.symm).1; omega
        have nb : some gb ≠ (Value.slice a5 M.length c5).ownBlock := fun e => by have := (hown.lt gb e.symm).1; omega
        have bi : (0 : Int) ≤ (i : Int) + 1 := by omega
        have bi2 : (i : Int) + 1 < (A.length : Int) := by omega
        have ti : ((i : Int) + 1).toNat = i + 1 := by omega
        clear HM HA HB hx hy hx1 hy1
        go_wp2_with fail
        go_quiet (fail)
        go_wp2_with fail
        go_region_held3 (fun w' => w'.cell? ⟨ga, i + 1, none⟩ = some (.int .i64 x1) ∧ w'.cell? ⟨gb, j, none⟩ = some (.int .i64 y)) (go_keep) ((refine step_append_lies _ (by rfl) (.tmp 78) (.tmp 91) 124 (by rfl) w.heap.size 128 i0 (.agg #[.int .i64 0, .int .i64 0, .int .i64 0]) 3 24 Try.underlying124 hi hz0 hz1 hz2 rfl (by omega) (.slice a5 M.length c5) M.length (M.map MeetD.cs).flatten (by rfl) (World.ownsRow.alloc (w := wr.drew) hown _) ⟨wr.heap.size, 0, none⟩ 1 1 [.int .i64 (max x1 y), .int .i64 ((i : Int) + 1), .int .i64 (j : Int)] (by rfl) rfl (cells_new _ _ _) (by intro u hu; simp at hu; rcases hu with rfl | rfl | rfl <;> rfl) (by omega) (by unfold maxLen; omega) (by omega) (by simp; omega) _ rfl ?_; intro g1 cap1 w1 hown1 hgrow hat hlt; have n1 := hgrow.cell (a := ⟨ga, i + 1, none⟩) (keepC ((Below.refl _ wr.drew).alloc (Nat.le_refl _) _) kx1) na; have n2 := hgrow.cell (a := ⟨gb, j, none⟩) (keepC ((Below.refl _ wr.drew).alloc (Nat.le_refl _) _) ky) nb))
        have hB1 : Below w.heap.size w w1 := Below.grown (Below.alloc (below_drewN hBw _) (by simp; omega) _) hgrow (by simp; omega) (fun k hk => (hown.lt k hk).1)
        have HO : Hid (OwnsM w1 w.heap.size (.slice (some ⟨g1, 0, none⟩) (M.length + 1) cap1) (M ++ [⟨max x1 y, i + 1, j⟩])) := OwnsM.add (by simpa [MeetD.cs] using hown1)
        clear hgrow hown1 hown n1 n2 hat hlt na nb kx ky
        go_wp2
        go_roundw
        case rel => exact ⟨i + 1, j, _, HI.out.1, HI.out.2, by go_num, rfl, HO.out, HN, hB1⟩
        case measure => simp [intOf]; omega
    · have di : decide ((i : Int) + 1 < (A.length : Int)) = false := by simp; omega
      have ei : ((i : Int) + 1 == (A.length : Int)) = true := by simp; omega
      have hx1 : A[i + 1]? = none := List.getElem?_eq_none (by omega)
      by_cases gj : j + 1 < B.length
      · obtain ⟨y1, hy1⟩ : ∃ y, B[j + 1]? = some y := ⟨_, List.getElem?_eq_getElem gj⟩
        have ky1 := (hBw.cell (p := ⟨gb, j + 1, none⟩) hb).trans (HB.out (j + 1) y1 hy1)
        have dj : decide ((j : Int) + 1 < (B.length : Int)) = true := by simp; omega
        have ej : ((j : Int) + 1 == (B.length : Int)) = false := by simp; omega
        have HN : Hid (Met A B (i) (j + 1) (M ++ [⟨max x y1, i, j + 1⟩])) := HM.out.second hx hy hy1 fun q hq => by rw [hx1] at hq; cases hq
        have HI : Hid ((i : Nat) < A.length ∧ (j + 1 : Nat) < B.length) := ⟨by omega, by omega⟩
        have na : some ga ≠ (Value.slice a5 M.length c5).ownBlock := fun e => by have := (hown.lt ga e.symm).1; omega
        have nb : some gb ≠ (Value.slice a5 M.length c5).ownBlock := fun e => by have := (hown.lt gb e.symm).1; omega
        have bj : (0 : Int) ≤ (j : Int) + 1 := by omega
        have bj2 : (j : Int) + 1 < (B.length : Int) := by omega
        have tj : ((j : Int) + 1).toNat = j + 1 := by omega
        clear HM HA HB hx hy hx1 hy1
        go_wp2_with fail
        go_quiet (fail)
        go_wp2_with fail
        go_quiet (fail)
        go_wp2_with fail
        go_region_held3 (fun w' => w'.cell? ⟨ga, i, none⟩ = some (.int .i64 x) ∧ w'.cell? ⟨gb, j + 1, none⟩ = some (.int .i64 y1)) (go_keep) ((refine step_append_lies _ (by rfl) (.tmp 78) (.tmp 91) 124 (by rfl) w.heap.size 128 i0 (.agg #[.int .i64 0, .int .i64 0, .int .i64 0]) 3 24 Try.underlying124 hi hz0 hz1 hz2 rfl (by omega) (.slice a5 M.length c5) M.length (M.map MeetD.cs).flatten (by rfl) (World.ownsRow.alloc (w := wr.drew) hown _) ⟨wr.heap.size, 0, none⟩ 1 1 [.int .i64 (max x y1), .int .i64 (i : Int), .int .i64 ((j : Int) + 1)] (by rfl) rfl (cells_new _ _ _) (by intro u hu; simp at hu; rcases hu with rfl | rfl | rfl <;> rfl) (by omega) (by unfold maxLen; omega) (by omega) (by simp; omega) _ rfl ?_; intro g1 cap1 w1 hown1 hgrow hat hlt; have n1 := hgrow.cell (a := ⟨ga, i, none⟩) (keepC ((Below.refl _ wr.drew).alloc (Nat.le_refl _) _) kx) na; have n2 := hgrow.cell (a := ⟨gb, j + 1, none⟩) (keepC ((Below.refl _ wr.drew).alloc (Nat.le_refl _) _) ky1) nb))
        have hB1 : Below w.heap.size w w1 := Below.grown (Below.alloc (below_drewN hBw _) (by simp; omega) _) hgrow (by simp; omega) (fun k hk => (hown.lt k hk).1)
        have HO : Hid (OwnsM w1 w.heap.size (.slice (some ⟨g1, 0, none⟩) (M.length + 1) cap1) (M ++ [⟨max x y1, i, j + 1⟩])) := OwnsM.add (by simpa [MeetD.cs] using hown1)
        clear hgrow hown1 hown n1 n2 hat hlt na nb kx ky
        go_wp2
        go_roundw
        case rel => exact ⟨i, j + 1, _, HI.out.1, HI.out.2, rfl, by go_num, HO.out, HN, hB1⟩
        case measure => simp [intOf]; omega
      · have dj : decide ((j : Int) + 1 < (B.length : Int)) = false := by simp; omega
        have eA : A.length = i + 1 := by omega
        have eB : B.length = j + 1 := by omega
        have HR : Hid (A.length = i + 1 ∧ B.length = j + 1) := ⟨eA, eB⟩
        clear eA eB HA HB hx hy hx1
        go_wp2
        go_ret
        exact ⟨_, M, i, j, rfl, hown, HM.out, HR.out.1, HR.out.2, hBw⟩
end Go.Proofs.Ytjfonbnmdcpepaa
