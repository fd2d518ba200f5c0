/- Draws of texts: one that is changed a little; what TimeRead and OffsetRead are asked. -/
import Derived.Test.YtibhbpgnjikjnaaDoorDraws3
import Derived.BigRegion
import Derived.Deep.Cut
import Derived.Deep.CutRange
namespace Go.Proofs.YtibhbpgnjikjnaaDoor
open Go.RowKit

theorem grown_drew {w W : World} {row : Option Nat} (h : w.grownBy W row) (n : Nat) : w.grownBy (W.drewN n) row := ⟨h.1, h.2, h.3, h.4, h.5⟩
theorem src_end1 {p : Nat} {a : Option Addr} {len cap : Nat} {zs : List Int} {w w2 : World} (hS : SrcAt p a len cap zs w2) (hG : w.grownBy w2 (some p)) (o : Obj) (n : Nat) : SrcAt p a len cap zs ((w2.alloc o).drewN n) ∧ w.grownBy ((w2.alloc o).drewN n) (some p) :=
  ⟨hS.grown (below1 w2 o n), grown_drew (hG.trans (World.grownBy_alloc w2 o (some p))) n⟩
set_option maxHeartbeats 2000000 in
theorem src_spoil (p : Nat) (a : Option Addr) (len cap : Nat) (zs : List Int) (t : ByteArray) (w : World) (hS : SrcAt p a len cap zs w) (hz : t.size ≤ 1000) :
    Calls Tryd.prog 79 #[.pointer (some ⟨p, 0, none⟩), .string t] w fun e w' => ∃ s : ByteArray, e = .returned (.string s) ∧ s.size ≤ t.size + 1 ∧ SrcAt p a len cap zs w' ∧ w.grownBy w' (some p) := by
  go_enter Tryd.func79, Tryd.ntmps79
  go_wp2_with fail
  refine (src_n p a len cap zs (t.size + 1) _ hS (by omega) (by omega)).mono ?_
  rintro e w1 ⟨k0, rfl, v0, v1, hS1, hg1⟩
  obtain ⟨k, rfl⟩ : ∃ k : Nat, k0 = k := ⟨k0.toNat, by omega⟩
  have hk : k ≤ t.size := by omega
  clear v0 v1
  go_wp2_with fail
  refine (src_n p a len cap zs 17 _ hS1 (by omega) (by omega)).mono ?_
  rintro e w2 ⟨j0, rfl, v0, v1, hS2, hg2⟩
  obtain ⟨j, rfl⟩ : ∃ j : Nat, j0 = j := ⟨j0.toNat, by omega⟩
  have hj : j < 17 := by omega
  clear v0 v1
  have hcv := fun w c => conv1 w c
  have hG := hg1.trans hg2
  by_cases hkt : k = t.size
  · have he : ((k : Int) == (t.size : Int)) = true := by simp; omega
    go_wp2_with fail
    go_quiet (fail)
    go_wp2
    go_ret
    exact ⟨_, rfl, by simp only [ByteArray.size_append, S_size]; simp, src_end1 hS2 hG _ _⟩
  · have he : ((k : Int) == (t.size : Int)) = false := by simp; omega
    go_wp2_with fail
    refine (src_one p a len cap zs 3 _ (hS2.alloc _) (by omega) (by omega)).mono ?_
    rintro e w3 ⟨v, rfl, hS3, hg3⟩
    have hG3 := hG.trans (gtrans_alloc hg3)
    cases v
    · go_wp2_with fail
      refine (src_one p a len cap zs 2 _ hS3 (by omega) (by omega)).mono ?_
      rintro e w4 ⟨v, rfl, hS4, hg4⟩
      have hG4 := hG3.trans hg4
      cases v
      · go_wp2_with fail
        go_quiet (fail)
        go_wp2
        go_ret
        exact ⟨_, rfl, by simp only [ByteArray.size_append, ByteArray.size_extract, S_size]; simp; omega, hS4.grown (below_drewN (Below.refl _ _) _), grown_drew hG4 _⟩
      · go_wp2_with fail
        go_quiet (fail)
        go_wp2
        go_ret
        exact ⟨_, rfl, by simp only [ByteArray.size_append, ByteArray.size_extract]; omega, hS4.grown (below_drewN (Below.refl _ _) _), grown_drew hG4 _⟩
    · go_wp2_with fail
      go_quiet (fail)
      go_wp2
      go_ret
      exact ⟨_, rfl, by simp only [ByteArray.size_append, ByteArray.size_extract, S_size]; simp; omega, hS3.grown (below_drewN (Below.refl _ _) _), grown_drew hG3 _⟩
/-- a row of texts that was just made. -/
theorem str_row (w : World) (l : List ByteArray) (T : TypeId) (hl : ∀ s ∈ l, s.size ≤ 100) : StrRow (w.alloc (.cells (l.map Value.string).toArray T)) w.heap.size l.length 100 := fun i hi =>
  ⟨l[i], by simp [hi], hl _ (List.getElem_mem hi)⟩
theorem timeV_len (n : Int) : (timeV n).length ≤ 19 := by
  cases h : isB n (-62135596800) 253402300799
  · rw [timeV_no h]; simp
  · have ⟨h1, h2⟩ := isB_of_t h
    obtain ⟨y, m, d, ey, em, ed, y1, y2, m1, m2, d1, d2⟩ := date_nat (n := n / 86400) (by omega) (by omega)
    rw [timeV_ok h1 h2]
    unfold timeL
    rw [ey, em, ed]
    have l1 := dateL_len y2 (show m < 100 by omega) (show d < 100 by omega)
    have l2 := clockL_len (s := (n % 86400).toNat) (by omega)
    simp only [Int.toNat_natCast, List.length_append, List.length_cons, l1, l2]; omega
set_option maxHeartbeats 1000000 in
theorem draw_TimeRead (a : Option Addr) (len cap : Nat) (w : World) (h : RowOf w a len) (hl : len ≤ 1048576) :
    Calls Tryd.prog 37 #[.slice a len cap] w fun e w' => ∃ s : ByteArray, e = .returned (.string s) ∧ s.size ≤ 100 ∧ Below w.heap.size w w' := by
  go_enter Tryd.func37, Tryd.ntmps37
  go_wp2_with fail
  refine (src_source a len cap _ h hl).mono ?_
  rintro e w0 ⟨rfl, hS, hb⟩
  go_wp2_with fail
  refine (src_instant _ a len cap [] _ hS).mono ?_
  rintro e w1 ⟨n, rfl, hS1, hg1⟩
  have hb1 := below_src hb hg1
  go_wp2_with fail
  refine (spec_TimeText n _).mono ?_
  rintro e w2 ⟨rfl, hb2⟩
  have hS2 := hS1.grown hb2
  have hB2 := hb1.trans (hb2.mono hb1.size)
  have hl2 := timeV_len n
  generalize timeV n = tl at *
  go_wp2_with fail
  refine (src_one _ a len cap [] 2 _ hS2 (by omega) (by omega)).mono ?_
  rintro e w3 ⟨v, rfl, hS3, hg3⟩
  have hB3 := below_src hB2 hg3
  cases v
  · go_wp2_with fail
    refine (src_one _ a len cap [] 6 _ hS3 (by omega) (by omega)).mono ?_
    rintro e w5 ⟨v5, rfl, hS5, hg5⟩
    have hB5 := below_src hB3 hg5
    cases v5
    · go_wp2
      go_ret
      exact ⟨_, rfl, by rw [S_size]; omega, hB5⟩
    · go_wp2_with fail
      refine (src_pick _ a len cap [] w5.heap.size 6 100 _ (hS5.alloc _) (str_row w5 [⟨#[50, 48, 50, 49, 45, 48, 50, 45, 50, 57, 32, 48, 48, 58, 48, 48, 58, 48, 48]⟩, ⟨#[50, 48, 50, 48, 45, 48, 50, 45, 50, 57, 32, 50, 51, 58, 53, 57, 58, 53, 57]⟩, ⟨#[48, 48, 48, 49, 45, 48, 49, 45, 48, 49, 32, 48, 48, 58, 48, 48, 58, 48, 48]⟩, ⟨#[57, 57, 57, 57, 45, 49, 50, 45, 51, 49, 32, 50, 51, 58, 53, 57, 58, 54, 48]⟩, ⟨#[50, 48, 50, 48, 45, 48, 49, 45, 48, 49, 32, 50, 52, 58, 48, 48, 58, 48, 48]⟩, ⟨#[50, 48, 50, 48, 45, 48, 49, 45, 48, 49, 84, 48, 48, 58, 48, 48, 58, 48, 48]⟩] _ (by decide)) (by have := hS5.lt; omega) (by omega) (by omega)).mono ?_
      rintro e w6 ⟨s6, rfl, hz6, hS6, hg6⟩
      go_wp2
      go_ret
      exact ⟨_, rfl, hz6, below_src (hB5.alloc hB5.size _) hg6⟩
  · go_wp2_with fail
    refine (src_spoil _ a len cap [] (S tl) _ hS3 (by rw [S_size]; omega)).mono ?_
    rintro e w4 ⟨s4, rfl, hz4, hS4, hg4⟩
    have hz5 : s4.size ≤ tl.length + 1 := by have := S_size tl; omega
    have hB4 := below_src hB3 hg4
    go_wp2_with fail
    refine (src_one _ a len cap [] 6 _ hS4 (by omega) (by omega)).mono ?_
    rintro e w5 ⟨v5, rfl, hS5, hg5⟩
    have hB5 := below_src hB4 hg5
    cases v5
    · go_wp2
      go_ret
      exact ⟨_, rfl, by omega, hB5⟩
    · go_wp2_with fail
      refine (src_pick _ a len cap [] w5.heap.size 6 100 _ (hS5.alloc _) (str_row w5 [⟨#[50, 48, 50, 49, 45, 48, 50, 45, 50, 57, 32, 48, 48, 58, 48, 48, 58, 48, 48]⟩, ⟨#[50, 48, 50, 48, 45, 48, 50, 45, 50, 57, 32, 50, 51, 58, 53, 57, 58, 53, 57]⟩, ⟨#[48, 48, 48, 49, 45, 48, 49, 45, 48, 49, 32, 48, 48, 58, 48, 48, 58, 48, 48]⟩, ⟨#[57, 57, 57, 57, 45, 49, 50, 45, 51, 49, 32, 50, 51, 58, 53, 57, 58, 54, 48]⟩, ⟨#[50, 48, 50, 48, 45, 48, 49, 45, 48, 49, 32, 50, 52, 58, 48, 48, 58, 48, 48]⟩, ⟨#[50, 48, 50, 48, 45, 48, 49, 45, 48, 49, 84, 48, 48, 58, 48, 48, 58, 48, 48]⟩] _ (by decide)) (by have := hS5.lt; omega) (by omega) (by omega)).mono ?_
      rintro e w6 ⟨s6, rfl, hz6, hS6, hg6⟩
      go_wp2
      go_ret
      exact ⟨_, rfl, hz6, below_src (hB5.alloc hB5.size _) hg6⟩
theorem offL_len (s : Nat) (h : s ≤ 604800) : (offL s).length ≤ 50 := by
  have l1 := dd_len (n := s / 3600) (by omega)
  have l2 := pad2 (u := s / 60 % 60) (by omega)
  have l3 := pad2 (u := s % 60) (by omega)
  unfold offL
  split <;> simp [padL] at * <;> omega
theorem offV_len (n : Int) : (offV n).length ≤ 60 := by
  cases h : isB n (-604800) 604800
  · rw [offV_no h]; simp
  · have ⟨h1, h2⟩ := isB_of_t h
    rcases Int.lt_or_le n 0 with hn | hn
    · obtain ⟨s, rfl⟩ : ∃ s : Nat, n = -(s : Int) := ⟨n.natAbs, by omega⟩
      rw [offV_neg (by omega) (by omega)]
      have := offL_len s (by omega)
      simp; omega
    · obtain ⟨s, rfl⟩ : ∃ s : Nat, n = (s : Int) := ⟨n.toNat, by omega⟩
      rw [offV_pos (by omega)]
      have := offL_len s (by omega)
      omega
set_option maxHeartbeats 1000000 in
theorem draw_OffsetRead (a : Option Addr) (len cap : Nat) (w : World) (h : RowOf w a len) (hl : len ≤ 1048576) :
    Calls Tryd.prog 38 #[.slice a len cap] w fun e w' => ∃ s : ByteArray, e = .returned (.string s) ∧ s.size ≤ 100 ∧ Below w.heap.size w w' := by
  go_enter Tryd.func38, Tryd.ntmps38
  go_wp2_with fail
  refine (src_source a len cap _ h hl).mono ?_
  rintro e w0 ⟨rfl, hS, hb⟩
  go_wp2_with fail
  refine (src_n _ a len cap [] 200000 _ hS (by omega) (by omega)).mono ?_
  rintro e w1 ⟨n, rfl, n0, n1, hS1, hg1⟩
  have hb1 := below_src hb hg1
  go_wp2_with fail
  refine (spec_OffsetText (n - 100000) _).mono ?_
  rintro e w2 ⟨rfl, hb2⟩
  have hS2 := hS1.grown hb2
  have hB2 := hb1.trans (hb2.mono hb1.size)
  have hl2 := offV_len (n - 100000)
  generalize offV (n - 100000) = tl at *
  go_wp2_with fail
  refine (src_one _ a len cap [] 2 _ hS2 (by omega) (by omega)).mono ?_
  rintro e w3 ⟨v, rfl, hS3, hg3⟩
  have hB3 := below_src hB2 hg3
  cases v
  · go_wp2_with fail
    refine (src_one _ a len cap [] 4 _ hS3 (by omega) (by omega)).mono ?_
    rintro e w5 ⟨v5, rfl, hS5, hg5⟩
    have hB5 := below_src hB3 hg5
    cases v5
    · go_wp2
      go_ret
      exact ⟨_, rfl, by rw [S_size]; omega, hB5⟩
    · go_wp2_with fail
      refine (src_pick _ a len cap [] w5.heap.size 12 100 _ (hS5.alloc _) (str_row w5 [⟨#[45]⟩, ⟨#[]⟩, ⟨#[49]⟩, ⟨#[45, 53]⟩, ⟨#[50, 52, 58, 48, 48]⟩, ⟨#[49, 54, 56]⟩, ⟨#[49, 54, 57]⟩, ⟨#[49, 58, 54, 48]⟩, ⟨#[49, 58, 53]⟩, ⟨#[45, 45, 49]⟩, ⟨#[49, 58, 48, 48, 58, 48, 48, 58, 48, 48]⟩, ⟨#[48, 48, 48, 48]⟩] _ (by decide)) (by have := hS5.lt; omega) (by omega) (by omega)).mono ?_
      rintro e w6 ⟨s6, rfl, hz6, hS6, hg6⟩
      go_wp2
      go_ret
      exact ⟨_, rfl, hz6, below_src (hB5.alloc hB5.size _) hg6⟩
  · go_wp2_with fail
    refine (src_spoil _ a len cap [] (S tl) _ hS3 (by rw [S_size]; omega)).mono ?_
    rintro e w4 ⟨s4, rfl, hz4, hS4, hg4⟩
    have hz5 : s4.size ≤ tl.length + 1 := by have := S_size tl; omega
    have hB4 := below_src hB3 hg4
    go_wp2_with fail
    refine (src_one _ a len cap [] 4 _ hS4 (by omega) (by omega)).mono ?_
    rintro e w5 ⟨v5, rfl, hS5, hg5⟩
    have hB5 := below_src hB4 hg5
    cases v5
    · go_wp2
      go_ret
      exact ⟨_, rfl, by omega, hB5⟩
    · go_wp2_with fail
      refine (src_pick _ a len cap [] w5.heap.size 12 100 _ (hS5.alloc _) (str_row w5 [⟨#[45]⟩, ⟨#[]⟩, ⟨#[49]⟩, ⟨#[45, 53]⟩, ⟨#[50, 52, 58, 48, 48]⟩, ⟨#[49, 54, 56]⟩, ⟨#[49, 54, 57]⟩, ⟨#[49, 58, 54, 48]⟩, ⟨#[49, 58, 53]⟩, ⟨#[45, 45, 49]⟩, ⟨#[49, 58, 48, 48, 58, 48, 48, 58, 48, 48]⟩, ⟨#[48, 48, 48, 48]⟩] _ (by decide)) (by have := hS5.lt; omega) (by omega) (by omega)).mono ?_
      rintro e w6 ⟨s6, rfl, hz6, hS6, hg6⟩
      go_wp2
      go_ret
      exact ⟨_, rfl, hz6, below_src (hB5.alloc hB5.size _) hg6⟩
end Go.Proofs.YtibhbpgnjikjnaaDoor
