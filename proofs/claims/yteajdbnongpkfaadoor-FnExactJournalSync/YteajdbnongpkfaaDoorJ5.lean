/- The model's JournalAdd, JournalSync. -/
import Derived.Test.YteajdbnongpkfaaDoorJ4
import Derived.Deep.Cut
namespace Go.Proofs.YteajdbnongpkfaaDoor
open Go.RowKit

/-- what is told by JournalAdd. -/
structure AddD where
  t : ByteArray
  y : Int
  c : Int
def AddD.val (d : AddD) : Value := .agg #[.string d.t, .int .i64 d.y, .string ⟨#[]⟩, .int .i64 d.c]
def lfB : ByteArray := ⟨#[10]⟩
def addT (s : ByteArray) (y : Int) (l : ByteArray) : AddD :=
  if 8000 < l.size then ⟨⟨#[]⟩, 0, 2⟩ else if jB s y = false then ⟨⟨#[]⟩, 0, 1⟩ else if lineB l = false then ⟨⟨#[]⟩, 0, 1⟩ else if 8000 < s.size + l.size + 1 then ⟨⟨#[]⟩, 0, 7⟩ else ⟨s ++ l ++ ⟨#[10]⟩, y, 0⟩
def syncY (s : ByteArray) (y : Int) : Int := if jB s y = true then s.size else y
/-- how many bytes a crash leaves, ahead of the look for a line feed. -/
def keepN (s : ByteArray) (y keep : Int) : Nat := (if 0 < keep then (if keep < s.size - y then y + keep else s.size) else y).toNat
def crashT (s : ByteArray) (y keep : Int) : ByteArray := if jB s y = true then s.extract 0 (lfs s (keepN s y keep)).2 else s
def crashY (s : ByteArray) (y keep : Int) : Int := if jB s y = true then (lfs s (keepN s y keep)).2 else y

/-- a Journal's block w.heap.size and the answer's behind it, as they are while both are kept. -/
theorem keep2 {w w1 : World} {s : ByteArray} {y : Int} (hb1 : Below ((w.alloc (.cells #[.string s, .int .i64 y] 26)).alloc (.cells #[.string ⟨#[]⟩, .int .i64 0] 26)).heap.size ((w.alloc (.cells #[.string s, .int .i64 y] 26)).alloc (.cells #[.string ⟨#[]⟩, .int .i64 0] 26)) w1) :
    (w1.cell? ⟨w.heap.size, 0, none⟩ = some (.string s) ∧ w1.cell? ⟨w.heap.size, 1, none⟩ = some (.int .i64 y)) ∧ (∀ i, w1.frozen? ⟨w.heap.size, i, none⟩ = false) ∧
    (w1.cell? ⟨w.heap.size + 1, 0, none⟩ = some (.string ⟨#[]⟩) ∧ w1.cell? ⟨w.heap.size + 1, 1, none⟩ = some (.int .i64 0)) ∧ (∀ i, w1.frozen? ⟨w.heap.size + 1, i, none⟩ = false) ∧ Below w.heap.size w w1 := by
  obtain ⟨hc1, hf1⟩ := bcell hb1
  have hB0 := ((Below.refl w.heap.size w).alloc (Nat.le_refl _) (.cells #[.string s, .int .i64 y] 26)).alloc (by simp) (.cells #[.string ⟨#[]⟩, .int .i64 0] 26)
  exact ⟨⟨(hc1 _ _ (by simp; omega)).trans (by simp [go_sem]), (hc1 _ _ (by simp; omega)).trans (by simp [go_sem])⟩, fun i => (hf1 _ _ (by simp; omega)).trans (by simp [go_sem]), ⟨(hc1 _ _ (by simp)).trans (by simp [go_sem]), (hc1 _ _ (by simp)).trans (by simp [go_sem])⟩, fun i => (hf1 _ _ (by simp)).trans (by simp [go_sem]), hB0.trans (hb1.mono (by simp; omega))⟩
theorem set_twoJ {w : World} {g : Nat} {a0 a1 v0 v1 : Value} (h0 : w.cell? ⟨g, 0, none⟩ = some a0) (h1 : w.cell? ⟨g, 1, none⟩ = some a1) :
    ((w.setCell ⟨g, 0, none⟩ v0).setCell ⟨g, 1, none⟩ v1).cell? ⟨g, 0, none⟩ = some v0 ∧ ((w.setCell ⟨g, 0, none⟩ v0).setCell ⟨g, 1, none⟩ v1).cell? ⟨g, 1, none⟩ = some v1 := by
  refine ⟨?_, ?_⟩
  · rw [World.cell?_setCell_other _ _ _ _ (by simp), World.cell?_setCell_same _ _ _ h0]
  · refine World.cell?_setCell_same _ _ _ (u := a1) ?_
    rw [World.cell?_setCell_other _ _ _ _ (by simp)]; exact h1
theorem set_four {w : World} {g : Nat} {a0 a1 a2 a3 v0 v1 v2 v3 : Value} (h0 : w.cell? ⟨g, 0, none⟩ = some a0) (h1 : w.cell? ⟨g, 1, none⟩ = some a1) (h2 : w.cell? ⟨g, 2, none⟩ = some a2) (h3 : w.cell? ⟨g, 3, none⟩ = some a3) :
    ((((w.setCell ⟨g, 0, none⟩ v0).setCell ⟨g, 1, none⟩ v1).setCell ⟨g, 2, none⟩ v2).setCell ⟨g, 3, none⟩ v3).cell? ⟨g, 0, none⟩ = some v0 ∧ ((((w.setCell ⟨g, 0, none⟩ v0).setCell ⟨g, 1, none⟩ v1).setCell ⟨g, 2, none⟩ v2).setCell ⟨g, 3, none⟩ v3).cell? ⟨g, 1, none⟩ = some v1 ∧
    ((((w.setCell ⟨g, 0, none⟩ v0).setCell ⟨g, 1, none⟩ v1).setCell ⟨g, 2, none⟩ v2).setCell ⟨g, 3, none⟩ v3).cell? ⟨g, 2, none⟩ = some v2 ∧ ((((w.setCell ⟨g, 0, none⟩ v0).setCell ⟨g, 1, none⟩ v1).setCell ⟨g, 2, none⟩ v2).setCell ⟨g, 3, none⟩ v3).cell? ⟨g, 3, none⟩ = some v3 := by
  obtain ⟨t0, t1⟩ := set_twoJ (v0 := v0) (v1 := v1) h0 h1
  have t2 : ((w.setCell ⟨g, 0, none⟩ v0).setCell ⟨g, 1, none⟩ v1).cell? ⟨g, 2, none⟩ = some a2 := by
    rw [World.cell?_setCell_other _ _ _ _ (by simp), World.cell?_setCell_other _ _ _ _ (by simp)]; exact h2
  have t3 : ((w.setCell ⟨g, 0, none⟩ v0).setCell ⟨g, 1, none⟩ v1).cell? ⟨g, 3, none⟩ = some a3 := by
    rw [World.cell?_setCell_other _ _ _ _ (by simp), World.cell?_setCell_other _ _ _ _ (by simp)]; exact h3
  generalize (w.setCell ⟨g, 0, none⟩ v0).setCell ⟨g, 1, none⟩ v1 = u at *
  refine ⟨?_, ?_, ?_, ?_⟩
  · rw [World.cell?_setCell_other _ _ _ _ (by simp), World.cell?_setCell_other _ _ _ _ (by simp)]; exact t0
  · rw [World.cell?_setCell_other _ _ _ _ (by simp), World.cell?_setCell_other _ _ _ _ (by simp)]; exact t1
  · rw [World.cell?_setCell_other _ _ _ _ (by simp), World.cell?_setCell_same _ _ _ t2]
  · refine World.cell?_setCell_same _ _ _ (u := a3) ?_
    rw [World.cell?_setCell_other _ _ _ _ (by simp)]; exact t3
theorem below4 {n : Nat} {w w1 : World} {g : Nat} {v0 v1 v2 v3 : Value} (h : Below n w w1) (hg : n ≤ g) : Below n w ((((w1.setCell ⟨g, 0, none⟩ v0).setCell ⟨g, 1, none⟩ v1).setCell ⟨g, 2, none⟩ v2).setCell ⟨g, 3, none⟩ v3) :=
  (((h.setCell hg _).setCell hg _).setCell hg _).setCell hg _
theorem keepO {w w1 : World} {s : ByteArray} {y : Int} (hb1 : Below ((w.alloc (.cells #[.string s, .int .i64 y] 26)).alloc (.cells #[.string ⟨#[]⟩, .int .i64 0, .string ⟨#[]⟩, .int .i64 0] 30)).heap.size ((w.alloc (.cells #[.string s, .int .i64 y] 26)).alloc (.cells #[.string ⟨#[]⟩, .int .i64 0, .string ⟨#[]⟩, .int .i64 0] 30)) w1) :
    (w1.cell? ⟨w.heap.size, 0, none⟩ = some (.string s) ∧ w1.cell? ⟨w.heap.size, 1, none⟩ = some (.int .i64 y)) ∧ (∀ i, w1.frozen? ⟨w.heap.size, i, none⟩ = false) ∧
    (w1.cell? ⟨w.heap.size + 1, 0, none⟩ = some (.string ⟨#[]⟩) ∧ w1.cell? ⟨w.heap.size + 1, 1, none⟩ = some (.int .i64 0) ∧ w1.cell? ⟨w.heap.size + 1, 2, none⟩ = some (.string ⟨#[]⟩) ∧ w1.cell? ⟨w.heap.size + 1, 3, none⟩ = some (.int .i64 0)) ∧ (∀ i, w1.frozen? ⟨w.heap.size + 1, i, none⟩ = false) ∧ Below w.heap.size w w1 := by
  obtain ⟨hc1, hf1⟩ := bcell hb1
  have hB0 := ((Below.refl w.heap.size w).alloc (Nat.le_refl _) (.cells #[.string s, .int .i64 y] 26)).alloc (by simp) (.cells #[.string ⟨#[]⟩, .int .i64 0, .string ⟨#[]⟩, .int .i64 0] 30)
  exact ⟨⟨(hc1 _ _ (by simp; omega)).trans (by simp [go_sem]), (hc1 _ _ (by simp; omega)).trans (by simp [go_sem])⟩, fun i => (hf1 _ _ (by simp; omega)).trans (by simp [go_sem]), ⟨(hc1 _ _ (by simp)).trans (by simp [go_sem]), (hc1 _ _ (by simp)).trans (by simp [go_sem]), (hc1 _ _ (by simp)).trans (by simp [go_sem]), (hc1 _ _ (by simp)).trans (by simp [go_sem])⟩, fun i => (hf1 _ _ (by simp)).trans (by simp [go_sem]), hB0.trans (hb1.mono (by simp; omega))⟩

set_option maxHeartbeats 1000000 in
theorem spec_JournalSync (s : ByteArray) (y : Int) (w : World) :
    Calls Tryd.prog 14 #[.agg #[.string s, .int .i64 y]] w fun e w' => e = .returned (.agg #[.string s, .int .i64 (syncY s y)]) ∧ Below w.heap.size w w' := by
  have hJ := fun w => spec_JournalRight s y w
  cases hj : jB s y with
  | false =>
    have e : syncY s y = y := by unfold syncY; rw [hj]; rfl
    rw [e]
    rw [hj] at hJ
    clear hj e
    go_enter Tryd.func14, Tryd.ntmps14
    go_wp2_with fail
    refine (hJ _).mono ?_
    rintro e w1 ⟨rfl, hb1⟩
    obtain ⟨⟨c0, c1⟩, _, ⟨r0, r1⟩, f, hB1⟩ := keep2 hb1
    have f0 := f 0
    have f1 := f 1
    clear f hb1
    obtain ⟨s0, s1⟩ := set_twoJ (v0 := .string s) (v1 := .int .i64 y) r0 r1
    go_wp2
    exact bodyPost_ret (v := .agg #[.string s, .int .i64 y]) (by simp [results, Tryd.results14, go_sem, s0, s1]) rfl ⟨rfl, (hB1.setCell (show w.heap.size ≤ w.heap.size + 1 by omega) _).setCell (show w.heap.size ≤ w.heap.size + 1 by omega) _⟩
  | true =>
    have e : syncY s y = s.size := by unfold syncY; rw [hj]; rfl
    rw [e]
    rw [hj] at hJ
    clear hj e
    go_enter Tryd.func14, Tryd.ntmps14
    go_wp2_with fail
    refine (hJ _).mono ?_
    rintro e w1 ⟨rfl, hb1⟩
    obtain ⟨⟨c0, c1⟩, fj, ⟨r0, r1⟩, f, hB1⟩ := keep2 hb1
    have f0 := f 0
    have f1 := f 1
    have fj1 := fj 1
    clear f hb1 fj
    have r0' : (w1.setCell ⟨w.heap.size, 1, none⟩ (.int .i64 s.size)).cell? ⟨w.heap.size + 1, 0, none⟩ = some (.string ⟨#[]⟩) := by rw [World.cell?_setCell_other _ _ _ _ (by simp)]; exact r0
    have r1' : (w1.setCell ⟨w.heap.size, 1, none⟩ (.int .i64 s.size)).cell? ⟨w.heap.size + 1, 1, none⟩ = some (.int .i64 0) := by rw [World.cell?_setCell_other _ _ _ _ (by simp)]; exact r1
    obtain ⟨s0, s1⟩ := set_twoJ (v0 := .string s) (v1 := .int .i64 s.size) r0' r1'
    clear r0' r1'
    go_wp2
    exact bodyPost_ret (v := .agg #[.string s, .int .i64 s.size]) (by simp [results, Tryd.results14, go_sem, s0, s1]) rfl ⟨rfl, ((hB1.setCell (show w.heap.size ≤ w.heap.size from Nat.le_refl _) _).setCell (show w.heap.size ≤ w.heap.size + 1 by omega) _).setCell (show w.heap.size ≤ w.heap.size + 1 by omega) _⟩

theorem addT_size {s l : ByteArray} {y : Int} (h : 8000 < l.size) : addT s y l = ⟨⟨#[]⟩, 0, 2⟩ := by unfold addT; rw [if_pos h]
theorem addT_j {s l : ByteArray} {y : Int} (h : ¬ 8000 < l.size) (hj : jB s y = false) : addT s y l = ⟨⟨#[]⟩, 0, 1⟩ := by unfold addT; rw [if_neg h, if_pos hj]
theorem addT_l {s l : ByteArray} {y : Int} (h : ¬ 8000 < l.size) (hj : jB s y = true) (hl : lineB l = false) : addT s y l = ⟨⟨#[]⟩, 0, 1⟩ := by unfold addT; rw [if_neg h, if_neg (by rw [hj]; decide), if_pos hl]
theorem addT_full {s l : ByteArray} {y : Int} (h : ¬ 8000 < l.size) (hj : jB s y = true) (hl : lineB l = true) (hf : 8000 < s.size + l.size + 1) : addT s y l = ⟨⟨#[]⟩, 0, 7⟩ := by unfold addT; rw [if_neg h, if_neg (by rw [hj]; decide), if_neg (by rw [hl]; decide), if_pos hf]
theorem addT_ok {s l : ByteArray} {y : Int} (h : ¬ 8000 < l.size) (hj : jB s y = true) (hl : lineB l = true) (hf : ¬ 8000 < s.size + l.size + 1) : addT s y l = ⟨s ++ l ++ ⟨#[10]⟩, y, 0⟩ := by unfold addT; rw [if_neg h, if_neg (by rw [hj]; decide), if_neg (by rw [hl]; decide), if_neg hf]

set_option maxRecDepth 200000 in
set_option maxHeartbeats 2000000 in
theorem spec_JournalAdd (s : ByteArray) (y : Int) (l : ByteArray) (w : World) (hl8 : l.size ≤ 1048576) :
    Calls Tryd.prog 11 #[.agg #[.string s, .int .i64 y], .string l] w fun e w' => e = .returned (addT s y l).val ∧ Below w.heap.size w w' := by
  have hJ := fun w => spec_JournalRight s y w
  have hB0 := fun o o2 => ((Below.refl w.heap.size w).alloc (Nat.le_refl _) o).alloc (by simp) o2
  have hg1 : w.heap.size ≤ w.heap.size + 1 := by omega
  by_cases h8 : 8000 < l.size
  · rw [addT_size h8]
    go_enter Tryd.func11, Tryd.ntmps11
    go_wp2
    exact bodyPost_ret (v := AddD.val ⟨⟨#[]⟩, 0, 2⟩) (by simp [results, Tryd.results11, go_sem, AddD.val]) rfl ⟨rfl, hB0 _ _⟩
  · have hL := fun w => spec_l07Line l w (by omega)
    cases hj : jB s y with
    | false =>
      rw [addT_j h8 hj]
      rw [hj] at hJ
      clear hj hB0
      go_enter Tryd.func11, Tryd.ntmps11
      go_wp2_with fail
      refine (hJ _).mono ?_
      rintro e w1 ⟨rfl, hb1⟩
      obtain ⟨⟨c0, c1⟩, _, ⟨r0, r1, r2, r3⟩, f, hB1⟩ := keepO hb1
      have f0 := f 0
      have f1 := f 1
      have f2 := f 2
      have f3 := f 3
      obtain ⟨s0, s1, s2, s3⟩ := set_four (v0 := .string ⟨#[]⟩) (v1 := .int .i64 0) (v2 := .string ⟨#[]⟩) (v3 := .int .i64 1) r0 r1 r2 r3
      clear f hb1
      go_wp2
      exact bodyPost_ret (v := AddD.val ⟨⟨#[]⟩, 0, 1⟩) (by simp [results, Tryd.results11, go_sem, AddD.val, s0, s1, s2, s3]) rfl ⟨rfl, below4 hB1 hg1⟩
    | true =>
      have hs8 := (jB_in hj).1
      cases hl : lineB l with
      | false =>
        rw [addT_l h8 hj hl]
        rw [hj] at hJ
        rw [hl] at hL
        clear hj hB0 hl
        go_enter Tryd.func11, Tryd.ntmps11
        go_wp2_with fail
        refine (hJ _).mono ?_
        rintro e w1 ⟨rfl, hb1⟩
        obtain ⟨⟨c0, c1⟩, _, ⟨r0, r1, r2, r3⟩, f, hB1⟩ := keepO hb1
        have f0 := f 0
        have f1 := f 1
        have f2 := f 2
        have f3 := f 3
        obtain ⟨s0, s1, s2, s3⟩ := set_four (v0 := .string ⟨#[]⟩) (v1 := .int .i64 0) (v2 := .string ⟨#[]⟩) (v3 := .int .i64 1) r0 r1 r2 r3
        clear f hb1
        go_wp2_with (go_at_call 21; refine (hL _).mono ?_; rintro e w' ⟨rfl, rfl⟩)
        exact bodyPost_ret (v := AddD.val ⟨⟨#[]⟩, 0, 1⟩) (by simp [results, Tryd.results11, go_sem, AddD.val, s0, s1, s2, s3]) rfl ⟨rfl, below4 hB1 hg1⟩
      | true =>
        have hT : Hid (addT s y l = if 8000 < s.size + l.size + 1 then ⟨⟨#[]⟩, 0, 7⟩ else ⟨s ++ l ++ ⟨#[10]⟩, y, 0⟩) := by
          by_cases hf : 8000 < s.size + l.size + 1
          · rw [if_pos hf]; exact addT_full h8 hj hl hf
          · rw [if_neg hf]; exact addT_ok h8 hj hl hf
        have szn : (⟨#[10]⟩ : ByteArray).size = 1 := rfl
        have sz2 : (s ++ l).size = s.size + l.size := ByteArray.size_append
        have sz3 : (s ++ l ++ ⟨#[10]⟩).size = s.size + l.size + 1 := by rw [ByteArray.size_append, ByteArray.size_append, szn]
        rw [hj] at hJ
        rw [hl] at hL
        clear hj hB0 hl
        go_enter Tryd.func11, Tryd.ntmps11
        go_wp2_with fail
        refine (hJ _).mono ?_
        rintro e w1 ⟨rfl, hb1⟩
        obtain ⟨⟨c0, c1⟩, fj, ⟨r0, r1, r2, r3⟩, f, hB1⟩ := keepO hb1
        have f0 := f 0
        have f1 := f 1
        have f2 := f 2
        have f3 := f 3
        have fj0 := fj 0
        clear f fj hb1
        go_wp2_with fail
        refine (hL _).mono ?_
        rintro e w' ⟨rfl, hw⟩
        subst hw
        clear hJ hL
        go_upto_region 6 with fail
        have d0 : (w'.setCell ⟨w.heap.size, 0, none⟩ (.string (s ++ l ++ ⟨#[10]⟩))).cell? ⟨w.heap.size, 0, none⟩ = some (.string (s ++ l ++ ⟨#[10]⟩)) := World.cell?_setCell_same _ _ _ c0
        have d1 : (w'.setCell ⟨w.heap.size, 0, none⟩ (.string (s ++ l ++ ⟨#[10]⟩))).cell? ⟨w.heap.size, 1, none⟩ = some (.int .i64 y) := by rw [World.cell?_setCell_other _ _ _ _ (by simp)]; exact c1
        have q : ∀ i x, w'.cell? ⟨w.heap.size + 1, i, none⟩ = some x → (w'.setCell ⟨w.heap.size, 0, none⟩ (.string (s ++ l ++ ⟨#[10]⟩))).cell? ⟨w.heap.size + 1, i, none⟩ = some x := fun i x h => by rw [World.cell?_setCell_other _ _ _ _ (by simp)]; exact h
        have R0 := q 0 _ r0
        have R1 := q 1 _ r1
        have R2 := q 2 _ r2
        have R3 := q 3 _ r3
        have qf : ∀ i, w'.frozen? ⟨w.heap.size + 1, i, none⟩ = false → (w'.setCell ⟨w.heap.size, 0, none⟩ (.string (s ++ l ++ ⟨#[10]⟩))).frozen? ⟨w.heap.size + 1, i, none⟩ = false := fun i h => by simpa using h
        have F0 := qf 0 f0
        have F1 := qf 1 f1
        have F2 := qf 2 f2
        have F3 := qf 3 f3
        have hB2 : Below w.heap.size w (w'.setCell ⟨w.heap.size, 0, none⟩ (.string (s ++ l ++ ⟨#[10]⟩))) := hB1.setCell (show w.heap.size ≤ w.heap.size from Nat.le_refl _) _
        clear q qf f0 f1 f2 f3 r0 r1 r2 r3 hB1 c0 c1 fj0
        generalize w'.setCell ⟨w.heap.size, 0, none⟩ (.string (s ++ l ++ ⟨#[10]⟩)) = W2 at *
        generalize s ++ l ++ ⟨#[10]⟩ = T at *
        by_cases hf : 8000 < s.size + l.size + 1
        · rw [if_pos hf] at hT
          obtain ⟨s0, s1, s2, s3⟩ := set_four (v0 := .string ⟨#[]⟩) (v1 := .int .i64 0) (v2 := .string ⟨#[]⟩) (v3 := .int .i64 7) R0 R1 R2 R3
          go_wp2
          exact bodyPost_ret (v := AddD.val ⟨⟨#[]⟩, 0, 7⟩) (by simp [results, Tryd.results11, go_sem, AddD.val, s0, s1, s2, s3]) rfl ⟨by rw [hT.out], below4 hB2 hg1⟩
        · rw [if_neg hf] at hT
          obtain ⟨s0, s1, s2, s3⟩ := set_four (v0 := .string T) (v1 := .int .i64 y) (v2 := .string ⟨#[]⟩) (v3 := .int .i64 0) R0 R1 R2 R3
          go_wp2
          exact bodyPost_ret (v := AddD.val ⟨T, y, 0⟩) (by simp [results, Tryd.results11, go_sem, AddD.val, s0, s1, s2, s3]) rfl ⟨by rw [hT.out], below4 hB2 hg1⟩
end Go.Proofs.YteajdbnongpkfaaDoor
