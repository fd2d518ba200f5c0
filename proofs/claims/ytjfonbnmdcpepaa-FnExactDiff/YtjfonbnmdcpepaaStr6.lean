/- A wall time resolved: the program's. -/
import Derived.Test.YtjfonbnmdcpepaaStr5
namespace Go.Proofs.Ytjfonbnmdcpepaa
open Go.RowKit

def foldD (L : List Int) (f : Int) : Int × Int := if 1 < L.length ∧ f = 0 then (0, 9) else (L[if f = 2 then L.length - 1 else 0]?.getD 0, 0)
theorem foldD_no {L : List Int} {f : Int} (h1 : 1 < L.length) (h2 : f = 0) : foldD L f = (0, 9) := by unfold foldD; rw [if_pos ⟨h1, h2⟩]
theorem foldD_last {L : List Int} {f : Int} (h2 : f = 2) {x : Int} (hx : L[L.length - 1]? = some x) : foldD L f = (x, 0) := by unfold foldD; rw [if_neg (by omega), if_pos h2, hx]; rfl
theorem foldD_first {L : List Int} {f : Int} (h : ¬ (1 < L.length ∧ f = 0)) (h2 : f ≠ 2) {x : Int} (hx : L[0]? = some x) : foldD L f = (x, 0) := by unfold foldD; rw [if_neg h, if_neg h2, hx]; rfl
def gapR (G : Option StrK) (n g : Int) : Int × Int := match G with
  | none => (0, 4)
  | some s => if g = 0 then (0, 8) else if g = 1 then timeD (n - s.1.ahead) else timeD (n - s.1.own)
def resR (l : List TurnD) (n g f : Int) : Int × Int := if (instL l n).length = 0 then gapR (gapD l n) n g else foldD (instL l n) f
def resD (l : List TurnD) (n g f : Int) : Int × Int := if tabB l = true ∧ isB n (-62135596800) 253402300799 = true ∧ isB g 0 2 = true ∧ isB f 0 2 = true then resR l n g f else (0, 1)
theorem resD_no1 {l : List TurnD} {n g f : Int} (h : tabB l = false) : resD l n g f = (0, 1) := by unfold resD; rw [if_neg (by rw [h]; simp)]
theorem resD_no2 {l : List TurnD} {n g f : Int} (h : isB n (-62135596800) 253402300799 = false) : resD l n g f = (0, 1) := by unfold resD; rw [if_neg (by rw [h]; simp)]
theorem resD_no3 {l : List TurnD} {n g f : Int} (h : isB g 0 2 = false) : resD l n g f = (0, 1) := by unfold resD; rw [if_neg (by rw [h]; simp)]
theorem resD_no4 {l : List TurnD} {n g f : Int} (h : isB f 0 2 = false) : resD l n g f = (0, 1) := by unfold resD; rw [if_neg (by rw [h]; simp)]
theorem resD_yes {l : List TurnD} {n g f : Int} (h1 : tabB l = true) (h2 : isB n (-62135596800) 253402300799 = true) (h3 : isB g 0 2 = true) (h4 : isB f 0 2 = true) : resD l n g f = resR l n g f := by unfold resD; rw [if_pos ⟨h1, h2, h3, h4⟩]
set_option maxHeartbeats 400000 in
theorem impl_choiceRight (n : Int) (w : World) :
    Calls Try.prog 56 #[.int .i64 n] w fun e w' => e = .returned (.bool (isB n 0 2)) ∧ w' = w := by
  by_cases h : 0 ≤ n
  · go_enter Try.func56, Try.ntmps56
    go_wp2
    go_ret
    exact ⟨ret_bool (by unfold isB; simp [h]), rfl⟩
  · go_enter Try.func56, Try.ntmps56
    go_wp2
    go_ret
    exact ⟨ret_bool (isB_f (by omega)).symm, rfl⟩
/-- what a row of numbers holds. -/
theorem row_open {w : World} {base : Nat} {v : Value} {L : List Int} {n : Nat} (hn : L.length = n + 1) (h : w.ownsRow base 2 1 v L.length (L.map (Value.int .i64))) : ∃ g cap, v = .slice (some ⟨g, 0, none⟩) (n + 1) cap ∧ g < w.heap.size ∧ base ≤ g ∧ ∀ i x, L[i]? = some x → w.cell? ⟨g, i, none⟩ = some (.int .i64 x) := by
  rw [hn] at h
  obtain ⟨g, cap, rfl⟩ := ownsRow_succ h
  have hg := h.lt g rfl
  refine ⟨g, cap, rfl, hg.2, hg.1, fun i x hx => ?_⟩
  have hi := (List.getElem?_eq_some_iff.mp hx).1
  rw [h.cellAt i (by omega), List.getElem?_map, hx]
  rfl
set_option maxHeartbeats 2000000 in
theorem impl_foldResolved (L : List Int) (v : Value) (f : Int) (w : World) (base : Nat) (hL : 0 < L.length) (hm : L.length ≤ 600) (h : w.ownsRow base 2 1 v L.length (L.map (Value.int .i64))) :
    Calls Try.prog 58 #[v, .int .i64 f] w fun e w' => e = .returned (outV (foldD L f)) ∧ Below w.heap.size w w' := by
  obtain ⟨n, hn⟩ : ∃ n, L.length = n + 1 := ⟨L.length - 1, by omega⟩
  obtain ⟨g, cap, rfl, hg, _, hc⟩ := row_open hn h
  obtain ⟨x, hx⟩ : ∃ x, L[0]? = some x := ⟨_, List.getElem?_eq_getElem (by omega)⟩
  obtain ⟨y, hy⟩ : ∃ y, L[n]? = some y := ⟨_, List.getElem?_eq_getElem (by omega)⟩
  have c0 := hc 0 x hx
  have c1 := hc n y hy
  have hB0 := fun o => (Below.refl w.heap.size w).alloc (Nat.le_refl _) o
  have F1 := fun h1 h2 => @foldD_no L f h1 h2
  have F2 := fun h2 => @foldD_last L f h2 y (by rw [hn]; exact hy)
  have F3 := fun h1 h2 => @foldD_first L f h1 h2 x hx
  rw [hn] at F1 F3 hm
  generalize foldD L f = R at *
  have hne : g ≠ w.heap.size := by omega
  clear hc hx hy h hn hL
  by_cases h1 : 0 < n
  · by_cases h2 : f = 0
    · obtain rfl := F1 (by omega) h2
      subst h2
      clear F1 F2 F3
      go_enter Try.func58, Try.ntmps58
      go_wp2
      exact bodyPost_ret (v := outV (0, 9)) (by simp [results, Try.results58, go_sem, outV]) rfl ⟨rfl, hB0 _⟩
    · by_cases h3 : f = 2
      · obtain rfl := F2 h3
        subst h3
        clear F1 F2 F3
        go_enter Try.func58, Try.ntmps58
        go_wp2
        exact bodyPost_ret (v := outV (y, 0)) (by simp [results, Try.results58, go_sem, outV]) rfl ⟨rfl, hB0 _⟩
      · obtain rfl := F3 (by omega) h3
        have e1 : (f == 0) = false := by simp [h2]
        have e2 : (f == 2) = false := by simp [h3]
        clear F1 F2 F3
        go_enter Try.func58, Try.ntmps58
        go_wp2
        exact bodyPost_ret (v := outV (x, 0)) (by simp [results, Try.results58, go_sem, outV]) rfl ⟨rfl, hB0 _⟩
  · obtain rfl : n = 0 := by omega
    by_cases h3 : f = 2
    · obtain rfl := F2 h3
      subst h3
      clear F1 F2 F3 c0
      go_enter Try.func58, Try.ntmps58
      go_wp2
      exact bodyPost_ret (v := outV (y, 0)) (by simp [results, Try.results58, go_sem, outV]) rfl ⟨rfl, hB0 _⟩
    · obtain rfl := F3 (by omega) h3
      have e2 : (f == 2) = false := by simp [h3]
      clear F1 F2 F3 c1
      go_enter Try.func58, Try.ntmps58
      go_wp2
      exact bodyPost_ret (v := outV (x, 0)) (by simp [results, Try.results58, go_sem, outV]) rfl ⟨rfl, hB0 _⟩
theorem gapR_none (n g : Int) : gapR none n g = (0, 4) := rfl
theorem gapR_0 (s : StrK) (n : Int) : gapR (some s) n 0 = (0, 8) := rfl
theorem gapR_1 (s : StrK) (n : Int) : gapR (some s) n 1 = timeD (n - s.1.ahead) := rfl
theorem gapR_2 (s : StrK) {n g : Int} (h0 : g ≠ 0) (h1 : g ≠ 1) : gapR (some s) n g = timeD (n - s.1.own) := by unfold gapR; simp only; rw [if_neg h0, if_neg h1]
theorem str_ok (s : StrK) : (-100000 ≤ s.1.ahead ∧ s.1.ahead ≤ 100000) ∧ (-100000 ≤ s.1.own ∧ s.1.own ≤ 100000) := by
  have hx' := s.2
  unfold StrD.ok at hx'
  simp only [Bool.and_eq_true] at hx'
  exact ⟨isB_of_t hx'.2.2.1, isB_of_t hx'.2.2.2⟩
set_option maxRecDepth 20000 in
set_option maxHeartbeats 2000000 in
theorem impl_gapResolved (l : List TurnD) (v : Value) (m g : Int) (hT : TabR l) (m1 : -62135596800 ≤ m) (m2 : m ≤ 253402300799) (w : World) (hv : TabAt w v l) :
    Calls Try.prog 57 #[v, .int .i64 m, .int .i64 g] w fun e w' => e = .returned (outV (gapR (gapD l m) m g)) ∧ Below w.heap.size w w' := by
  have hG := fun v w h => impl_gapOf l v m hT m1 m2 w h
  generalize gapD l m = G at *
  obtain ⟨a, cap, rfl, hA⟩ := hv
  have hv : TabAt w (.agg #[.slice a l.length cap]) l := ⟨a, cap, rfl, hA⟩
  have hB0 := fun o o2 => ((Below.refl w.heap.size w).alloc (Nat.le_refl _) o).alloc (by simp) o2
  have KEEP : ∀ w1, Below ((w.alloc (.cells #[.slice a l.length cap] 25)).alloc (.cells #[.int .i64 0, .int .i64 0] 29)).heap.size ((w.alloc (.cells #[.slice a l.length cap] 25)).alloc (.cells #[.int .i64 0, .int .i64 0] 29)) w1 →
      (w1.cell? ⟨w.heap.size + 1, 0, none⟩ = some (.int .i64 0) ∧ w1.cell? ⟨w.heap.size + 1, 1, none⟩ = some (.int .i64 0)) ∧ (∀ i, w1.frozen? ⟨w.heap.size + 1, i, none⟩ = false) ∧ w1.cell? ⟨w.heap.size, 0, none⟩ = some (.slice a l.length cap) ∧ Below w.heap.size w w1 := fun w1 hb1 => by
    obtain ⟨hc1, hf1⟩ := bcell hb1
    exact ⟨⟨(hc1 _ _ (by simp)).trans (by simp [go_sem]), (hc1 _ _ (by simp)).trans (by simp [go_sem])⟩, fun i => (hf1 _ _ (by simp)).trans (by simp [go_sem]), (hc1 _ _ (by simp; omega)).trans (by simp [go_sem]), (hB0 _ _).trans (hb1.mono (by simp; omega))⟩
  have KEEP2 : ∀ (w1 : World) (P : Int × Int) o, (w1.cell? ⟨w.heap.size + 1, 0, none⟩ = some (.int .i64 0) ∧ w1.cell? ⟨w.heap.size + 1, 1, none⟩ = some (.int .i64 0)) → (∀ i, w1.frozen? ⟨w.heap.size + 1, i, none⟩ = false) → Below w.heap.size w w1 → ∀ w2, Below (w1.alloc o).heap.size (w1.alloc o) w2 → (w2.cell? ⟨w.heap.size + 1, 0, none⟩ = some (.int .i64 0) ∧ w2.cell? ⟨w.heap.size + 1, 1, none⟩ = some (.int .i64 0)) ∧ (w2.frozen? ⟨w.heap.size + 1, 0, none⟩ = false ∧ w2.frozen? ⟨w.heap.size + 1, 1, none⟩ = false) ∧ Below w.heap.size w w2 := fun w1 P o h1 h2 hB w2 hb2 => by
    have ha : Below w1.heap.size w1 w2 := ((Below.refl w1.heap.size w1).alloc (Nat.le_refl _) o).trans (hb2.mono (by simp))
    obtain ⟨hc1, hf1⟩ := bcell ha
    have hlt := World.block_lt_of_cell? _ _ h1.1
    exact ⟨⟨(hc1 _ _ hlt).trans h1.1, (hc1 _ _ hlt).trans h1.2⟩, ⟨(hf1 _ _ hlt).trans (h2 0), (hf1 _ _ hlt).trans (h2 1)⟩, hB.trans (ha.mono hB.size)⟩
  cases G with
  | none =>
    rw [gapR_none]
    simp only [gapS, StrD.v, Option.isSome] at hG
    go_enter Try.func57, Try.ntmps57
    go_wp2_with fail
    refine (hG _ _ (hv.below (hB0 _ _))).mono ?_
    rintro e w1 ⟨rfl, hb1⟩
    obtain ⟨⟨r0, r1⟩, f, t0, hB1⟩ := KEEP w1 hb1
    have f0 := f 0
    have f1 := f 1
    have hne : w.heap.size + 1 ≠ w1.heap.size := by have := World.block_lt_of_cell? _ _ r0; simp at this; omega
    obtain ⟨⟨q0, q1⟩, ⟨g0, g1⟩, hBz⟩ := KEEP2 w1 (0, 0) (.cells #[.int .i64 0, .int .i64 0, .int .i64 0, .int .i64 0] 114) ⟨r0, r1⟩ f hB1 _ (Below.refl _ _)
    obtain ⟨s0, s1⟩ := set_two (v0 := .int .i64 0) (v1 := .int .i64 4) q0 q1
    clear f KEEP KEEP2 hb1
    go_wp2
    exact bodyPost_ret (v := outV (0, 4)) (by simp [results, Try.results57, go_sem, outV, s0, s1]) rfl ⟨rfl, (hBz.setCell (show w.heap.size ≤ w.heap.size + 1 by omega) _).setCell (show w.heap.size ≤ w.heap.size + 1 by omega) _⟩
  | some s =>
    obtain ⟨⟨a1, a2⟩, o1, o2⟩ := str_ok s
    have R0 := gapR_0 s m
    have R1 := gapR_1 s m
    have R2 := fun h0 h1 => @gapR_2 s m g h0 h1
    simp only [gapS, StrD.v, Option.isSome] at hG
    obtain ⟨⟨x0, x1, x2, x3⟩, hx⟩ := s
    simp only at hG a1 a2 o1 o2 R1 R2
    have hTA := fun w => impl_timeOrRange (m - x2) w
    have hTO := fun w => impl_timeOrRange (m - x3) w
    generalize timeD (m - x2) = P1 at *
    generalize timeD (m - x3) = P2 at *
    obtain ⟨p1, p2⟩ := P1
    obtain ⟨p3, p4⟩ := P2
    unfold outV at hTA hTO ⊢
    by_cases h0 : g = 0
    · subst h0
      rw [R0]
      clear R0 R1 R2
      go_enter Try.func57, Try.ntmps57
      go_wp2_with fail
      refine (hG _ _ (hv.below (hB0 _ _))).mono ?_
      rintro e w1 ⟨rfl, hb1⟩
      obtain ⟨⟨r0, r1⟩, f, t0, hB1⟩ := KEEP w1 hb1
      have f0 := f 0
      have f1 := f 1
      have hne : w.heap.size + 1 ≠ w1.heap.size := by have := World.block_lt_of_cell? _ _ r0; simp at this; omega
      obtain ⟨⟨q0, q1⟩, ⟨g0, g1⟩, hBz⟩ := KEEP2 w1 (0, 0) (.cells #[.int .i64 x0, .int .i64 x1, .int .i64 x2, .int .i64 x3] 114) ⟨r0, r1⟩ f hB1 _ (Below.refl _ _)
      obtain ⟨s0, s1⟩ := set_two (v0 := .int .i64 0) (v1 := .int .i64 8) q0 q1
      clear f KEEP KEEP2 hb1
      go_wp2
      exact bodyPost_ret (v := outV (0, 8)) (by simp [results, Try.results57, go_sem, outV, s0, s1]) rfl ⟨rfl, (hBz.setCell (show w.heap.size ≤ w.heap.size + 1 by omega) _).setCell (show w.heap.size ≤ w.heap.size + 1 by omega) _⟩
    · have e0 : (g == 0) = false := by simp [h0]
      by_cases h1 : g = 1
      · subst h1
        rw [R1]
        clear R0 R1 R2 e0
        go_enter Try.func57, Try.ntmps57
        go_wp2_with fail
        refine (hG _ _ (hv.below (hB0 _ _))).mono ?_
        rintro e w1 ⟨rfl, hb1⟩
        obtain ⟨⟨r0, r1⟩, f, t0, hB1⟩ := KEEP w1 hb1
        have KK := KEEP2 w1 (0, 0) (.cells #[.int .i64 x0, .int .i64 x1, .int .i64 x2, .int .i64 x3] 114) ⟨r0, r1⟩ f hB1
        clear f KEEP KEEP2 hb1
        go_wp2_with fail
        refine (hTA _).mono ?_
        rintro e w2 ⟨rfl, hb2⟩
        obtain ⟨⟨q0, q1⟩, ⟨g0, g1⟩, hBz⟩ := KK w2 hb2
        obtain ⟨s0, s1⟩ := set_two (v0 := .int .i64 p1) (v1 := .int .i64 p2) q0 q1
        clear KK hb2
        go_wp2
        exact bodyPost_ret (v := .agg #[.int .i64 p1, .int .i64 p2]) (by simp [results, Try.results57, go_sem, s0, s1]) rfl ⟨rfl, (hBz.setCell (show w.heap.size ≤ w.heap.size + 1 by omega) _).setCell (show w.heap.size ≤ w.heap.size + 1 by omega) _⟩
      · have e1 : (g == 1) = false := by simp [h1]
        rw [R2 h0 h1]
        clear R0 R1 R2
        go_enter Try.func57, Try.ntmps57
        go_wp2_with fail
        refine (hG _ _ (hv.below (hB0 _ _))).mono ?_
        rintro e w1 ⟨rfl, hb1⟩
        obtain ⟨⟨r0, r1⟩, f, t0, hB1⟩ := KEEP w1 hb1
        have KK := KEEP2 w1 (0, 0) (.cells #[.int .i64 x0, .int .i64 x1, .int .i64 x2, .int .i64 x3] 114) ⟨r0, r1⟩ f hB1
        clear f KEEP KEEP2 hb1
        go_wp2_with fail
        refine (hTO _).mono ?_
        rintro e w2 ⟨rfl, hb2⟩
        obtain ⟨⟨q0, q1⟩, ⟨g0, g1⟩, hBz⟩ := KK w2 hb2
        obtain ⟨s0, s1⟩ := set_two (v0 := .int .i64 p3) (v1 := .int .i64 p4) q0 q1
        clear KK hb2
        go_wp2
        exact bodyPost_ret (v := .agg #[.int .i64 p3, .int .i64 p4]) (by simp [results, Try.results57, go_sem, s0, s1]) rfl ⟨rfl, (hBz.setCell (show w.heap.size ≤ w.heap.size + 1 by omega) _).setCell (show w.heap.size ≤ w.heap.size + 1 by omega) _⟩
end Go.Proofs.Ytjfonbnmdcpepaa
