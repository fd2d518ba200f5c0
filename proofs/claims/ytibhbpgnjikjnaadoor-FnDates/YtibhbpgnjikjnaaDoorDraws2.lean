/- Contracts of the model's drawn dates. -/
import Derived.Test.YtibhbpgnjikjnaaDoorDraws
namespace Go.Proofs.YtibhbpgnjikjnaaDoor
open Go.RowKit

/-- a date's box. -/
def Box (W : World) (q : Nat) (x y z : Int) : Prop :=
  W.cell? ⟨q, 0, none⟩ = some (.int .i64 x) ∧ W.cell? ⟨q, 1, none⟩ = some (.int .i64 y) ∧ W.cell? ⟨q, 2, none⟩ = some (.int .i64 z) ∧ W.frozen? ⟨q, 0, none⟩ = false ∧ W.frozen? ⟨q, 1, none⟩ = false ∧ W.frozen? ⟨q, 2, none⟩ = false
theorem Box.lt {W : World} {q : Nat} {x y z : Int} (h : Box W q x y z) : q < W.heap.size := World.block_lt_of_cell? _ _ h.1
theorem Box.grown {W w' : World} {p q : Nat} {x y z : Int} (h : Box W q x y z) (hg : W.grownBy w' (some p)) (hne : q ≠ p) : Box w' q x y z := by
  have hl := h.lt
  obtain ⟨a, b, c, d, e, f⟩ := h
  have n : some q ≠ some p := by simpa using hne
  exact ⟨hg.cell a n, hg.cell b n, hg.cell c n, by rw [hg.frozen_far _ hl n]; exact d, by rw [hg.frozen_far _ hl n]; exact e, by rw [hg.frozen_far _ hl n]; exact f⟩
theorem Box.below {W w' : World} {q : Nat} {x y z : Int} (h : Box W q x y z) (hb : Below W.heap.size W w') : Box w' q x y z := by
  have hl := h.lt
  obtain ⟨a, b, c, d, e, f⟩ := h
  exact ⟨by rw [hb.cell hl]; exact a, by rw [hb.cell hl]; exact b, by rw [hb.cell hl]; exact c, by rw [hb.frozen hl]; exact d, by rw [hb.frozen hl]; exact e, by rw [hb.frozen hl]; exact f⟩
theorem Box.alloc {W : World} {q : Nat} {x y z : Int} (h : Box W q x y z) (o : Obj) : Box (W.alloc o) q x y z := h.below ((Below.refl _ _).alloc (Nat.le_refl _) o)
theorem Box.mk' (W : World) (x y z : Int) (t : TypeId) : Box (W.alloc (.cells #[.int .i64 x, .int .i64 y, .int .i64 z] t)) W.heap.size x y z := by
  simp [Box]
theorem ne_blk {p q i j : Nat} (h : q ≠ p) : (⟨q, i, none⟩ : Addr) ≠ ⟨p, j, none⟩ := fun e => h (by injection e)
theorem Box.set0 {W : World} {q : Nat} {x y z : Int} (h : Box W q x y z) (v : Int) : Box (W.setCell ⟨q, 0, none⟩ (.int .i64 v)) q v y z := by
  obtain ⟨a, b, c, d, e, f⟩ := h
  exact ⟨World.cell?_setCell_same _ _ _ a, (World.cell?_setCell_other _ _ _ _ (ne_off (by omega))).trans b, (World.cell?_setCell_other _ _ _ _ (ne_off (by omega))).trans c, by simpa using d, by simpa using e, by simpa using f⟩
theorem Box.set1 {W : World} {q : Nat} {x y z : Int} (h : Box W q x y z) (v : Int) : Box (W.setCell ⟨q, 1, none⟩ (.int .i64 v)) q x v z := by
  obtain ⟨a, b, c, d, e, f⟩ := h
  exact ⟨(World.cell?_setCell_other _ _ _ _ (ne_off (by omega))).trans a, World.cell?_setCell_same _ _ _ b, (World.cell?_setCell_other _ _ _ _ (ne_off (by omega))).trans c, by simpa using d, by simpa using e, by simpa using f⟩
theorem Box.set2 {W : World} {q : Nat} {x y z : Int} (h : Box W q x y z) (v : Int) : Box (W.setCell ⟨q, 2, none⟩ (.int .i64 v)) q x y v := by
  obtain ⟨a, b, c, d, e, f⟩ := h
  exact ⟨(World.cell?_setCell_other _ _ _ _ (ne_off (by omega))).trans a, (World.cell?_setCell_other _ _ _ _ (ne_off (by omega))).trans b, World.cell?_setCell_same _ _ _ c, by simpa using d, by simpa using e, by simpa using f⟩
theorem Box.other {W : World} {q r i : Nat} {x y z : Int} (h : Box W q x y z) (hne : r ≠ q) (v : Value) : Box (W.setCell ⟨r, i, none⟩ v) q x y z := by
  obtain ⟨a, b, c, d, e, f⟩ := h
  exact ⟨(World.cell?_setCell_other _ _ _ _ (ne_blk hne)).trans a, (World.cell?_setCell_other _ _ _ _ (ne_blk hne)).trans b, (World.cell?_setCell_other _ _ _ _ (ne_blk hne)).trans c, by simpa using d, by simpa using e, by simpa using f⟩
theorem SrcAt.set {p q i : Nat} {a : Option Addr} {len cap : Nat} {zs : List Int} {w : World} (h : SrcAt p a len cap zs w) (hq : p < q) (v : Value) : SrcAt p a len cap zs (w.setCell ⟨q, i, none⟩ v) := by
  obtain ⟨k, mix, sz, k1, wm, ws, c0, c1, c2, c3, hf, hrow, hl, hz⟩ := h
  refine ⟨k, mix, sz, k1, wm, ws, (World.cell?_setCell_other _ _ _ _ (ne_blk (by omega))).trans c0, (World.cell?_setCell_other _ _ _ _ (ne_blk (by omega))).trans c1, (World.cell?_setCell_other _ _ _ _ (ne_blk (by omega))).trans c2, (World.cell?_setCell_other _ _ _ _ (ne_blk (by omega))).trans c3, fun i hi => by rw [World.frozen?_setCell]; exact hf i hi, ?_, hl, hz⟩
  rcases hrow with h | ⟨b, o, ha, hne, hc⟩
  · exact .inl h
  · refine .inr ⟨b, o, ha, hne, fun i hi => ?_⟩
    obtain ⟨z, h, z0, z1⟩ := hc i hi
    exact ⟨z, (World.cell?_setCell_other _ _ _ _ (ne_blk (by omega))).trans h, z0, z1⟩
theorem grown_set {w W : World} {p q i : Nat} (h : w.grownBy W (some p)) (hq : w.heap.size ≤ q) (v : Value) : w.grownBy (W.setCell ⟨q, i, none⟩ v) (some p) :=
  ⟨h.os, h.tape, h.output, by have := h.size; simpa [World.setCell] using this, fun x hx hne => by rw [Below.heap_setCell _ _ _ _ (by simp; omega)]; exact h.block x hx hne⟩

set_option maxHeartbeats 4000000 in
theorem src_some (p : Nat) (a : Option Addr) (len cap : Nat) (zs : List Int) (w : World) (hS : SrcAt p a len cap zs w) :
    Calls Tryd.prog 50 #[.pointer (some ⟨p, 0, none⟩)] w fun e w' => ∃ x y z : Int, e = .returned (.agg #[.int .i64 x, .int .i64 y, .int .i64 z]) ∧ SrcAt p a len cap zs w' ∧ w.grownBy w' (some p) := by
  have hp := hS.lt
  go_enter Tryd.func50, Tryd.ntmps50
  go_wp2_with fail
  refine (src_n p a len cap zs 70 _ (hS.alloc _) (by omega) (by omega)).mono ?_
  rintro e w1 ⟨v1, rfl, v10, v11, hS1, hg1⟩
  have hr1 := (Box.mk' w 0 0 0 25).grown hg1 (by omega)
  have hG1 := gtrans_alloc hg1
  clear hg1 hS
  go_wp2_with fail
  refine (src_n p a len cap zs 12 _ hS1 (by omega) (by omega)).mono ?_
  rintro e w2 ⟨v2, rfl, v20, v21, hS2, hg2⟩
  have hr2 := hr1.grown hg2 (by omega)
  have hG2 := hG1.trans hg2
  clear hg2 hS1 hr1 hG1
  go_wp2_with fail
  refine (src_n p a len cap zs 31 _ hS2 (by omega) (by omega)).mono ?_
  rintro e w3 ⟨v3, rfl, v30, v31, hS3, hg3⟩
  have hr3 := hr2.grown hg3 (by omega)
  have hG3 := hG2.trans hg3
  clear hg3 hS2 hr2 hG2
  have hq0 := Box.mk' w3 (1970 + v1) (1 + v2) (1 + v3) 25
  have hqw : w.heap.size < w3.heap.size := hr3.lt
  go_wp2_with fail
  refine (src_one p a len cap zs 4 _ (hS3.alloc _) (by omega) (by omega)).mono ?_
  rintro e w4 ⟨b1, rfl, hS4, hg4⟩
  have hr4 := (hr3.alloc _).grown hg4 (by omega)
  have hq4 := hq0.grown hg4 (by omega)
  have hG4 := hG3.trans (gtrans_alloc hg4)
  clear hg4 hS3 hr3 hG3 hq0
  generalize w3.heap.size = q at *
  cases b1
  · go_wp2_with fail
    refine (src_one p a len cap zs 12 _ hS4 (by omega) (by omega)).mono ?_
    rintro e w5 ⟨b5, rfl, hS5, hg5⟩
    have hr5 := hr4.grown hg5 (by omega)
    have hq5 := hq4.grown hg5 (by omega)
    have hG5 := hG4.trans hg5
    clear hg5
    cases b5
    · go_wp2_with fail
      refine (src_one p a len cap zs 12 _ hS5 (by omega) (by omega)).mono ?_
      rintro e w6 ⟨b6, rfl, hS6, hg6⟩
      have hr6 := hr5.grown hg6 (by omega)
      have hq6 := hq5.grown hg6 (by omega)
      have hG6 := hG5.trans hg6
      clear hg6
      cases b6
      · have hrL := hr6
        have hqL := hq6
        have hSL := hS6
        have hGL := hG6
        obtain ⟨r0, r1, r2, s0, s1, s2⟩ := hrL
        obtain ⟨q0, q1, q2, t0, t1, t2⟩ := hqL
        have hrq : w.heap.size ≠ q := by omega
        go_wp2
        exact bodyPost_ret (v := .agg #[.int .i64 (1970 + v1), .int .i64 (1 + v2), .int .i64 (1 + v3)]) (by simp [results, Tryd.results50, go_sem, r0, r1, r2]) rfl ⟨_, _, _, rfl, ((hSL.set hp _).set hp _).set hp _, grown_set (grown_set (grown_set hGL (Nat.le_refl _) _) (Nat.le_refl _) _) (Nat.le_refl _) _⟩
      · go_wp2_with fail
        refine (src_edge p a len cap zs _ hS6).mono ?_
        rintro e w7 ⟨v7, rfl, hS7, hg7⟩
        have hr7 := hr6.grown hg7 (by omega)
        have hq7 := hq6.grown hg7 (by omega)
        have hG7 := hG6.trans hg7
        clear hg7
        have hqf7 := hq7.2.2.2.2.2
        have hqc7 := hq7.2.2.1
        have hrL := (hr7.other (i := 2) (show q ≠ w.heap.size by omega) (.int .i64 v7))
        have hqL := (hq7.set2 v7)
        have hSL := (hS7.set (i := 2) (show p < q by omega) (.int .i64 v7))
        have hGL := (grown_set (i := 2) hG7 (show w.heap.size ≤ q by omega) (.int .i64 v7))
        obtain ⟨r0, r1, r2, s0, s1, s2⟩ := hrL
        obtain ⟨q0, q1, q2, t0, t1, t2⟩ := hqL
        have hrq : w.heap.size ≠ q := by omega
        go_wp2
        exact bodyPost_ret (v := .agg #[.int .i64 (1970 + v1), .int .i64 (1 + v2), .int .i64 (v7)]) (by simp [results, Tryd.results50, go_sem, r0, r1, r2]) rfl ⟨_, _, _, rfl, ((hSL.set hp _).set hp _).set hp _, grown_set (grown_set (grown_set hGL (Nat.le_refl _) _) (Nat.le_refl _) _) (Nat.le_refl _) _⟩
    · go_wp2_with fail
      refine (src_n p a len cap zs 15 _ hS5 (by omega) (by omega)).mono ?_
      rintro e w8 ⟨v8, rfl, v8a, v8b, hS8, hg8⟩
      have hr8 := hr5.grown hg8 (by omega)
      have hq8 := hq5.grown hg8 (by omega)
      have hG8 := hG5.trans hg8
      clear hg8
      have hqf8 := hq8.2.2.2.2.1
      have hqc8 := hq8.2.1
      go_wp2_with fail
      refine (src_one p a len cap zs 12 _ (hS8.set (i := 1) (show p < q by omega) (.int .i64 (v8 - 1))) (by omega) (by omega)).mono ?_
      rintro e w9 ⟨b9, rfl, hS9, hg9⟩
      have hr9 := (hr8.other (i := 1) (show q ≠ w.heap.size by omega) (.int .i64 (v8 - 1))).grown hg9 (by omega)
      have hq9 := (hq8.set1 (v8 - 1)).grown hg9 (by omega)
      have hG9 := (grown_set (i := 1) hG8 (show w.heap.size ≤ q by omega) (.int .i64 (v8 - 1))).trans hg9
      clear hg9
      cases b9
      · have hrL := hr9
        have hqL := hq9
        have hSL := hS9
        have hGL := hG9
        obtain ⟨r0, r1, r2, s0, s1, s2⟩ := hrL
        obtain ⟨q0, q1, q2, t0, t1, t2⟩ := hqL
        have hrq : w.heap.size ≠ q := by omega
        go_wp2
        exact bodyPost_ret (v := .agg #[.int .i64 (1970 + v1), .int .i64 ((v8 - 1)), .int .i64 (1 + v3)]) (by simp [results, Tryd.results50, go_sem, r0, r1, r2]) rfl ⟨_, _, _, rfl, ((hSL.set hp _).set hp _).set hp _, grown_set (grown_set (grown_set hGL (Nat.le_refl _) _) (Nat.le_refl _) _) (Nat.le_refl _) _⟩
      · go_wp2_with fail
        refine (src_edge p a len cap zs _ hS9).mono ?_
        rintro e w10 ⟨v10, rfl, hS10, hg10⟩
        have hr10 := hr9.grown hg10 (by omega)
        have hq10 := hq9.grown hg10 (by omega)
        have hG10 := hG9.trans hg10
        clear hg10
        have hqf10 := hq10.2.2.2.2.2
        have hqc10 := hq10.2.2.1
        have hrL := (hr10.other (i := 2) (show q ≠ w.heap.size by omega) (.int .i64 v10))
        have hqL := (hq10.set2 v10)
        have hSL := (hS10.set (i := 2) (show p < q by omega) (.int .i64 v10))
        have hGL := (grown_set (i := 2) hG10 (show w.heap.size ≤ q by omega) (.int .i64 v10))
        obtain ⟨r0, r1, r2, s0, s1, s2⟩ := hrL
        obtain ⟨q0, q1, q2, t0, t1, t2⟩ := hqL
        have hrq : w.heap.size ≠ q := by omega
        go_wp2
        exact bodyPost_ret (v := .agg #[.int .i64 (1970 + v1), .int .i64 ((v8 - 1)), .int .i64 (v10)]) (by simp [results, Tryd.results50, go_sem, r0, r1, r2]) rfl ⟨_, _, _, rfl, ((hSL.set hp _).set hp _).set hp _, grown_set (grown_set (grown_set hGL (Nat.le_refl _) _) (Nat.le_refl _) _) (Nat.le_refl _) _⟩
  · go_wp2_with fail
    refine (src_n p a len cap zs 9 _ (hS4.alloc _) (by omega) (by omega)).mono ?_
    rintro e w11 ⟨v11, rfl, v11a, v11b, hS11, hg11⟩
    obtain ⟨x11, hx11⟩ := pick_after [0, 1, 4, 100, 400, 1900, 2000, 9999, 10000] hS4.lt hg11 v11a (by simpa using v11b)
    have hr11 := (hr4.alloc _).grown hg11 (by omega)
    have hq11 := (hq4.alloc _).grown hg11 (by omega)
    have hG11 := hG4.trans (gtrans_alloc hg11)
    clear hg11
    have hqf11 := hq11.2.2.2.1
    have hqc11 := hq11.1
    go_wp2_with fail
    refine (src_one p a len cap zs 12 _ (hS11.set (i := 0) (show p < q by omega) (.int .i64 x11)) (by omega) (by omega)).mono ?_
    rintro e w12 ⟨b12, rfl, hS12, hg12⟩
    have hr12 := (hr11.other (i := 0) (show q ≠ w.heap.size by omega) (.int .i64 x11)).grown hg12 (by omega)
    have hq12 := (hq11.set0 x11).grown hg12 (by omega)
    have hG12 := (grown_set (i := 0) hG11 (show w.heap.size ≤ q by omega) (.int .i64 x11)).trans hg12
    clear hg12
    cases b12
    · go_wp2_with fail
      refine (src_one p a len cap zs 12 _ hS12 (by omega) (by omega)).mono ?_
      rintro e w13 ⟨b13, rfl, hS13, hg13⟩
      have hr13 := hr12.grown hg13 (by omega)
      have hq13 := hq12.grown hg13 (by omega)
      have hG13 := hG12.trans hg13
      clear hg13
      cases b13
      · have hrL := hr13
        have hqL := hq13
        have hSL := hS13
        have hGL := hG13
        obtain ⟨r0, r1, r2, s0, s1, s2⟩ := hrL
        obtain ⟨q0, q1, q2, t0, t1, t2⟩ := hqL
        have hrq : w.heap.size ≠ q := by omega
        go_wp2
        exact bodyPost_ret (v := .agg #[.int .i64 (x11), .int .i64 (1 + v2), .int .i64 (1 + v3)]) (by simp [results, Tryd.results50, go_sem, r0, r1, r2]) rfl ⟨_, _, _, rfl, ((hSL.set hp _).set hp _).set hp _, grown_set (grown_set (grown_set hGL (Nat.le_refl _) _) (Nat.le_refl _) _) (Nat.le_refl _) _⟩
      · go_wp2_with fail
        refine (src_edge p a len cap zs _ hS13).mono ?_
        rintro e w14 ⟨v14, rfl, hS14, hg14⟩
        have hr14 := hr13.grown hg14 (by omega)
        have hq14 := hq13.grown hg14 (by omega)
        have hG14 := hG13.trans hg14
        clear hg14
        have hqf14 := hq14.2.2.2.2.2
        have hqc14 := hq14.2.2.1
        have hrL := (hr14.other (i := 2) (show q ≠ w.heap.size by omega) (.int .i64 v14))
        have hqL := (hq14.set2 v14)
        have hSL := (hS14.set (i := 2) (show p < q by omega) (.int .i64 v14))
        have hGL := (grown_set (i := 2) hG14 (show w.heap.size ≤ q by omega) (.int .i64 v14))
        obtain ⟨r0, r1, r2, s0, s1, s2⟩ := hrL
        obtain ⟨q0, q1, q2, t0, t1, t2⟩ := hqL
        have hrq : w.heap.size ≠ q := by omega
        go_wp2
        exact bodyPost_ret (v := .agg #[.int .i64 (x11), .int .i64 (1 + v2), .int .i64 (v14)]) (by simp [results, Tryd.results50, go_sem, r0, r1, r2]) rfl ⟨_, _, _, rfl, ((hSL.set hp _).set hp _).set hp _, grown_set (grown_set (grown_set hGL (Nat.le_refl _) _) (Nat.le_refl _) _) (Nat.le_refl _) _⟩
    · go_wp2_with fail
      refine (src_n p a len cap zs 15 _ hS12 (by omega) (by omega)).mono ?_
      rintro e w15 ⟨v15, rfl, v15a, v15b, hS15, hg15⟩
      have hr15 := hr12.grown hg15 (by omega)
      have hq15 := hq12.grown hg15 (by omega)
      have hG15 := hG12.trans hg15
      clear hg15
      have hqf15 := hq15.2.2.2.2.1
      have hqc15 := hq15.2.1
      go_wp2_with fail
      refine (src_one p a len cap zs 12 _ (hS15.set (i := 1) (show p < q by omega) (.int .i64 (v15 - 1))) (by omega) (by omega)).mono ?_
      rintro e w16 ⟨b16, rfl, hS16, hg16⟩
      have hr16 := (hr15.other (i := 1) (show q ≠ w.heap.size by omega) (.int .i64 (v15 - 1))).grown hg16 (by omega)
      have hq16 := (hq15.set1 (v15 - 1)).grown hg16 (by omega)
      have hG16 := (grown_set (i := 1) hG15 (show w.heap.size ≤ q by omega) (.int .i64 (v15 - 1))).trans hg16
      clear hg16
      cases b16
      · have hrL := hr16
        have hqL := hq16
        have hSL := hS16
        have hGL := hG16
        obtain ⟨r0, r1, r2, s0, s1, s2⟩ := hrL
        obtain ⟨q0, q1, q2, t0, t1, t2⟩ := hqL
        have hrq : w.heap.size ≠ q := by omega
        go_wp2
        exact bodyPost_ret (v := .agg #[.int .i64 (x11), .int .i64 ((v15 - 1)), .int .i64 (1 + v3)]) (by simp [results, Tryd.results50, go_sem, r0, r1, r2]) rfl ⟨_, _, _, rfl, ((hSL.set hp _).set hp _).set hp _, grown_set (grown_set (grown_set hGL (Nat.le_refl _) _) (Nat.le_refl _) _) (Nat.le_refl _) _⟩
      · go_wp2_with fail
        refine (src_edge p a len cap zs _ hS16).mono ?_
        rintro e w17 ⟨v17, rfl, hS17, hg17⟩
        have hr17 := hr16.grown hg17 (by omega)
        have hq17 := hq16.grown hg17 (by omega)
        have hG17 := hG16.trans hg17
        clear hg17
        have hqf17 := hq17.2.2.2.2.2
        have hqc17 := hq17.2.2.1
        have hrL := (hr17.other (i := 2) (show q ≠ w.heap.size by omega) (.int .i64 v17))
        have hqL := (hq17.set2 v17)
        have hSL := (hS17.set (i := 2) (show p < q by omega) (.int .i64 v17))
        have hGL := (grown_set (i := 2) hG17 (show w.heap.size ≤ q by omega) (.int .i64 v17))
        obtain ⟨r0, r1, r2, s0, s1, s2⟩ := hrL
        obtain ⟨q0, q1, q2, t0, t1, t2⟩ := hqL
        have hrq : w.heap.size ≠ q := by omega
        go_wp2
        exact bodyPost_ret (v := .agg #[.int .i64 (x11), .int .i64 ((v15 - 1)), .int .i64 (v17)]) (by simp [results, Tryd.results50, go_sem, r0, r1, r2]) rfl ⟨_, _, _, rfl, ((hSL.set hp _).set hp _).set hp _, grown_set (grown_set (grown_set hGL (Nat.le_refl _) _) (Nat.le_refl _) _) (Nat.le_refl _) _⟩

set_option maxHeartbeats 400000 in
theorem draw_DaysOf (a : Option Addr) (len cap : Nat) (w : World) (h : RowOf w a len) (hl : len ≤ 1048576) :
    Calls Tryd.prog 16 #[.slice a len cap] w fun e w' => ∃ x y z : Int, e = .returned (.agg #[.int .i64 x, .int .i64 y, .int .i64 z]) ∧ Below w.heap.size w w' := by
  go_enter Tryd.func16, Tryd.ntmps16
  go_wp2_with fail
  refine (src_source a len cap _ ((h.grown ((Below.refl _ _).alloc (Nat.le_refl _) _))) hl).mono ?_
  rintro e w1 ⟨rfl, hS, hb⟩
  have hr1 := (Box.mk' w 0 0 0 25).below hb
  have hz : ∀ o : Obj, (w.alloc o).heap.size = w.heap.size + 1 := fun o => by simp
  have hB1 : Below w.heap.size w w1 := ((Below.refl w.heap.size w).alloc (Nat.le_refl _) _).trans (hb.mono (by simp))
  rw [hz] at hS
  clear hz hb
  have hlt := hS.lt
  go_wp2_with fail
  refine (src_some (w.heap.size + 1) a len cap [] _ hS).mono ?_
  rintro e w2 ⟨x, y, z, rfl, hS2, hg⟩
  have hB : Below w.heap.size w w2 := hB1.grown hg (by omega) (fun k hk => by injection hk with hk; omega)
  obtain ⟨r0, r1, r2, s0, s1, s2⟩ := hr1.grown hg (by omega)
  clear hg hS hS2 hr1
  go_wp2
  exact bodyPost_ret (v := .agg #[.int .i64 x, .int .i64 y, .int .i64 z]) (by simp [results, Tryd.results16, go_sem, r0, r1, r2]) rfl ⟨_, _, _, rfl, ((hB.setCell (Nat.le_refl _) _).setCell (Nat.le_refl _) _).setCell (Nat.le_refl _) _⟩
end Go.Proofs.YtibhbpgnjikjnaaDoor
