/- The contract of the program's TimeRead. -/
import Derived.Test.YtibhbpgnjikjnaaDoorTimeRead3
namespace Go.Proofs.YtibhbpgnjikjnaaDoor
open Go.RowKit

theorem tr_no {s : ByteArray} (h : ¬ okT s) : trB s = false := by
  cases hb : trB s
  · rfl
  · exact absurd ((tr_iff s).mp hb) h
theorem two_set {w : World} {b : Nat} {x0 x1 v0 v1 : Value} (h0 : w.cell? ⟨b, 0, none⟩ = some x0) (h1 : w.cell? ⟨b, 1, none⟩ = some x1) :
    ((w.setCell ⟨b, 0, none⟩ v0).setCell ⟨b, 1, none⟩ v1).cell? ⟨b, 0, none⟩ = some v0 ∧ ((w.setCell ⟨b, 0, none⟩ v0).setCell ⟨b, 1, none⟩ v1).cell? ⟨b, 1, none⟩ = some v1 := by
  refine ⟨?_, ?_⟩
  · rw [World.cell?_setCell_other _ _ _ _ (by simp), World.cell?_setCell_same _ _ _ h0]
  · refine World.cell?_setCell_same _ _ _ (u := x1) ?_
    rw [World.cell?_setCell_other _ _ _ _ (by simp)]; exact h1
set_option maxHeartbeats 1000000 in
theorem impl_TimeRead (s : ByteArray) (w : World) (hT : Tab w) (hm : s.size ≤ maxLen) :
    Calls Tryd.prog 35 #[.string s] w fun e w' => e = .returned (.agg #[.int .i64 (trN s), .int .i64 (trC s)]) ∧ Below w.heap.size w w' := by
  unfold maxLen at hm
  unfold trN trC
  by_cases h8 : 8000 < s.size
  · rw [tr_no (fun h => by have := h.1.1; omega), if_pos h8]
    simp only [Bool.false_eq_true, if_false]
    go_enter Tryd.func35, Tryd.ntmps35
    go_wp2
    exact bodyPost_ret (v := .agg #[.int .i64 0, .int .i64 2]) (by simp [results, Tryd.results35, go_sem]) rfl ⟨rfl, (Below.refl _ _).alloc (Nat.le_refl _) _⟩
  rw [if_neg h8]
  by_cases hz : s.size = 19
  · by_cases hc : byteAt s 10 = 32
    · have x1 : (s.extract 0 10).extract 0 4 = s.extract 0 4 := ex_ex s 0 10 0 4 (by omega) (by omega)
      have x2 : (s.extract 0 10).extract 5 7 = s.extract 5 7 := ex_ex s 0 10 5 7 (by omega) (by omega)
      have x3 : (s.extract 0 10).extract 8 10 = s.extract 8 10 := ex_ex s 0 10 8 10 (by omega) (by omega)
      have hD := fun w (hT : Tab w) => impl_dateRead (s.extract 0 10) w hT (by rw [ByteArray.size_extract]; omega)
      have hC := fun w => impl_clockRead (s.extract 11 19) w (by rw [ByteArray.size_extract]; omega)
      have et : trB s = (dtB (s.extract 0 10) && ckB (s.extract 11 19)) := by unfold trB; simp [hz, hc]
      have hc' : ((s[10].toNat : Int) != 32) = false := by rw [byteAt_eq s 10 (by omega), hc]; rfl
      have hs' : ((s.size : Int) != 19) = false := by simp; omega
      have bd := drN_bd ((s.extract 11 19).extract 0 2) (by rw [ByteArray.size_extract, ByteArray.size_extract]; omega)
      have bd2 := sixN_bd ((s.extract 11 19).extract 2 5)
      have bd3 := sixN_bd ((s.extract 11 19).extract 5 8)
      have cb : 0 ≤ ckN (s.extract 11 19) ∧ ckN (s.extract 11 19) ≤ 999999999 * 3700 := by unfold ckN; omega
      clear bd bd2 bd3 hc
      cases hd : dtB (s.extract 0 10)
      · rw [et, hd]
        rw [hd] at hD
        unfold dtV at hD
        clear et hd
        generalize drN ((s.extract 0 10).extract 0 4) = n1 at *
        generalize drN ((s.extract 0 10).extract 5 7) = n2 at *
        generalize drN ((s.extract 0 10).extract 8 10) = n3 at *
        generalize ckN (s.extract 11 19) = k at *
        generalize ckB (s.extract 11 19) = o at *
        simp only [Bool.false_and, Bool.false_eq_true, if_false]
        go_enter Tryd.func35, Tryd.ntmps35
        go_wp2_with fail
        refine (hD _ (hT.alloc _)).mono ?_
        rintro e w1 ⟨rfl, hb⟩
        obtain ⟨hc, hf⟩ := bcell hb
        have hz : w.heap.size < w1.heap.size := by have := hb.size; simp at this; omega
        have hB : Below w.heap.size w w1 := ((Below.refl _ _).alloc (Nat.le_refl _) _).trans (hb.mono (by simp))
        go_wp2_with fail
        refine (hC _).mono ?_
        rintro e w2 ⟨rfl, rfl⟩
        have hz2 : w.heap.size ≠ w1.heap.size := by omega
        go_wp2
        exact bodyPost_ret (v := .agg #[.int .i64 0, .int .i64 3]) (by simp [results, Tryd.results35, go_sem, hc, hz]) rfl ⟨rfl, ((hB.setCell (Nat.le_refl _) _).setCell (Nat.le_refl _) _).alloc (by have := hB.size; simpa using this) _⟩
      · cases hk : ckB (s.extract 11 19)
        · rw [et, hd, hk]
          rw [hd] at hD
          rw [hk] at hC
          unfold dtV at hD
          clear et hd hk
          generalize drN ((s.extract 0 10).extract 0 4) = n1 at *
          generalize drN ((s.extract 0 10).extract 5 7) = n2 at *
          generalize drN ((s.extract 0 10).extract 8 10) = n3 at *
          generalize ckN (s.extract 11 19) = k at *
          simp only [Bool.and_false, Bool.false_eq_true, if_false]
          go_enter Tryd.func35, Tryd.ntmps35
          go_wp2_with fail
          refine (hD _ (hT.alloc _)).mono ?_
          rintro e w1 ⟨rfl, hb⟩
          obtain ⟨hc, hf⟩ := bcell hb
          have hz : w.heap.size < w1.heap.size := by have := hb.size; simp at this; omega
          have hB : Below w.heap.size w w1 := ((Below.refl _ _).alloc (Nat.le_refl _) _).trans (hb.mono (by simp))
          go_wp2_with fail
          refine (hC _).mono ?_
          rintro e w2 ⟨rfl, rfl⟩
          have hz2 : w.heap.size ≠ w1.heap.size := by omega
          go_wp2
          exact bodyPost_ret (v := .agg #[.int .i64 0, .int .i64 3]) (by simp [results, Tryd.results35, go_sem, hc, hz]) rfl ⟨rfl, ((hB.setCell (Nat.le_refl _) _).setCell (Nat.le_refl _) _).alloc (by have := hB.size; simpa using this) _⟩
        · have ht : trB s = true := by rw [et, hd, hk]; rfl
          have ho := (tr_iff s).mp ht
          have hn := tr_num ho
          have hv := ho.2.1
          have nb := num_bd hv
          have hX := fun w (hT : Tab w) => impl_DaysOf_ok (drN (s.extract 0 4)) (drN (s.extract 5 7)) (drN (s.extract 8 10)) w hT hv
          rw [ht, ← hn]
          rw [hd] at hD
          rw [hk] at hC
          unfold dtV at hD
          rw [x1, x2, x3] at hD
          clear et hd hk ht ho hn hv
          generalize num (drN (s.extract 0 4)) (drN (s.extract 5 7)) (drN (s.extract 8 10)) = q at *
          generalize drN (s.extract 0 4) = n1 at *
          generalize drN (s.extract 5 7) = n2 at *
          generalize drN (s.extract 8 10) = n3 at *
          generalize ckN (s.extract 11 19) = k at *
          simp only [if_true]
          go_enter Tryd.func35, Tryd.ntmps35
          go_wp2_with fail
          refine (hD _ (hT.alloc _)).mono ?_
          rintro e w1 ⟨rfl, hb⟩
          obtain ⟨hc, hf⟩ := bcell hb
          have hz : w.heap.size < w1.heap.size := by have := hb.size; simp at this; omega
          have hB : Below w.heap.size w w1 := ((Below.refl _ _).alloc (Nat.le_refl _) _).trans (hb.mono (by simp))
          go_wp2_with fail
          refine (hC _).mono ?_
          rintro e w2 ⟨rfl, rfl⟩
          have hz2 : w.heap.size ≠ w1.heap.size := by omega
          have hT1 : Tab w1 := hT.of_below hB
          go_wp2_with fail
          refine (hX _ (hT1.alloc _)).mono ?_
          rintro e w3 ⟨rfl, hb3⟩
          obtain ⟨hc3, hf3⟩ := bcell hb3
          have hB3 : Below w.heap.size w w3 := (hB.alloc hB.size _).trans (hb3.mono (by have := hB.size; simp; omega))
          have hz3 : w.heap.size < w3.heap.size := by have := hb3.size; simp at this; omega
          have hbz := (hb.alloc hb.size _).trans (hb3.mono (by have := hb.size; simp at this; simp; omega))
          obtain ⟨hcz, _⟩ := bcell hbz
          obtain ⟨r0, r1⟩ := two_set (w := w3) (b := w.heap.size) (v0 := .int .i64 (q * 86400 + k)) (v1 := .int .i64 0) (x0 := .int .i64 0) (x1 := .int .i64 0) (by rw [hcz _ _ (by simp)]; simp) (by rw [hcz _ _ (by simp)]; simp)
          go_wp2
          exact bodyPost_ret (v := .agg #[.int .i64 (q * 86400 + k), .int .i64 0]) (by simp [results, Tryd.results35, go_sem, r0, r1]) rfl ⟨rfl, (hB3.setCell (Nat.le_refl _) _).setCell (Nat.le_refl _) _⟩
    · have hc' : ((s[10].toNat : Int) != 32) = true := by rw [byteAt_eq s 10 (by omega)]; simpa using hc
      have hs' : ((s.size : Int) != 19) = false := by simp; omega
      rw [tr_no (fun h => hc h.1.2.2.2.2.2.2.1)]
      clear hc
      simp only [Bool.false_eq_true, if_false]
      go_enter Tryd.func35, Tryd.ntmps35
      go_wp2
      exact bodyPost_ret (v := .agg #[.int .i64 0, .int .i64 3]) (by simp [results, Tryd.results35, go_sem]) rfl ⟨rfl, (Below.refl _ _).alloc (Nat.le_refl _) _⟩
  · have hs' : ((s.size : Int) != 19) = true := by simp; omega
    rw [tr_no (fun h => hz h.1.1)]
    simp only [Bool.false_eq_true, if_false]
    go_enter Tryd.func35, Tryd.ntmps35
    go_wp2
    exact bodyPost_ret (v := .agg #[.int .i64 0, .int .i64 3]) (by simp [results, Tryd.results35, go_sem]) rfl ⟨rfl, (Below.refl _ _).alloc (Nat.le_refl _) _⟩
end Go.Proofs.YtibhbpgnjikjnaaDoor
