/- The turn of an instant: both sides. -/
import Derived.Test.YtjfonbnmdcpepaaTabAt
import Derived.Deep.RegionHeld3
namespace Go.Proofs.Ytjfonbnmdcpepaa
open Go.RowKit Go.Sort

def zeroT : TurnD := ⟨0, 0, 0, ⟨#[]⟩⟩
def turnAtD (l : List TurnD) (n : Int) : TurnD := if tabB l = true ∧ isB n (-62135596800) 253402300799 = true then (match l[cntT l n - 1]? with | some t => t | none => zeroT) else zeroT
theorem turnAt_no1 {l : List TurnD} {n : Int} (h : tabB l = false) : turnAtD l n = zeroT := by unfold turnAtD; rw [if_neg (by rw [h]; simp)]
theorem turnAt_no2 {l : List TurnD} {n : Int} (h : isB n (-62135596800) 253402300799 = false) : turnAtD l n = zeroT := by unfold turnAtD; rw [if_neg (by rw [h]; simp)]
theorem turnAt_yes {l : List TurnD} {n : Int} {t : TurnD} (h : tabB l = true) (h2 : isB n (-62135596800) 253402300799 = true) (ht : l[cntT l n - 1]? = some t) : turnAtD l n = t := by unfold turnAtD; rw [if_pos ⟨h, h2⟩, ht]
set_option maxHeartbeats 2000000 in
theorem spec_l03At (l : List TurnD) (a : Option Addr) (cap : Nat) (n : Int) (w : World) (hA : SeqAt w a 4 (l.map TurnD.cs)) (hT : TabR l) (hn : -62135596800 ≤ n) :
    Calls Try.prog 43 #[.agg #[.slice a l.length cap], .int .i64 n] w fun e w' => e = .returned (.int .i64 ((cntT l n - 1 : Nat) : Int)) ∧ Below w.heap.size w w' := by
  have hl := hT.len
  have HC : Hid (∀ (k : Nat) (x : TurnD), l[k]? = some x → x.at_ ≤ n → (∀ y, l[k + 1]? = some y → n < y.at_) → cntT l n - 1 = k) := fun k x h1 h2 h3 => by rw [cnt_at hT.up h1 h2 h3]; omega
  have HF : Hid (∀ x, l[0]? = some x → x.at_ ≤ n) := fun x hx => by rw [hT.first x hx]; exact hn
  clear hn hT
  generalize cntT l n - 1 = c at *
  have hB0 := (Below.refl w.heap.size w).alloc (Nat.le_refl _) (.cells #[.slice a l.length cap] 25)
  have hA1 := hA.below hB0
  have x0 : (w.alloc (.cells #[.slice a l.length cap] 25)).cell? ⟨w.heap.size, 0, none⟩ = some (.slice a l.length cap) := by simp [go_sem]
  go_enter Try.func43, Try.ntmps43
  go_wp2
  generalize hW : (w.alloc (.cells #[.slice a l.length cap] 25)) = W at *
  go_loopw [5] (fun s wr => ∃ k : Nat, k < l.length ∧ s = .int .i64 k ∧ Hid (∀ x, l[k]? = some x → x.at_ ≤ n) ∧ Below W.heap.size W wr) (fun s _ => l.length - (intOf s).toNat)
  case atStart => exact ⟨0, by omega, rfl, HF.out, by subst hW; exact Below.refl _ _⟩
  case round =>
    obtain ⟨k, hk, rfl, hx, hB⟩ := hrel
    have y0 : wr.cell? ⟨w.heap.size, 0, none⟩ = some (.slice a l.length cap) := by rw [(bcell hB).1 _ _ (World.block_lt_of_cell? _ _ x0)]; exact x0
    have hBB := hB0.trans (hB.mono hB0.size)
    obtain ⟨x, hxx⟩ : ∃ x, l[k]? = some x := ⟨_, List.getElem?_eq_getElem hk⟩
    by_cases hlt : k + 1 < l.length
    · obtain ⟨y, hy⟩ : ∃ y, l[k + 1]? = some y := ⟨_, List.getElem?_eq_getElem hlt⟩
      obtain ⟨b, o, rfl, hc⟩ := (hA1.below hB).at (i := k + 1) (r := y.cs) (by rw [List.getElem?_map, hy]; rfl)
      have c0 : wr.cell? ⟨b, o + (k + 1) * 4, none⟩ = some (.int .i64 y.at_) := hc 0 _ rfl
      clear hc
      by_cases hu : y.at_ ≤ n
      · have HR : Hid (∀ x, l[k + 1]? = some x → x.at_ ≤ n) := fun z hz => by rw [hy] at hz; obtain rfl := Option.some.inj hz; exact hu
        go_wp2
        go_roundw
        case rel => exact ⟨k + 1, by omega, by go_num, HR, hB⟩
        case measure => simp [intOf]; omega
      · have HR : Hid (c = k) := HC.out k x hxx (hx.out x hxx) fun z hz => by rw [hy] at hz; obtain rfl := Option.some.inj hz; omega
        go_wp2
        go_ret
        exact ⟨ret_int (by rw [HR.out]), hBB⟩
    · have HR : Hid (c = k) := HC.out k x hxx (hx.out x hxx) fun z hz => by have := (List.getElem?_eq_some_iff.mp hz).1; omega
      go_wp2
      go_ret
      exact ⟨ret_int (by rw [HR.out]), hBB⟩
set_option maxHeartbeats 400000 in
theorem spec_l01TimeT (n : Int) (w : World) :
    Calls Try.prog 42 #[.int .i64 n] w fun e w' => e = .returned (.bool (isB n (-62135596800) 253402300799)) ∧ w' = w := by
  go_enter Try.func42, Try.ntmps42
  go_wp2_with (go_at_call 48; refine (spec_l01Is _ _ _ _).mono ?_; rintro e w' ⟨rfl, rfl⟩)
  go_ret
  exact ⟨rfl, rfl⟩
theorem set_four {w : World} {b : Nat} {x0 x1 x2 x3 v0 v1 v2 v3 : Value} (h0 : w.cell? ⟨b, 0, none⟩ = some x0) (h1 : w.cell? ⟨b, 1, none⟩ = some x1) (h2 : w.cell? ⟨b, 2, none⟩ = some x2) (h3 : w.cell? ⟨b, 3, none⟩ = some x3) :
    ((((w.setCell ⟨b, 0, none⟩ v0).setCell ⟨b, 1, none⟩ v1).setCell ⟨b, 2, none⟩ v2).setCell ⟨b, 3, none⟩ v3).cell? ⟨b, 0, none⟩ = some v0 ∧ ((((w.setCell ⟨b, 0, none⟩ v0).setCell ⟨b, 1, none⟩ v1).setCell ⟨b, 2, none⟩ v2).setCell ⟨b, 3, none⟩ v3).cell? ⟨b, 1, none⟩ = some v1 ∧ ((((w.setCell ⟨b, 0, none⟩ v0).setCell ⟨b, 1, none⟩ v1).setCell ⟨b, 2, none⟩ v2).setCell ⟨b, 3, none⟩ v3).cell? ⟨b, 2, none⟩ = some v2 ∧ ((((w.setCell ⟨b, 0, none⟩ v0).setCell ⟨b, 1, none⟩ v1).setCell ⟨b, 2, none⟩ v2).setCell ⟨b, 3, none⟩ v3).cell? ⟨b, 3, none⟩ = some v3 := by
  refine ⟨?_, ?_, ?_, ?_⟩
  · rw [World.cell?_setCell_other _ _ _ _ (by simp), World.cell?_setCell_other _ _ _ _ (by simp), World.cell?_setCell_other _ _ _ _ (by simp), World.cell?_setCell_same _ _ _ h0]
  · rw [World.cell?_setCell_other _ _ _ _ (by simp), World.cell?_setCell_other _ _ _ _ (by simp)]
    refine World.cell?_setCell_same _ _ _ (u := x1) ?_
    rw [World.cell?_setCell_other _ _ _ _ (by simp)]; exact h1
  · rw [World.cell?_setCell_other _ _ _ _ (by simp)]
    refine World.cell?_setCell_same _ _ _ (u := x2) ?_
    rw [World.cell?_setCell_other _ _ _ _ (by simp), World.cell?_setCell_other _ _ _ _ (by simp)]; exact h2
  · refine World.cell?_setCell_same _ _ _ (u := x3) ?_
    rw [World.cell?_setCell_other _ _ _ _ (by simp), World.cell?_setCell_other _ _ _ _ (by simp), World.cell?_setCell_other _ _ _ _ (by simp)]; exact h3
set_option maxHeartbeats 400000 in
theorem impl_isTimeT (n : Int) (w : World) :
    Calls Try.prog 40 #[.int .i64 n] w fun e w' => e = .returned (.bool (isB n (-62135596800) 253402300799)) ∧ w' = w := by
  by_cases h : -62135596800 ≤ n
  · go_enter Try.func40, Try.ntmps40
    go_wp2
    go_ret
    exact ⟨ret_bool (by unfold isB; simp [h]), rfl⟩
  · go_enter Try.func40, Try.ntmps40
    go_wp2
    go_ret
    exact ⟨ret_bool (isB_f (by omega)).symm, rfl⟩
set_option maxHeartbeats 4000000 in
theorem impl_TurnAt (l : List TurnD) (v : Value) (n : Int) (w : World) (hv : TabAt w v l) (hok : ∀ r ∈ l, r.ok) (hl : l.length ≤ 1048576) :
    Calls Try.prog 11 #[v, .int .i64 n] w fun e w' => e = .returned (turnAtD l n).v ∧ Below w.heap.size w w' := by
  obtain ⟨a, cap, rfl, hA⟩ := hv
  have hv : TabAt w (.agg #[.slice a l.length cap]) l := ⟨a, cap, rfl, hA⟩
  have hB0 := fun o o2 o3 => (((Below.refl w.heap.size w).alloc (Nat.le_refl _) o).alloc (by simp) o2).alloc (by simp; omega) o3
  have hM := fun w => impl_isTimeT n w
  by_cases h1 : n < -62135596800
  · rw [turnAt_no2 (isB_f (by omega))]
    rw [isB_f (by omega)] at hM
    go_enter Try.func11, Try.ntmps11
    go_wp2_with (go_at_call 40; refine (hM _).mono ?_; rintro e w' ⟨rfl, rfl⟩)
    exact bodyPost_ret (v := zeroT.v) (by simp [results, Try.results11, go_sem, zeroT, TurnD.v]) rfl ⟨rfl, hB0 _ _ _⟩
  by_cases h2 : 253402300799 < n
  · rw [turnAt_no2 (isB_f (by omega))]
    rw [isB_f (by omega)] at hM
    go_enter Try.func11, Try.ntmps11
    go_wp2_with (go_at_call 40; refine (hM _).mono ?_; rintro e w' ⟨rfl, rfl⟩)
    exact bodyPost_ret (v := zeroT.v) (by simp [results, Try.results11, go_sem, zeroT, TurnD.v]) rfl ⟨rfl, hB0 _ _ _⟩
  rw [isB_t (by omega) (by omega)] at hM
  have hI := fun w (h : TabAt w (.agg #[.slice a l.length cap]) l) => impl_TableRight l _ w h hok hl
  cases ht : tabB l
  · rw [turnAt_no1 ht]
    rw [ht] at hI
    clear ht
    go_enter Try.func11, Try.ntmps11
    go_wp2_with fail
    refine (hM _).mono ?_
    rintro e wM ⟨rfl, rfl⟩
    go_wp2_with fail
    refine (hI _ (hv.below (hB0 _ _ _))).mono ?_
    rintro e w1 ⟨rfl, hb1⟩
    obtain ⟨hc1, hf1⟩ := bcell hb1
    have hB1 := (hB0 _ _ _).trans (hb1.mono (by simp; omega))
    have r0 : w1.cell? ⟨w.heap.size + 1 + 1, 0, none⟩ = some (.int .i64 0) := (hc1 _ _ (by simp)).trans (by simp [go_sem])
    have r1 : w1.cell? ⟨w.heap.size + 1 + 1, 1, none⟩ = some (.int .i64 0) := (hc1 _ _ (by simp)).trans (by simp [go_sem])
    have r2 : w1.cell? ⟨w.heap.size + 1 + 1, 2, none⟩ = some (.int .i64 0) := (hc1 _ _ (by simp)).trans (by simp [go_sem])
    have r3 : w1.cell? ⟨w.heap.size + 1 + 1, 3, none⟩ = some (.string ⟨#[]⟩) := (hc1 _ _ (by simp)).trans (by simp [go_sem])
    have f0 : w1.frozen? ⟨w.heap.size + 1 + 1, 0, none⟩ = false := (hf1 _ _ (by simp)).trans (by simp [go_sem])
    have f1 : w1.frozen? ⟨w.heap.size + 1 + 1, 1, none⟩ = false := (hf1 _ _ (by simp)).trans (by simp [go_sem])
    have f2 : w1.frozen? ⟨w.heap.size + 1 + 1, 2, none⟩ = false := (hf1 _ _ (by simp)).trans (by simp [go_sem])
    have f3 : w1.frozen? ⟨w.heap.size + 1 + 1, 3, none⟩ = false := (hf1 _ _ (by simp)).trans (by simp [go_sem])
    obtain ⟨s0, s1, s2, s3⟩ := set_four (v0 := .int .i64 0) (v1 := .int .i64 0) (v2 := .int .i64 0) (v3 := .string ⟨#[]⟩) r0 r1 r2 r3
    clear hc1 hf1 hb1
    go_wp2
    exact bodyPost_ret (v := zeroT.v) (by simp [results, Try.results11, go_sem, zeroT, TurnD.v, s0, s1, s2, s3]) rfl ⟨rfl, (((hB1.setCell (show w.heap.size ≤ w.heap.size + 1 + 1 by omega) _).setCell (show w.heap.size ≤ w.heap.size + 1 + 1 by omega) _).setCell (show w.heap.size ≤ w.heap.size + 1 + 1 by omega) _).setCell (show w.heap.size ≤ w.heap.size + 1 + 1 by omega) _⟩
  have hR := tab_of ht
  have hlen := hR.len
  obtain ⟨f, hf⟩ : ∃ r, l[0]? = some r := ⟨_, List.getElem?_eq_getElem (by omega)⟩
  have hp1 := cnt_pos (n := n) hf (by rw [hR.first f hf]; omega)
  have hp2 := cnt_le l n
  obtain ⟨x, hx⟩ : ∃ r, l[cntT l n - 1]? = some r := ⟨_, List.getElem?_eq_getElem (by omega)⟩
  rw [turnAt_yes ht (isB_t (by omega) (by omega)) hx]
  rw [ht] at hI
  have hS := fun pt pa w (h : SeqAt w a 4 (l.map TurnD.cs)) => sort_SearchT l a cap pt pa n w h hl hR.up
  obtain ⟨c, hcc⟩ : ∃ c, cntT l n = c + 1 := ⟨cntT l n - 1, by omega⟩
  rw [hcc] at hS hp1 hp2 hx
  simp only [Nat.add_sub_cancel] at hx
  clear ht hcc hR hf hp1
  go_enter Try.func11, Try.ntmps11
  go_wp2_with fail
  refine (hM _).mono ?_
  rintro e wM ⟨rfl, rfl⟩
  go_wp2_with fail
  refine (hI _ (hv.below (hB0 _ _ _))).mono ?_
  rintro e w1 ⟨rfl, hb1⟩
  obtain ⟨hc1, hf1⟩ := bcell hb1
  have hB1 := (hB0 _ _ _).trans (hb1.mono (by simp; omega))
  have r0 : w1.cell? ⟨w.heap.size + 1 + 1, 0, none⟩ = some (.int .i64 0) := (hc1 _ _ (by simp)).trans (by simp [go_sem])
  have r1 : w1.cell? ⟨w.heap.size + 1 + 1, 1, none⟩ = some (.int .i64 0) := (hc1 _ _ (by simp)).trans (by simp [go_sem])
  have r2 : w1.cell? ⟨w.heap.size + 1 + 1, 2, none⟩ = some (.int .i64 0) := (hc1 _ _ (by simp)).trans (by simp [go_sem])
  have r3 : w1.cell? ⟨w.heap.size + 1 + 1, 3, none⟩ = some (.string ⟨#[]⟩) := (hc1 _ _ (by simp)).trans (by simp [go_sem])
  have f0 : w1.frozen? ⟨w.heap.size + 1 + 1, 0, none⟩ = false := (hf1 _ _ (by simp)).trans (by simp [go_sem])
  have f1 : w1.frozen? ⟨w.heap.size + 1 + 1, 1, none⟩ = false := (hf1 _ _ (by simp)).trans (by simp [go_sem])
  have f2 : w1.frozen? ⟨w.heap.size + 1 + 1, 2, none⟩ = false := (hf1 _ _ (by simp)).trans (by simp [go_sem])
  have f3 : w1.frozen? ⟨w.heap.size + 1 + 1, 3, none⟩ = false := (hf1 _ _ (by simp)).trans (by simp [go_sem])
  have t0 : w1.cell? ⟨w.heap.size, 0, none⟩ = some (.slice a l.length cap) := (hc1 _ _ (by simp; omega)).trans (by simp [go_sem])
  have t1 : w1.cell? ⟨w.heap.size + 1, 0, none⟩ = some (.int .i64 n) := (hc1 _ _ (by simp)).trans (by simp [go_sem])
  clear hc1 hf1 hb1
  go_wp2_with fail
  refine (hS _ _ _ (hA.below hB1) t0 t1).mono ?_
  rintro e w2 ⟨rfl, hb2⟩
  obtain ⟨hc2, hf2⟩ := bcell hb2
  have hB2 := hB1.trans (hb2.mono hB1.size)
  have q0 := (hc2 _ _ (World.block_lt_of_cell? _ _ r0)).trans r0
  have q1 := (hc2 _ _ (World.block_lt_of_cell? _ _ r1)).trans r1
  have q2 := (hc2 _ _ (World.block_lt_of_cell? _ _ r2)).trans r2
  have q3 := (hc2 _ _ (World.block_lt_of_cell? _ _ r3)).trans r3
  have e0 := (hf2 _ _ (World.block_lt_of_cell? _ _ r0)).trans f0
  have e1 := (hf2 _ _ (World.block_lt_of_cell? _ _ r1)).trans f1
  have e2 := (hf2 _ _ (World.block_lt_of_cell? _ _ r2)).trans f2
  have e3 := (hf2 _ _ (World.block_lt_of_cell? _ _ r3)).trans f3
  have u0 := (hc2 _ _ (World.block_lt_of_cell? _ _ t0)).trans t0
  obtain ⟨b, o, rfl, hc⟩ := (hA.below hB2).at (i := c) (r := x.cs) (by rw [List.getElem?_map, hx]; rfl)
  have c0 : w2.cell? ⟨b, o + c * 4, none⟩ = some (.int .i64 x.at_) := hc 0 _ rfl
  have c1 := hc 1 _ rfl
  have c2 := hc 2 _ rfl
  have c3 := hc 3 _ rfl
  obtain ⟨s0, s1, s2, s3⟩ := set_four (v0 := .int .i64 x.at_) (v1 := .int .i64 x.offset) (v2 := .int .i64 x.save) (v3 := .string x.abbr) q0 q1 q2 q3
  clear hc hc2 hf2 hb2 r0 r1 r2 r3 f0 f1 f2 f3 t0 t1 hI hS
  go_wp2
  exact bodyPost_ret (v := x.v) (by simp [results, Try.results11, go_sem, TurnD.v, s0, s1, s2, s3]) rfl ⟨rfl, (((hB2.setCell (show w.heap.size ≤ w.heap.size + 1 + 1 by omega) _).setCell (show w.heap.size ≤ w.heap.size + 1 + 1 by omega) _).setCell (show w.heap.size ≤ w.heap.size + 1 + 1 by omega) _).setCell (show w.heap.size ≤ w.heap.size + 1 + 1 by omega) _⟩
end Go.Proofs.Ytjfonbnmdcpepaa
