/- A wall time resolved: the model's. -/
import Derived.Test.YtjfonbnmdcpepaaStr7
namespace Go.Proofs.Ytjfonbnmdcpepaa
open Go.RowKit

def rightR (l : List TurnD) (n g f : Int) : Bool := tabB l && (isB n (-62135596800) 253402300799 && (isB g 0 2 && isB f 0 2))
set_option maxRecDepth 20000 in
set_option maxHeartbeats 2000000 in
theorem spec_l04Right (l : List TurnD) (v : Value) (n g f : Int) (w : World) (hv : TabAt w v l) (hok : ∀ r ∈ l, r.ok) :
    Calls Try.prog 59 #[v, .int .i64 n, .int .i64 g, .int .i64 f] w fun e w' => e = .returned (.bool (rightR l n g f)) ∧ Below w.heap.size w w' := by
  obtain ⟨a, cap, rfl, hA⟩ := hv
  have hv : TabAt w (.agg #[.slice a l.length cap]) l := ⟨a, cap, rfl, hA⟩
  have hB0 := fun o => (Below.refl w.heap.size w).alloc (Nat.le_refl _) o
  have hI := fun w (h : TabAt w (.agg #[.slice a l.length cap]) l) => spec_TableRight l _ w h hok
  have hM := fun w => spec_l01TimeT n w
  have hG := fun w => spec_l01Is g 0 2 w
  have hF := fun w => spec_l01Is f 0 2 w
  unfold rightR
  generalize tabB l = b1 at *
  generalize isB n (-62135596800) 253402300799 = b2 at *
  generalize isB g 0 2 = b3 at *
  generalize isB f 0 2 = b4 at *
  go_enter Try.func59, Try.ntmps59
  go_wp2_with fail
  refine (hI _ (hv.below (hB0 _))).mono ?_
  rintro e w1 ⟨rfl, hb1⟩
  have hB1 := (hB0 _).trans (hb1.mono (by simp))
  clear hb1 hI
  cases b1
  · go_wp2
    go_ret
    exact ⟨rfl, hB1⟩
  go_wp2_with fail
  refine (hM _).mono ?_
  rintro e w' ⟨rfl, rfl⟩
  cases b2
  · go_wp2
    go_ret
    exact ⟨rfl, hB1⟩
  go_wp2_with fail
  refine (hG _).mono ?_
  rintro e w' ⟨rfl, rfl⟩
  cases b3
  · go_wp2
    go_ret
    exact ⟨rfl, hB1⟩
  go_wp2_with fail
  refine (hF _).mono ?_
  rintro e w' ⟨rfl, rfl⟩
  cases b4
  · go_wp2
    go_ret
    exact ⟨rfl, hB1⟩
  · go_wp2
    go_ret
    exact ⟨rfl, hB1⟩
theorem gap_first (l : List TurnD) (n : Int) (hT : TabR l) : noGap n (uptoS l 1) := by
  intro t ht
  obtain ⟨j, hj, rfl⟩ := mem_uptoS ht
  obtain rfl : j = 0 := by omega
  have := hT.len
  unfold gapB
  rw [strK_val hT (by omega)]
  unfold strAt
  simp only [Nat.zero_sub]
  cases h : decide ((l[0]?.getD zeroT).at_ + (l[0]?.getD zeroT).offset ≤ n)
  · rfl
  · rw [Bool.true_and]
    exact decide_eq_false (by have := of_decide_eq_true h; omega)
set_option maxRecDepth 20000 in
set_option maxHeartbeats 8000000 in
theorem spec_l04Resolve (l : List TurnD) (v : Value) (n g f : Int) (w : World) (hv : TabAt w v l) (hR : TabR l) (n1 : -62135596800 ≤ n) (n2 : n ≤ 253402300799) (g1 : 0 ≤ g) (g2 : g ≤ 2) (_f1 : 0 ≤ f) (_f2 : f ≤ 2) :
    Calls Try.prog 60 #[v, .int .i64 n, .int .i64 g, .int .i64 f] w fun e w' => e = .returned (outV (resR l n g f)) ∧ Below w.heap.size w w' := by
  obtain ⟨a, cap, rfl, hA⟩ := hv
  have hv : TabAt w (.agg #[.slice a l.length cap]) l := ⟨a, cap, rfl, hA⟩
  have hB0 := fun o o2 => ((Below.refl w.heap.size w).alloc (Nat.le_refl _) o).alloc (by simp) o2
  have KEEP : ∀ w1, Below ((w.alloc (.cells #[.slice a l.length cap] 25)).alloc (.cells #[.int .i64 0, .int .i64 0] 29)).heap.size ((w.alloc (.cells #[.slice a l.length cap] 25)).alloc (.cells #[.int .i64 0, .int .i64 0] 29)) w1 →
      (w1.cell? ⟨w.heap.size + 1, 0, none⟩ = some (.int .i64 0) ∧ w1.cell? ⟨w.heap.size + 1, 1, none⟩ = some (.int .i64 0)) ∧ (∀ i, w1.frozen? ⟨w.heap.size + 1, i, none⟩ = false) ∧ w1.cell? ⟨w.heap.size, 0, none⟩ = some (.slice a l.length cap) ∧ Below w.heap.size w w1 := fun w1 hb1 => by
    obtain ⟨hc1, hf1⟩ := bcell hb1
    exact ⟨⟨(hc1 _ _ (by simp)).trans (by simp [go_sem]), (hc1 _ _ (by simp)).trans (by simp [go_sem])⟩, fun i => (hf1 _ _ (by simp)).trans (by simp [go_sem]), (hc1 _ _ (by simp; omega)).trans (by simp [go_sem]), (hB0 _ _).trans (hb1.mono (by simp; omega))⟩
  have hlen := hR.len
  have hil := inst_le l n
  have hS := fun w (h : TabAt w (.agg #[.slice a l.length cap]) l) => spec_l04Instants l _ n hR n1 n2 w h
  have E1 := @resR_gap l n g f
  have E2 := @resR_fold l n g f
  have F1 := fun h1 h2 => @foldD_no (instL l n) f h1 h2
  have F2 := fun h2 x hx => @foldD_last (instL l n) f h2 x hx
  have F3 := fun h1 h2 x hx => @foldD_first (instL l n) f h1 h2 x hx
  generalize instL l n = L at *
  generalize foldD L f = Pf at *
  generalize resR l n g f = R at *
  by_cases hL : L.length = 0
  case neg =>
    obtain rfl := E2 hL
    obtain ⟨m, hm⟩ : ∃ m, L.length = m + 1 := ⟨L.length - 1, by omega⟩
    obtain ⟨x, hx⟩ : ∃ x, L[0]? = some x := ⟨_, List.getElem?_eq_getElem (by omega)⟩
    obtain ⟨y, hy⟩ : ∃ y, L[m]? = some y := ⟨_, List.getElem?_eq_getElem (by omega)⟩
    clear E1 E2 hL
    by_cases h1 : 0 < m
    · by_cases h2 : f = 0
      · obtain rfl := F1 (by omega) h2
        subst h2
        clear F1 F2 F3
        go_enter Try.func60, Try.ntmps60
        go_wp2_with fail
        refine (hS _ (hv.below (hB0 _ _))).mono ?_
        rintro e w2 ⟨v2, rfl, hrow, hb2⟩
        obtain ⟨g2, c2, rfl, _, _, _⟩ := row_open hm hrow
        obtain ⟨⟨q0, q1⟩, fz, t0, hB2⟩ := KEEP w2 hb2
        have e0 := fz 0
        have e1 := fz 1
        clear fz KEEP hb2 hrow
        obtain ⟨s0, s1⟩ := set_two (v0 := .int .i64 (0)) (v1 := .int .i64 9) q0 q1
        go_wp2
        exact bodyPost_ret (v := outV (0, 9)) (by simp [results, Try.results60, go_sem, outV, s0, s1]) rfl ⟨rfl, (hB2.setCell (show w.heap.size ≤ w.heap.size + 1 by omega) _).setCell (show w.heap.size ≤ w.heap.size + 1 by omega) _⟩
      · by_cases h3 : f = 2
        · obtain rfl := F2 h3 y (by rw [hm]; exact hy)
          subst h3
          clear F1 F2 F3
          go_enter Try.func60, Try.ntmps60
          go_wp2_with fail
          refine (hS _ (hv.below (hB0 _ _))).mono ?_
          rintro e w2 ⟨v2, rfl, hrow, hb2⟩
          obtain ⟨g2, c2, rfl, _, _, hcc⟩ := row_open hm hrow
          have cy := hcc m y hy
          clear hcc
          obtain ⟨⟨q0, q1⟩, fz, t0, hB2⟩ := KEEP w2 hb2
          have e0 := fz 0
          have e1 := fz 1
          clear fz KEEP hb2 hrow
          obtain ⟨s0, s1⟩ := set_two (v0 := .int .i64 (y)) (v1 := .int .i64 0) q0 q1
          go_wp2
          exact bodyPost_ret (v := outV (y, 0)) (by simp [results, Try.results60, go_sem, outV, s0, s1]) rfl ⟨rfl, (hB2.setCell (show w.heap.size ≤ w.heap.size + 1 by omega) _).setCell (show w.heap.size ≤ w.heap.size + 1 by omega) _⟩
        · obtain rfl := F3 (by omega) h3 x hx
          have e2 : (f == 0) = false := by simp [h2]
          have e3 : (f == 2) = false := by simp [h3]
          clear F1 F2 F3
          go_enter Try.func60, Try.ntmps60
          go_wp2_with fail
          refine (hS _ (hv.below (hB0 _ _))).mono ?_
          rintro e w2 ⟨v2, rfl, hrow, hb2⟩
          obtain ⟨g2, c2, rfl, _, _, hcc⟩ := row_open hm hrow
          have cx := hcc 0 x hx
          clear hcc
          obtain ⟨⟨q0, q1⟩, fz, t0, hB2⟩ := KEEP w2 hb2
          have e0 := fz 0
          have e1 := fz 1
          clear fz KEEP hb2 hrow
          obtain ⟨s0, s1⟩ := set_two (v0 := .int .i64 (x)) (v1 := .int .i64 0) q0 q1
          go_wp2
          exact bodyPost_ret (v := outV (x, 0)) (by simp [results, Try.results60, go_sem, outV, s0, s1]) rfl ⟨rfl, (hB2.setCell (show w.heap.size ≤ w.heap.size + 1 by omega) _).setCell (show w.heap.size ≤ w.heap.size + 1 by omega) _⟩
    · obtain rfl : m = 0 := by omega
      have hF : R = (x, 0) := by
        by_cases h3 : f = 2
        · exact F2 h3 x (by rw [hm]; exact hx)
        · exact F3 (by omega) h3 x hx
      subst hF
      clear F1 F2 F3 hy
      go_enter Try.func60, Try.ntmps60
      go_wp2_with fail
      refine (hS _ (hv.below (hB0 _ _))).mono ?_
      rintro e w2 ⟨v2, rfl, hrow, hb2⟩
      obtain ⟨g2, c2, rfl, _, _, hcc⟩ := row_open hm hrow
      have cx := hcc 0 x hx
      clear hcc
      obtain ⟨⟨q0, q1⟩, fz, t0, hB2⟩ := KEEP w2 hb2
      have e0 := fz 0
      have e1 := fz 1
      clear fz KEEP hb2 hrow
      obtain ⟨s0, s1⟩ := set_two (v0 := .int .i64 (x)) (v1 := .int .i64 0) q0 q1
      go_wp2
      exact bodyPost_ret (v := outV (x, 0)) (by simp [results, Try.results60, go_sem, outV, s0, s1]) rfl ⟨rfl, (hB2.setCell (show w.heap.size ≤ w.heap.size + 1 by omega) _).setCell (show w.heap.size ≤ w.heap.size + 1 by omega) _⟩
  case pos =>
    have E := E1 hL
    clear E1 E2 F1 F2 F3
    have HS : Hid (∀ k, k < l.length → noGap n (uptoS l k) → gapB n (strK l k) = true → R = gapR (some (strK l k)) n g) := fun k hk h0 h1 => by rw [E, gapD_some hk h0 h1]
    have HN : Hid (noGap n (uptoS l l.length) → R = (0, 4)) := fun h0 => by rw [E, gapD_none h0]; rfl
    clear E
    rw [hL] at hS
    have hcells : ∀ (wr : World), Below w.heap.size w wr → ∀ (k : Nat) (x : TurnD), l[k]? = some x → ∃ b o, a = some ⟨b, o, none⟩ ∧ wr.cell? ⟨b, o + k * 4, none⟩ = some (.int .i64 x.at_) ∧ wr.cell? ⟨b, o + k * 4 + 1, none⟩ = some (.int .i64 x.offset) := fun wr hB k x hx => by
      obtain ⟨b', o', he, hc⟩ := (hA.below hB).at (i := k) (r := x.cs) (by rw [List.getElem?_map, hx]; rfl)
      exact ⟨b', o', he, hc 0 _ rfl, hc 1 _ rfl⟩
    go_enter Try.func60, Try.ntmps60
    go_wp2_with fail
    refine (hS _ (hv.below (hB0 _ _))).mono ?_
    rintro e w2 ⟨v2, rfl, hrow, hb2⟩
    obtain ⟨a2, c2, rfl⟩ := row_shape hrow
    obtain ⟨⟨q0, q1⟩, fz, t0, hB2⟩ := KEEP w2 hb2
    have e0 := fz 0
    have e1 := fz 1
    clear fz KEEP hb2 hrow
    go_wp2
    go_loopw [10] (fun s wr => ∃ k : Nat, 1 ≤ k ∧ k ≤ l.length ∧ s = .int .i64 k ∧ noGap n (uptoS l k) ∧ wr = w2) (fun s _ => l.length - (intOf s).toNat)
    case atStart => exact ⟨1, by omega, by omega, rfl, gap_first l n hR, rfl⟩
    case round =>
      obtain ⟨k, hk1, hk, rfl, hno, hw⟩ := hrel
      have hw := hw.symm
      subst hw
      by_cases hlt : k < l.length
      case neg =>
        obtain rfl : k = l.length := by omega
        obtain rfl := HN.out hno
        obtain ⟨s0, s1⟩ := set_two (v0 := .int .i64 (0)) (v1 := .int .i64 4) q0 q1
        go_wp2
        exact bodyPost_ret (v := outV (0, 4)) (by simp [results, Try.results60, go_sem, outV, s0, s1]) rfl ⟨rfl, (hB2.setCell (show w.heap.size ≤ w.heap.size + 1 by omega) _).setCell (show w.heap.size ≤ w.heap.size + 1 by omega) _⟩
      case pos =>
        obtain ⟨j, rfl⟩ : ∃ j, k = j + 1 := ⟨k - 1, by omega⟩
        obtain ⟨x, hx⟩ : ∃ x, l[j + 1]? = some x := ⟨_, List.getElem?_eq_getElem hlt⟩
        obtain ⟨p, hp⟩ : ∃ x, l[j]? = some x := ⟨_, List.getElem?_eq_getElem (by omega)⟩
        obtain ⟨b, o, ha, c0, c1⟩ := hcells _ hB2 (j + 1) x hx
        obtain ⟨b', o', ha', d0, d1⟩ := hcells _ hB2 j p hp
        rw [ha] at ha'
        injection ha' with ha'
        injection ha' with u1 u2
        subst u1 u2 ha
        obtain ⟨z1, z2⟩ := isB_of_t (off_of hR (List.mem_of_getElem? hx))
        obtain ⟨z3, z4⟩ := isB_of_t (off_of hR (List.mem_of_getElem? hp))
        have z5 := at_low hR hx
        have z6 := hR.top _ x hx
        have HV : Hid ((strK l (j + 1)).1.first = x.at_ ∧ (strK l (j + 1)).1.ahead = p.offset ∧ (strK l (j + 1)).1.own = x.offset) := by
          simp only [Hid]; rw [strK_val hR hlt]; unfold strAt; rw [Nat.add_sub_cancel, hx, hp]; exact ⟨rfl, rfl, rfl⟩
        have HNX : Hid (gapB n (strK l (j + 1)) = false → noGap n (uptoS l (j + 1 + 1))) := fun h => by rw [uptoS_succ]; exact noGap_snoc hno h
        have HG : Hid (gapB n (strK l (j + 1)) = true → R = gapR (some (strK l (j + 1))) n g) := fun h => HS.out (j + 1) hlt hno h
        clear hx hp hcells HS HN d0
        by_cases h1 : x.at_ + p.offset ≤ n
        case neg =>
          have HN2 := HNX.out (gapB_f1 (by rw [HV.out.1, HV.out.2.1]; exact h1))
          clear HNX HG HV
          go_wp2
          go_roundw
          case rel => exact ⟨j + 1 + 1, by omega, by omega, by go_num, HN2, trivial⟩
          case measure => simp [intOf]; omega
        case pos =>
          by_cases h2 : n < x.at_ + x.offset
          case neg =>
            have HN2 := HNX.out (gapB_f2 (by rw [HV.out.1, HV.out.2.2]; exact h2))
            clear HNX HG HV
            go_wp2
            go_roundw
            case rel => exact ⟨j + 1 + 1, by omega, by omega, by go_num, HN2, trivial⟩
            case measure => simp [intOf]; omega
          case pos =>
            have E := HG.out (gapB_t (by rw [HV.out.1, HV.out.2.1]; exact h1) (by rw [HV.out.1, HV.out.2.2]; exact h2))
            have R0 := gapR_0 (strK l (j + 1)) n
            have R1 := gapR_1 (strK l (j + 1)) n
            have R2 := fun h0 h1 => @gapR_2 (strK l (j + 1)) n g h0 h1
            rw [HV.out.2.1] at R1
            rw [HV.out.2.2] at R2
            clear HNX HG HV hno
            by_cases h0 : g = 0
            · subst h0
              rw [R0] at E
              subst E
              clear R0 R1 R2
              obtain ⟨s0, s1⟩ := set_two (v0 := .int .i64 (0)) (v1 := .int .i64 8) q0 q1
              go_wp2
              exact bodyPost_ret (v := outV (0, 8)) (by simp [results, Try.results60, go_sem, outV, s0, s1]) rfl ⟨rfl, (hB2.setCell (show w.heap.size ≤ w.heap.size + 1 by omega) _).setCell (show w.heap.size ≤ w.heap.size + 1 by omega) _⟩
            · have e2 : (g == 0) = false := by simp [h0]
              by_cases h3 : g = 2
              · subst h3
                rw [R2 (by omega) (by omega)] at E
                have hTm := fun w => spec_l01TimeT (n - x.offset) w
                clear R0 R1 R2
                cases hb : isB (n - x.offset) (-62135596800) 253402300799
                · rw [timeD_f hb] at E
                  subst E
                  rw [hb] at hTm
                  clear hb
                  obtain ⟨s0, s1⟩ := set_two (v0 := .int .i64 0) (v1 := .int .i64 4) q0 q1
                  go_wp2_with fail
                  refine (hTm _).mono ?_
                  rintro e w' ⟨rfl, rfl⟩
                  go_wp2
                  exact bodyPost_ret (v := outV (0, 4)) (by simp [results, Try.results60, go_sem, outV, s0, s1]) rfl ⟨rfl, (hB2.setCell (show w.heap.size ≤ w.heap.size + 1 by omega) _).setCell (show w.heap.size ≤ w.heap.size + 1 by omega) _⟩
                · rw [timeD_t hb] at E
                  subst E
                  rw [hb] at hTm
                  clear hb
                  obtain ⟨s0, s1⟩ := set_two (v0 := .int .i64 (n - x.offset)) (v1 := .int .i64 0) q0 q1
                  go_wp2_with fail
                  refine (hTm _).mono ?_
                  rintro e w' ⟨rfl, rfl⟩
                  go_wp2
                  exact bodyPost_ret (v := outV (n - x.offset, 0)) (by simp [results, Try.results60, go_sem, outV, s0, s1]) rfl ⟨rfl, (hB2.setCell (show w.heap.size ≤ w.heap.size + 1 by omega) _).setCell (show w.heap.size ≤ w.heap.size + 1 by omega) _⟩
              · obtain rfl : g = 1 := by omega
                rw [R1] at E
                have hTm := fun w => spec_l01TimeT (n - p.offset) w
                clear R0 R1 R2
                cases hb : isB (n - p.offset) (-62135596800) 253402300799
                · rw [timeD_f hb] at E
                  subst E
                  rw [hb] at hTm
                  clear hb
                  obtain ⟨s0, s1⟩ := set_two (v0 := .int .i64 0) (v1 := .int .i64 4) q0 q1
                  go_wp2_with fail
                  refine (hTm _).mono ?_
                  rintro e w' ⟨rfl, rfl⟩
                  go_wp2
                  exact bodyPost_ret (v := outV (0, 4)) (by simp [results, Try.results60, go_sem, outV, s0, s1]) rfl ⟨rfl, (hB2.setCell (show w.heap.size ≤ w.heap.size + 1 by omega) _).setCell (show w.heap.size ≤ w.heap.size + 1 by omega) _⟩
                · rw [timeD_t hb] at E
                  subst E
                  rw [hb] at hTm
                  clear hb
                  obtain ⟨s0, s1⟩ := set_two (v0 := .int .i64 (n - p.offset)) (v1 := .int .i64 0) q0 q1
                  go_wp2_with fail
                  refine (hTm _).mono ?_
                  rintro e w' ⟨rfl, rfl⟩
                  go_wp2
                  exact bodyPost_ret (v := outV (n - p.offset, 0)) (by simp [results, Try.results60, go_sem, outV, s0, s1]) rfl ⟨rfl, (hB2.setCell (show w.heap.size ≤ w.heap.size + 1 by omega) _).setCell (show w.heap.size ≤ w.heap.size + 1 by omega) _⟩
end Go.Proofs.Ytjfonbnmdcpepaa
