/- Packed. -/
import Derived.Test.YtgiieknbckhofaaGreatDoorStrQu
set_option maxRecDepth 20000
set_option maxHeartbeats 20000000
set_option linter.unusedSimpArgs false
namespace Go.Proofs.YtgiieknbckhofaaGreatDoor
section
open Go.RowKit
def jhn (L : List Int) (f : Int) : Int × Int := if 1 < L.length /\ f = 0 then (0, 9) else (L[if f = 2 then L.length - 1 else 0]?.getD 0, 0)
theorem foldD_no {L : List Int} {f : Int} (h1 : 1 < L.length) (h2 : f = 0) : jhn L f = (0, 9) := by unfold jhn; rw [if_pos ⟨h1, h2⟩]
theorem foldD_last {L : List Int} {f : Int} (h2 : f = 2) {x : Int} (hx : L[L.length - 1]? = some x) : jhn L f = (x, 0) := by unfold jhn; rw [if_neg (by omega), if_pos h2, hx]; rfl
theorem foldD_first {L : List Int} {f : Int} (h : ¬ (1 < L.length /\ f = 0)) (h2 : f ≠ 2) {x : Int} (hx : L[0]? = some x) : jhn L f = (x, 0) := by unfold jhn; rw [if_neg h, if_neg h2, hx]; rfl
def gapR (G : Option StrK) (n g : Int) : Int × Int := match G with
 | none => (0, 4)
 | some s => if g = 0 then (0, 8) else if g = 1 then jh0 (n - s.1.ahead) else jh0 (n - s.1.own)
def resR (l : List TurnD) (n g f : Int) : Int × Int := if (jdq l n).length = 0 then gapR (gapD l n) n g else jhn (jdq l n) f
def resD (l : List TurnD) (n g f : Int) : Int × Int := if tabB l = true /\ isB n (-62135596800) 253402300799 = true /\ isB g 0 2 = true /\ isB f 0 2 = true then resR l n g f else (0, 1)
theorem jy1 {l : List TurnD} {n g f : Int} (h : tabB l = false) : resD l n g f = (0, 1) := by unfold resD; rw [if_neg (by rw [h]; simp)]
theorem jy0 {l : List TurnD} {n g f : Int} (h : isB n (-62135596800) 253402300799 = false) : resD l n g f = (0, 1) := by unfold resD; rw [if_neg (by rw [h]; simp)]
theorem jyz {l : List TurnD} {n g f : Int} (h : isB g 0 2 = false) : resD l n g f = (0, 1) := by unfold resD; rw [if_neg (by rw [h]; simp)]
theorem jyy {l : List TurnD} {n g f : Int} (h : isB f 0 2 = false) : resD l n g f = (0, 1) := by unfold resD; rw [if_neg (by rw [h]; simp)]
theorem jrl {l : List TurnD} {n g f : Int} (h1 : tabB l = true) (h2 : isB n (-62135596800) 253402300799 = true) (h3 : isB g 0 2 = true) (h4 : isB f 0 2 = true) : resD l n g f = resR l n g f := by unfold resD; rw [if_pos ⟨h1, h2, h3, h4⟩]
theorem jby (n : Int) (w : World) :
  Cl 136 #[iv n] w fun e w' => e = .returned (.bool (isB n 0 2)) /\ w' = w := by
 by_cases h : 0 <= n
 ·go_enter Tryz.func136, Tryz.ntmps136
  go_wp2
  go_ret
  exact ⟨ret_bool (by unfold isB; simp [h]), rfl⟩
 ·go_enter Tryz.func136, Tryz.ntmps136
  go_wp2
  go_ret
  exact ⟨ret_bool (jka (by omega)).symm, rfl⟩
theorem jfk {w : World} {base : Nat} {v : Value} {L : List Int} {n : Nat} (hn : L.length = n + 1) (h : w.ownsRow base 2 1 v L.length (L.map (Value.int .i64))) : ∃ g cap, v = so g (n + 1) cap /\ g < w.heap.size /\ base <= g /\ ∀ i x, L[i]? = some x -> w.cell? (ad g i) = some (iv x) := by
 rw [hn] at h
 obtain ⟨g, cap, rfl⟩ := ownsRow_succ h
 have hg := h.lt g rfl
 refine ⟨g, cap, rfl, hg.2, hg.1, fun i x hx => ?_⟩
 have hi := (lgs hx).1
 rw [h.cellAt i (by omega), lgm, hx]
 rfl
theorem jgb (L : List Int) (v : Value) (f : Int) (w : World) (base : Nat) (hL : 0 < L.length) (hm : L.length <= 600) (h : w.ownsRow base 2 1 v L.length (L.map (Value.int .i64))) :
  Cl 218 #[v, iv f] w fun e w' => e = .returned (outV (jhn L f)) /\ Bw w w' := by
 obtain ⟨n, hn⟩ : ∃ n, L.length = n + 1 := ⟨L.length - 1, by omega⟩
 obtain ⟨g, cap, rfl, hg, _, hc⟩ := jfk hn h
 obtain ⟨x, hx⟩ : ∃ x, L[0]? = some x := ⟨_, lgg (by omega)⟩
 obtain ⟨y, hy⟩ : ∃ y, L[n]? = some y := ⟨_, lgg (by omega)⟩
 have c0 := hc 0 x hx
 have c1 := hc n y hy
 have ag := fun o => qal w o
 have F1 := fun h1 h2 => @foldD_no L f h1 h2
 have F2 := fun h2 => @foldD_last L f h2 y (by rw [hn]; exact hy)
 have F3 := fun h1 h2 => @foldD_first L f h1 h2 x hx
 rw [hn] at F1 F3 hm
 generalize jhn L f = R at *
 have az : g ≠ w.heap.size := by omega
 clear hc hx hy h hn hL
 by_cases h1 : 0 < n
 ·by_cases h2 : f = 0
  ·obtain rfl := F1 (by omega) h2
   subst h2
   clear F1 F2 F3
   go_enter Tryz.func218, Tryz.ntmps218
   go_wp2
   exact bpr (v := outV (0, 9)) (by simp [results, Tryz.results218, go_sem, outV]) rfl ⟨rfl, ag _⟩
  ·by_cases h3 : f = 2
   ·obtain rfl := F2 h3
    subst h3
    clear F1 F2 F3
    go_enter Tryz.func218, Tryz.ntmps218
    go_wp2
    exact bpr (v := outV (y, 0)) (by simp [results, Tryz.results218, go_sem, outV]) rfl ⟨rfl, ag _⟩
   ·obtain rfl := F3 (by omega) h3
    have e1 : (f == 0) = false := by simp [h2]
    have e2 : (f == 2) = false := by simp [h3]
    clear F1 F2 F3
    go_enter Tryz.func218, Tryz.ntmps218
    go_wp2
    exact bpr (v := outV (x, 0)) (by simp [results, Tryz.results218, go_sem, outV]) rfl ⟨rfl, ag _⟩
 ·obtain rfl : n = 0 := by omega
  by_cases h3 : f = 2
  ·obtain rfl := F2 h3
   subst h3
   clear F1 F2 F3 c0
   go_enter Tryz.func218, Tryz.ntmps218
   go_wp2
   exact bpr (v := outV (y, 0)) (by simp [results, Tryz.results218, go_sem, outV]) rfl ⟨rfl, ag _⟩
  ·obtain rfl := F3 (by omega) h3
   have e2 : (f == 2) = false := by simp [h3]
   clear F1 F2 F3 c1
   go_enter Tryz.func218, Tryz.ntmps218
   go_wp2
   exact bpr (v := outV (x, 0)) (by simp [results, Tryz.results218, go_sem, outV]) rfl ⟨rfl, ag _⟩
theorem jw6 (n g : Int) : gapR none n g = (0, 4) := rfl
theorem j1h (s : StrK) (n : Int) : gapR (some s) n 0 = (0, 8) := rfl
theorem j1g (s : StrK) (n : Int) : gapR (some s) n 1 = jh0 (n - s.1.ahead) := rfl
theorem gapR_2 (s : StrK) {n g : Int} (h0 : g ≠ 0) (h1 : g ≠ 1) : gapR (some s) n g = jh0 (n - s.1.own) := by unfold gapR; simp only; rw [if_neg h0, if_neg h1]
theorem j29 (s : StrK) : (-100000 <= s.1.ahead /\ s.1.ahead <= 100000) /\ (-100000 <= s.1.own /\ s.1.own <= 100000) := by
 have ft := s.2
 unfold StrD.ok at ft
 simp only [bat] at ft
 exact ⟨jaw ft.2.2.1, jaw ft.2.2.2⟩
theorem jhj (l : List TurnD) (v : Value) (m g : Int) (hT : Js l) (m1 : -62135596800 <= m) (m2 : m <= 253402300799) (w : World) (hv : Zz w v l) :
  Cl 217 #[v, iv m, iv g] w fun e w' => e = .returned (outV (gapR (gapD l m) m g)) /\ Bw w w' := by
 have hG := fun v w h => jty l v m hT m1 m2 w h
 generalize gapD l m = G at *
 obtain ⟨a, cap, rfl, hA⟩ := hv
 have hv : Zz w (.agg #[.slice a l.length cap]) l := ⟨a, cap, rfl, hA⟩
 have ag := fun o o2 => (qal w o).alloc (by simp) o2
 have bE : ∀ w1, Below ((w.alloc (.cells #[.slice a l.length cap] 183)).alloc (.cells #[iv 0, iv 0] 188)).heap.size ((w.alloc (.cells #[.slice a l.length cap] 183)).alloc (.cells #[iv 0, iv 0] 188)) w1 ->
   (w1.cell? (ad (w.heap.size + 1) 0) = some (iv 0) /\ w1.cell? (ad (w.heap.size + 1) 1) = some (iv 0)) /\ (∀ i, w1.frozen? (ad (w.heap.size + 1) i) = false) /\ w1.cell? (ad w.heap.size 0) = some (.slice a l.length cap) /\ Bw w w1 := fun w1 hb1 => by
  obtain ⟨aY, cZ⟩ := jaf hb1
  exact ⟨⟨(aY _ _ (by simp)).trans (by simp [go_sem]), (aY _ _ (by simp)).trans (by simp [go_sem])⟩, fun i => (cZ _ _ (by simp)).trans (by simp [go_sem]), (aY _ _ (by simp; omega)).trans (by simp [go_sem]), (ag _ _).trans (hb1.mono (by simp; omega))⟩
 have dO : ∀ (w1 : World) (P : Int × Int) o, (w1.cell? (ad (w.heap.size + 1) 0) = some (iv 0) /\ w1.cell? (ad (w.heap.size + 1) 1) = some (iv 0)) -> (∀ i, w1.frozen? (ad (w.heap.size + 1) i) = false) -> Bw w w1 -> ∀ w2, Below (w1.alloc o).heap.size (w1.alloc o) w2 -> (w2.cell? (ad (w.heap.size + 1) 0) = some (iv 0) /\ w2.cell? (ad (w.heap.size + 1) 1) = some (iv 0)) /\ (w2.frozen? (ad (w.heap.size + 1) 0) = false /\ w2.frozen? (ad (w.heap.size + 1) 1) = false) /\ Bw w w2 := fun w1 P o h1 h2 hB w2 ac => by
  have ha : Bw w1 w2 := (qal w1 o).trans (ac.mono (by simp))
  obtain ⟨aY, cZ⟩ := jaf ha
  have hlt := qbl h1.1
  exact ⟨⟨(aY _ _ hlt).trans h1.1, (aY _ _ hlt).trans h1.2⟩, ⟨(cZ _ _ hlt).trans (h2 0), (cZ _ _ hlt).trans (h2 1)⟩, (qtr hB ha)⟩
 cases G with
 | none =>
  rw [jw6]
  simp only [gapS, StrD.v, Option.isSome] at hG
  go_enter Tryz.func217, Tryz.ntmps217
  go_wp2_with fail
  refine (hG _ _ (hv.below (ag _ _))).mono ?_
  rintro e w1 ⟨rfl, hb1⟩
  obtain ⟨⟨r0, r1⟩, f, t0, aj⟩ := bE w1 hb1
  have f0 := f 0
  have f1 := f 1
  have az : w.heap.size + 1 ≠ w1.heap.size := by have := qbl r0; simp at this; omega
  obtain ⟨⟨q0, q1⟩, ⟨g0, g1⟩, dW⟩ := dO w1 (0, 0) (.cells #[iv 0, iv 0, iv 0, iv 0] 309) ⟨r0, r1⟩ f aj _ (brf _ _)
  obtain ⟨s0, s1⟩ := ja3 (v0 := iv 0) (v1 := iv 4) q0 q1
  clear f bE dO hb1
  go_wp2
  exact bpr (v := outV (0, 4)) (by simp [results, Tryz.results217, go_sem, outV, s0, s1]) rfl ⟨rfl, (dW.setCell (show w.heap.size <= w.heap.size + 1 by omega) _).setCell (show w.heap.size <= w.heap.size + 1 by omega) _⟩
 | some s =>
  obtain ⟨⟨a1, a2⟩, o1, o2⟩ := j29 s
  have R0 := j1h s m
  have R1 := j1g s m
  have R2 := fun h0 h1 => @gapR_2 s m g h0 h1
  simp only [gapS, StrD.v, Option.isSome] at hG
  obtain ⟨⟨x0, x1, x2, x3⟩, hx⟩ := s
  simp only at hG a1 a2 o1 o2 R1 R2
  have G1 := fun w => jdv (m - x2) w
  have lB := fun w => jdv (m - x3) w
  generalize jh0 (m - x2) = P1 at *
  generalize jh0 (m - x3) = P2 at *
  obtain ⟨p1, p2⟩ := P1
  obtain ⟨p3, p4⟩ := P2
  unfold outV at G1 lB ⊢
  by_cases h0 : g = 0
  ·subst h0
   rw [R0]
   clear R0 R1 R2
   go_enter Tryz.func217, Tryz.ntmps217
   go_wp2_with fail
   refine (hG _ _ (hv.below (ag _ _))).mono ?_
   rintro e w1 ⟨rfl, hb1⟩
   obtain ⟨⟨r0, r1⟩, f, t0, aj⟩ := bE w1 hb1
   have f0 := f 0
   have f1 := f 1
   have az : w.heap.size + 1 ≠ w1.heap.size := by have := qbl r0; simp at this; omega
   obtain ⟨⟨q0, q1⟩, ⟨g0, g1⟩, dW⟩ := dO w1 (0, 0) (.cells #[iv x0, iv x1, iv x2, iv x3] 309) ⟨r0, r1⟩ f aj _ (brf _ _)
   obtain ⟨s0, s1⟩ := ja3 (v0 := iv 0) (v1 := iv 8) q0 q1
   clear f bE dO hb1
   go_wp2
   exact bpr (v := outV (0, 8)) (by simp [results, Tryz.results217, go_sem, outV, s0, s1]) rfl ⟨rfl, (dW.setCell (show w.heap.size <= w.heap.size + 1 by omega) _).setCell (show w.heap.size <= w.heap.size + 1 by omega) _⟩
  ·have e0 : (g == 0) = false := by simp [h0]
   by_cases h1 : g = 1
   ·subst h1
    rw [R1]
    clear R0 R1 R2 e0
    go_enter Tryz.func217, Tryz.ntmps217
    go_wp2_with fail
    refine (hG _ _ (hv.below (ag _ _))).mono ?_
    rintro e w1 ⟨rfl, hb1⟩
    obtain ⟨⟨r0, r1⟩, f, t0, aj⟩ := bE w1 hb1
    have KK := dO w1 (0, 0) (.cells #[iv x0, iv x1, iv x2, iv x3] 309) ⟨r0, r1⟩ f aj
    clear f bE dO hb1
    go_wp2_with fail
    refine (G1 _).mono ?_
    rintro e w2 ⟨rfl, ac⟩
    obtain ⟨⟨q0, q1⟩, ⟨g0, g1⟩, dW⟩ := KK w2 ac
    obtain ⟨s0, s1⟩ := ja3 (v0 := iv p1) (v1 := iv p2) q0 q1
    clear KK ac
    go_wp2
    exact bpr (v := .agg #[iv p1, iv p2]) (by simp [results, Tryz.results217, go_sem, s0, s1]) rfl ⟨rfl, (dW.setCell (show w.heap.size <= w.heap.size + 1 by omega) _).setCell (show w.heap.size <= w.heap.size + 1 by omega) _⟩
   ·have e1 : (g == 1) = false := by simp [h1]
    rw [R2 h0 h1]
    clear R0 R1 R2
    go_enter Tryz.func217, Tryz.ntmps217
    go_wp2_with fail
    refine (hG _ _ (hv.below (ag _ _))).mono ?_
    rintro e w1 ⟨rfl, hb1⟩
    obtain ⟨⟨r0, r1⟩, f, t0, aj⟩ := bE w1 hb1
    have KK := dO w1 (0, 0) (.cells #[iv x0, iv x1, iv x2, iv x3] 309) ⟨r0, r1⟩ f aj
    clear f bE dO hb1
    go_wp2_with fail
    refine (lB _).mono ?_
    rintro e w2 ⟨rfl, ac⟩
    obtain ⟨⟨q0, q1⟩, ⟨g0, g1⟩, dW⟩ := KK w2 ac
    obtain ⟨s0, s1⟩ := ja3 (v0 := iv p3) (v1 := iv p4) q0 q1
    clear KK ac
    go_wp2
    exact bpr (v := .agg #[iv p3, iv p4]) (by simp [results, Tryz.results217, go_sem, s0, s1]) rfl ⟨rfl, (dW.setCell (show w.heap.size <= w.heap.size + 1 by omega) _).setCell (show w.heap.size <= w.heap.size + 1 by omega) _⟩
end
section
open Go.RowKit
theorem jic {w : World} {base : Nat} {e : TypeId} {size : Nat} {v : Value} {n : Nat} {xs : List Value} (h : w.ownsRow base e size v n xs) : ∃ a c, v = .slice a n c := by
 rcases h.2 with ⟨rfl, rfl⟩ | ⟨g, cap, cur, rfl, _⟩
 ·exact ⟨_, _, rfl⟩
 ·exact ⟨_, _, rfl⟩
theorem jwj (l : List TurnD) (n : Int) : (jdq l n).length <= l.length := by
 have := jib n (jat l l.length)
 rw [jd0] at this
 exact this
theorem resR_gap {l : List TurnD} {n g f : Int} (h : (jdq l n).length = 0) : resR l n g f = gapR (gapD l n) n g := by unfold resR; rw [if_pos h]
theorem resR_fold {l : List TurnD} {n g f : Int} (h : (jdq l n).length ≠ 0) : resR l n g f = jhn (jdq l n) f := by unfold resR; rw [if_neg h]
theorem jow (l : List TurnD) (v : Value) (n g f : Int) (w : World) (hv : Zz w v l) (de : ∀ r ∈ l, r.ok) (hl : l.length <= 1048576) :
  Cl 175 #[v, iv n, iv g, iv f] w fun e w' => e = .returned (outV (resD l n g f)) /\ Bw w w' := by
 obtain ⟨a, cap, rfl, hA⟩ := hv
 have hv : Zz w (.agg #[.slice a l.length cap]) l := ⟨a, cap, rfl, hA⟩
 have ag := fun o o2 => (qal w o).alloc (by simp) o2
 have bE : ∀ w1, Below ((w.alloc (.cells #[.slice a l.length cap] 183)).alloc (.cells #[iv 0, iv 0] 188)).heap.size ((w.alloc (.cells #[.slice a l.length cap] 183)).alloc (.cells #[iv 0, iv 0] 188)) w1 ->
   (w1.cell? (ad (w.heap.size + 1) 0) = some (iv 0) /\ w1.cell? (ad (w.heap.size + 1) 1) = some (iv 0)) /\ (∀ i, w1.frozen? (ad (w.heap.size + 1) i) = false) /\ w1.cell? (ad w.heap.size 0) = some (.slice a l.length cap) /\ Bw w w1 := fun w1 hb1 => by
  obtain ⟨aY, cZ⟩ := jaf hb1
  exact ⟨⟨(aY _ _ (by simp)).trans (by simp [go_sem]), (aY _ _ (by simp)).trans (by simp [go_sem])⟩, fun i => (cZ _ _ (by simp)).trans (by simp [go_sem]), (aY _ _ (by simp; omega)).trans (by simp [go_sem]), (ag _ _).trans (hb1.mono (by simp; omega))⟩
 have hM := fun w => jg1 n w
 have hG := fun w => jby g w
 have hF := fun w => jby f w
 have hI := fun w (h : Zz w (.agg #[.slice a l.length cap]) l) => jjk l _ w h de hl
 cases hn : isB n (-62135596800) 253402300799
 ·rw [jy0 hn]
  rw [hn] at hM
  clear hn hG hF hI
  go_enter Tryz.func175, Tryz.ntmps175
  go_wp2_with fail
  refine (hM _).mono ?_
  rintro e wM ⟨rfl, rfl⟩
  go_wp2
  exact bpr (v := outV (0, 1)) (by simp [results, Tryz.results175, go_sem, outV]) rfl ⟨rfl, ag _ _⟩
 rw [hn] at hM
 cases hg : isB g 0 2
 ·rw [jyz hg]
  rw [hg] at hG
  clear hn hg hF hI
  go_enter Tryz.func175, Tryz.ntmps175
  go_wp2_with fail
  refine (hM _).mono ?_
  rintro e wM ⟨rfl, rfl⟩
  go_wp2_with fail
  refine (hG _).mono ?_
  rintro e wM ⟨rfl, rfl⟩
  go_wp2
  exact bpr (v := outV (0, 1)) (by simp [results, Tryz.results175, go_sem, outV]) rfl ⟨rfl, ag _ _⟩
 rw [hg] at hG
 cases hf : isB f 0 2
 ·rw [jyy hf]
  rw [hf] at hF
  clear hn hg hf hI
  go_enter Tryz.func175, Tryz.ntmps175
  go_wp2_with fail
  refine (hM _).mono ?_
  rintro e wM ⟨rfl, rfl⟩
  go_wp2_with fail
  refine (hG _).mono ?_
  rintro e wM ⟨rfl, rfl⟩
  go_wp2_with fail
  refine (hF _).mono ?_
  rintro e wM ⟨rfl, rfl⟩
  go_wp2
  exact bpr (v := outV (0, 1)) (by simp [results, Tryz.results175, go_sem, outV]) rfl ⟨rfl, ag _ _⟩
 rw [hf] at hF
 cases ht : tabB l
 ·rw [jy1 ht]
  rw [ht] at hI
  clear hn hg hf ht
  go_enter Tryz.func175, Tryz.ntmps175
  go_wp2_with fail
  refine (hM _).mono ?_
  rintro e wM ⟨rfl, rfl⟩
  go_wp2_with fail
  refine (hG _).mono ?_
  rintro e wM ⟨rfl, rfl⟩
  go_wp2_with fail
  refine (hF _).mono ?_
  rintro e wM ⟨rfl, rfl⟩
  go_wp2_with fail
  refine (hI _ (hv.below (ag _ _))).mono ?_
  rintro e w1 ⟨rfl, hb1⟩
  obtain ⟨⟨r0, r1⟩, fz, t0, aj⟩ := bE w1 hb1
  have f0 := fz 0
  have f1 := fz 1
  obtain ⟨s0, s1⟩ := ja3 (v0 := iv 0) (v1 := iv 1) r0 r1
  clear fz bE hb1
  go_wp2
  exact bpr (v := outV (0, 1)) (by simp [results, Tryz.results175, go_sem, outV, s0, s1]) rfl ⟨rfl, (aj.setCell (show w.heap.size <= w.heap.size + 1 by omega) _).setCell (show w.heap.size <= w.heap.size + 1 by omega) _⟩
 rw [jrl ht hn hg hf]
 rw [ht] at hI
 have hR := j02 ht
 obtain ⟨n1, n2⟩ := jaw hn
 have au := hR.len
 have im := jwj l n
 have hS := fun w (h : Zz w (.agg #[.slice a l.length cap]) l) => jol l _ n hR n1 n2 w h
 have hP := fun w (h : Zz w (.agg #[.slice a l.length cap]) l) => jhj l _ n g hR n1 n2 w h
 have hD := fun v w base h1 h2 h3 => jgb (jdq l n) v f w base h1 h2 h3
 have E1 := @resR_gap l n g f
 have E2 := @resR_fold l n g f
 clear hn hg hf ht
 generalize jdq l n = L at *
 generalize gapR (gapD l n) n g = Pg at *
 generalize jhn L f = Pf at *
 generalize resR l n g f = R at *
 by_cases hL : L.length = 0
 ·obtain rfl := E1 hL
  obtain ⟨p1, p2⟩ := R
  rw [hL] at hS
  unfold outV at hP ⊢
  clear E1 E2 hD
  go_enter Tryz.func175, Tryz.ntmps175
  go_wp2_with fail
  refine (hM _).mono ?_
  rintro e wM ⟨rfl, rfl⟩
  go_wp2_with fail
  refine (hG _).mono ?_
  rintro e wM ⟨rfl, rfl⟩
  go_wp2_with fail
  refine (hF _).mono ?_
  rintro e wM ⟨rfl, rfl⟩
  go_wp2_with fail
  refine (hI _ (hv.below (ag _ _))).mono ?_
  rintro e w1 ⟨rfl, hb1⟩
  obtain ⟨⟨r0, r1⟩, fz, t0, aj⟩ := bE w1 hb1
  clear bE hb1
  go_wp2_with fail
  refine (hS _ (hv.below aj)).mono ?_
  rintro e w2 ⟨v2, rfl, ap, ac⟩
  obtain ⟨a2, c2, rfl⟩ := jic ap
  obtain ⟨cY, ep⟩ := jaf ac
  have ao := qtr aj ac
  have q0 := (cY _ _ (qbl r0)).trans r0
  have q1 := (cY _ _ (qbl r1)).trans r1
  have e0 := (ep _ _ (qbl r0)).trans (fz 0)
  have e1 := (ep _ _ (qbl r1)).trans (fz 1)
  have u0 := (cY _ _ (qbl t0)).trans t0
  clear cY ep ac ap r0 r1 fz t0
  go_wp2_with fail
  refine (hP _ (hv.below ao)).mono ?_
  rintro e w3 ⟨rfl, av⟩
  obtain ⟨fJ, gp⟩ := jaf av
  have ay := qtr ao av
  have k0 := (fJ _ _ (qbl q0)).trans q0
  have k1 := (fJ _ _ (qbl q1)).trans q1
  have g0 := (gp _ _ (qbl q0)).trans e0
  have g1 := (gp _ _ (qbl q1)).trans e1
  obtain ⟨s0, s1⟩ := ja3 (v0 := iv p1) (v1 := iv p2) k0 k1
  clear fJ gp av q0 q1 e0 e1 u0
  go_wp2
  exact bpr (v := .agg #[iv p1, iv p2]) (by simp [results, Tryz.results175, go_sem, s0, s1]) rfl ⟨rfl, (ay.setCell (show w.heap.size <= w.heap.size + 1 by omega) _).setCell (show w.heap.size <= w.heap.size + 1 by omega) _⟩
 ·obtain rfl := E2 hL
  obtain ⟨p1, p2⟩ := R
  have az : ((L.length : Int) == 0) = false := beq_eq_false_iff_ne.mpr (by omega)
  unfold outV at hD ⊢
  clear E1 E2 hP
  go_enter Tryz.func175, Tryz.ntmps175
  go_wp2_with fail
  refine (hM _).mono ?_
  rintro e wM ⟨rfl, rfl⟩
  go_wp2_with fail
  refine (hG _).mono ?_
  rintro e wM ⟨rfl, rfl⟩
  go_wp2_with fail
  refine (hF _).mono ?_
  rintro e wM ⟨rfl, rfl⟩
  go_wp2_with fail
  refine (hI _ (hv.below (ag _ _))).mono ?_
  rintro e w1 ⟨rfl, hb1⟩
  obtain ⟨⟨r0, r1⟩, fz, t0, aj⟩ := bE w1 hb1
  clear bE hb1
  go_wp2_with fail
  refine (hS _ (hv.below aj)).mono ?_
  rintro e w2 ⟨v2, rfl, ap, ac⟩
  have sg := hD _ _ _ (by omega) (by omega) ap
  obtain ⟨a2, c2, rfl⟩ := jic ap
  obtain ⟨cY, ep⟩ := jaf ac
  have ao := qtr aj ac
  have q0 := (cY _ _ (qbl r0)).trans r0
  have q1 := (cY _ _ (qbl r1)).trans r1
  have e0 := (ep _ _ (qbl r0)).trans (fz 0)
  have e1 := (ep _ _ (qbl r1)).trans (fz 1)
  clear cY ep ac ap r0 r1 fz t0 hD
  go_wp2_with fail
  refine sg.mono ?_
  rintro e w3 ⟨rfl, av⟩
  obtain ⟨fJ, gp⟩ := jaf av
  have ay := qtr ao av
  have k0 := (fJ _ _ (qbl q0)).trans q0
  have k1 := (fJ _ _ (qbl q1)).trans q1
  have g0 := (gp _ _ (qbl q0)).trans e0
  have g1 := (gp _ _ (qbl q1)).trans e1
  obtain ⟨s0, s1⟩ := ja3 (v0 := iv p1) (v1 := iv p2) k0 k1
  clear fJ gp av q0 q1 e0 e1
  go_wp2
  exact bpr (v := .agg #[iv p1, iv p2]) (by simp [results, Tryz.results175, go_sem, s0, s1]) rfl ⟨rfl, (ay.setCell (show w.heap.size <= w.heap.size + 1 by omega) _).setCell (show w.heap.size <= w.heap.size + 1 by omega) _⟩
end
section
open Go.RowKit
theorem jw5 (l : List TurnD) (n : Int) (hT : Js l) : jik n (jat l 1) := by
 intro t ht
 obtain ⟨j, hj, rfl⟩ := jnt ht
 obtain rfl : j = 0 := by omega
 have := hT.len
 unfold gapB
 rw [jdj hT (by omega)]
 unfold jh3
 simp only [Nat.zero_sub]
 cases h : decide ((l[0]?.getD jmz).at_ + (l[0]?.getD jmz).offset <= n)
 ·rfl
 ·rw [Bool.true_and]
  exact dfe (by have := odt h; omega)
theorem jh7 (l : List TurnD) (v : Value) (n g f : Int) (w : World) (hv : Zz w v l) (hR : Js l) (n1 : -62135596800 <= n) (n2 : n <= 253402300799) (g1 : 0 <= g) (g2 : g <= 2) (_f1 : 0 <= f) (_f2 : f <= 2) :
  Cl 123 #[v, iv n, iv g, iv f] w fun e w' => e = .returned (outV (resR l n g f)) /\ Bw w w' := by
 obtain ⟨a, cap, rfl, hA⟩ := hv
 have hv : Zz w (.agg #[.slice a l.length cap]) l := ⟨a, cap, rfl, hA⟩
 have ag := fun o o2 => (qal w o).alloc (by simp) o2
 have bE : ∀ w1, Below ((w.alloc (.cells #[.slice a l.length cap] 183)).alloc (.cells #[iv 0, iv 0] 188)).heap.size ((w.alloc (.cells #[.slice a l.length cap] 183)).alloc (.cells #[iv 0, iv 0] 188)) w1 ->
   (w1.cell? (ad (w.heap.size + 1) 0) = some (iv 0) /\ w1.cell? (ad (w.heap.size + 1) 1) = some (iv 0)) /\ (∀ i, w1.frozen? (ad (w.heap.size + 1) i) = false) /\ w1.cell? (ad w.heap.size 0) = some (.slice a l.length cap) /\ Bw w w1 := fun w1 hb1 => by
  obtain ⟨aY, cZ⟩ := jaf hb1
  exact ⟨⟨(aY _ _ (by simp)).trans (by simp [go_sem]), (aY _ _ (by simp)).trans (by simp [go_sem])⟩, fun i => (cZ _ _ (by simp)).trans (by simp [go_sem]), (aY _ _ (by simp; omega)).trans (by simp [go_sem]), (ag _ _).trans (hb1.mono (by simp; omega))⟩
 have au := hR.len
 have im := jwj l n
 have hS := fun w (h : Zz w (.agg #[.slice a l.length cap]) l) => jg9 l _ n hR n1 n2 w h
 have E1 := @resR_gap l n g f
 have E2 := @resR_fold l n g f
 have F1 := fun h1 h2 => @foldD_no (jdq l n) f h1 h2
 have F2 := fun h2 x hx => @foldD_last (jdq l n) f h2 x hx
 have F3 := fun h1 h2 x hx => @foldD_first (jdq l n) f h1 h2 x hx
 generalize jdq l n = L at *
 generalize jhn L f = Pf at *
 generalize resR l n g f = R at *
 by_cases hL : L.length = 0
 case neg =>
  obtain rfl := E2 hL
  obtain ⟨m, hm⟩ : ∃ m, L.length = m + 1 := ⟨L.length - 1, by omega⟩
  obtain ⟨x, hx⟩ : ∃ x, L[0]? = some x := ⟨_, lgg (by omega)⟩
  obtain ⟨y, hy⟩ : ∃ y, L[m]? = some y := ⟨_, lgg (by omega)⟩
  clear E1 E2 hL
  by_cases h1 : 0 < m
  ·by_cases h2 : f = 0
   ·obtain rfl := F1 (by omega) h2
    subst h2
    clear F1 F2 F3
    go_enter Tryz.func123, Tryz.ntmps123
    go_wp2_with fail
    refine (hS _ (hv.below (ag _ _))).mono ?_
    rintro e w2 ⟨v2, rfl, ap, ac⟩
    obtain ⟨g2, c2, rfl, _, _, _⟩ := jfk hm ap
    obtain ⟨⟨q0, q1⟩, fz, t0, ao⟩ := bE w2 ac
    have e0 := fz 0
    have e1 := fz 1
    clear fz bE ac ap
    obtain ⟨s0, s1⟩ := ja3 (v0 := iv (0)) (v1 := iv 9) q0 q1
    go_wp2
    exact bpr (v := outV (0, 9)) (by simp [results, Tryz.results123, go_sem, outV, s0, s1]) rfl ⟨rfl, (ao.setCell (show w.heap.size <= w.heap.size + 1 by omega) _).setCell (show w.heap.size <= w.heap.size + 1 by omega) _⟩
   ·by_cases h3 : f = 2
    ·obtain rfl := F2 h3 y (by rw [hm]; exact hy)
     subst h3
     clear F1 F2 F3
     go_enter Tryz.func123, Tryz.ntmps123
     go_wp2_with fail
     refine (hS _ (hv.below (ag _ _))).mono ?_
     rintro e w2 ⟨v2, rfl, ap, ac⟩
     obtain ⟨g2, c2, rfl, _, _, fc⟩ := jfk hm ap
     have cy := fc m y hy
     clear fc
     obtain ⟨⟨q0, q1⟩, fz, t0, ao⟩ := bE w2 ac
     have e0 := fz 0
     have e1 := fz 1
     clear fz bE ac ap
     obtain ⟨s0, s1⟩ := ja3 (v0 := iv (y)) (v1 := iv 0) q0 q1
     go_wp2
     exact bpr (v := outV (y, 0)) (by simp [results, Tryz.results123, go_sem, outV, s0, s1]) rfl ⟨rfl, (ao.setCell (show w.heap.size <= w.heap.size + 1 by omega) _).setCell (show w.heap.size <= w.heap.size + 1 by omega) _⟩
    ·obtain rfl := F3 (by omega) h3 x hx
     have e2 : (f == 0) = false := by simp [h2]
     have e3 : (f == 2) = false := by simp [h3]
     clear F1 F2 F3
     go_enter Tryz.func123, Tryz.ntmps123
     go_wp2_with fail
     refine (hS _ (hv.below (ag _ _))).mono ?_
     rintro e w2 ⟨v2, rfl, ap, ac⟩
     obtain ⟨g2, c2, rfl, _, _, fc⟩ := jfk hm ap
     have cx := fc 0 x hx
     clear fc
     obtain ⟨⟨q0, q1⟩, fz, t0, ao⟩ := bE w2 ac
     have e0 := fz 0
     have e1 := fz 1
     clear fz bE ac ap
     obtain ⟨s0, s1⟩ := ja3 (v0 := iv (x)) (v1 := iv 0) q0 q1
     go_wp2
     exact bpr (v := outV (x, 0)) (by simp [results, Tryz.results123, go_sem, outV, s0, s1]) rfl ⟨rfl, (ao.setCell (show w.heap.size <= w.heap.size + 1 by omega) _).setCell (show w.heap.size <= w.heap.size + 1 by omega) _⟩
  ·obtain rfl : m = 0 := by omega
   have hF : R = (x, 0) := by
    by_cases h3 : f = 2
    ·exact F2 h3 x (by rw [hm]; exact hx)
    ·exact F3 (by omega) h3 x hx
   subst hF
   clear F1 F2 F3 hy
   go_enter Tryz.func123, Tryz.ntmps123
   go_wp2_with fail
   refine (hS _ (hv.below (ag _ _))).mono ?_
   rintro e w2 ⟨v2, rfl, ap, ac⟩
   obtain ⟨g2, c2, rfl, _, _, fc⟩ := jfk hm ap
   have cx := fc 0 x hx
   clear fc
   obtain ⟨⟨q0, q1⟩, fz, t0, ao⟩ := bE w2 ac
   have e0 := fz 0
   have e1 := fz 1
   clear fz bE ac ap
   obtain ⟨s0, s1⟩ := ja3 (v0 := iv (x)) (v1 := iv 0) q0 q1
   go_wp2
   exact bpr (v := outV (x, 0)) (by simp [results, Tryz.results123, go_sem, outV, s0, s1]) rfl ⟨rfl, (ao.setCell (show w.heap.size <= w.heap.size + 1 by omega) _).setCell (show w.heap.size <= w.heap.size + 1 by omega) _⟩
 case pos =>
  have E := E1 hL
  clear E1 E2 F1 F2 F3
  have HS : Hid (∀ k, k < l.length -> jik n (jat l k) -> gapB n (strK l k) = true -> R = gapR (some (strK l k)) n g) := fun k hk h0 h1 => by rw [E, joz hk h0 h1]
  have HN : Hid (jik n (jat l l.length) -> R = (0, 4)) := fun h0 => by rw [E, jjo h0]; rfl
  clear E
  rw [hL] at hS
  have aU : ∀ (wr : World), Bw w wr -> ∀ (k : Nat) (x : TurnD), l[k]? = some x -> ∃ b o, a = some (ad b o) /\ wr.cell? (ad b (o + k * 4)) = some (iv x.at_) /\ wr.cell? (ad b (o + k * 4 + 1)) = some (iv x.offset) := fun wr hB k x hx => by
   obtain ⟨b', o', he, hc⟩ := (hA.below hB).at (i := k) (r := x.cs) (by rw [lgm, hx]; rfl)
   exact ⟨b', o', he, hc 0 _ rfl, hc 1 _ rfl⟩
  go_enter Tryz.func123, Tryz.ntmps123
  go_wp2_with fail
  refine (hS _ (hv.below (ag _ _))).mono ?_
  rintro e w2 ⟨v2, rfl, ap, ac⟩
  obtain ⟨a2, c2, rfl⟩ := jic ap
  obtain ⟨⟨q0, q1⟩, fz, t0, ao⟩ := bE w2 ac
  have e0 := fz 0
  have e1 := fz 1
  clear fz bE ac ap
  go_wp2
  go_loopw [10] (fun s wr => ∃ k : Nat, 1 <= k /\ k <= l.length /\ s = iv k /\ jik n (jat l k) /\ wr = w2) (fun s _ => l.length - (intOf s).toNat)
  case atStart => exact ⟨1, by omega, by omega, rfl, jw5 l n hR, rfl⟩
  case round =>
   obtain ⟨k, mG, hk, rfl, jA, hw⟩ := hrel
   have hw := hw.symm
   subst hw
   by_cases hlt : k < l.length
   case neg =>
    obtain rfl : k = l.length := by omega
    obtain rfl := HN.out jA
    obtain ⟨s0, s1⟩ := ja3 (v0 := iv (0)) (v1 := iv 4) q0 q1
    go_wp2
    exact bpr (v := outV (0, 4)) (by simp [results, Tryz.results123, go_sem, outV, s0, s1]) rfl ⟨rfl, (ao.setCell (show w.heap.size <= w.heap.size + 1 by omega) _).setCell (show w.heap.size <= w.heap.size + 1 by omega) _⟩
   case pos =>
    obtain ⟨j, rfl⟩ : ∃ j, k = j + 1 := ⟨k - 1, by omega⟩
    obtain ⟨x, hx⟩ : ∃ x, l[j + 1]? = some x := ⟨_, lgg hlt⟩
    obtain ⟨p, hp⟩ : ∃ x, l[j]? = some x := ⟨_, lgg (by omega)⟩
    obtain ⟨b, o, ha, c0, c1⟩ := aU _ ao (j + 1) x hx
    obtain ⟨b', o', jQ, d0, d1⟩ := aU _ ao j p hp
    rw [ha] at jQ
    injection jQ with jQ
    injection jQ with u1 u2
    subst u1 u2 ha
    obtain ⟨z1, z2⟩ := jaw (jnp hR (lmg hx))
    obtain ⟨z3, z4⟩ := jaw (jnp hR (lmg hp))
    have z5 := jpf hR hx
    have z6 := hR.top _ x hx
    have HV : Hid ((strK l (j + 1)).1.first = x.at_ /\ (strK l (j + 1)).1.ahead = p.offset /\ (strK l (j + 1)).1.own = x.offset) := by
     simp only [Hid]; rw [jdj hR hlt]; unfold jh3; rw [Nat.add_sub_cancel, hx, hp]; exact ⟨rfl, rfl, rfl⟩
    have lQ : Hid (gapB n (strK l (j + 1)) = false -> jik n (jat l (j + 1 + 1))) := fun h => by rw [uptoS_succ]; exact jf3 jA h
    have HG : Hid (gapB n (strK l (j + 1)) = true -> R = gapR (some (strK l (j + 1))) n g) := fun h => HS.out (j + 1) hlt jA h
    clear hx hp aU HS HN d0
    by_cases h1 : x.at_ + p.offset <= n
    case neg =>
     have gS := lQ.out (gapB_f1 (by rw [HV.out.1, HV.out.2.1]; exact h1))
     clear lQ HG HV
     go_wp2
     go_roundw
     case rel => exact ⟨j + 1 + 1, by omega, by omega, by go_num, gS, trivial⟩
     case measure => simp [intOf]; omega
    case pos =>
     by_cases h2 : n < x.at_ + x.offset
     case neg =>
      have gS := lQ.out (gapB_f2 (by rw [HV.out.1, HV.out.2.2]; exact h2))
      clear lQ HG HV
      go_wp2
      go_roundw
      case rel => exact ⟨j + 1 + 1, by omega, by omega, by go_num, gS, trivial⟩
      case measure => simp [intOf]; omega
     case pos =>
      have E := HG.out (gapB_t (by rw [HV.out.1, HV.out.2.1]; exact h1) (by rw [HV.out.1, HV.out.2.2]; exact h2))
      have R0 := j1h (strK l (j + 1)) n
      have R1 := j1g (strK l (j + 1)) n
      have R2 := fun h0 h1 => @gapR_2 (strK l (j + 1)) n g h0 h1
      rw [HV.out.2.1] at R1
      rw [HV.out.2.2] at R2
      clear lQ HG HV jA
      by_cases h0 : g = 0
      ·subst h0
       rw [R0] at E
       subst E
       clear R0 R1 R2
       obtain ⟨s0, s1⟩ := ja3 (v0 := iv (0)) (v1 := iv 8) q0 q1
       go_wp2
       exact bpr (v := outV (0, 8)) (by simp [results, Tryz.results123, go_sem, outV, s0, s1]) rfl ⟨rfl, (ao.setCell (show w.heap.size <= w.heap.size + 1 by omega) _).setCell (show w.heap.size <= w.heap.size + 1 by omega) _⟩
      ·have e2 : (g == 0) = false := by simp [h0]
       by_cases h3 : g = 2
       ·subst h3
        rw [R2 (by omega) (by omega)] at E
        have mt := fun w => jfh (n - x.offset) w
        clear R0 R1 R2
        cases hb : isB (n - x.offset) (-62135596800) 253402300799
        ·rw [jpn hb] at E
         subst E
         rw [hb] at mt
         clear hb
         obtain ⟨s0, s1⟩ := ja3 (v0 := iv 0) (v1 := iv 4) q0 q1
         go_wp2_with fail
         refine (mt _).mono ?_
         rintro e w' ⟨rfl, rfl⟩
         go_wp2
         exact bpr (v := outV (0, 4)) (by simp [results, Tryz.results123, go_sem, outV, s0, s1]) rfl ⟨rfl, (ao.setCell (show w.heap.size <= w.heap.size + 1 by omega) _).setCell (show w.heap.size <= w.heap.size + 1 by omega) _⟩
        ·rw [jpm hb] at E
         subst E
         rw [hb] at mt
         clear hb
         obtain ⟨s0, s1⟩ := ja3 (v0 := iv (n - x.offset)) (v1 := iv 0) q0 q1
         go_wp2_with fail
         refine (mt _).mono ?_
         rintro e w' ⟨rfl, rfl⟩
         go_wp2
         exact bpr (v := outV (n - x.offset, 0)) (by simp [results, Tryz.results123, go_sem, outV, s0, s1]) rfl ⟨rfl, (ao.setCell (show w.heap.size <= w.heap.size + 1 by omega) _).setCell (show w.heap.size <= w.heap.size + 1 by omega) _⟩
       ·obtain rfl : g = 1 := by omega
        rw [R1] at E
        have mt := fun w => jfh (n - p.offset) w
        clear R0 R1 R2
        cases hb : isB (n - p.offset) (-62135596800) 253402300799
        ·rw [jpn hb] at E
         subst E
         rw [hb] at mt
         clear hb
         obtain ⟨s0, s1⟩ := ja3 (v0 := iv 0) (v1 := iv 4) q0 q1
         go_wp2_with fail
         refine (mt _).mono ?_
         rintro e w' ⟨rfl, rfl⟩
         go_wp2
         exact bpr (v := outV (0, 4)) (by simp [results, Tryz.results123, go_sem, outV, s0, s1]) rfl ⟨rfl, (ao.setCell (show w.heap.size <= w.heap.size + 1 by omega) _).setCell (show w.heap.size <= w.heap.size + 1 by omega) _⟩
        ·rw [jpm hb] at E
         subst E
         rw [hb] at mt
         clear hb
         obtain ⟨s0, s1⟩ := ja3 (v0 := iv (n - p.offset)) (v1 := iv 0) q0 q1
         go_wp2_with fail
         refine (mt _).mono ?_
         rintro e w' ⟨rfl, rfl⟩
         go_wp2
         exact bpr (v := outV (n - p.offset, 0)) (by simp [results, Tryz.results123, go_sem, outV, s0, s1]) rfl ⟨rfl, (ao.setCell (show w.heap.size <= w.heap.size + 1 by omega) _).setCell (show w.heap.size <= w.heap.size + 1 by omega) _⟩
end
end Go.Proofs.YtgiieknbckhofaaGreatDoor
