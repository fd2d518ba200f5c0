/- Packed. -/
import Derived.Test.YtgiieknbckhofaaGreatDoorRelPu
import Derived.Laws.EntriesVeiled
import Derived.Deep.RegionHeld3
set_option maxHeartbeats 20000000
set_option linter.unusedSimpArgs false
namespace Go.Proofs.YtgiieknbckhofaaGreatDoor
section
open Go.RowKit Go.Sort
def Zz (w : World) (v : Value) (l : List TurnD) : Prop := ∃ a cap, v = .agg #[.slice a l.length cap] /\ Za w a 4 (l.map TurnD.cs)
theorem Zz.below {w w' : World} {v : Value} {l : List TurnD} (h : Zz w v l) (hb : Bw w w') : Zz w' v l := by
 obtain ⟨a, cap, rfl, hA⟩ := h
 exact ⟨a, cap, rfl, hA.below hb⟩
theorem jc5 {p q i j : Nat} (h : p ≠ q) : ((ad p i) : Addr) ≠ (ad q j) := fun e => by injection e with e1; exact h e1
end
section
open Go.RowKit
def jca (t : TurnD) : Bool := isB t.offset (-100000) 100000 && (isB t.save (-7200) 7200 && decide (t.abbr.size <= 20))
theorem turn_no1 {t : TurnD} (h : isB t.offset (-100000) 100000 = false) : jca t = false := by unfold jca; rw [h]; rfl
theorem turn_no2 {t : TurnD} (h : isB t.save (-7200) 7200 = false) : jca t = false := by unfold jca; rw [h]; simp
theorem turn_no3 {t : TurnD} (h : ¬ t.abbr.size <= 20) : jca t = false := by unfold jca; rw [dfe h]; simp
theorem turn_yes {t : TurnD} (h1 : isB t.offset (-100000) 100000 = true) (h2 : isB t.save (-7200) 7200 = true) (h3 : t.abbr.size <= 20) : jca t = true := by unfold jca; rw [h1, h2, dte h3]; rfl
def upT : List TurnD -> Bool
 | [] => true
 | [_] => true
 | x :: y :: l => decide (x.at_ < y.at_) && upT (y :: l)
theorem j00 {es : List TurnD} : ∀ {i : Nat} {x y : TurnD}, es[i]? = some x -> es[i + 1]? = some y -> ¬ x.at_ < y.at_ -> upT es = false := by
 induction es with
 | nil => intro i x y h; simp at h
 | cons a l ih =>
  intro i x y hx hy hn
  match l, i with
  | [], _ => simp at hy
  | b :: l, 0 =>
   simp at hx hy
   subst hx hy
   simp [upT, hn]
  | b :: l, i + 1 =>
   have := ih (i := i) (x := x) (y := y) (by simpa using hx) (by simpa using hy) hn
   simp only [upT, this, Bool.and_false]
theorem juw {es : List TurnD} (h : ∀ i x y, es[i]? = some x -> es[i + 1]? = some y -> x.at_ < y.at_) : upT es = true := by
 induction es with
 | nil => rfl
 | cons a l ih =>
  match l with
  | [] => rfl
  | b :: l =>
   have h0 := h 0 a b rfl rfl
   have := ih fun i x y hx hy => h (i + 1) x y (by simpa using hx) (by simpa using hy)
   simp only [upT, this, dte h0, Bool.and_true]
theorem j26 {es : List TurnD} (h : upT es = true) {i : Nat} {x y : TurnD} (hx : es[i]? = some x) (hy : es[i + 1]? = some y) : x.at_ < y.at_ := by
 by_cases hn : x.at_ < y.at_
 ·exact hn
 ·rw [j00 hx hy hn] at h; cases h
theorem j27 {es : List TurnD} (h : upT es = true) {i : Nat} {x : TurnD} (hx : es[i]? = some x) : ∀ (d : Nat) {y : TurnD}, es[i + d]? = some y -> x.at_ <= y.at_ := by
 intro d
 induction d with
 | zero => intro y hy; rw [Nat.add_zero, hx] at hy; obtain rfl := osi hy; exact Int.le_refl _
 | succ d ih =>
  intro y hy
  have hlt := (lgs hy).1
  obtain ⟨z, hz⟩ : ∃ z, es[i + d]? = some z := ⟨_, lgg (by omega)⟩
  have h1 := ih hz
  have h2 := j26 h hz (y := y) (by rw [show i + d + 1 = i + (d + 1) by omega]; exact hy)
  omega
theorem jpl {es : List TurnD} (h : upT es = true) {i j : Nat} (gq : i <= j) {x y : TurnD} (hx : es[i]? = some x) (hy : es[j]? = some y) : x.at_ <= y.at_ :=
 j27 h hx (j - i) (by rw [show i + (j - i) = j by omega]; exact hy)
def jo6 (l : List TurnD) : Bool := match l[0]?, l[l.length - 1]? with
 | some a, some b => (a.at_ == -62135596800) && decide (b.at_ <= 253402300799)
 | _, _ => false
def tabB (l : List TurnD) : Bool := decide (1 <= l.length /\ l.length <= 600) && (l.all jca && (upT l && jo6 l))
theorem ju1 {l : List TurnD} (h : ¬ (1 <= l.length /\ l.length <= 600)) : tabB l = false := by unfold tabB; rw [dfe h]; rfl
theorem j1y {l : List TurnD} (h : l.all jca = false) : tabB l = false := by unfold tabB; rw [h]; simp
theorem ju0 {l : List TurnD} (h : upT l = false) : tabB l = false := by unfold tabB; rw [h]; simp
theorem juz {l : List TurnD} (h : jo6 l = false) : tabB l = false := by unfold tabB; rw [h]; simp
theorem jrh {l : List TurnD} (h1 : 1 <= l.length /\ l.length <= 600) (h2 : l.all jca = true) (h3 : upT l = true) : tabB l = jo6 l := by unfold tabB; rw [dte h1, h2, h3]; simp
theorem jxl {l : List TurnD} {n : Nat} {a b : TurnD} (hn : l.length = n + 1) (ha : l[0]? = some a) (hb : l[n]? = some b) : jo6 l = ((a.at_ == -62135596800) && decide (b.at_ <= 253402300799)) := by
 unfold jo6
 rw [show l.length - 1 = n by omega, ha, hb]
theorem ju2 {l : List TurnD} {a : TurnD} (ha : l[0]? = some a) (h : a.at_ ≠ -62135596800) : tabB l = false := by
 apply juz
 unfold jo6
 rw [ha]
 cases l[l.length - 1]? with
 | none => rfl
 | some b => simp [h]
theorem j1w {l : List TurnD} {k : Nat} {x : TurnD} (hx : l[k]? = some x) (h : 253402300799 < x.at_) : tabB l = false := by
 cases hu : upT l
 ·exact ju0 hu
 ·apply juz
  have hk := (lgs hx).1
  obtain ⟨b, hb⟩ : ∃ b, l[l.length - 1]? = some b := ⟨_, lgg (by omega)⟩
  have := jpl hu (show k <= l.length - 1 by omega) hx hb
  unfold jo6
  rw [hb]
  cases l[0]? with
  | none => rfl
  | some a => simp; omega
structure Js (l : List TurnD) : Prop where
 len : 1 <= l.length /\ l.length <= 600
 up : upT l = true
 first : ∀ a, l[0]? = some a -> a.at_ = -62135596800
 top : ∀ (k : Nat) x, l[k]? = some x -> x.at_ <= 253402300799
 one : ∀ x ∈ l, jca x = true
theorem j02 {l : List TurnD} (h : tabB l = true) : Js l := by
 have hh := h
 unfold tabB at h
 simp only [bat, decide_eq_true_eq, List.all_eq_true] at h
 obtain ⟨h1, h2, h3, h4⟩ := h
 refine ⟨h1, h3, fun a ha => ?_, fun k x hx => ?_, h2⟩
 ·by_cases e : a.at_ = -62135596800
  ·exact e
  ·rw [ju2 ha e] at hh; cases hh
 ·by_cases e : x.at_ <= 253402300799
  ·exact e
  ·rw [j1w hx (by omega)] at hh; cases hh
end
section
open Go.RowKit
theorem ji6 (n : Int) (w : World) :
  Cl 160 #[iv n] w fun e w' => e = .returned (.bool (isB n (-7200) 7200)) /\ w' = w := by
 by_cases h : -7200 <= n
 ·go_enter Tryz.func160, Tryz.ntmps160
  go_wp2
  go_ret
  exact ⟨ret_bool (by unfold isB; simp [h]), rfl⟩
 ·go_enter Tryz.func160, Tryz.ntmps160
  go_wp2
  go_ret
  exact ⟨ret_bool (jka (by omega)).symm, rfl⟩
theorem jkc (t : TurnD) (w : World) (ok : t.ok) :
  Cl 253 #[t.v] w fun e w' => e = .returned (.bool (jca t)) /\ Bw w w' := by
 obtain ⟨at_, offset, save, abbr⟩ := t
 unfold TurnD.ok maxLen at ok
 have hS := fun w => ji6 save w
 have N1 := @turn_no1 ⟨at_, offset, save, abbr⟩
 have N2 := @turn_no2 ⟨at_, offset, save, abbr⟩
 have N3 := @turn_no3 ⟨at_, offset, save, abbr⟩
 have Y := @turn_yes ⟨at_, offset, save, abbr⟩
 generalize jca ⟨at_, offset, save, abbr⟩ = b at *
 simp only [TurnD.v] at *
 by_cases h1 : -100000 <= offset
 ·by_cases h2 : offset <= 100000
  ·have AM := jma h1 h2
   cases h3 : isB save (-7200) 7200
   ·have HR : Hid (b = false) := N2 h3
    rw [h3] at hS
    clear N1 N2 N3 Y AM h3
    go_enter Tryz.func253, Tryz.ntmps253
    go_wp2_with (go_at_call 160; refine (hS _).mono ?_; rintro e w' ⟨rfl, rfl⟩)
    go_ret
    exact ⟨ret_bool HR.out.symm, qal _ _⟩
   ·rw [h3] at hS
    have HR : Hid (b = decide (abbr.size <= 20)) := by
     by_cases h4 : abbr.size <= 20
     ·exact (Y AM h3 h4).trans (dte h4).symm
     ·exact (N3 h4).trans (dfe h4).symm
    clear N1 N2 N3 Y AM h3
    go_enter Tryz.func253, Tryz.ntmps253
    go_wp2_with (go_at_call 160; refine (hS _).mono ?_; rintro e w' ⟨rfl, rfl⟩)
    go_ret
    exact ⟨ret_bool (by rw [HR.out]; simp; omega), qal _ _⟩
  ·have HR : Hid (b = false) := N1 (jka (by simp; omega))
   clear N1 N2 N3 Y
   go_enter Tryz.func253, Tryz.ntmps253
   go_wp2_with (go_at_call 160; refine (hS _).mono ?_; rintro e w' ⟨rfl, rfl⟩)
   go_ret
   exact ⟨ret_bool HR.out.symm, qal _ _⟩
 ·have HR : Hid (b = false) := N1 (jka (by simp; omega))
  clear N1 N2 N3 Y
  go_enter Tryz.func253, Tryz.ntmps253
  go_wp2_with (go_at_call 160; refine (hS _).mono ?_; rintro e w' ⟨rfl, rfl⟩)
  go_ret
  exact ⟨ret_bool HR.out.symm, qal _ _⟩
theorem j2y {α : Type} {l : List α} {p : α -> Bool} {k : Nat} {x : α} (hk : l[k]? = some x) (h : p x = false) : l.all p = false := by
 rw [List.all_eq_false]
 exact ⟨x, lmg hk, by simp [h]⟩
theorem j0t {α : Type} {l : List α} {p : α -> Bool} (h : ∀ j, j < l.length -> ∀ x, l[j]? = some x -> p x = true) : l.all p = true := by
 rw [List.all_eq_true]
 intro x hx
 obtain ⟨j, hj⟩ := lgo hx
 exact h j (lgs hj).1 x hj
theorem jos (l : List TurnD) (a : Option Addr) (cap : Nat) (w : World) (hA : Za w a 4 (l.map TurnD.cs)) (de : ∀ r ∈ l, r.ok) (hl : l.length <= 1048576) :
  Cl 252 #[.slice a l.length cap, .func (.func 253) #[] #[]] w fun e w' => e = .returned (.bool (l.all jca)) /\ Bw w w' := by
 go_enter Tryz.func252, Tryz.ntmps252
 go_wp2
 go_loopw [9] (fun i wr => ∃ k : Nat, k <= l.length /\ i = iv k /\ Hid (∀ j, j < k -> ∀ x, l[j]? = some x -> jca x = true) /\ Bw w wr) (fun i _ => l.length - (intOf i).toNat)
 case atStart => exact ⟨0, by omega, rfl, fun j hj => by omega, brf _ _⟩
 case round =>
  obtain ⟨k, hk, rfl, ak, hB⟩ := hrel
  by_cases hlt : k < l.length
  ·obtain ⟨r, hr⟩ := qgg hlt
   have ap : (l.map TurnD.cs)[k]? = some r.cs := by rw [lgm, hr]; rfl
   obtain ⟨b, o, rfl, hc⟩ := (hA.below hB).at (i := k) ap
   have ok := de r (lmg hr)
   have hS := fun w => jkc r w ok
   have c0 : wr.cell? (ad b (o + k * 4)) = some (iv r.at_) := hc 0 _ rfl
   have c1 := hc 1 _ rfl
   have c2 := hc 2 _ rfl
   have c3 := hc 3 _ rfl
   clear hc
   unfold TurnD.v at hS
   cases hb : jca r
   ·have HR : Hid (l.all jca = false) := j2y hr hb
    rw [hb] at hS
    clear hb
    go_wp2_with fail
    refine (hS _).mono ?_
    rintro e w2 ⟨rfl, ac⟩
    go_wp2
    go_ret
    exact ⟨ret_bool HR.out.symm, (hB.alloc hB.size _).trans (ac.mono (by simp; have := hB.size; omega))⟩
   ·have HR : Hid (∀ j, j < k + 1 -> ∀ x, l[j]? = some x -> jca x = true) := fun j hj x hx => by
     by_cases e : j = k
     ·subst e; rw [hr] at hx; obtain rfl := osi hx; exact hb
     ·exact ak.out j (by omega) x hx
    rw [hb] at hS
    clear hb
    go_wp2_with fail
    refine (hS _).mono ?_
    rintro e w2 ⟨rfl, ac⟩
    go_wp2
    go_roundw
    case rel => exact ⟨k + 1, by omega, by go_num, HR, (hB.alloc hB.size _).trans (ac.mono (by simp; have := hB.size; omega))⟩
    case measure => simp [intOf]; omega
  ·have e : k = l.length := by omega
   subst e
   have HR : Hid (l.all jca = true) := j0t ak.out
   go_wp2
   go_ret
   exact ⟨ret_bool HR.out.symm, hB⟩
set_option maxRecDepth 20000 in
theorem jjk (l : List TurnD) (v : Value) (w : World) (hv : Zz w v l) (de : ∀ r ∈ l, r.ok) (hl : l.length <= 1048576) :
  Cl 215 #[v] w fun e w' => e = .returned (.bool (tabB l)) /\ Bw w w' := by
 obtain ⟨a, cap, rfl, hA⟩ := hv
 have ag := fun o => qal w o
 by_cases hl0 : l.length < 1
 ·rw [ju1 (by omega)]
  go_enter Tryz.func215, Tryz.ntmps215
  go_wp2
  go_ret
  exact ⟨rfl, ag _⟩
 by_cases GB : 600 < l.length
 ·rw [ju1 (by omega)]
  go_enter Tryz.func215, Tryz.ntmps215
  go_wp2
  go_ret
  exact ⟨rfl, ag _⟩
 have h2 := fun w (h : Za w a 4 (l.map TurnD.cs)) => jos l a cap w h de (by omega)
 cases ha : l.all jca
 ·rw [j1y ha]
  rw [ha] at h2
  clear ha
  go_enter Tryz.func215, Tryz.ntmps215
  go_wp2_with fail
  refine (h2 _ (hA.below (ag _))).mono ?_
  rintro e w1 ⟨rfl, hb1⟩
  go_wp2
  go_ret
  exact ⟨rfl, (ag _).trans (hb1.mono (by simp))⟩
 rw [ha] at h2
 have HZ : Hid (upT l = true -> tabB l = jo6 l) := fun h => jrh (by omega) ha h
 have HN : Hid (upT l = false -> tabB l = false) := fun h => ju0 h
 clear ha
 generalize tabB l = zb at *
 go_enter Tryz.func215, Tryz.ntmps215
 go_wp2_with fail
 refine (h2 _ (hA.below (ag _))).mono ?_
 rintro e w1 ⟨rfl, hb1⟩
 obtain ⟨hc, _⟩ := jaf hb1
 have aj := (ag _).trans (hb1.mono (by simp))
 have x1 : w1.cell? (ad w.heap.size 0) = some (.slice a l.length cap) := (hc _ _ (by simp)).trans (by simp [go_sem])
 have eN := hA.below aj
 clear hc hb1 h2
 obtain ⟨n, au⟩ : ∃ n, l.length = n + 1 := ⟨l.length - 1, by omega⟩
 go_wp2
 go_loopw [22] (fun i wr => ∃ k : Nat, k <= n /\ i = iv k /\ Hid (∀ j, j < k -> ∀ x y, l[j]? = some x -> l[j + 1]? = some y -> x.at_ < y.at_) /\ Bw w1 wr) (fun i _ => n - (intOf i).toNat)
 case atStart => exact ⟨0, by omega, rfl, fun j hj => by omega, brf _ _⟩
 case round =>
  obtain ⟨k, hk, rfl, ak, hB⟩ := hrel
  have y1 : wr.cell? (ad w.heap.size 0) = some (.slice a l.length cap) := by rw [(jaf hB).1 _ _ (qbl x1)]; exact x1
  have dS := qtr aj hB
  by_cases hlt : k < n
  ·obtain ⟨r, hr⟩ : ∃ r, l[k]? = some r := ⟨_, lgg (by omega)⟩
   obtain ⟨r2, dA⟩ : ∃ r, l[k + 1]? = some r := ⟨_, lgg (by omega)⟩
   obtain ⟨b, o, rfl, hc⟩ := (eN.below hB).at (i := k) (r := r.cs) (by rw [lgm, hr]; rfl)
   obtain ⟨b', o', he, hd⟩ := (eN.below hB).at (i := k + 1) (r := r2.cs) (by rw [lgm, dA]; rfl)
   injection he with he
   injection he with e1 e2
   subst e1 e2
   have c4 : wr.cell? (ad b (o + k * 4)) = some (iv r.at_) := hc 0 _ rfl
   have d4 : wr.cell? (ad b (o + (k + 1) * 4)) = some (iv r2.at_) := hd 0 _ rfl
   clear hc hd
   by_cases hu : r.at_ < r2.at_
   ·have HR : Hid (∀ j, j < k + 1 -> ∀ x y, l[j]? = some x -> l[j + 1]? = some y -> x.at_ < y.at_) := fun j hj x y hx hy => by
     by_cases e : j = k
     ·subst e; rw [hr] at hx; rw [dA] at hy; obtain rfl := osi hx; obtain rfl := osi hy; exact hu
     ·exact ak.out j (by omega) x y hx hy
    go_wp2_with fail
    go_quiet (fail)
    go_wp2
    go_roundw
    case rel => exact ⟨k + 1, by omega, by go_num, HR, below_drewN hB _⟩
    case measure => simp [intOf]; omega
   ·have HR : Hid (zb = false) := HN.out (j00 hr dA hu)
    go_wp2_with fail
    go_quiet (fail)
    go_wp2
    go_ret
    exact ⟨ret_bool HR.out.symm, below_drewN dS _⟩
  ·have e : k = n := by omega
   subst e
   obtain ⟨r, hr⟩ : ∃ r, l[k]? = some r := ⟨_, lgg (by omega)⟩
   obtain ⟨f, hf⟩ : ∃ r, l[0]? = some r := ⟨_, lgg (by omega)⟩
   obtain ⟨b, o, rfl, hc⟩ := (eN.below hB).at (i := k) (r := r.cs) (by rw [lgm, hr]; rfl)
   obtain ⟨b', o', he, hd⟩ := (eN.below hB).at (i := 0) (r := f.cs) (by rw [lgm, hf]; rfl)
   injection he with he
   injection he with e1 e2
   subst e1 e2
   have c4 : wr.cell? (ad b (o + k * 4)) = some (iv r.at_) := hc 0 _ rfl
   have d4 : wr.cell? (ad b o) = some (iv f.at_) := by simpa using hd 0 _ rfl
   clear hc hd
   have HR : Hid (zb = ((f.at_ == -62135596800) && decide (r.at_ <= 253402300799))) := by
    simp only [Hid]
    rw [HZ.out (juw fun i x y hx hy => ak.out i (by have := (lgs hy).1; omega) x y hx hy)]
    exact jxl au hf hr
   cases g : (f.at_ == -62135596800)
   ·rw [g] at HR
    go_wp2
    go_ret
    exact ⟨ret_bool HR.out.symm, dS⟩
   ·rw [g] at HR
    go_wp2
    go_ret
    exact ⟨ret_bool (by rw [HR.out]; simp), dS⟩
end
section
open Go.RowKit Go.Sort
def jmz : TurnD := ⟨0, 0, 0, ⟨#[]⟩⟩
theorem jfh (n : Int) (w : World) :
  Cl 121 #[iv n] w fun e w' => e = .returned (.bool (isB n (-62135596800) 253402300799)) /\ w' = w := by
 go_enter Tryz.func121, Tryz.ntmps121
 go_wp2_with (go_at_call 41; refine (jau _ _ _ _).mono ?_; rintro e w' ⟨rfl, rfl⟩)
 go_ret
 exact ⟨rfl, rfl⟩
theorem jyu {w : World} {b : Nat} {x0 x1 x2 x3 v0 v1 v2 v3 : Value} (h0 : w.cell? (ad b 0) = some x0) (h1 : w.cell? (ad b 1) = some x1) (h2 : w.cell? (ad b 2) = some x2) (h3 : w.cell? (ad b 3) = some x3) :
  ((((w.setCell (ad b 0) v0).setCell (ad b 1) v1).setCell (ad b 2) v2).setCell (ad b 3) v3).cell? (ad b 0) = some v0 /\ ((((w.setCell (ad b 0) v0).setCell (ad b 1) v1).setCell (ad b 2) v2).setCell (ad b 3) v3).cell? (ad b 1) = some v1 /\ ((((w.setCell (ad b 0) v0).setCell (ad b 1) v1).setCell (ad b 2) v2).setCell (ad b 3) v3).cell? (ad b 2) = some v2 /\ ((((w.setCell (ad b 0) v0).setCell (ad b 1) v1).setCell (ad b 2) v2).setCell (ad b 3) v3).cell? (ad b 3) = some v3 := by
 refine ⟨?_, ?_, ?_, ?_⟩
 ·rw [wco _ _ _ _ (by simp), wco _ _ _ _ (by simp), wco _ _ _ _ (by simp), wcs _ _ _ h0]
 ·rw [wco _ _ _ _ (by simp), wco _ _ _ _ (by simp)]
  refine wcs _ _ _ (u := x1) ?_
  rw [wco _ _ _ _ (by simp)]; exact h1
 ·rw [wco _ _ _ _ (by simp)]
  refine wcs _ _ _ (u := x2) ?_
  rw [wco _ _ _ _ (by simp), wco _ _ _ _ (by simp)]; exact h2
 ·refine wcs _ _ _ (u := x3) ?_
  rw [wco _ _ _ _ (by simp), wco _ _ _ _ (by simp), wco _ _ _ _ (by simp)]; exact h3
theorem jg1 (n : Int) (w : World) :
  Cl 135 #[iv n] w fun e w' => e = .returned (.bool (isB n (-62135596800) 253402300799)) /\ w' = w := by
 by_cases h : -62135596800 <= n
 ·go_enter Tryz.func135, Tryz.ntmps135
  go_wp2
  go_ret
  exact ⟨ret_bool (by unfold isB; simp [h]), rfl⟩
 ·go_enter Tryz.func135, Tryz.ntmps135
  go_wp2
  go_ret
  exact ⟨ret_bool (jka (by omega)).symm, rfl⟩
end
section
open Go.RowKit Go.Sort
def outV (p : Int × Int) : Value := .agg #[iv p.1, iv p.2]
def jh0 (m : Int) : Int × Int := if isB m (-62135596800) 253402300799 = true then (m, 0) else (0, 4)
theorem jpm {m : Int} (h : isB m (-62135596800) 253402300799 = true) : jh0 m = (m, 0) := by unfold jh0; rw [if_pos h]
theorem jpn {m : Int} (h : isB m (-62135596800) 253402300799 = false) : jh0 m = (0, 4) := by unfold jh0; rw [if_neg (by rw [h]; simp)]
theorem ja3 {w : World} {b : Nat} {x0 x1 v0 v1 : Value} (h0 : w.cell? (ad b 0) = some x0) (h1 : w.cell? (ad b 1) = some x1) :
  ((w.setCell (ad b 0) v0).setCell (ad b 1) v1).cell? (ad b 0) = some v0 /\ ((w.setCell (ad b 0) v0).setCell (ad b 1) v1).cell? (ad b 1) = some v1 := by
 refine ⟨?_, ?_⟩
 ·rw [wco _ _ _ _ (by simp), wcs _ _ _ h0]
 ·refine wcs _ _ _ (u := x1) ?_
  rw [wco _ _ _ _ (by simp)]; exact h1
theorem jdv (m : Int) (w : World) :
  Cl 256 #[iv m] w fun e w' => e = .returned (outV (jh0 m)) /\ Bw w w' := by
 have ag := fun o => qal w o
 have hM := fun w => jg1 m w
 cases h : isB m (-62135596800) 253402300799
 ·rw [jpn h]
  rw [h] at hM
  clear h
  go_enter Tryz.func256, Tryz.ntmps256
  go_wp2_with (go_at_call 135; refine (hM _).mono ?_; rintro e w' ⟨rfl, rfl⟩)
  exact bpr (v := outV (0, 4)) (by simp [results, Tryz.results256, go_sem, outV]) rfl ⟨rfl, ag _⟩
 ·rw [jpm h]
  rw [h] at hM
  clear h
  go_enter Tryz.func256, Tryz.ntmps256
  go_wp2_with (go_at_call 135; refine (hM _).mono ?_; rintro e w' ⟨rfl, rfl⟩)
  exact bpr (v := outV (m, 0)) (by simp [results, Tryz.results256, go_sem, outV]) rfl ⟨rfl, ag _⟩
end
end Go.Proofs.YtgiieknbckhofaaGreatDoor
