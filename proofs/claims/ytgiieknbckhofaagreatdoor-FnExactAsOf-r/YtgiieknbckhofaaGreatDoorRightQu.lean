/- Packed. -/
import Derived.Test.YtgiieknbckhofaaGreatDoorRightAu
set_option maxHeartbeats 20000000
set_option linter.unusedSimpArgs false
namespace Go.Proofs.YtgiieknbckhofaaGreatDoor
section
open Go.RowKit
def erB (e : EraD) : Bool := if e.rules.toList.isEmpty = true then isB e.save (-7200) 7200 else jay e.rules && decide (e.save = 0)
theorem jft (e : EraD) (w : World) (ok : e.ok) :
  Cl 200 #[e.v] w fun x w' => x = .returned (.bool (erB e)) /\ Bw w w' := by
 obtain ⟨offset, rules, save, format, until_, of⟩ := e
 obtain ⟨k1, k2, k3⟩ := ok
 simp only [EraD.v, erB] at *
 have h1 := fun w => jey save w
 have h2 := fun w => ja6 rules w k1
 generalize isB save (-7200) 7200 = b1 at *
 generalize jay rules = b2 at *
 cases he : rules.toList.isEmpty
 ·simp only [Bool.false_eq_true, if_false]
  go_enter Tryz.func200, Tryz.ntmps200
  go_wp2_with fail
  refine (h2 _).mono ?_
  rintro e w1 ⟨rfl, rfl⟩
  cases b2
  ·go_wp2
   go_ret
   exact ⟨ret_bool (by simp), qal _ _⟩
  ·go_wp2
   go_ret
   exact ⟨ret_bool (by simp; rfl), qal _ _⟩
 ·simp only [if_true]
  go_enter Tryz.func200, Tryz.ntmps200
  go_wp2_with fail
  refine (h1 _).mono ?_
  rintro e w1 ⟨rfl, rfl⟩
  go_wp2
  go_ret
  exact ⟨rfl, qal _ _⟩
def eraP (e : EraD) : Bool := decide (-86400 <= e.offset) && (decide (e.offset <= 86400) && (erB e && (fmtB e.format && (decide (-62135596800 <= e.until_) && (decide (e.until_ <= 253402300799) && ofB e.of)))))
theorem jg2 (n : Int) (w : World) :
  Cl 135 #[iv n] w fun e w' => e = .returned (.bool (isB n (-62135596800) 253402300799)) /\ w' = w := by
 by_cases h : -62135596800 <= n
 ·go_enter Tryz.func135, Tryz.ntmps135
  go_wp2
  go_ret
  exact ⟨ret_bool (by unfold isB; simp [h]), rfl⟩
 ·go_enter Tryz.func135, Tryz.ntmps135
  go_wp2
  go_ret
  exact ⟨ret_bool (jka (by omega)).symm, rfl⟩
theorem jmd (e : EraD) (w : World) (ok : e.ok) :
  Cl 163 #[e.v] w fun x w' => x = .returned (.bool (eraP e)) /\ Bw w w' := by
 have h1 := fun w => jft e w ok
 unfold eraP
 generalize erB e = b1 at *
 obtain ⟨offset, rules, save, format, until_, of⟩ := e
 obtain ⟨k1, k2, k3⟩ := ok
 simp only [EraD.v] at *
 have h2 := fun w => jhk format w k2
 have h3 := fun w => jg0 of w
 have h4 := fun w => jg2 until_ w
 generalize fmtB format = b2 at *
 generalize ofB of = b3 at *
 have ag := fun o => qal w o
 go_enter Tryz.func163, Tryz.ntmps163
 by_cases g1 : -86400 <= offset
 case neg =>
  go_wp2
  go_ret
  exact ⟨ret_bool (by simp; intros; omega), ag _⟩
 by_cases g2 : offset <= 86400
 case neg =>
  go_wp2
  go_ret
  exact ⟨ret_bool (by simp; intros; omega), ag _⟩
 go_wp2_with fail
 refine (h1 _).mono ?_
 rintro e w1 ⟨rfl, hb1⟩
 obtain ⟨hc, _⟩ := jaf hb1
 have hlt : w.heap.size < w1.heap.size := by have := hb1.size; simp at this; omega
 have aj := (ag _).trans (hb1.mono (by simp))
 cases b1
 case false =>
  go_wp2
  go_ret
  exact ⟨ret_bool (by simp), aj⟩
 go_wp2_with fail
 refine (h2 _).mono ?_
 rintro e w9 ⟨rfl, rfl⟩
 cases b2
 case false =>
  go_wp2
  go_ret
  exact ⟨ret_bool (by simp), aj⟩
 by_cases xF : -62135596800 <= until_ /\ until_ <= 253402300799
 case neg =>
  rw [jka xF] at h4
  go_wp2_with fail
  refine (h4 _).mono ?_
  rintro e w8 ⟨rfl, rfl⟩
  go_wp2
  go_ret
  exact ⟨ret_bool (by simp; intros; omega), aj⟩
 rw [jma xF.1 xF.2] at h4
 obtain ⟨g3, g4⟩ := xF
 go_wp2_with fail
 refine (h4 _).mono ?_
 rintro e w8 ⟨rfl, rfl⟩
 go_wp2_with fail
 refine (h3 _).mono ?_
 rintro e w9 ⟨rfl, rfl⟩
 go_wp2
 go_ret
 exact ⟨ret_bool (by simp [*]), aj⟩
def jep (l : LinkD) : Bool := jay l.to_ && jay l.name
theorem jkg (l : LinkD) (w : World) (ok : l.ok) :
  Cl 130 #[l.v] w fun x w' => x = .returned (.bool (jep l)) /\ Bw w w' := by
 obtain ⟨to_, name⟩ := l
 obtain ⟨k1, k2⟩ := ok
 simp only [LinkD.v, jep] at *
 have h1 := fun w => ja6 to_ w k1
 have h2 := fun w => ja6 name w k2
 generalize jay to_ = b1 at *
 generalize jay name = b2 at *
 go_enter Tryz.func130, Tryz.ntmps130
 go_wp2_with fail
 refine (h1 _).mono ?_
 rintro e w1 ⟨rfl, rfl⟩
 cases b1
 case false =>
  go_wp2
  go_ret
  exact ⟨ret_bool (by simp), qal _ _⟩
 go_wp2_with fail
 refine (h2 _).mono ?_
 rintro e w1 ⟨rfl, rfl⟩
 go_wp2
 go_ret
 exact ⟨ret_bool (by simp), qal _ _⟩
end
section
open Go.RowKit
theorem jg5 {α : Type} {l : List α} {p : α -> Bool} {k : Nat} {x : α} (hk : l[k]? = some x) (h : p x = false) : l.all p = false := by
 rw [List.all_eq_false]
 exact ⟨x, lmg hk, by simp [h]⟩
theorem jeb {α : Type} {l : List α} {p : α -> Bool} (h : ∀ j, j < l.length -> ∀ x, l[j]? = some x -> p x = true) : l.all p = true := by
 rw [List.all_eq_true]
 intro x hx
 obtain ⟨j, hj⟩ := lgo hx
 exact h j (lgs hj).1 x hj
theorem jot (l : List RuleD) (a : Option Addr) (cap : Nat) (w : World) (hE : Zy w) (hA : Za w a 9 (l.map RuleD.cs)) (de : ∀ r ∈ l, r.ok) (hz : ∀ r ∈ l, r.on.size <= 1048576) (hl : l.length <= 1048576) :
  Cl 125 #[.slice a l.length cap, .func (.func 126) #[] #[]] w fun e w' => e = .returned (.bool (l.all jav)) /\ Bw w w' := by
 go_enter Tryz.func125, Tryz.ntmps125
 go_wp2
 go_loopw [9] (fun i wr => ∃ k : Nat, k <= l.length /\ i = iv k /\ Hid (∀ j, j < k -> ∀ x, l[j]? = some x -> jav x = true) /\ Bw w wr) (fun i _ => l.length - (intOf i).toNat)
 case atStart => exact ⟨0, by omega, rfl, fun j hj => by omega, brf _ _⟩
 case round =>
  obtain ⟨k, hk, rfl, ak, hB⟩ := hrel
  by_cases hlt : k < l.length
  ·obtain ⟨r, hr⟩ := qgg hlt
   have ap : (l.map RuleD.cs)[k]? = some r.cs := by rw [lgm, hr]; rfl
   obtain ⟨b, o, rfl, hc⟩ := (hA.below hB).at (i := k) ap
   have ok := de r (lmg hr)
   have hS := fun w (h : Zy w) => jke r w h ok (hz r (lmg hr))
   have jN := hE.of_below hB
   have c0 : wr.cell? (ad b (o + k * 9)) = some (.string r.name) := hc 0 _ rfl
   have c1 := hc 1 _ rfl
   have c2 := hc 2 _ rfl
   have c3 := hc 3 _ rfl
   have c4 := hc 4 _ rfl
   have c5 := hc 5 _ rfl
   have c6 := hc 6 _ rfl
   have c7 := hc 7 _ rfl
   have c8 := hc 8 _ rfl
   clear hc
   unfold RuleD.v at hS
   cases hb : jav r
   ·have HR : Hid (l.all jav = false) := jg5 hr hb
    rw [hb] at hS
    clear hb
    go_wp2_with fail
    refine (hS _ (jN.alloc _)).mono ?_
    rintro e w2 ⟨rfl, ac⟩
    go_wp2
    go_ret
    exact ⟨ret_bool HR.out.symm, (hB.alloc hB.size _).trans (ac.mono (by simp; have := hB.size; omega))⟩
   ·have HR : Hid (∀ j, j < k + 1 -> ∀ x, l[j]? = some x -> jav x = true) := fun j hj x hx => by
     by_cases e : j = k
     ·subst e; rw [hr] at hx; obtain rfl := osi hx; exact hb
     ·exact ak.out j (by omega) x hx
    rw [hb] at hS
    clear hb
    go_wp2_with fail
    refine (hS _ (jN.alloc _)).mono ?_
    rintro e w2 ⟨rfl, ac⟩
    go_wp2
    go_roundw
    case rel => exact ⟨k + 1, by omega, by go_num, HR, (hB.alloc hB.size _).trans (ac.mono (by simp; have := hB.size; omega))⟩
    case measure => simp [intOf]; omega
  ·have e : k = l.length := by omega
   subst e
   have HR : Hid (l.all jav = true) := jeb ak.out
   go_wp2
   go_ret
   exact ⟨ret_bool HR.out.symm, hB⟩
theorem jqx (l : List EraD) (a : Option Addr) (cap : Nat) (w : World) (hA : Za w a 6 (l.map EraD.cs)) (de : ∀ r ∈ l, r.ok) (hl : l.length <= 1048576) :
  Cl 162 #[.slice a l.length cap, .func (.func 163) #[] #[]] w fun e w' => e = .returned (.bool (l.all eraP)) /\ Bw w w' := by
 go_enter Tryz.func162, Tryz.ntmps162
 go_wp2
 go_loopw [9] (fun i wr => ∃ k : Nat, k <= l.length /\ i = iv k /\ Hid (∀ j, j < k -> ∀ x, l[j]? = some x -> eraP x = true) /\ Bw w wr) (fun i _ => l.length - (intOf i).toNat)
 case atStart => exact ⟨0, by omega, rfl, fun j hj => by omega, brf _ _⟩
 case round =>
  obtain ⟨k, hk, rfl, ak, hB⟩ := hrel
  by_cases hlt : k < l.length
  ·obtain ⟨r, hr⟩ := qgg hlt
   have ap : (l.map EraD.cs)[k]? = some r.cs := by rw [lgm, hr]; rfl
   obtain ⟨b, o, rfl, hc⟩ := (hA.below hB).at (i := k) ap
   have ok := de r (lmg hr)
   have hS := fun w => jmd r w ok
   have c0 : wr.cell? (ad b (o + k * 6)) = some (iv r.offset) := hc 0 _ rfl
   have c1 := hc 1 _ rfl
   have c2 := hc 2 _ rfl
   have c3 := hc 3 _ rfl
   have c4 := hc 4 _ rfl
   have c5 := hc 5 _ rfl
   clear hc
   unfold EraD.v at hS
   cases hb : eraP r
   ·have HR : Hid (l.all eraP = false) := jg5 hr hb
    rw [hb] at hS
    clear hb
    go_wp2_with fail
    refine (hS _).mono ?_
    rintro e w2 ⟨rfl, ac⟩
    go_wp2
    go_ret
    exact ⟨ret_bool HR.out.symm, (hB.alloc hB.size _).trans (ac.mono (by simp; have := hB.size; omega))⟩
   ·have HR : Hid (∀ j, j < k + 1 -> ∀ x, l[j]? = some x -> eraP x = true) := fun j hj x hx => by
     by_cases e : j = k
     ·subst e; rw [hr] at hx; obtain rfl := osi hx; exact hb
     ·exact ak.out j (by omega) x hx
    rw [hb] at hS
    clear hb
    go_wp2_with fail
    refine (hS _).mono ?_
    rintro e w2 ⟨rfl, ac⟩
    go_wp2
    go_roundw
    case rel => exact ⟨k + 1, by omega, by go_num, HR, (hB.alloc hB.size _).trans (ac.mono (by simp; have := hB.size; omega))⟩
    case measure => simp [intOf]; omega
  ·have e : k = l.length := by omega
   subst e
   have HR : Hid (l.all eraP = true) := jeb ak.out
   go_wp2
   go_ret
   exact ⟨ret_bool HR.out.symm, hB⟩
theorem jou (l : List LinkD) (a : Option Addr) (cap : Nat) (w : World) (hA : Za w a 2 (l.map LinkD.cs)) (de : ∀ r ∈ l, r.ok) (hl : l.length <= 1048576) :
  Cl 129 #[.slice a l.length cap, .func (.func 130) #[] #[]] w fun e w' => e = .returned (.bool (l.all jep)) /\ Bw w w' := by
 go_enter Tryz.func129, Tryz.ntmps129
 go_wp2
 go_loopw [9] (fun i wr => ∃ k : Nat, k <= l.length /\ i = iv k /\ Hid (∀ j, j < k -> ∀ x, l[j]? = some x -> jep x = true) /\ Bw w wr) (fun i _ => l.length - (intOf i).toNat)
 case atStart => exact ⟨0, by omega, rfl, fun j hj => by omega, brf _ _⟩
 case round =>
  obtain ⟨k, hk, rfl, ak, hB⟩ := hrel
  by_cases hlt : k < l.length
  ·obtain ⟨r, hr⟩ := qgg hlt
   have ap : (l.map LinkD.cs)[k]? = some r.cs := by rw [lgm, hr]; rfl
   obtain ⟨b, o, rfl, hc⟩ := (hA.below hB).at (i := k) ap
   have ok := de r (lmg hr)
   have hS := fun w => jkg r w ok
   have c0 : wr.cell? (ad b (o + k * 2)) = some (.string r.to_) := hc 0 _ rfl
   have c1 := hc 1 _ rfl
   clear hc
   unfold LinkD.v at hS
   cases hb : jep r
   ·have HR : Hid (l.all jep = false) := jg5 hr hb
    rw [hb] at hS
    clear hb
    go_wp2_with fail
    refine (hS _).mono ?_
    rintro e w2 ⟨rfl, ac⟩
    go_wp2
    go_ret
    exact ⟨ret_bool HR.out.symm, (hB.alloc hB.size _).trans (ac.mono (by simp; have := hB.size; omega))⟩
   ·have HR : Hid (∀ j, j < k + 1 -> ∀ x, l[j]? = some x -> jep x = true) := fun j hj x hx => by
     by_cases e : j = k
     ·subst e; rw [hr] at hx; obtain rfl := osi hx; exact hb
     ·exact ak.out j (by omega) x hx
    rw [hb] at hS
    clear hb
    go_wp2_with fail
    refine (hS _).mono ?_
    rintro e w2 ⟨rfl, ac⟩
    go_wp2
    go_roundw
    case rel => exact ⟨k + 1, by omega, by go_num, HR, (hB.alloc hB.size _).trans (ac.mono (by simp; have := hB.size; omega))⟩
    case measure => simp [intOf]; omega
  ·have e : k = l.length := by omega
   subst e
   have HR : Hid (l.all jep = true) := jeb ak.out
   go_wp2
   go_ret
   exact ⟨ret_bool HR.out.symm, hB⟩
end
section
open Go.RowKit
def upB : List EraD -> Bool
 | [] => true
 | [_] => true
 | x :: y :: l => decide (x.until_ < y.until_) && upB (y :: l)
theorem j25 {es : List EraD} : ∀ {i : Nat} {x y : EraD}, es[i]? = some x -> es[i + 1]? = some y -> ¬ x.until_ < y.until_ -> upB es = false := by
 induction es with
 | nil => intro i x y h; simp at h
 | cons a l ih =>
  intro i x y hx hy hn
  match l, i with
  | [], _ => simp at hy
  | b :: l, 0 =>
   simp at hx hy
   subst hx hy
   simp [upB, hn]
  | b :: l, i + 1 =>
   have := ih (i := i) (x := x) (y := y) (by simpa using hx) (by simpa using hy) hn
   simp only [upB, this, Bool.and_false]
theorem j0y {es : List EraD} (h : ∀ i x y, es[i]? = some x -> es[i + 1]? = some y -> x.until_ < y.until_) : upB es = true := by
 induction es with
 | nil => rfl
 | cons a l ih =>
  match l with
  | [] => rfl
  | b :: l =>
   have h0 := h 0 a b rfl rfl
   have := ih fun i x y hx hy => h (i + 1) x y (by simpa using hx) (by simpa using hy)
   simp only [upB, this, dte h0, Bool.and_true]
def laB2 (es : List EraD) : Bool := match es[es.length - 1]? with
 | some e => (e.until_ == 253402300799) && (e.of.toList == [119])
 | none => false
def jbi (z : ZoneD) : Bool := jay z.name && (decide (1 <= z.eras.length /\ z.eras.length <= 8) && (z.eras.all eraP && (upB z.eras && laB2 z.eras)))
theorem jya {z : ZoneD} (h : jay z.name = false) : jbi z = false := by unfold jbi; rw [h]; rfl
theorem jrb {z : ZoneD} (h : ¬ (1 <= z.eras.length /\ z.eras.length <= 8)) : jbi z = false := by unfold jbi; rw [dfe h]; simp
theorem jx9 {z : ZoneD} (h : z.eras.all eraP = false) : jbi z = false := by unfold jbi; rw [h]; simp
theorem jx8 {z : ZoneD} (h : upB z.eras = false) : jbi z = false := by unfold jbi; rw [h]; simp
theorem jx5 {z : ZoneD} (h1 : jay z.name = true) (h2 : 1 <= z.eras.length /\ z.eras.length <= 8) (h3 : z.eras.all eraP = true) (h4 : upB z.eras = true) : jbi z = laB2 z.eras := by unfold jbi; rw [h1, dte h2, h3, h4]; simp
theorem jkb (z : ZoneD) (v : Value) (w : World) (hv : Jg w v z.eras) (hm : z.ok) :
  Cl 128 #[.agg #[.string z.name, v]] w fun e w' => e = .returned (.bool (jbi z)) /\ Bw w w' := by
 obtain ⟨a, cap, rfl, hA⟩ := hv
 obtain ⟨m1, m2, m3⟩ := hm
 have h1 := fun w => ja6 z.name w m1
 have ag := fun o => qal w o
 unfold maxLen at m2
 cases hn : jay z.name
 ·rw [jya hn]
  rw [hn] at h1
  generalize z.name = nm at *
  clear hn
  go_enter Tryz.func128, Tryz.ntmps128
  go_wp2_with (go_at_call 134; refine (h1 _).mono ?_; rintro e w' ⟨rfl, rfl⟩)
  go_ret
  exact ⟨rfl, ag _⟩
 rw [hn] at h1
 by_cases hl0 : z.eras.length < 1
 ·rw [jrb (by omega)]
  go_enter Tryz.func128, Tryz.ntmps128
  go_wp2_with (go_at_call 134; refine (h1 _).mono ?_; rintro e w' ⟨rfl, rfl⟩)
  go_ret
  exact ⟨rfl, ag _⟩
 by_cases GB : 8 < z.eras.length
 ·rw [jrb (by omega)]
  go_enter Tryz.func128, Tryz.ntmps128
  go_wp2_with (go_at_call 134; refine (h1 _).mono ?_; rintro e w' ⟨rfl, rfl⟩)
  go_ret
  exact ⟨rfl, ag _⟩
 have h2 := fun w (h : Za w a 6 (z.eras.map EraD.cs)) => jqx z.eras a cap w h m3 (by omega)
 cases ha : z.eras.all eraP
 ·rw [jx9 ha]
  rw [ha] at h2
  clear ha
  go_enter Tryz.func128, Tryz.ntmps128
  go_wp2_with fail
  refine (h1 _).mono ?_
  rintro e w1 ⟨rfl, rfl⟩
  go_wp2_with fail
  refine (h2 _ (hA.below (ag _))).mono ?_
  rintro e w1 ⟨rfl, hb1⟩
  go_wp2
  go_ret
  exact ⟨rfl, (ag _).trans (hb1.mono (by simp))⟩
 rw [ha] at h2
 have HZ : Hid (upB z.eras = true -> jbi z = laB2 z.eras) := fun h => jx5 hn (by omega) ha h
 have HN : Hid (upB z.eras = false -> jbi z = false) := fun h => jx8 h
 clear hn ha
 generalize jbi z = zb at *
 go_enter Tryz.func128, Tryz.ntmps128
 go_wp2_with fail
 refine (h1 _).mono ?_
 rintro e w1 ⟨rfl, rfl⟩
 go_wp2_with fail
 refine (h2 _ (hA.below (ag _))).mono ?_
 rintro e w1 ⟨rfl, hb1⟩
 obtain ⟨hc, _⟩ := jaf hb1
 have aj := (ag _).trans (hb1.mono (by simp))
 have x1 : w1.cell? (ad w.heap.size 1) = some (.slice a z.eras.length cap) := (hc _ _ (by simp)).trans (by simp [go_sem])
 have eN := hA.below aj
 clear hc hb1 h1 h2
 obtain ⟨n, au⟩ : ∃ n, z.eras.length = n + 1 := ⟨z.eras.length - 1, by omega⟩
 go_wp2
 go_loopw [28] (fun i wr => ∃ k : Nat, k <= n /\ i = iv k /\ Hid (∀ j, j < k -> ∀ x y, z.eras[j]? = some x -> z.eras[j + 1]? = some y -> x.until_ < y.until_) /\ Bw w1 wr) (fun i _ => n - (intOf i).toNat)
 case atStart => exact ⟨0, by omega, rfl, fun j hj => by omega, brf _ _⟩
 case round =>
  obtain ⟨k, hk, rfl, ak, hB⟩ := hrel
  have y1 : wr.cell? (ad w.heap.size 1) = some (.slice a z.eras.length cap) := by rw [(jaf hB).1 _ _ (qbl x1)]; exact x1
  have dS := qtr aj hB
  by_cases hlt : k < n
  ·obtain ⟨r, hr⟩ : ∃ r, z.eras[k]? = some r := ⟨_, lgg (by omega)⟩
   obtain ⟨r2, dA⟩ : ∃ r, z.eras[k + 1]? = some r := ⟨_, lgg (by omega)⟩
   obtain ⟨b, o, rfl, hc⟩ := (eN.below hB).at (i := k) (r := r.cs) (by rw [lgm, hr]; rfl)
   obtain ⟨b', o', he, hd⟩ := (eN.below hB).at (i := k + 1) (r := r2.cs) (by rw [lgm, dA]; rfl)
   injection he with he
   injection he with e1 e2
   subst e1 e2
   have c4 := hc 4 _ rfl
   have d4 := hd 4 _ rfl
   clear hc hd
   by_cases hu : r.until_ < r2.until_
   ·have HR : Hid (∀ j, j < k + 1 -> ∀ x y, z.eras[j]? = some x -> z.eras[j + 1]? = some y -> x.until_ < y.until_) := fun j hj x y hx hy => by
     by_cases e : j = k
     ·subst e; rw [hr] at hx; rw [dA] at hy; obtain rfl := osi hx; obtain rfl := osi hy; exact hu
     ·exact ak.out j (by omega) x y hx hy
    go_wp2_with fail
    go_quiet (fail)
    go_wp2
    go_roundw
    case rel => exact ⟨k + 1, by omega, by go_num, HR, below_drewN hB _⟩
    case measure => simp [intOf]; omega
   ·have HR : Hid (zb = false) := HN.out (j25 hr dA hu)
    go_wp2_with fail
    go_quiet (fail)
    go_wp2
    go_ret
    exact ⟨ret_bool HR.out.symm, below_drewN dS _⟩
  ·have e : k = n := by omega
   subst e
   obtain ⟨r, hr⟩ : ∃ r, z.eras[k]? = some r := ⟨_, lgg (by omega)⟩
   obtain ⟨b, o, rfl, hc⟩ := (eN.below hB).at (i := k) (r := r.cs) (by rw [lgm, hr]; rfl)
   have c4 := hc 4 _ rfl
   have c5 := hc 5 _ rfl
   clear hc
   have HR : Hid (zb = ((r.until_ == 253402300799) && (r.of.toList == [119]))) := by
    simp only [Hid]
    rw [HZ.out (j0y fun i x y hx hy => ak.out i (by have := (lgs hy).1; omega) x y hx hy)]
    unfold laB2
    rw [show z.eras.length - 1 = k by omega, hr]
   cases g : (r.until_ == 253402300799)
   ·rw [g] at HR
    go_wp2
    go_ret
    exact ⟨ret_bool HR.out.symm, dS⟩
   ·rw [g] at HR
    go_wp2
    go_ret
    exact ⟨ret_bool (by rw [HR.out]; simp), dS⟩
end
section
open Go.RowKit
theorem jmu {α : Type} {l : List α} {p : α -> Bool} {k : Nat} {x : α} (hk : l[k]? = some x) (h : p x = true) : l.any p = true := by
 rw [List.any_eq_true]
 exact ⟨x, lmg hk, h⟩
theorem jsp {α : Type} {l : List α} {p : α -> Bool} (h : ∀ j, j < l.length -> ∀ x, l[j]? = some x -> p x = false) : l.any p = false := by
 rw [List.any_eq_false]
 intro x hx
 obtain ⟨j, hj⟩ := lgo hx
 simp [h j (lgs hj).1 x hj]
def hasB (rs : List RuleD) (s : ByteArray) : Bool := rs.any fun x => x.name.toList == s.toList
theorem jlr (r : RelD) (v : Value) (s : ByteArray) (w : World) (hv : Zd w v r) (hl : r.rules.length <= 1048576) :
  Cl 152 #[v, .string s] w fun e w' => e = .returned (.bool (hasB r.rules s)) /\ Bw w w' := by
 obtain ⟨a, b, c, ca, cb, cc, rfl, hA, _, _⟩ := hv.form
 generalize r.rules = l at *
 generalize r.zones.length = zn at *
 generalize r.links.length = ln at *
 clear hv
 have hB := qal w (.cells #[.slice a l.length ca, .slice b zn cb, .slice c ln cc] 38)
 have eN := hA.below hB
 unfold hasB
 go_enter Tryz.func152, Tryz.ntmps152
 go_wp2
 go_loop [5] (fun i => ∃ k : Nat, k <= l.length /\ i = iv k /\ Hid (∀ j, j < k -> ∀ x, l[j]? = some x -> (x.name.toList == s.toList) = false)) (fun i => l.length - (intOf i).toNat)
 case atStart => exact ⟨0, by omega, rfl, fun j hj => by omega⟩
 case round =>
  obtain ⟨k, hk, rfl, ak⟩ := hrel
  by_cases hlt : k < l.length
  ·obtain ⟨x, hx⟩ := qgg hlt
   obtain ⟨b', o, rfl, hc⟩ := eN.at (i := k) (r := x.cs) (by rw [lgm, hx]; rfl)
   have c0 : (w.alloc (.cells #[.slice (some (ad b' o)) l.length ca, .slice b zn cb, .slice c ln cc] 38)).cell? (ad b' (o + k * 9)) = some (.string x.name) := hc 0 _ rfl
   clear hc
   cases hb : (x.name.toList == s.toList)
   ·have HR : Hid (∀ j, j < k + 1 -> ∀ x, l[j]? = some x -> (x.name.toList == s.toList) = false) := fun j hj y hy => by
     by_cases e : j = k
     ·subst e; rw [hx] at hy; obtain rfl := osi hy; exact hb
     ·exact ak.out j (by omega) y hy
    generalize x.name = nm at *
    go_wp2
    go_round
    case rel => exact ⟨k + 1, by omega, by go_num, HR⟩
    case measure => simp [intOf]; omega
   ·have HR : Hid ((l.any fun x => x.name.toList == s.toList) = true) := jmu hx hb
    generalize x.name = nm at *
    go_wp2
    go_ret
    exact ⟨ret_bool HR.out.symm, hB⟩
  ·have e : k = l.length := by omega
   subst e
   have HR : Hid ((l.any fun x => x.name.toList == s.toList) = false) := jsp ak.out
   go_wp2
   go_ret
   exact ⟨ret_bool HR.out.symm, hB⟩
end
section
open Go.RowKit
theorem jor (l : List ZoneD) (a : Option Addr) (cap : Nat) (w : World) (hA : Zo w a l) (de : ∀ r ∈ l, r.ok) (hl : l.length <= 1048576) :
  Cl 127 #[.slice a l.length cap, .func (.func 128) #[] #[]] w fun e w' => e = .returned (.bool (l.all jbi)) /\ Bw w w' := by
 go_enter Tryz.func127, Tryz.ntmps127
 go_wp2
 go_loopw [9] (fun i wr => ∃ k : Nat, k <= l.length /\ i = iv k /\ Hid (∀ j, j < k -> ∀ x, l[j]? = some x -> jbi x = true) /\ Bw w wr) (fun i _ => l.length - (intOf i).toNat)
 case atStart => exact ⟨0, by omega, rfl, fun j hj => by omega, brf _ _⟩
 case round =>
  obtain ⟨k, hk, rfl, ak, hB⟩ := hrel
  by_cases hlt : k < l.length
  ·obtain ⟨r, hr⟩ := qgg hlt
   obtain ⟨b, o, rfl, c0, v, c1, hv⟩ := (hA.below hB).at hr
   have ok := de r (lmg hr)
   have hS := fun o => jkb r v (wr.alloc o) (hv.below (qal _ o)) ok
   obtain ⟨ae, ce, rfl, _⟩ := hv
   generalize r.eras.length = en at *
   cases hb : jbi r
   ·have HR : Hid (l.all jbi = false) := jg5 hr hb
    rw [hb] at hS
    clear hb
    go_wp2_with fail
    refine (hS _).mono ?_
    rintro e w2 ⟨rfl, ac⟩
    go_wp2
    go_ret
    exact ⟨ret_bool HR.out.symm, (hB.alloc hB.size _).trans (ac.mono (by simp; have := hB.size; omega))⟩
   ·have HR : Hid (∀ j, j < k + 1 -> ∀ x, l[j]? = some x -> jbi x = true) := fun j hj x hx => by
     by_cases e : j = k
     ·subst e; rw [hr] at hx; obtain rfl := osi hx; exact hb
     ·exact ak.out j (by omega) x hx
    rw [hb] at hS
    clear hb
    go_wp2_with fail
    refine (hS _).mono ?_
    rintro e w2 ⟨rfl, ac⟩
    go_wp2
    go_roundw
    case rel => exact ⟨k + 1, by omega, by go_num, HR, (hB.alloc hB.size _).trans (ac.mono (by simp; have := hB.size; omega))⟩
    case measure => simp [intOf]; omega
  ·have e : k = l.length := by omega
   subst e
   have HR : Hid (l.all jbi = true) := jeb ak.out
   go_wp2
   go_ret
   exact ⟨ret_bool HR.out.symm, hB⟩
def eraM (rs : List RuleD) (e : EraD) : Bool := (e.rules.toList.isEmpty || (decide (e.save = 0) && hasB rs e.rules)) && (isB e.offset (-86400) 86400 && (isB e.save (-7200) 7200 && (fmtB e.format && (isB e.until_ (-62135596800) 253402300799 && ofB e.of))))
theorem jls (n : Int) (w : World) :
  Cl 121 #[iv n] w fun e w' => e = .returned (.bool (isB n (-62135596800) 253402300799)) /\ w' = w := by
 go_enter Tryz.func121, Tryz.ntmps121
 go_wp2_with (go_at_call 41; refine (jau _ _ _ _).mono ?_; rintro e w' ⟨rfl, rfl⟩)
 go_ret
 exact ⟨rfl, rfl⟩
theorem jps (r : RelD) (v : Value) (e : EraD) (w : World) (hv : Zd w v r) (ok : e.ok) (hl : r.rules.length <= 1048576) :
  Cl 118 #[v, e.v] w fun x w' => x = .returned (.bool (eraM r.rules e)) /\ Bw w w' := by
 have ag := fun o o2 => (qal w o).alloc (by simp) o2
 have hR := fun s o o2 => jlr r v s ((w.alloc o).alloc o2) (hv.below (ag o o2)) hl
 obtain ⟨a, b, c, ca, cb, cc, rfl, _, _, _⟩ := hv.form
 generalize r.rules.length = rn at *
 generalize r.zones.length = zn at *
 generalize r.links.length = ln at *
 clear hv
 obtain ⟨offset, rules, save, format, until_, of⟩ := e
 obtain ⟨k1, k2, k3⟩ := ok
 simp only [EraD.v, eraM] at *
 have h1 := fun w => jau offset (-86400) 86400 w
 have h2 := fun w => jgo save w
 have h3 := fun w => jj1 format w k2
 have h4 := fun w => jls until_ w
 have h5 := fun w => jkv of w
 have cW := hR rules
 clear hR
 generalize hasB r.rules rules = q at *
 generalize isB offset (-86400) 86400 = b1 at *
 generalize isB save (-7200) 7200 = b2 at *
 generalize fmtB format = b3 at *
 generalize isB until_ (-62135596800) 253402300799 = b4 at *
 generalize ofB of = b5 at *
 cases he : rules.toList.isEmpty
 ·by_cases hs : save = 0
  ·subst hs
   cases q
   ·go_enter Tryz.func118, Tryz.ntmps118
    go_wp2_with fail
    refine (cW _ _).mono ?_
    rintro e w1 ⟨rfl, hb1⟩
    go_wp2
    go_ret
    exact ⟨ret_bool (by simp), (ag _ _).trans (hb1.mono (by simp; omega))⟩
   ·go_enter Tryz.func118, Tryz.ntmps118
    go_wp2_with fail
    refine (cW _ _).mono ?_
    rintro e w1 ⟨rfl, hb1⟩
    obtain ⟨hc, _⟩ := jaf hb1
    have hlt : w.heap.size + 1 < w1.heap.size := by have := hb1.size; simp at this; omega
    have aj := (ag _ _).trans (hb1.mono (by simp; omega))
    go_wp2_with fail
    refine (h1 _).mono ?_
    rintro e w9 ⟨rfl, rfl⟩
    cases b1
    case false =>
     go_wp2
     go_ret
     exact ⟨ret_bool (by simp), aj⟩
    go_wp2_with fail
    refine (h2 _).mono ?_
    rintro e w9 ⟨rfl, rfl⟩
    cases b2
    case false =>
     go_wp2
     go_ret
     exact ⟨ret_bool (by simp), aj⟩
    go_wp2_with fail
    refine (h3 _).mono ?_
    rintro e w9 ⟨rfl, rfl⟩
    cases b3
    case false =>
     go_wp2
     go_ret
     exact ⟨ret_bool (by simp), aj⟩
    go_wp2_with fail
    refine (h4 _).mono ?_
    rintro e w9 ⟨rfl, rfl⟩
    cases b4
    case false =>
     go_wp2
     go_ret
     exact ⟨ret_bool (by simp), aj⟩
    go_wp2_with fail
    refine (h5 _).mono ?_
    rintro e w9 ⟨rfl, rfl⟩
    go_wp2
    go_ret
    exact ⟨ret_bool (by simp), aj⟩
  ·have CD : (save != 0) = true := by simpa using hs
   go_enter Tryz.func118, Tryz.ntmps118
   go_wp2
   go_ret
   exact ⟨ret_bool (by simp [hs]), ag _ _⟩
 ·go_enter Tryz.func118, Tryz.ntmps118
  go_wp2_with fail
  refine (h1 _).mono ?_
  rintro e w9 ⟨rfl, rfl⟩
  cases b1
  case false =>
   go_wp2
   go_ret
   exact ⟨ret_bool (by simp), ag _ _⟩
  go_wp2_with fail
  refine (h2 _).mono ?_
  rintro e w9 ⟨rfl, rfl⟩
  cases b2
  case false =>
   go_wp2
   go_ret
   exact ⟨ret_bool (by simp), ag _ _⟩
  go_wp2_with fail
  refine (h3 _).mono ?_
  rintro e w9 ⟨rfl, rfl⟩
  cases b3
  case false =>
   go_wp2
   go_ret
   exact ⟨ret_bool (by simp), ag _ _⟩
  go_wp2_with fail
  refine (h4 _).mono ?_
  rintro e w9 ⟨rfl, rfl⟩
  cases b4
  case false =>
   go_wp2
   go_ret
   exact ⟨ret_bool (by simp), ag _ _⟩
  go_wp2_with fail
  refine (h5 _).mono ?_
  rintro e w9 ⟨rfl, rfl⟩
  go_wp2
  go_ret
  exact ⟨ret_bool (by simp), ag _ _⟩
end
section
open Go.RowKit
def Jm (w : World) (a : Option Addr) (ss : List ByteArray) : Prop :=
 ss = [] \/ ∃ b o, a = some (ad b o) /\ ∀ i s, ss[i]? = some s -> w.cell? (ad b (o + i)) = some (.string s)
theorem Jm.at {w : World} {a : Option Addr} {ss : List ByteArray} (h : Jm w a ss) {i : Nat} {s : ByteArray} (hi : ss[i]? = some s) : ∃ b o, a = some (ad b o) /\ w.cell? (ad b (o + i)) = some (.string s) := by
 rcases h with rfl | ⟨b, o, ha, hc⟩
 ·simp at hi
 ·exact ⟨b, o, ha, hc i s hi⟩
theorem Jm.below {w w' : World} {a : Option Addr} {ss : List ByteArray} (h : Jm w a ss) (hb : Bw w w') : Jm w' a ss := by
 rcases h with h | ⟨b, o, ha, hc⟩
 ·exact .inl h
 ·exact .inr ⟨b, o, ha, fun i s hi => by
   have := hc i s hi
   rw [(jaf hb).1 _ _ (qbl this)]; exact this⟩
theorem Jm.take {w : World} {a : Option Addr} {ss : List ByteArray} (h : Jm w a ss) (n : Nat) : Jm w a (ss.take n) := by
 rcases h with rfl | ⟨b, o, ha, hc⟩
 ·exact .inl (by simp)
 ·exact .inr ⟨b, o, ha, fun i s hi => hc i s (by rw [List.getElem?_take] at hi; split at hi <;> simp_all)⟩
def inB (ss : List ByteArray) (t : ByteArray) : Bool := ss.any fun s => s.toList == t.toList
theorem jkw (l : List ByteArray) (a : Option Addr) (cap : Nat) (t : ByteArray) (w : World) (hA : Jm w a l) (hl : l.length <= 1048576) :
  Cl 86 #[.slice a l.length cap, .string t] w fun e w' => e = .returned (.bool (inB l t)) /\ w' = w := by
 unfold inB
 go_enter Tryz.func86, Tryz.ntmps86
 go_wp2
 go_loop [5] (fun i => ∃ k : Nat, k <= l.length /\ i = iv k /\ Hid (∀ j, j < k -> ∀ x, l[j]? = some x -> (x.toList == t.toList) = false)) (fun i => l.length - (intOf i).toNat)
 case atStart => exact ⟨0, by omega, rfl, fun j hj => by omega⟩
 case round =>
  obtain ⟨k, hk, rfl, ak⟩ := hrel
  by_cases hlt : k < l.length
  ·obtain ⟨x, hx⟩ := qgg hlt
   obtain ⟨b, o, rfl, c0⟩ := hA.at hx
   cases hb : (x.toList == t.toList)
   ·have HR : Hid (∀ j, j < k + 1 -> ∀ x, l[j]? = some x -> (x.toList == t.toList) = false) := fun j hj y hy => by
     by_cases e : j = k
     ·subst e; rw [hx] at hy; obtain rfl := osi hy; exact hb
     ·exact ak.out j (by omega) y hy
    go_wp2
    go_round
    case rel => exact ⟨k + 1, by omega, by go_num, HR⟩
    case measure => simp [intOf]; omega
   ·have HR : Hid ((l.any fun x => x.toList == t.toList) = true) := jmu hx hb
    go_wp2
    go_ret
    exact ⟨ret_bool HR.out.symm, rfl⟩
  ·have e : k = l.length := by omega
   subst e
   have HR : Hid ((l.any fun x => x.toList == t.toList) = false) := jsp ak.out
   go_wp2
   go_ret
   exact ⟨ret_bool HR.out.symm, rfl⟩
end
section
open Go.RowKit
theorem jtx (r : RuleD) (p : Nat) (s : ByteArray) (w : World) (hp : w.cell? (ad p 1) = some (.string s)) :
  Cl 166 #[r.v, .pointer (some (ad p 0))] w fun e w' => e = .returned (.bool (r.name.toList == s.toList)) /\ Bw w w' := by
 have hlt := qbl hp
 have az : p ≠ w.heap.size := by simp at hlt; omega
 obtain ⟨name, lo, hi, month, on, at_, of, save, letter⟩ := r
 simp only [RuleD.v] at *
 go_enter Tryz.func166, Tryz.ntmps166
 go_wp2
 go_ret
 exact ⟨rfl, qal _ _⟩
theorem jki (l : List RuleD) (a : Option Addr) (cap p : Nat) (s : ByteArray) (w : World) (hA : Za w a 9 (l.map RuleD.cs)) (hl : l.length <= 1048576) (hp : w.cell? (ad p 1) = some (.string s)) :
  Cl 203 #[.slice a l.length cap, .func (.func 166) #[] #[.pointer (some (ad p 0))]] w fun e w' => (∃ n : Int, e = .returned (iv n) /\ decide (0 <= n) = hasB l s) /\ Bw w w' := by
 unfold hasB
 go_enter Tryz.func203, Tryz.ntmps203
 go_wp2
 go_loopw [8] (fun i wr => ∃ k : Nat, k <= l.length /\ i = iv k /\ Hid (∀ j, j < k -> ∀ x, l[j]? = some x -> (x.name.toList == s.toList) = false) /\ Bw w wr) (fun i _ => l.length - (intOf i).toNat)
 case atStart => exact ⟨0, by omega, rfl, fun j hj => by omega, brf _ _⟩
 case round =>
  obtain ⟨k, hk, rfl, ak, hB⟩ := hrel
  by_cases hlt : k < l.length
  ·obtain ⟨r, hr⟩ := qgg hlt
   obtain ⟨b, o, rfl, hc⟩ := (hA.below hB).at (i := k) (r := r.cs) (by rw [lgm, hr]; rfl)
   have c0 : wr.cell? (ad b (o + k * 9)) = some (.string r.name) := hc 0 _ rfl
   have c1 := hc 1 _ rfl
   have c2 := hc 2 _ rfl
   have c3 := hc 3 _ rfl
   have c4 := hc 4 _ rfl
   have c5 := hc 5 _ rfl
   have c6 := hc 6 _ rfl
   have c7 := hc 7 _ rfl
   have c8 := hc 8 _ rfl
   clear hc
   have hS := jtx r p s wr (by rw [(jaf hB).1 _ _ (qbl hp)]; exact hp)
   unfold RuleD.v at hS
   cases hb : (r.name.toList == s.toList)
   ·have HR : Hid (∀ j, j < k + 1 -> ∀ x, l[j]? = some x -> (x.name.toList == s.toList) = false) := fun j hj x hx => by
     by_cases e : j = k
     ·subst e; rw [hr] at hx; obtain rfl := osi hx; exact hb
     ·exact ak.out j (by omega) x hx
    rw [hb] at hS
    clear hb
    go_wp2_with fail
    refine hS.mono ?_
    rintro e w2 ⟨rfl, ac⟩
    go_wp2
    go_roundw
    case rel => exact ⟨k + 1, by omega, by go_num, HR, (qtr hB ac)⟩
    case measure => simp [intOf]; omega
   ·have HR : Hid ((l.any fun x => x.name.toList == s.toList) = true) := jmu hr hb
    rw [hb] at hS
    clear hb
    go_wp2_with fail
    refine hS.mono ?_
    rintro e w2 ⟨rfl, ac⟩
    go_wp2
    go_ret
    exact ⟨⟨_, rfl, by rw [HR.out]; simp⟩, (qtr hB ac)⟩
  ·have e : k = l.length := by omega
   subst e
   have HR : Hid ((l.any fun x => x.name.toList == s.toList) = false) := jsp ak.out
   go_wp2
   go_ret
   exact ⟨⟨_, rfl, by rw [HR.out]; rfl⟩, hB⟩
theorem jge (l : List RuleD) (a : Option Addr) (cap p : Nat) (s : ByteArray) (w : World) (hA : Za w a 9 (l.map RuleD.cs)) (hl : l.length <= 1048576) (hp : w.cell? (ad p 1) = some (.string s)) :
  Cl 167 #[.slice a l.length cap, .func (.func 166) #[] #[.pointer (some (ad p 0))]] w fun e w' => e = .returned (.bool (hasB l s)) /\ Bw w w' := by
 have hI := jki l a cap p s w hA hl hp
 generalize hasB l s = q at *
 go_enter Tryz.func167, Tryz.ntmps167
 go_wp2_with fail
 refine hI.mono ?_
 rintro e w1 ⟨⟨n, rfl, hn⟩, hb⟩
 go_wp2
 go_ret
 exact ⟨ret_bool (by simp), hb⟩
end
section
open Go.RowKit
def hasZ (l : List ZoneD) (s : ByteArray) : Bool := l.any fun x => x.name.toList == s.toList
theorem jqq (r : ZoneD) (v : Value) (p : Nat) (s : ByteArray) (w : World) (hp : w.cell? (ad p 0) = some (.string s)) :
  Cl 168 #[.agg #[.string r.name, v], .pointer (some (ad p 0))] w fun e w' => e = .returned (.bool (r.name.toList == s.toList)) /\ Bw w w' := by
 have hlt := qbl hp
 have az : p ≠ w.heap.size := by simp at hlt; omega
 go_enter Tryz.func168, Tryz.ntmps168
 go_wp2
 go_ret
 exact ⟨rfl, qal _ _⟩
theorem jkh (l : List ZoneD) (a : Option Addr) (cap p : Nat) (s : ByteArray) (w : World) (hA : Zo w a l) (hl : l.length <= 1048576) (hp : w.cell? (ad p 0) = some (.string s)) :
  Cl 204 #[.slice a l.length cap, .func (.func 168) #[] #[.pointer (some (ad p 0))]] w fun e w' => (∃ n : Int, e = .returned (iv n) /\ decide (0 <= n) = hasZ l s) /\ Bw w w' := by
 unfold hasZ
 go_enter Tryz.func204, Tryz.ntmps204
 go_wp2
 go_loopw [8] (fun i wr => ∃ k : Nat, k <= l.length /\ i = iv k /\ Hid (∀ j, j < k -> ∀ x, l[j]? = some x -> (x.name.toList == s.toList) = false) /\ Bw w wr) (fun i _ => l.length - (intOf i).toNat)
 case atStart => exact ⟨0, by omega, rfl, fun j hj => by omega, brf _ _⟩
 case round =>
  obtain ⟨k, hk, rfl, ak, hB⟩ := hrel
  by_cases hlt : k < l.length
  ·obtain ⟨r, hr⟩ := qgg hlt
   obtain ⟨b, o, rfl, c0, v, c1, hv⟩ := (hA.below hB).at hr
   have hS := jqq r v p s wr (by rw [(jaf hB).1 _ _ (qbl hp)]; exact hp)
   obtain ⟨ae, ce, rfl, _⟩ := hv
   generalize r.eras.length = en at *
   cases hb : (r.name.toList == s.toList)
   ·have HR : Hid (∀ j, j < k + 1 -> ∀ x, l[j]? = some x -> (x.name.toList == s.toList) = false) := fun j hj x hx => by
     by_cases e : j = k
     ·subst e; rw [hr] at hx; obtain rfl := osi hx; exact hb
     ·exact ak.out j (by omega) x hx
    rw [hb] at hS
    clear hb
    go_wp2_with fail
    refine hS.mono ?_
    rintro e w2 ⟨rfl, ac⟩
    go_wp2
    go_roundw
    case rel => exact ⟨k + 1, by omega, by go_num, HR, (qtr hB ac)⟩
    case measure => simp [intOf]; omega
   ·have HR : Hid ((l.any fun x => x.name.toList == s.toList) = true) := jmu hr hb
    rw [hb] at hS
    clear hb
    go_wp2_with fail
    refine hS.mono ?_
    rintro e w2 ⟨rfl, ac⟩
    go_wp2
    go_ret
    exact ⟨⟨_, rfl, by rw [HR.out]; simp⟩, (qtr hB ac)⟩
  ·have e : k = l.length := by omega
   subst e
   have HR : Hid ((l.any fun x => x.name.toList == s.toList) = false) := jsp ak.out
   go_wp2
   go_ret
   exact ⟨⟨_, rfl, by rw [HR.out]; rfl⟩, hB⟩
theorem jgd (l : List ZoneD) (a : Option Addr) (cap p : Nat) (s : ByteArray) (w : World) (hA : Zo w a l) (hl : l.length <= 1048576) (hp : w.cell? (ad p 0) = some (.string s)) :
  Cl 169 #[.slice a l.length cap, .func (.func 168) #[] #[.pointer (some (ad p 0))]] w fun e w' => e = .returned (.bool (hasZ l s)) /\ Bw w w' := by
 have hI := jkh l a cap p s w hA hl hp
 generalize hasZ l s = q at *
 go_enter Tryz.func169, Tryz.ntmps169
 go_wp2_with fail
 refine hI.mono ?_
 rintro e w1 ⟨⟨n, rfl, hn⟩, hb⟩
 go_wp2
 go_ret
 exact ⟨ret_bool (by simp), hb⟩
end
section
open Go.RowKit
theorem ji2 (r : RelD) (v : Value) (w : World) (hv : Zd w v r) (hz : r.zones.length <= 1048576) (hl : r.links.length <= 1048576) :
  Cl 133 #[v] w fun e w' => e = .returned (.bool (r.links.all fun x => hasZ r.zones x.to_)) /\ Bw w w' := by
 obtain ⟨a, b, c, ca, cb, cc, rfl, _, hZ, hA⟩ := hv.form
 clear hv
 generalize r.rules.length = rn at *
 generalize r.links = l at *
 generalize r.zones = zs at *
 have ag := qal w (.cells #[.slice a rn ca, .slice b zs.length cb, .slice c l.length cc] 38)
 have eN := hA.below ag
 have jp := hZ.below ag
 have ai : (w.alloc (.cells #[.slice a rn ca, .slice b zs.length cb, .slice c l.length cc] 38)).cell? (ad w.heap.size 1) = some (.slice b zs.length cb) := by simp
 go_enter Tryz.func133, Tryz.ntmps133
 go_wp2
 generalize hW : (w.alloc (.cells #[.slice a rn ca, .slice b zs.length cb, .slice c l.length cc] 38)) = W at *
 go_loopw [9] (fun i wr => ∃ k : Nat, k <= l.length /\ i = iv k /\ Hid (∀ j, j < k -> ∀ x, l[j]? = some x -> hasZ zs x.to_ = true) /\ Bw W wr) (fun i _ => l.length - (intOf i).toNat)
 case atStart => exact ⟨0, by omega, rfl, fun j hj => by omega, by subst hW; exact brf _ _⟩
 case round =>
  obtain ⟨k, hk, rfl, ak, hB⟩ := hrel
  have hT : Bw w wr := qtr ag hB
  have ho : wr.cell? (ad w.heap.size 1) = some (.slice b zs.length cb) := by rw [(jaf hB).1 _ _ (qbl ai)]; exact ai
  by_cases hlt : k < l.length
  ·obtain ⟨x, hx⟩ := qgg hlt
   obtain ⟨b', o, rfl, hc⟩ := (eN.below hB).at (i := k) (r := x.cs) (by rw [lgm, hx]; rfl)
   have c0 : wr.cell? (ad b' (o + k * 2)) = some (.string x.to_) := hc 0 _ rfl
   have c1 := hc 1 _ rfl
   clear hc
   have hl0 := qbl ho
   have ao : Bw W (wr.alloc (.cells #[.string x.to_, .string x.name] 148)) := hB.alloc hB.size _
   have hS := jgd zs b cb wr.heap.size x.to_ (wr.alloc (.cells #[.string x.to_, .string x.name] 148)) (jp.below ao) hz (by simp)
   cases hb : hasZ zs x.to_
   ·have HR : Hid ((l.all fun x => hasZ zs x.to_) = false) := jg5 hx hb
    rw [hb] at hS
    clear hb
    go_wp2_with fail
    refine hS.mono ?_
    rintro e w2 ⟨rfl, ac⟩
    go_wp2
    go_ret
    exact ⟨ret_bool HR.out.symm, ag.trans ((qtr ao ac).mono ag.size)⟩
   ·have HR : Hid (∀ j, j < k + 1 -> ∀ x, l[j]? = some x -> hasZ zs x.to_ = true) := fun j hj y hy => by
     by_cases e : j = k
     ·subst e; rw [hx] at hy; obtain rfl := osi hy; exact hb
     ·exact ak.out j (by omega) y hy
    rw [hb] at hS
    clear hb
    go_wp2_with fail
    refine hS.mono ?_
    rintro e w2 ⟨rfl, ac⟩
    go_wp2
    go_roundw
    case rel => exact ⟨k + 1, by omega, by go_num, HR, (qtr ao ac)⟩
    case measure => simp [intOf]; omega
  ·have e : k = l.length := by omega
   subst e
   have HR : Hid ((l.all fun x => hasZ zs x.to_) = true) := jeb ak.out
   go_wp2
   go_ret
   exact ⟨ret_bool HR.out.symm, hT⟩
end
section
open Go.RowKit
def jb1 (rs : List RuleD) (e : EraD) : Bool := e.rules.toList.isEmpty || hasB rs e.rules
theorem ji7 (r : RelD) (v : Value) (w : World) (hv : Zd w v r) (hr : r.rules.length <= 1048576) (hz : r.zones.length <= 1048576) (de : ∀ x ∈ r.zones, x.ok) :
  Cl 132 #[v] w fun e w' => e = .returned (.bool (r.zones.all fun z => z.eras.all (jb1 r.rules))) /\ Bw w w' := by
 obtain ⟨a, b, c, ca, cb, cc, rfl, hR, hA, _⟩ := hv.form
 clear hv
 generalize r.rules = rs at *
 generalize r.links.length = ln at *
 generalize r.zones = l at *
 have ag := qal w (.cells #[.slice a rs.length ca, .slice b l.length cb, .slice c ln cc] 38)
 have eN := hA.below ag
 have cW := hR.below ag
 have ai : (w.alloc (.cells #[.slice a rs.length ca, .slice b l.length cb, .slice c ln cc] 38)).cell? (ad w.heap.size 0) = some (.slice a rs.length ca) := by simp
 go_enter Tryz.func132, Tryz.ntmps132
 go_wp2
 generalize hW : (w.alloc (.cells #[.slice a rs.length ca, .slice b l.length cb, .slice c ln cc] 38)) = W at *
 go_loopw [11] (fun i wr => ∃ k : Nat, k <= l.length /\ i = iv k /\ Hid (∀ j, j < k -> ∀ x, l[j]? = some x -> x.eras.all (jb1 rs) = true) /\ Bw W wr) (fun i _ => l.length - (intOf i).toNat)
 case atStart => exact ⟨0, by omega, rfl, fun j hj => by omega, by subst hW; exact brf _ _⟩
 case round =>
  obtain ⟨k, hk, rfl, ak, hB⟩ := hrel
  have hT : Bw w wr := qtr ag hB
  by_cases hlt : k < l.length
  ·obtain ⟨x, hx⟩ := qgg hlt
   obtain ⟨b', o, rfl, c0, v, c1, hv⟩ := (eN.below hB).at hx
   have ok := (de x (lmg hx)).2.1
   obtain ⟨ae, ce, rfl, hE⟩ := hv
   unfold maxLen at ok
   obtain ⟨nm, es⟩ := x
   simp only at *
   have ao : Bw W (wr.alloc (.cells #[.string nm, .slice ae es.length ce] 146)) := hB.alloc hB.size _
   have pJ : Za (wr.alloc (.cells #[.string nm, .slice ae es.length ce] 146)) ae 6 (es.map EraD.cs) := hE.below (qal _ _)
   go_wp2
   generalize hV : (wr.alloc (.cells #[.string nm, .slice ae es.length ce] 146)) = V at *
   obtain ⟨wo, rfl⟩ := qea wr
   go_loopw [18] (fun i wr => ∃ m : Nat, m <= es.length /\ i = iv m /\ Hid (∀ j, j < m -> ∀ x, es[j]? = some x -> jb1 rs x = true) /\ Bw V wr) (fun i _ => es.length - (intOf i).toNat)
   case atStart => exact ⟨0, by omega, rfl, fun j hj => by omega, by subst hV; exact brf _ _⟩
   case round =>
    obtain ⟨m, hm, rfl, oy, hC⟩ := hrel
    have nV : Bw W wr := qtr ao hC
    have ho : wr.cell? (ad w.heap.size 0) = some (.slice a rs.length ca) := by rw [(jaf nV).1 _ _ (qbl ai)]; exact ai
    by_cases hlt2 : m < es.length
    ·obtain ⟨y, hy⟩ := qgg hlt2
     obtain ⟨b2, o2, rfl, hc⟩ := (pJ.below hC).at (i := m) (r := y.cs) (by rw [lgm, hy]; rfl)
     have d0 : wr.cell? (ad b2 (o2 + m * 6)) = some (iv y.offset) := hc 0 _ rfl
     have d1 := hc 1 _ rfl
     have d2 := hc 2 _ rfl
     have d3 := hc 3 _ rfl
     have d4 := hc 4 _ rfl
     have d5 := hc 5 _ rfl
     clear hc
     have hl0 := qbl ho
     have ay : Bw W (wr.alloc (.cells #[iv y.offset, .string y.rules, iv y.save, .string y.format, iv y.until_, .string y.of] 178)) := nV.alloc nV.size _
     have FA : Bw V (wr.alloc (.cells #[iv y.offset, .string y.rules, iv y.save, .string y.format, iv y.until_, .string y.of] 178)) := hC.alloc hC.size _
     have hS := jge rs a ca wr.heap.size y.rules (wr.alloc (.cells #[iv y.offset, .string y.rules, iv y.save, .string y.format, iv y.until_, .string y.of] 178)) (cW.below ay) hr (by simp)
     have jD : jb1 rs y = true -> Hid (∀ j, j < m + 1 -> ∀ x, es[j]? = some x -> jb1 rs x = true) := fun hb j hj z hz => by
      by_cases e : j = m
      ·subst e; rw [hy] at hz; obtain rfl := osi hz; exact hb
      ·exact oy.out j (by omega) z hz
     have jA : jb1 rs y = false -> Hid ((l.all fun z => z.eras.all (jb1 rs)) = false) := fun hb => jg5 hx (jg5 hy hb)
     unfold jb1 at jD jA
     cases he : y.rules.toList.isEmpty
     ·cases hb : hasB rs y.rules
      ·have HR := jA (by rw [he, hb]; rfl)
       rw [hb] at hS
       clear hb jD jA
       go_wp2_with fail
       refine hS.mono ?_
       rintro e w2 ⟨rfl, ac⟩
       go_wp2
       go_ret
       exact ⟨ret_bool HR.out.symm, ag.trans ((qtr ay ac).mono ag.size)⟩
      ·have HR := jD (by rw [he, hb]; rfl)
       rw [hb] at hS
       clear hb jD jA
       go_wp2_with fail
       refine hS.mono ?_
       rintro e w2 ⟨rfl, ac⟩
       go_wp2
       go_roundw
       case rel => exact ⟨m + 1, by omega, by go_num, HR, (qtr FA ac)⟩
       case measure => simp [intOf]; omega
     ·have HR := jD (by rw [he]; rfl)
      clear hS jD jA
      go_wp2
      go_roundw
      case rel => exact ⟨m + 1, by omega, by go_num, HR, FA⟩
      case measure => simp [intOf]; omega
    ·have e : m = es.length := by omega
     subst e
     have HR : Hid (∀ j, j < k + 1 -> ∀ x, l[j]? = some x -> x.eras.all (jb1 rs) = true) := fun j hj z hz => by
      by_cases e : j = k
      ·subst e; rw [hx] at hz; obtain rfl := osi hz; exact jeb oy.out
      ·exact ak.out j (by omega) z hz
     go_wp2
     go_roundw
     case rel => exact ⟨k + 1, by omega, by go_num, HR, nV⟩
     case measure => simp [intOf]; omega
  ·have e : k = l.length := by omega
   subst e
   have HR : Hid ((l.all fun z => z.eras.all (jb1 rs)) = true) := jeb ak.out
   go_wp2
   go_ret
   exact ⟨ret_bool HR.out.symm, hT⟩
end
end Go.Proofs.YtgiieknbckhofaaGreatDoor
