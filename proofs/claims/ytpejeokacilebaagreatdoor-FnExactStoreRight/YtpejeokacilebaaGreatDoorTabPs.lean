/- Packed. -/
import Derived.Test.YtpejeokacilebaaGreatDoorRelPs
import Derived.Laws.EntriesVeiled
import Derived.Deep.RegionHeld3
set_option maxHeartbeats 20000000
set_option linter.unusedSimpArgs false
namespace Go.Proofs.YtpejeokacilebaaGreatDoor
section
open Go.RowKit Go.Sort
def Zt (w : World) (v : Value) (l : List TurnD) : Prop := ∃ a cap, v = .agg #[.slice a l.length cap] /\ Za w a 4 (l.map TurnD.cs)
theorem Zt.below {w w' : World} {v : Value} {l : List TurnD} (h : Zt w v l) (hb : Below w.heap.size w w') : Zt w' v l := by
 obtain ⟨a, cap, rfl, hA⟩ := h
 exact ⟨a, cap, rfl, hA.below hb⟩
theorem jcy {p q i j : Nat} (h : p ≠ q) : (⟨p, i, none⟩ : Addr) ≠ ⟨q, j, none⟩ := fun e => by injection e with e1; exact h e1
end
section
open Go.RowKit
def jb4 (t : TurnD) : Bool := isB t.offset (-100000) 100000 && (isB t.save (-7200) 7200 && decide (t.abbr.size <= 20))
theorem turn_no1 {t : TurnD} (h : isB t.offset (-100000) 100000 = false) : jb4 t = false := by unfold jb4; rw [h]; rfl
theorem turn_no2 {t : TurnD} (h : isB t.save (-7200) 7200 = false) : jb4 t = false := by unfold jb4; rw [h]; simp
theorem turn_no3 {t : TurnD} (h : ¬ t.abbr.size <= 20) : jb4 t = false := by unfold jb4; rw [decide_eq_false h]; simp
theorem turn_yes {t : TurnD} (h1 : isB t.offset (-100000) 100000 = true) (h2 : isB t.save (-7200) 7200 = true) (h3 : t.abbr.size <= 20) : jb4 t = true := by unfold jb4; rw [h1, h2, decide_eq_true h3]; rfl
def upT : List TurnD -> Bool
 | [] => true
 | [_] => true
 | x :: y :: l => decide (x.at_ < y.at_) && upT (y :: l)
theorem upT_no {es : List TurnD} : ∀ {i : Nat} {x y : TurnD}, es[i]? = some x -> es[i + 1]? = some y -> ¬ x.at_ < y.at_ -> upT es = false := by
 induction es with
 | nil => intro i x y h; simp at h
 | cons a l ih =>
  intro i x y hx hy hn
  match l, i with
  | [], _ => simp at hy
  | b :: l, 0 =>
   simp at hx hy
   subst hx hy
   simp [upT, hn]
  | b :: l, i + 1 =>
   have := ih (i := i) (x := x) (y := y) (by simpa using hx) (by simpa using hy) hn
   simp only [upT, this, Bool.and_false]
theorem upT_yes {es : List TurnD} (h : ∀ i x y, es[i]? = some x -> es[i + 1]? = some y -> x.at_ < y.at_) : upT es = true := by
 induction es with
 | nil => rfl
 | cons a l ih =>
  match l with
  | [] => rfl
  | b :: l =>
   have h0 := h 0 a b rfl rfl
   have := ih fun i x y hx hy => h (i + 1) x y (by simpa using hx) (by simpa using hy)
   simp only [upT, this, decide_eq_true h0, Bool.and_true]
theorem upT_of {es : List TurnD} (h : upT es = true) {i : Nat} {x y : TurnD} (hx : es[i]? = some x) (hy : es[i + 1]? = some y) : x.at_ < y.at_ := by
 by_cases hn : x.at_ < y.at_
 ·exact hn
 ·rw [upT_no hx hy hn] at h; cases h
theorem upT_le {es : List TurnD} (h : upT es = true) {i : Nat} {x : TurnD} (hx : es[i]? = some x) : ∀ (d : Nat) {y : TurnD}, es[i + d]? = some y -> x.at_ <= y.at_ := by
 intro d
 induction d with
 | zero => intro y hy; rw [Nat.add_zero, hx] at hy; obtain rfl := Option.some.inj hy; exact Int.le_refl _
 | succ d ih =>
  intro y hy
  have hlt := (List.getElem?_eq_some_iff.mp hy).1
  obtain ⟨z, hz⟩ : ∃ z, es[i + d]? = some z := ⟨_, List.getElem?_eq_getElem (by omega)⟩
  have h1 := ih hz
  have h2 := upT_of h hz (y := y) (by rw [show i + d + 1 = i + (d + 1) by omega]; exact hy)
  omega
theorem upT_le2 {es : List TurnD} (h : upT es = true) {i j : Nat} (hij : i <= j) {x y : TurnD} (hx : es[i]? = some x) (hy : es[j]? = some y) : x.at_ <= y.at_ :=
 upT_le h hx (j - i) (by rw [show i + (j - i) = j by omega]; exact hy)
def endsT (l : List TurnD) : Bool := match l[0]?, l[l.length - 1]? with
 | some a, some b => (a.at_ == -62135596800) && decide (b.at_ <= 253402300799)
 | _, _ => false
def tabB (l : List TurnD) : Bool := decide (1 <= l.length /\ l.length <= 600) && (l.all jb4 && (upT l && endsT l))
theorem tab_no1 {l : List TurnD} (h : ¬ (1 <= l.length /\ l.length <= 600)) : tabB l = false := by unfold tabB; rw [decide_eq_false h]; rfl
theorem tab_no2 {l : List TurnD} (h : l.all jb4 = false) : tabB l = false := by unfold tabB; rw [h]; simp
theorem tab_no3 {l : List TurnD} (h : upT l = false) : tabB l = false := by unfold tabB; rw [h]; simp
theorem tab_no4 {l : List TurnD} (h : endsT l = false) : tabB l = false := by unfold tabB; rw [h]; simp
theorem tab_ends {l : List TurnD} (h1 : 1 <= l.length /\ l.length <= 600) (h2 : l.all jb4 = true) (h3 : upT l = true) : tabB l = endsT l := by unfold tabB; rw [decide_eq_true h1, h2, h3]; simp
theorem ends_of {l : List TurnD} {n : Nat} {a b : TurnD} (hn : l.length = n + 1) (ha : l[0]? = some a) (hb : l[n]? = some b) : endsT l = ((a.at_ == -62135596800) && decide (b.at_ <= 253402300799)) := by
 unfold endsT
 rw [show l.length - 1 = n by omega, ha, hb]
theorem tab_first {l : List TurnD} {a : TurnD} (ha : l[0]? = some a) (h : a.at_ ≠ -62135596800) : tabB l = false := by
 apply tab_no4
 unfold endsT
 rw [ha]
 cases l[l.length - 1]? with
 | none => rfl
 | some b => simp [h]
theorem tab_top {l : List TurnD} {k : Nat} {x : TurnD} (hx : l[k]? = some x) (h : 253402300799 < x.at_) : tabB l = false := by
 cases hu : upT l
 ·exact tab_no3 hu
 ·apply tab_no4
  have hk := (List.getElem?_eq_some_iff.mp hx).1
  obtain ⟨b, hb⟩ : ∃ b, l[l.length - 1]? = some b := ⟨_, List.getElem?_eq_getElem (by omega)⟩
  have := upT_le2 hu (show k <= l.length - 1 by omega) hx hb
  unfold endsT
  rw [hb]
  cases l[0]? with
  | none => rfl
  | some a => simp; omega
structure Jo (l : List TurnD) : Prop where
 len : 1 <= l.length /\ l.length <= 600
 up : upT l = true
 first : ∀ a, l[0]? = some a -> a.at_ = -62135596800
 top : ∀ (k : Nat) x, l[k]? = some x -> x.at_ <= 253402300799
 one : ∀ x ∈ l, jb4 x = true
theorem tab_of {l : List TurnD} (h : tabB l = true) : Jo l := by
 have hh := h
 unfold tabB at h
 simp only [Bool.and_eq_true, decide_eq_true_eq, List.all_eq_true] at h
 obtain ⟨h1, h2, h3, h4⟩ := h
 refine ⟨h1, h3, fun a ha => ?_, fun k x hx => ?_, h2⟩
 ·by_cases e : a.at_ = -62135596800
  ·exact e
  ·rw [tab_first ha e] at hh; cases hh
 ·by_cases e : x.at_ <= 253402300799
  ·exact e
  ·rw [tab_top hx (by omega)] at hh; cases hh
end
section
open Go.RowKit
theorem impl_saveRightT (n : Int) (w : World) :
  Calls Tryz.prog 136 #[.int .i64 n] w fun e w' => e = .returned (.bool (isB n (-7200) 7200)) /\ w' = w := by
 by_cases h : -7200 <= n
 ·go_enter Tryz.func136, Tryz.ntmps136
  go_wp2
  go_ret
  exact ⟨ret_bool (by unfold isB; simp [h]), rfl⟩
 ·go_enter Tryz.func136, Tryz.ntmps136
  go_wp2
  go_ret
  exact ⟨ret_bool (isB_f (by omega)).symm, rfl⟩
theorem impl_turnRight (t : TurnD) (w : World) (ok : t.ok) :
  Calls Tryz.prog 210 #[t.v] w fun e w' => e = .returned (.bool (jb4 t)) /\ Below w.heap.size w w' := by
 obtain ⟨at_, offset, save, abbr⟩ := t
 unfold TurnD.ok maxLen at ok
 have hS := fun w => impl_saveRightT save w
 have N1 := @turn_no1 ⟨at_, offset, save, abbr⟩
 have N2 := @turn_no2 ⟨at_, offset, save, abbr⟩
 have N3 := @turn_no3 ⟨at_, offset, save, abbr⟩
 have Y := @turn_yes ⟨at_, offset, save, abbr⟩
 generalize jb4 ⟨at_, offset, save, abbr⟩ = b at *
 simp only [TurnD.v] at *
 by_cases h1 : -100000 <= offset
 ·by_cases h2 : offset <= 100000
  ·have h12 := isB_t h1 h2
   cases h3 : isB save (-7200) 7200
   ·have HR : Hid (b = false) := N2 h3
    rw [h3] at hS
    clear N1 N2 N3 Y h12 h3
    go_enter Tryz.func210, Tryz.ntmps210
    go_wp2_with (go_at_call 136; refine (hS _).mono ?_; rintro e w' ⟨rfl, rfl⟩)
    go_ret
    exact ⟨ret_bool HR.out.symm, qal _ _⟩
   ·rw [h3] at hS
    have HR : Hid (b = decide (abbr.size <= 20)) := by
     by_cases h4 : abbr.size <= 20
     ·exact (Y h12 h3 h4).trans (decide_eq_true h4).symm
     ·exact (N3 h4).trans (decide_eq_false h4).symm
    clear N1 N2 N3 Y h12 h3
    go_enter Tryz.func210, Tryz.ntmps210
    go_wp2_with (go_at_call 136; refine (hS _).mono ?_; rintro e w' ⟨rfl, rfl⟩)
    go_ret
    exact ⟨ret_bool (by rw [HR.out]; simp; omega), qal _ _⟩
  ·have HR : Hid (b = false) := N1 (isB_f (by simp; omega))
   clear N1 N2 N3 Y
   go_enter Tryz.func210, Tryz.ntmps210
   go_wp2_with (go_at_call 136; refine (hS _).mono ?_; rintro e w' ⟨rfl, rfl⟩)
   go_ret
   exact ⟨ret_bool HR.out.symm, qal _ _⟩
 ·have HR : Hid (b = false) := N1 (isB_f (by simp; omega))
  clear N1 N2 N3 Y
  go_enter Tryz.func210, Tryz.ntmps210
  go_wp2_with (go_at_call 136; refine (hS _).mono ?_; rintro e w' ⟨rfl, rfl⟩)
  go_ret
  exact ⟨ret_bool HR.out.symm, qal _ _⟩
theorem allT_no {α : Type} {l : List α} {p : α -> Bool} {k : Nat} {x : α} (hk : l[k]? = some x) (h : p x = false) : l.all p = false := by
 rw [List.all_eq_false]
 exact ⟨x, List.mem_of_getElem? hk, by simp [h]⟩
theorem allT_yes {α : Type} {l : List α} {p : α -> Bool} (h : ∀ j, j < l.length -> ∀ x, l[j]? = some x -> p x = true) : l.all p = true := by
 rw [List.all_eq_true]
 intro x hx
 obtain ⟨j, hj⟩ := List.getElem?_of_mem hx
 exact h j (List.getElem?_eq_some_iff.mp hj).1 x hj
theorem impl_allTurn (l : List TurnD) (a : Option Addr) (cap : Nat) (w : World) (hA : Za w a 4 (l.map TurnD.cs)) (hok : ∀ r ∈ l, r.ok) (hl : l.length <= 1048576) :
  Calls Tryz.prog 209 #[.slice a l.length cap, .func (.func 210) #[] #[]] w fun e w' => e = .returned (.bool (l.all jb4)) /\ Below w.heap.size w w' := by
 go_enter Tryz.func209, Tryz.ntmps209
 go_wp2
 go_loopw [9] (fun i wr => ∃ k : Nat, k <= l.length /\ i = .int .i64 k /\ Hid (∀ j, j < k -> ∀ x, l[j]? = some x -> jb4 x = true) /\ Below w.heap.size w wr) (fun i _ => l.length - (intOf i).toNat)
 case atStart => exact ⟨0, by omega, rfl, fun j hj => by omega, Below.refl _ _⟩
 case round =>
  obtain ⟨k, hk, rfl, hall, hB⟩ := hrel
  by_cases hlt : k < l.length
  ·obtain ⟨r, hr⟩ := qgg hlt
   have hrow : (l.map TurnD.cs)[k]? = some r.cs := by rw [List.getElem?_map, hr]; rfl
   obtain ⟨b, o, rfl, hc⟩ := (hA.below hB).at (i := k) hrow
   have ok := hok r (List.mem_of_getElem? hr)
   have hS := fun w => impl_turnRight r w ok
   have c0 : wr.cell? ⟨b, o + k * 4, none⟩ = some (.int .i64 r.at_) := hc 0 _ rfl
   have c1 := hc 1 _ rfl
   have c2 := hc 2 _ rfl
   have c3 := hc 3 _ rfl
   clear hc
   unfold TurnD.v at hS
   cases hb : jb4 r
   ·have HR : Hid (l.all jb4 = false) := allT_no hr hb
    rw [hb] at hS
    clear hb
    go_wp2_with fail
    refine (hS _).mono ?_
    rintro e w2 ⟨rfl, hb2⟩
    go_wp2
    go_ret
    exact ⟨ret_bool HR.out.symm, (hB.alloc hB.size _).trans (hb2.mono (by simp; have := hB.size; omega))⟩
   ·have HR : Hid (∀ j, j < k + 1 -> ∀ x, l[j]? = some x -> jb4 x = true) := fun j hj x hx => by
     by_cases e : j = k
     ·subst e; rw [hr] at hx; obtain rfl := Option.some.inj hx; exact hb
     ·exact hall.out j (by omega) x hx
    rw [hb] at hS
    clear hb
    go_wp2_with fail
    refine (hS _).mono ?_
    rintro e w2 ⟨rfl, hb2⟩
    go_wp2
    go_roundw
    case rel => exact ⟨k + 1, by omega, by go_num, HR, (hB.alloc hB.size _).trans (hb2.mono (by simp; have := hB.size; omega))⟩
    case measure => simp [intOf]; omega
  ·have e : k = l.length := by omega
   subst e
   have HR : Hid (l.all jb4 = true) := allT_yes hall.out
   go_wp2
   go_ret
   exact ⟨ret_bool HR.out.symm, hB⟩
set_option maxRecDepth 20000 in
theorem impl_TableRight (l : List TurnD) (v : Value) (w : World) (hv : Zt w v l) (hok : ∀ r ∈ l, r.ok) (hl : l.length <= 1048576) :
  Calls Tryz.prog 180 #[v] w fun e w' => e = .returned (.bool (tabB l)) /\ Below w.heap.size w w' := by
 obtain ⟨a, cap, rfl, hA⟩ := hv
 have hB0 := fun o => qal w o
 by_cases hl0 : l.length < 1
 ·rw [tab_no1 (by omega)]
  go_enter Tryz.func180, Tryz.ntmps180
  go_wp2
  go_ret
  exact ⟨rfl, hB0 _⟩
 by_cases hl8 : 600 < l.length
 ·rw [tab_no1 (by omega)]
  go_enter Tryz.func180, Tryz.ntmps180
  go_wp2
  go_ret
  exact ⟨rfl, hB0 _⟩
 have h2 := fun w (h : Za w a 4 (l.map TurnD.cs)) => impl_allTurn l a cap w h hok (by omega)
 cases ha : l.all jb4
 ·rw [tab_no2 ha]
  rw [ha] at h2
  clear ha
  go_enter Tryz.func180, Tryz.ntmps180
  go_wp2_with fail
  refine (h2 _ (hA.below (hB0 _))).mono ?_
  rintro e w1 ⟨rfl, hb1⟩
  go_wp2
  go_ret
  exact ⟨rfl, (hB0 _).trans (hb1.mono (by simp))⟩
 rw [ha] at h2
 have HZ : Hid (upT l = true -> tabB l = endsT l) := fun h => tab_ends (by omega) ha h
 have HN : Hid (upT l = false -> tabB l = false) := fun h => tab_no3 h
 clear ha
 generalize tabB l = zb at *
 go_enter Tryz.func180, Tryz.ntmps180
 go_wp2_with fail
 refine (h2 _ (hA.below (hB0 _))).mono ?_
 rintro e w1 ⟨rfl, hb1⟩
 obtain ⟨hc, _⟩ := jaf hb1
 have hB1 := (hB0 _).trans (hb1.mono (by simp))
 have x1 : w1.cell? ⟨w.heap.size, 0, none⟩ = some (.slice a l.length cap) := (hc _ _ (by simp)).trans (by simp [go_sem])
 have hA1 := hA.below hB1
 clear hc hb1 h2
 obtain ⟨n, hlen⟩ : ∃ n, l.length = n + 1 := ⟨l.length - 1, by omega⟩
 go_wp2
 go_loopw [22] (fun i wr => ∃ k : Nat, k <= n /\ i = .int .i64 k /\ Hid (∀ j, j < k -> ∀ x y, l[j]? = some x -> l[j + 1]? = some y -> x.at_ < y.at_) /\ Below w1.heap.size w1 wr) (fun i _ => n - (intOf i).toNat)
 case atStart => exact ⟨0, by omega, rfl, fun j hj => by omega, Below.refl _ _⟩
 case round =>
  obtain ⟨k, hk, rfl, hall, hB⟩ := hrel
  have y1 : wr.cell? ⟨w.heap.size, 0, none⟩ = some (.slice a l.length cap) := by rw [(jaf hB).1 _ _ (qbl x1)]; exact x1
  have hBB := qtr hB1 hB
  by_cases hlt : k < n
  ·obtain ⟨r, hr⟩ : ∃ r, l[k]? = some r := ⟨_, List.getElem?_eq_getElem (by omega)⟩
   obtain ⟨r2, hr2⟩ : ∃ r, l[k + 1]? = some r := ⟨_, List.getElem?_eq_getElem (by omega)⟩
   obtain ⟨b, o, rfl, hc⟩ := (hA1.below hB).at (i := k) (r := r.cs) (by rw [List.getElem?_map, hr]; rfl)
   obtain ⟨b', o', he, hd⟩ := (hA1.below hB).at (i := k + 1) (r := r2.cs) (by rw [List.getElem?_map, hr2]; rfl)
   injection he with he
   injection he with e1 e2
   subst e1 e2
   have c4 : wr.cell? ⟨b, o + k * 4, none⟩ = some (.int .i64 r.at_) := hc 0 _ rfl
   have d4 : wr.cell? ⟨b, o + (k + 1) * 4, none⟩ = some (.int .i64 r2.at_) := hd 0 _ rfl
   clear hc hd
   by_cases hu : r.at_ < r2.at_
   ·have HR : Hid (∀ j, j < k + 1 -> ∀ x y, l[j]? = some x -> l[j + 1]? = some y -> x.at_ < y.at_) := fun j hj x y hx hy => by
     by_cases e : j = k
     ·subst e; rw [hr] at hx; rw [hr2] at hy; obtain rfl := Option.some.inj hx; obtain rfl := Option.some.inj hy; exact hu
     ·exact hall.out j (by omega) x y hx hy
    go_wp2_with fail
    go_quiet (fail)
    go_wp2
    go_roundw
    case rel => exact ⟨k + 1, by omega, by go_num, HR, below_drewN hB _⟩
    case measure => simp [intOf]; omega
   ·have HR : Hid (zb = false) := HN.out (upT_no hr hr2 hu)
    go_wp2_with fail
    go_quiet (fail)
    go_wp2
    go_ret
    exact ⟨ret_bool HR.out.symm, below_drewN hBB _⟩
  ·have e : k = n := by omega
   subst e
   obtain ⟨r, hr⟩ : ∃ r, l[k]? = some r := ⟨_, List.getElem?_eq_getElem (by omega)⟩
   obtain ⟨f, hf⟩ : ∃ r, l[0]? = some r := ⟨_, List.getElem?_eq_getElem (by omega)⟩
   obtain ⟨b, o, rfl, hc⟩ := (hA1.below hB).at (i := k) (r := r.cs) (by rw [List.getElem?_map, hr]; rfl)
   obtain ⟨b', o', he, hd⟩ := (hA1.below hB).at (i := 0) (r := f.cs) (by rw [List.getElem?_map, hf]; rfl)
   injection he with he
   injection he with e1 e2
   subst e1 e2
   have c4 : wr.cell? ⟨b, o + k * 4, none⟩ = some (.int .i64 r.at_) := hc 0 _ rfl
   have d4 : wr.cell? ⟨b, o, none⟩ = some (.int .i64 f.at_) := by simpa using hd 0 _ rfl
   clear hc hd
   have HR : Hid (zb = ((f.at_ == -62135596800) && decide (r.at_ <= 253402300799))) := by
    simp only [Hid]
    rw [HZ.out (upT_yes fun i x y hx hy => hall.out i (by have := (List.getElem?_eq_some_iff.mp hy).1; omega) x y hx hy)]
    exact ends_of hlen hf hr
   cases g : (f.at_ == -62135596800)
   ·rw [g] at HR
    go_wp2
    go_ret
    exact ⟨ret_bool HR.out.symm, hBB⟩
   ·rw [g] at HR
    go_wp2
    go_ret
    exact ⟨ret_bool (by rw [HR.out]; simp), hBB⟩
end
section
open Go.RowKit Go.Sort
def zeroT : TurnD := ⟨0, 0, 0, ⟨#[]⟩⟩
theorem spec_l01TimeT (n : Int) (w : World) :
  Calls Tryz.prog 69 #[.int .i64 n] w fun e w' => e = .returned (.bool (isB n (-62135596800) 253402300799)) /\ w' = w := by
 go_enter Tryz.func69, Tryz.ntmps69
 go_wp2_with (go_at_call 13; refine (jap _ _ _ _).mono ?_; rintro e w' ⟨rfl, rfl⟩)
 go_ret
 exact ⟨rfl, rfl⟩
theorem set_four {w : World} {b : Nat} {x0 x1 x2 x3 v0 v1 v2 v3 : Value} (h0 : w.cell? ⟨b, 0, none⟩ = some x0) (h1 : w.cell? ⟨b, 1, none⟩ = some x1) (h2 : w.cell? ⟨b, 2, none⟩ = some x2) (h3 : w.cell? ⟨b, 3, none⟩ = some x3) :
  ((((w.setCell ⟨b, 0, none⟩ v0).setCell ⟨b, 1, none⟩ v1).setCell ⟨b, 2, none⟩ v2).setCell ⟨b, 3, none⟩ v3).cell? ⟨b, 0, none⟩ = some v0 /\ ((((w.setCell ⟨b, 0, none⟩ v0).setCell ⟨b, 1, none⟩ v1).setCell ⟨b, 2, none⟩ v2).setCell ⟨b, 3, none⟩ v3).cell? ⟨b, 1, none⟩ = some v1 /\ ((((w.setCell ⟨b, 0, none⟩ v0).setCell ⟨b, 1, none⟩ v1).setCell ⟨b, 2, none⟩ v2).setCell ⟨b, 3, none⟩ v3).cell? ⟨b, 2, none⟩ = some v2 /\ ((((w.setCell ⟨b, 0, none⟩ v0).setCell ⟨b, 1, none⟩ v1).setCell ⟨b, 2, none⟩ v2).setCell ⟨b, 3, none⟩ v3).cell? ⟨b, 3, none⟩ = some v3 := by
 refine ⟨?_, ?_, ?_, ?_⟩
 ·rw [World.cell?_setCell_other _ _ _ _ (by simp), World.cell?_setCell_other _ _ _ _ (by simp), World.cell?_setCell_other _ _ _ _ (by simp), World.cell?_setCell_same _ _ _ h0]
 ·rw [World.cell?_setCell_other _ _ _ _ (by simp), World.cell?_setCell_other _ _ _ _ (by simp)]
  refine World.cell?_setCell_same _ _ _ (u := x1) ?_
  rw [World.cell?_setCell_other _ _ _ _ (by simp)]; exact h1
 ·rw [World.cell?_setCell_other _ _ _ _ (by simp)]
  refine World.cell?_setCell_same _ _ _ (u := x2) ?_
  rw [World.cell?_setCell_other _ _ _ _ (by simp), World.cell?_setCell_other _ _ _ _ (by simp)]; exact h2
 ·refine World.cell?_setCell_same _ _ _ (u := x3) ?_
  rw [World.cell?_setCell_other _ _ _ _ (by simp), World.cell?_setCell_other _ _ _ _ (by simp), World.cell?_setCell_other _ _ _ _ (by simp)]; exact h3
theorem impl_isTimeT (n : Int) (w : World) :
  Calls Tryz.prog 106 #[.int .i64 n] w fun e w' => e = .returned (.bool (isB n (-62135596800) 253402300799)) /\ w' = w := by
 by_cases h : -62135596800 <= n
 ·go_enter Tryz.func106, Tryz.ntmps106
  go_wp2
  go_ret
  exact ⟨ret_bool (by unfold isB; simp [h]), rfl⟩
 ·go_enter Tryz.func106, Tryz.ntmps106
  go_wp2
  go_ret
  exact ⟨ret_bool (isB_f (by omega)).symm, rfl⟩
end
section
open Go.RowKit Go.Sort
def outV (p : Int × Int) : Value := .agg #[.int .i64 p.1, .int .i64 p.2]
def timeD (m : Int) : Int × Int := if isB m (-62135596800) 253402300799 = true then (m, 0) else (0, 4)
theorem timeD_t {m : Int} (h : isB m (-62135596800) 253402300799 = true) : timeD m = (m, 0) := by unfold timeD; rw [if_pos h]
theorem timeD_f {m : Int} (h : isB m (-62135596800) 253402300799 = false) : timeD m = (0, 4) := by unfold timeD; rw [if_neg (by rw [h]; simp)]
theorem ja2 {w : World} {b : Nat} {x0 x1 v0 v1 : Value} (h0 : w.cell? ⟨b, 0, none⟩ = some x0) (h1 : w.cell? ⟨b, 1, none⟩ = some x1) :
  ((w.setCell ⟨b, 0, none⟩ v0).setCell ⟨b, 1, none⟩ v1).cell? ⟨b, 0, none⟩ = some v0 /\ ((w.setCell ⟨b, 0, none⟩ v0).setCell ⟨b, 1, none⟩ v1).cell? ⟨b, 1, none⟩ = some v1 := by
 refine ⟨?_, ?_⟩
 ·rw [World.cell?_setCell_other _ _ _ _ (by simp), World.cell?_setCell_same _ _ _ h0]
 ·refine World.cell?_setCell_same _ _ _ (u := x1) ?_
  rw [World.cell?_setCell_other _ _ _ _ (by simp)]; exact h1
theorem impl_timeOrRange (m : Int) (w : World) :
  Calls Tryz.prog 213 #[.int .i64 m] w fun e w' => e = .returned (outV (timeD m)) /\ Below w.heap.size w w' := by
 have hB0 := fun o => qal w o
 have hM := fun w => impl_isTimeT m w
 cases h : isB m (-62135596800) 253402300799
 ·rw [timeD_f h]
  rw [h] at hM
  clear h
  go_enter Tryz.func213, Tryz.ntmps213
  go_wp2_with (go_at_call 106; refine (hM _).mono ?_; rintro e w' ⟨rfl, rfl⟩)
  exact bodyPost_ret (v := outV (0, 4)) (by simp [results, Tryz.results213, go_sem, outV]) rfl ⟨rfl, hB0 _⟩
 ·rw [timeD_t h]
  rw [h] at hM
  clear h
  go_enter Tryz.func213, Tryz.ntmps213
  go_wp2_with (go_at_call 106; refine (hM _).mono ?_; rintro e w' ⟨rfl, rfl⟩)
  exact bodyPost_ret (v := outV (m, 0)) (by simp [results, Tryz.results213, go_sem, outV]) rfl ⟨rfl, hB0 _⟩
end
end Go.Proofs.YtpejeokacilebaaGreatDoor
