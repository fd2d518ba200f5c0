/- Packed: TabMath TabImpl TabSpec. -/
import Derived.Test.YtcelbkmnbjcjhaaGreatDoorTsRk
import Derived.Laws.EntriesVeiled
namespace Go.Proofs.YtcelbkmnbjcjhaaGreatDoor
open Go.RowKit

def turnB (t : TurnD) : Bool := isB t.offset (-100000) 100000 && (isB t.save (-7200) 7200 && decide (t.abbr.size ≤ 20))
theorem turn_no1 {t : TurnD} (h : isB t.offset (-100000) 100000 = false) : turnB t = false := by unfold turnB; rw [h]; rfl
theorem turn_no2 {t : TurnD} (h : isB t.save (-7200) 7200 = false) : turnB t = false := by unfold turnB; rw [h]; simp
theorem turn_no3 {t : TurnD} (h : ¬ t.abbr.size ≤ 20) : turnB t = false := by unfold turnB; rw [decide_eq_false h]; simp
theorem turn_yes {t : TurnD} (h1 : isB t.offset (-100000) 100000 = true) (h2 : isB t.save (-7200) 7200 = true) (h3 : t.abbr.size ≤ 20) : turnB t = true := by unfold turnB; rw [h1, h2, decide_eq_true h3]; rfl
def upT : List TurnD → Bool
 | [] => true
 | [_] => true
 | x :: y :: l => decide (x.at_ < y.at_) && upT (y :: l)
theorem upT_no {es : List TurnD} : ∀ {i : Nat} {x y : TurnD}, es[i]? = some x → es[i + 1]? = some y → ¬ x.at_ < y.at_ → upT es = false := by
 induction es with
 | nil => intro i x y h; simp at h
 | cons a l ih =>
  intro i x y hx hy hn
  match l, i with
  | [], _ => simp at hy
  | b :: l, 0 =>
   simp at hx hy
   subst hx hy
   simp [upT, hn]
  | b :: l, i + 1 =>
   have := ih (i := i) (x := x) (y := y) (by simpa using hx) (by simpa using hy) hn
   simp only [upT, this, Bool.and_false]
theorem upT_yes {es : List TurnD} (h : ∀ i x y, es[i]? = some x → es[i + 1]? = some y → x.at_ < y.at_) : upT es = true := by
 induction es with
 | nil => rfl
 | cons a l ih =>
  match l with
  | [] => rfl
  | b :: l =>
   have h0 := h 0 a b rfl rfl
   have := ih fun i x y hx hy => h (i + 1) x y (by simpa using hx) (by simpa using hy)
   simp only [upT, this, decide_eq_true h0, Bool.and_true]
theorem upT_of {es : List TurnD} (h : upT es = true) {i : Nat} {x y : TurnD} (hx : es[i]? = some x) (hy : es[i + 1]? = some y) : x.at_ < y.at_ := by
 by_cases hn : x.at_ < y.at_
 ·
  exact hn
 ·
  rw [upT_no hx hy hn] at h; cases h
theorem upT_le {es : List TurnD} (h : upT es = true) {i : Nat} {x : TurnD} (hx : es[i]? = some x) : ∀ (d : Nat) {y : TurnD}, es[i + d]? = some y → x.at_ ≤ y.at_ := by
 intro d
 induction d with
 | zero => intro y hy; rw [Nat.add_zero, hx] at hy; obtain rfl := Option.some.inj hy; exact Int.le_refl _
 | succ d ih =>
  intro y hy
  have hlt := (List.getElem?_eq_some_iff.mp hy).1
  obtain ⟨z, hz⟩ : ∃ z, es[i + d]? = some z := ⟨_, List.getElem?_eq_getElem (by omega)⟩
  have h1 := ih hz
  have h2 := upT_of h hz (y := y) (by rw [show i + d + 1 = i + (d + 1) by omega]; exact hy)
  omega
theorem upT_le2 {es : List TurnD} (h : upT es = true) {i j : Nat} (hij : i ≤ j) {x y : TurnD} (hx : es[i]? = some x) (hy : es[j]? = some y) : x.at_ ≤ y.at_ :=
 upT_le h hx (j - i) (by rw [show i + (j - i) = j by omega]; exact hy)
def endsT (l : List TurnD) : Bool := match l[0]?, l[l.length - 1]? with
 | some a, some b => (a.at_ == -62135596800) && decide (b.at_ ≤ 253402300799)
 | _, _ => false
def tabB (l : List TurnD) : Bool := decide (1 ≤ l.length ∧ l.length ≤ 600) && (l.all turnB && (upT l && endsT l))
theorem tab_no1 {l : List TurnD} (h : ¬ (1 ≤ l.length ∧ l.length ≤ 600)) : tabB l = false := by unfold tabB; rw [decide_eq_false h]; rfl
theorem tab_no2 {l : List TurnD} (h : l.all turnB = false) : tabB l = false := by unfold tabB; rw [h]; simp
theorem tab_no3 {l : List TurnD} (h : upT l = false) : tabB l = false := by unfold tabB; rw [h]; simp
theorem tab_no4 {l : List TurnD} (h : endsT l = false) : tabB l = false := by unfold tabB; rw [h]; simp
theorem tab_ends {l : List TurnD} (h1 : 1 ≤ l.length ∧ l.length ≤ 600) (h2 : l.all turnB = true) (h3 : upT l = true) : tabB l = endsT l := by unfold tabB; rw [decide_eq_true h1, h2, h3]; simp
theorem ends_of {l : List TurnD} {n : Nat} {a b : TurnD} (hn : l.length = n + 1) (ha : l[0]? = some a) (hb : l[n]? = some b) : endsT l = ((a.at_ == -62135596800) && decide (b.at_ ≤ 253402300799)) := by
 unfold endsT
 rw [show l.length - 1 = n by omega, ha, hb]
theorem tab_first {l : List TurnD} {a : TurnD} (ha : l[0]? = some a) (h : a.at_ ≠ -62135596800) : tabB l = false := by
 apply tab_no4
 unfold endsT
 rw [ha]
 cases l[l.length - 1]? with
 | none => rfl
 | some b => simp [h]
theorem tab_top {l : List TurnD} {k : Nat} {x : TurnD} (hx : l[k]? = some x) (h : 253402300799 < x.at_) : tabB l = false := by
 cases hu : upT l
 ·
  exact tab_no3 hu
 ·
  apply tab_no4
  have hk := (List.getElem?_eq_some_iff.mp hx).1
  obtain ⟨b, hb⟩ : ∃ b, l[l.length - 1]? = some b := ⟨_, List.getElem?_eq_getElem (by omega)⟩
  have := upT_le2 hu (show k ≤ l.length - 1 by omega) hx hb
  unfold endsT
  rw [hb]
  cases l[0]? with
  | none => rfl
  | some a => simp; omega
theorem tab_up {l : List TurnD} {j : Nat} {p x : TurnD} (hp : l[j]? = some p) (hx : l[j + 1]? = some x) (h : x.at_ ≤ p.at_) : tabB l = false := tab_no3 (upT_no hp hx (by omega))
theorem tab_one {l : List TurnD} {k : Nat} {x : TurnD} (hx : l[k]? = some x) (h : turnB x = false) : tabB l = false := by
 apply tab_no2
 rw [List.all_eq_false]
 exact ⟨x, List.mem_of_getElem? hx, by simp [h]⟩
structure TStep (l : List TurnD) (k : Nat) (x : TurnD) : Prop where
 top : x.at_ ≤ 253402300799
 up : ∀ j p, k = j + 1 → l[j]? = some p → p.at_ < x.at_
 one : turnB x = true
theorem tab_yes {l : List TurnD} {a : TurnD} (h1 : 1 ≤ l.length ∧ l.length ≤ 600) (ha : l[0]? = some a) (h0 : a.at_ = -62135596800) (h : ∀ k x, l[k]? = some x → TStep l k x) : tabB l = true := by
 have h2 : l.all turnB = true := by
  rw [List.all_eq_true]
  intro x hx
  obtain ⟨k, hk⟩ := List.getElem?_of_mem hx
  exact (h k x hk).one
 have h3 : upT l = true := upT_yes fun i x y hx hy => (h _ y hy).up i x rfl hx
 rw [tab_ends h1 h2 h3]
 obtain ⟨b, hb⟩ : ∃ b, l[l.length - 1]? = some b := ⟨_, List.getElem?_eq_getElem (by omega)⟩
 rw [ends_of (n := l.length - 1) (by omega) ha hb]
 simp [h0, (h _ b hb).top]
structure TabR (l : List TurnD) : Prop where
 len : 1 ≤ l.length ∧ l.length ≤ 600
 up : upT l = true
 first : ∀ a, l[0]? = some a → a.at_ = -62135596800
 top : ∀ (k : Nat) x, l[k]? = some x → x.at_ ≤ 253402300799
 one : ∀ x ∈ l, turnB x = true
theorem tab_of {l : List TurnD} (h : tabB l = true) : TabR l := by
 have hh := h
 unfold tabB at h
 simp only [Bool.and_eq_true, decide_eq_true_eq, List.all_eq_true] at h
 obtain ⟨h1, h2, h3, h4⟩ := h
 refine ⟨h1, h3, fun a ha => ?_, fun k x hx => ?_, h2⟩
 ·
  by_cases e : a.at_ = -62135596800
  ·
   exact e
  ·
   rw [tab_first ha e] at hh; cases hh
 ·
  by_cases e : x.at_ ≤ 253402300799
  ·
   exact e
  ·
   rw [tab_top hx (by omega)] at hh; cases hh
end Go.Proofs.YtcelbkmnbjcjhaaGreatDoor
namespace Go.Proofs.YtcelbkmnbjcjhaaGreatDoor
open Go.RowKit

set_option maxHeartbeats 400000 in
theorem impl_saveRightT (n : Int) (w : World) :
  Calls Tryz.prog 73 #[.int .i64 n] w fun e w' => e = .returned (.bool (isB n (-7200) 7200)) ∧ w' = w := by
 by_cases h : -7200 ≤ n
 ·
  go_enter Tryz.func73, Tryz.ntmps73
  go_wp2
  go_ret
  exact ⟨ret_bool (by unfold isB; simp [h]), rfl⟩
 ·
  go_enter Tryz.func73, Tryz.ntmps73
  go_wp2
  go_ret
  exact ⟨ret_bool (isB_f (by omega)).symm, rfl⟩
set_option maxHeartbeats 400000 in
theorem spec_l02SaveT (n : Int) (w : World) :
  Calls Tryz.prog 38 #[.int .i64 n] w fun e w' => e = .returned (.bool (isB n (-7200) 7200)) ∧ w' = w := by
 go_enter Tryz.func38, Tryz.ntmps38
 go_wp2_with (go_at_call 26; refine (spec_l01Is _ _ _ _).mono ?_; rintro e w' ⟨rfl, rfl⟩)
 go_ret
 exact ⟨rfl, rfl⟩
set_option maxHeartbeats 1000000 in
theorem impl_turnRight (t : TurnD) (w : World) (ok : t.ok) :
  Calls Tryz.prog 37 #[t.v] w fun e w' => e = .returned (.bool (turnB t)) ∧ Below w.heap.size w w' := by
 obtain ⟨at_, offset, save, abbr⟩ := t
 unfold TurnD.ok maxLen at ok
 have hS := fun w => impl_saveRightT save w
 have N1 := @turn_no1 ⟨at_, offset, save, abbr⟩
 have N2 := @turn_no2 ⟨at_, offset, save, abbr⟩
 have N3 := @turn_no3 ⟨at_, offset, save, abbr⟩
 have Y := @turn_yes ⟨at_, offset, save, abbr⟩
 generalize turnB ⟨at_, offset, save, abbr⟩ = b at *
 simp only [TurnD.v] at *
 by_cases h1 : -100000 ≤ offset
 ·
  by_cases h2 : offset ≤ 100000
  ·
   have h12 := isB_t h1 h2
   cases h3 : isB save (-7200) 7200
   ·
    have HR : Hid (b = false) := N2 h3
    rw [h3] at hS
    clear N1 N2 N3 Y h12 h3
    go_enter Tryz.func37, Tryz.ntmps37
    go_wp2_with (go_at_call 73; refine (hS _).mono ?_; rintro e w' ⟨rfl, rfl⟩)
    go_ret
    exact ⟨ret_bool HR.out.symm, (Below.refl _ _).alloc (Nat.le_refl _) _⟩
   ·
    rw [h3] at hS
    have HR : Hid (b = decide (abbr.size ≤ 20)) := by
     by_cases h4 : abbr.size ≤ 20
     ·
      exact (Y h12 h3 h4).trans (decide_eq_true h4).symm
     ·
      exact (N3 h4).trans (decide_eq_false h4).symm
    clear N1 N2 N3 Y h12 h3
    go_enter Tryz.func37, Tryz.ntmps37
    go_wp2_with (go_at_call 73; refine (hS _).mono ?_; rintro e w' ⟨rfl, rfl⟩)
    go_ret
    exact ⟨ret_bool (by rw [HR.out]; simp; omega), (Below.refl _ _).alloc (Nat.le_refl _) _⟩
  ·
   have HR : Hid (b = false) := N1 (isB_f (by simp; omega))
   clear N1 N2 N3 Y
   go_enter Tryz.func37, Tryz.ntmps37
   go_wp2_with (go_at_call 73; refine (hS _).mono ?_; rintro e w' ⟨rfl, rfl⟩)
   go_ret
   exact ⟨ret_bool HR.out.symm, (Below.refl _ _).alloc (Nat.le_refl _) _⟩
 ·
  have HR : Hid (b = false) := N1 (isB_f (by simp; omega))
  clear N1 N2 N3 Y
  go_enter Tryz.func37, Tryz.ntmps37
  go_wp2_with (go_at_call 73; refine (hS _).mono ?_; rintro e w' ⟨rfl, rfl⟩)
  go_ret
  exact ⟨ret_bool HR.out.symm, (Below.refl _ _).alloc (Nat.le_refl _) _⟩
theorem allT_no {α : Type} {l : List α} {p : α → Bool} {k : Nat} {x : α} (hk : l[k]? = some x) (h : p x = false) : l.all p = false := by
 rw [List.all_eq_false]
 exact ⟨x, List.mem_of_getElem? hk, by simp [h]⟩
theorem allT_yes {α : Type} {l : List α} {p : α → Bool} (h : ∀ j, j < l.length → ∀ x, l[j]? = some x → p x = true) : l.all p = true := by
 rw [List.all_eq_true]
 intro x hx
 obtain ⟨j, hj⟩ := List.getElem?_of_mem hx
 exact h j (List.getElem?_eq_some_iff.mp hj).1 x hj
set_option maxHeartbeats 2000000 in
theorem impl_allTurn (l : List TurnD) (a : Option Addr) (cap : Nat) (w : World) (hA : SeqAt w a 4 (l.map TurnD.cs)) (hok : ∀ r ∈ l, r.ok) (hl : l.length ≤ 1048576) :
  Calls Tryz.prog 36 #[.slice a l.length cap, .func (.func 37) #[] #[]] w fun e w' => e = .returned (.bool (l.all turnB)) ∧ Below w.heap.size w w' := by
 go_enter Tryz.func36, Tryz.ntmps36
 go_wp2
 go_loopw [9] (fun i wr => ∃ k : Nat, k ≤ l.length ∧ i = .int .i64 k ∧ Hid (∀ j, j < k → ∀ x, l[j]? = some x → turnB x = true) ∧ Below w.heap.size w wr) (fun i _ => l.length - (intOf i).toNat)
 case atStart => exact ⟨0, by omega, rfl, fun j hj => by omega, Below.refl _ _⟩
 case round =>
  obtain ⟨k, hk, rfl, hall, hB⟩ := hrel
  by_cases hlt : k < l.length
  ·
   obtain ⟨r, hr⟩ : ∃ r, l[k]? = some r := ⟨_, List.getElem?_eq_getElem hlt⟩
   have hrow : (l.map TurnD.cs)[k]? = some r.cs := by rw [List.getElem?_map, hr]; rfl
   obtain ⟨b, o, rfl, hc⟩ := (hA.below hB).at (i := k) hrow
   have ok := hok r (List.mem_of_getElem? hr)
   have hS := fun w => impl_turnRight r w ok
   have c0 : wr.cell? ⟨b, o + k * 4, none⟩ = some (.int .i64 r.at_) := hc 0 _ rfl
   have c1 := hc 1 _ rfl
   have c2 := hc 2 _ rfl
   have c3 := hc 3 _ rfl
   clear hc
   unfold TurnD.v at hS
   cases hb : turnB r
   ·
    have HR : Hid (l.all turnB = false) := allT_no hr hb
    rw [hb] at hS
    clear hb
    go_wp2_with fail
    refine (hS _).mono ?_
    rintro e w2 ⟨rfl, hb2⟩
    go_wp2
    go_ret
    exact ⟨ret_bool HR.out.symm, (hB.alloc hB.size _).trans (hb2.mono (by simp; have := hB.size; omega))⟩
   ·
    have HR : Hid (∀ j, j < k + 1 → ∀ x, l[j]? = some x → turnB x = true) := fun j hj x hx => by
     by_cases e : j = k
     ·
      subst e; rw [hr] at hx; obtain rfl := Option.some.inj hx; exact hb
     ·
      exact hall.out j (by omega) x hx
    rw [hb] at hS
    clear hb
    go_wp2_with fail
    refine (hS _).mono ?_
    rintro e w2 ⟨rfl, hb2⟩
    go_wp2
    go_roundw
    case rel => exact ⟨k + 1, by omega, by go_num, HR, (hB.alloc hB.size _).trans (hb2.mono (by simp; have := hB.size; omega))⟩
    case measure => simp [intOf]; omega
  ·
   have e : k = l.length := by omega
   subst e
   have HR : Hid (l.all turnB = true) := allT_yes hall.out
   go_wp2
   go_ret
   exact ⟨ret_bool HR.out.symm, hB⟩
set_option maxRecDepth 20000 in
set_option maxHeartbeats 2000000 in
theorem impl_TableRight (l : List TurnD) (v : Value) (w : World) (hv : TabAt w v l) (hok : ∀ r ∈ l, r.ok) (hl : l.length ≤ 1048576) :
  Calls Tryz.prog 16 #[v] w fun e w' => e = .returned (.bool (tabB l)) ∧ Below w.heap.size w w' := by
 obtain ⟨a, cap, rfl, hA⟩ := hv
 have hB0 := fun o => (Below.refl w.heap.size w).alloc (Nat.le_refl _) o
 by_cases hl0 : l.length < 1
 ·
  rw [tab_no1 (by omega)]
  go_enter Tryz.func16, Tryz.ntmps16
  go_wp2
  go_ret
  exact ⟨rfl, hB0 _⟩
 by_cases hl8 : 600 < l.length
 ·
  rw [tab_no1 (by omega)]
  go_enter Tryz.func16, Tryz.ntmps16
  go_wp2
  go_ret
  exact ⟨rfl, hB0 _⟩
 have h2 := fun w (h : SeqAt w a 4 (l.map TurnD.cs)) => impl_allTurn l a cap w h hok (by omega)
 cases ha : l.all turnB
 ·
  rw [tab_no2 ha]
  rw [ha] at h2
  clear ha
  go_enter Tryz.func16, Tryz.ntmps16
  go_wp2_with fail
  refine (h2 _ (hA.below (hB0 _))).mono ?_
  rintro e w1 ⟨rfl, hb1⟩
  go_wp2
  go_ret
  exact ⟨rfl, (hB0 _).trans (hb1.mono (by simp))⟩
 rw [ha] at h2
 have HZ : Hid (upT l = true → tabB l = endsT l) := fun h => tab_ends (by omega) ha h
 have HN : Hid (upT l = false → tabB l = false) := fun h => tab_no3 h
 clear ha
 generalize tabB l = zb at *
 go_enter Tryz.func16, Tryz.ntmps16
 go_wp2_with fail
 refine (h2 _ (hA.below (hB0 _))).mono ?_
 rintro e w1 ⟨rfl, hb1⟩
 obtain ⟨hc, _⟩ := bcell hb1
 have hB1 := (hB0 _).trans (hb1.mono (by simp))
 have x1 : w1.cell? ⟨w.heap.size, 0, none⟩ = some (.slice a l.length cap) := (hc _ _ (by simp)).trans (by simp [go_sem])
 have hA1 := hA.below hB1
 clear hc hb1 h2
 obtain ⟨n, hlen⟩ : ∃ n, l.length = n + 1 := ⟨l.length - 1, by omega⟩
 go_wp2
 go_loopw [22] (fun i wr => ∃ k : Nat, k ≤ n ∧ i = .int .i64 k ∧ Hid (∀ j, j < k → ∀ x y, l[j]? = some x → l[j + 1]? = some y → x.at_ < y.at_) ∧ Below w1.heap.size w1 wr) (fun i _ => n - (intOf i).toNat)
 case atStart => exact ⟨0, by omega, rfl, fun j hj => by omega, Below.refl _ _⟩
 case round =>
  obtain ⟨k, hk, rfl, hall, hB⟩ := hrel
  have y1 : wr.cell? ⟨w.heap.size, 0, none⟩ = some (.slice a l.length cap) := by rw [(bcell hB).1 _ _ (World.block_lt_of_cell? _ _ x1)]; exact x1
  have hBB := hB1.trans (hB.mono hB1.size)
  by_cases hlt : k < n
  ·
   obtain ⟨r, hr⟩ : ∃ r, l[k]? = some r := ⟨_, List.getElem?_eq_getElem (by omega)⟩
   obtain ⟨r2, hr2⟩ : ∃ r, l[k + 1]? = some r := ⟨_, List.getElem?_eq_getElem (by omega)⟩
   obtain ⟨b, o, rfl, hc⟩ := (hA1.below hB).at (i := k) (r := r.cs) (by rw [List.getElem?_map, hr]; rfl)
   obtain ⟨b', o', he, hd⟩ := (hA1.below hB).at (i := k + 1) (r := r2.cs) (by rw [List.getElem?_map, hr2]; rfl)
   injection he with he
   injection he with e1 e2
   subst e1 e2
   have c4 : wr.cell? ⟨b, o + k * 4, none⟩ = some (.int .i64 r.at_) := hc 0 _ rfl
   have d4 : wr.cell? ⟨b, o + (k + 1) * 4, none⟩ = some (.int .i64 r2.at_) := hd 0 _ rfl
   clear hc hd
   by_cases hu : r.at_ < r2.at_
   ·
    have HR : Hid (∀ j, j < k + 1 → ∀ x y, l[j]? = some x → l[j + 1]? = some y → x.at_ < y.at_) := fun j hj x y hx hy => by
     by_cases e : j = k
     ·
      subst e; rw [hr] at hx; rw [hr2] at hy; obtain rfl := Option.some.inj hx; obtain rfl := Option.some.inj hy; exact hu
     ·
      exact hall.out j (by omega) x y hx hy
    go_wp2_with fail
    go_quiet (fail)
    go_wp2
    go_roundw
    case rel => exact ⟨k + 1, by omega, by go_num, HR, below_drewN hB _⟩
    case measure => simp [intOf]; omega
   ·
    have HR : Hid (zb = false) := HN.out (upT_no hr hr2 hu)
    go_wp2_with fail
    go_quiet (fail)
    go_wp2
    go_ret
    exact ⟨ret_bool HR.out.symm, below_drewN hBB _⟩
  ·
   have e : k = n := by omega
   subst e
   obtain ⟨r, hr⟩ : ∃ r, l[k]? = some r := ⟨_, List.getElem?_eq_getElem (by omega)⟩
   obtain ⟨f, hf⟩ : ∃ r, l[0]? = some r := ⟨_, List.getElem?_eq_getElem (by omega)⟩
   obtain ⟨b, o, rfl, hc⟩ := (hA1.below hB).at (i := k) (r := r.cs) (by rw [List.getElem?_map, hr]; rfl)
   obtain ⟨b', o', he, hd⟩ := (hA1.below hB).at (i := 0) (r := f.cs) (by rw [List.getElem?_map, hf]; rfl)
   injection he with he
   injection he with e1 e2
   subst e1 e2
   have c4 : wr.cell? ⟨b, o + k * 4, none⟩ = some (.int .i64 r.at_) := hc 0 _ rfl
   have d4 : wr.cell? ⟨b, o, none⟩ = some (.int .i64 f.at_) := by simpa using hd 0 _ rfl
   clear hc hd
   have HR : Hid (zb = ((f.at_ == -62135596800) && decide (r.at_ ≤ 253402300799))) := by
    simp only [Hid]
    rw [HZ.out (upT_yes fun i x y hx hy => hall.out i (by have := (List.getElem?_eq_some_iff.mp hy).1; omega) x y hx hy)]
    exact ends_of hlen hf hr
   cases g : (f.at_ == -62135596800)
   ·
    rw [g] at HR
    go_wp2
    go_ret
    exact ⟨ret_bool HR.out.symm, hBB⟩
   ·
    rw [g] at HR
    go_wp2
    go_ret
    exact ⟨ret_bool (by rw [HR.out]; simp), hBB⟩
end Go.Proofs.YtcelbkmnbjcjhaaGreatDoor
namespace Go.Proofs.YtcelbkmnbjcjhaaGreatDoor
open Go.RowKit Go.Sort

set_option maxHeartbeats 4000000 in
theorem spec_TableRight (l : List TurnD) (v : Value) (w : World) (hv : TabAt w v l) (hok : ∀ r ∈ l, r.ok) :
  Calls Tryz.prog 17 #[v] w fun e w' => e = .returned (.bool (tabB l)) ∧ Below w.heap.size w w' := by
 obtain ⟨a, cap, rfl, hA⟩ := hv
 have hB0 := fun o => (Below.refl w.heap.size w).alloc (Nat.le_refl _) o
 by_cases hl0 : l.length < 1
 ·
  rw [tab_no1 (by omega)]
  go_enter Tryz.func17, Tryz.ntmps17
  go_wp2
  go_ret
  exact ⟨rfl, hB0 _⟩
 by_cases hl8 : 600 < l.length
 ·
  rw [tab_no1 (by omega)]
  go_enter Tryz.func17, Tryz.ntmps17
  go_wp2
  go_ret
  exact ⟨rfl, hB0 _⟩
 obtain ⟨f, hf⟩ : ∃ r, l[0]? = some r := ⟨_, List.getElem?_eq_getElem (by omega)⟩
 obtain ⟨b, o, rfl, hd⟩ := hA.at (i := 0) (r := f.cs) (by rw [List.getElem?_map, hf]; rfl)
 have d0 : w.cell? ⟨b, o, none⟩ = some (.int .i64 f.at_) := by simpa using hd 0 _ rfl
 have hbl := World.block_lt_of_cell? _ _ d0
 have hne : b ≠ w.heap.size := by simp at hbl; omega
 clear hd
 by_cases hf0 : f.at_ = -62135596800
 ·
  have HN1 : Hid (∀ (k : Nat) (x : TurnD), l[k]? = some x → 253402300799 < x.at_ → tabB l = false) := fun k x hk h => tab_top hk h
  have HN2 : Hid (∀ (j : Nat) (p x : TurnD), l[j]? = some p → l[j + 1]? = some x → x.at_ ≤ p.at_ → tabB l = false) := fun j p x hp hx h => tab_up hp hx h
  have HN3 : Hid (∀ (k : Nat) (x : TurnD), l[k]? = some x → turnB x = false → tabB l = false) := fun k x hk h => tab_one hk h
  have HY : Hid ((∀ (k : Nat) (x : TurnD), l[k]? = some x → TStep l k x) → tabB l = true) := fun h => tab_yes (by omega) hf hf0 h
  generalize tabB l = zb at *
  have hB0' := hB0 (.cells #[.slice (some ⟨b, o, none⟩) l.length cap] 42)
  have hA1 := hA.below hB0'
  have x0 : (w.alloc (.cells #[.slice (some ⟨b, o, none⟩) l.length cap] 42)).cell? ⟨w.heap.size, 0, none⟩ = some (.slice (some ⟨b, o, none⟩) l.length cap) := by simp [go_sem]
  have g0 : (f.at_ != -62135596800) = false := by simp [hf0]
  clear hB0
  go_enter Tryz.func17, Tryz.ntmps17
  go_wp2
  clear g0 d0 hne hbl hf0 hA
  generalize hW : (w.alloc (.cells #[.slice (some ⟨b, o, none⟩) l.length cap] 42)) = W at *
  go_loopw [3] (fun i wr => ∃ k : Nat, k ≤ l.length ∧ i = .int .i64 k ∧ Hid (∀ j, j < k → ∀ x, l[j]? = some x → TStep l j x) ∧ Below W.heap.size W wr) (fun i _ => l.length - (intOf i).toNat)
  case atStart => exact ⟨0, by omega, rfl, fun j hj => by omega, by subst hW; exact Below.refl _ _⟩
  case round =>
   obtain ⟨k, hk, rfl, hall, hB⟩ := hrel
   by_cases hlt : k < l.length
   ·
    obtain ⟨x, hx⟩ : ∃ x, l[k]? = some x := ⟨_, List.getElem?_eq_getElem hlt⟩
    have okx := hok x (List.mem_of_getElem? hx)
    unfold TurnD.ok maxLen at okx
    have hBV : Below W.heap.size W (wr.alloc (.cells #[.int .i64 x.at_, .int .i64 x.offset, .int .i64 x.save, .string x.abbr] 53)) := hB.alloc hB.size _
    obtain ⟨b', o', he, hc⟩ := (hA1.below hB).at (i := k) (r := x.cs) (by rw [List.getElem?_map, hx]; rfl)
    injection he with he
    injection he with u1 u2
    subst u1 u2
    have c0 : wr.cell? ⟨b, o + k * 4, none⟩ = some (.int .i64 x.at_) := hc 0 _ rfl
    have c1 := hc 1 _ rfl
    have c2 := hc 2 _ rfl
    have c3 := hc 3 _ rfl
    clear hc
    have y0 : wr.cell? ⟨w.heap.size, 0, none⟩ = some (.slice (some ⟨b, o, none⟩) l.length cap) := by rw [(bcell hB).1 _ _ (World.block_lt_of_cell? _ _ x0)]; exact x0
    have z0 : (wr.alloc (.cells #[.int .i64 x.at_, .int .i64 x.offset, .int .i64 x.save, .string x.abbr] 53)).cell? ⟨w.heap.size, 0, none⟩ = some (.slice (some ⟨b, o, none⟩) l.length cap) := by rw [(bcell hBV).1 _ _ (World.block_lt_of_cell? _ _ x0)]; exact x0
    have e0 : (wr.alloc (.cells #[.int .i64 x.at_, .int .i64 x.offset, .int .i64 x.save, .string x.abbr] 53)).cell? ⟨wr.heap.size, 0, none⟩ = some (.int .i64 x.at_) := by first | (simp; done) | simp [go_sem]
    have e1 : (wr.alloc (.cells #[.int .i64 x.at_, .int .i64 x.offset, .int .i64 x.save, .string x.abbr] 53)).cell? ⟨wr.heap.size, 1, none⟩ = some (.int .i64 x.offset) := by first | (simp; done) | simp [go_sem]
    have e2 : (wr.alloc (.cells #[.int .i64 x.at_, .int .i64 x.offset, .int .i64 x.save, .string x.abbr] 53)).cell? ⟨wr.heap.size, 2, none⟩ = some (.int .i64 x.save) := by first | (simp; done) | simp [go_sem]
    have e3 : (wr.alloc (.cells #[.int .i64 x.at_, .int .i64 x.offset, .int .i64 x.save, .string x.abbr] 53)).cell? ⟨wr.heap.size, 3, none⟩ = some (.string x.abbr) := by first | (simp; done) | simp [go_sem]
    have hA2 := hA1.below hBV
    go_wp2_with fail
    generalize hV : (wr.alloc (.cells #[.int .i64 x.at_, .int .i64 x.offset, .int .i64 x.save, .string x.abbr] 53)) = V at *
    generalize wr.heap.size = g at *
    clear c0 c1 c2 c3 y0
    have HS : Hid (∀ i, i < k → ∀ y, l[i]? = some y → TStep l i y) := hall
    clear hall
    by_cases h1 : x.at_ ≤ 253402300799
    ·
     have g1 : decide (253402300799 < x.at_) = false := by simpa using h1
     by_cases hk0 : k = 0
     ·
      have g2 : decide (0 < k) = false := by simp [hk0]
      have g3 : decide ((0 : Int) < (k : Int)) = false := by simp [hk0]
      have hk0' : Hid (k = 0) := hk0
      clear hk0
      cases h4 : isB x.offset (-100000) 100000
      ·
       have hS := fun w => spec_l02SaveT x.save w
       have HR : Hid (zb = false) := HN3.out _ x hx (turn_no1 h4)
       clear HN1 HN2 HN3 HY HS
       go_quiet ((first | (go_at_call 26; exact Calls.quiet_of_same (spec_l01Is_v h4 _)) | (go_at_call 38; exact Calls.quiet_of_same (hS _))))
       go_wp2
       go_ret
       exact ⟨ret_bool HR.out.symm, below_drewN (hB0'.trans (hBV.mono hB0'.size)) _⟩
      cases h5 : isB x.save (-7200) 7200
      ·
       have hS := fun w => h5 ▸ spec_l02SaveT x.save w
       have HR : Hid (zb = false) := HN3.out _ x hx (turn_no2 h5)
       clear HN1 HN2 HN3 HY HS
       go_quiet ((first | (go_at_call 26; exact Calls.quiet_of_same (spec_l01Is_v h4 _)) | (go_at_call 38; exact Calls.quiet_of_same (hS _))))
       go_wp2
       go_ret
       exact ⟨ret_bool HR.out.symm, below_drewN (hB0'.trans (hBV.mono hB0'.size)) _⟩
      have hS := fun w => h5 ▸ spec_l02SaveT x.save w
      by_cases h6 : x.abbr.size ≤ 20
      ·
       have g6 : decide (20 < x.abbr.size) = false := by simpa using h6
       have g7 : decide ((20 : Int) < (x.abbr.size : Int)) = false := by simp; omega
       have HR : Hid (∀ i, i < k + 1 → ∀ y, l[i]? = some y → TStep l i y) := fun i hi y hy => by
        by_cases e : i = k
        ·
         subst e; rw [hx] at hy; obtain rfl := Option.some.inj hy; exact ⟨by omega, fun j p hj _ => by have := hk0'.out; omega, turn_yes h4 h5 h6⟩
        ·
         exact HS.out i (by omega) y hy
       clear HN1 HN2 HN3 HY HS
       go_quiet ((first | (go_at_call 26; exact Calls.quiet_of_same (spec_l01Is_v h4 _)) | (go_at_call 38; exact Calls.quiet_of_same (hS _))))
       go_wp2
       go_roundw
       case rel => exact ⟨k + 1, by omega, by go_num, HR, below_drewN hBV _⟩
       case measure => simp [intOf]; omega
      ·
       have g6 : decide (20 < x.abbr.size) = true := by simpa using h6
       have g7 : decide ((20 : Int) < (x.abbr.size : Int)) = true := by simp; omega
       have HR : Hid (zb = false) := HN3.out _ x hx (turn_no3 h6)
       clear HN1 HN2 HN3 HY HS
       go_quiet ((first | (go_at_call 26; exact Calls.quiet_of_same (spec_l01Is_v h4 _)) | (go_at_call 38; exact Calls.quiet_of_same (hS _))))
       go_wp2
       go_ret
       exact ⟨ret_bool HR.out.symm, below_drewN (hB0'.trans (hBV.mono hB0'.size)) _⟩
     ·
      obtain ⟨j, rfl⟩ : ∃ j, k = j + 1 := ⟨k - 1, by omega⟩
      obtain ⟨q, hq⟩ : ∃ q, l[j]? = some q := ⟨_, List.getElem?_eq_getElem (by omega)⟩
      obtain ⟨b', o', he, hd⟩ := hA2.at (i := j) (r := q.cs) (by rw [List.getElem?_map, hq]; rfl)
      injection he with he
      injection he with u1 u2
      subst u1 u2
      have p0 : V.cell? ⟨b, o + j * 4, none⟩ = some (.int .i64 q.at_) := hd 0 _ rfl
      clear hd
      by_cases hu : q.at_ < x.at_
      ·
       have hu' : decide (x.at_ ≤ q.at_) = false := by simpa using hu
       cases h4 : isB x.offset (-100000) 100000
       ·
        have hS := fun w => spec_l02SaveT x.save w
        have HR : Hid (zb = false) := HN3.out _ x hx (turn_no1 h4)
        clear HN1 HN2 HN3 HY HS
        go_quiet ((first | (go_at_call 26; exact Calls.quiet_of_same (spec_l01Is_v h4 _)) | (go_at_call 38; exact Calls.quiet_of_same (hS _))))
        go_wp2
        go_ret
        exact ⟨ret_bool HR.out.symm, below_drewN (hB0'.trans (hBV.mono hB0'.size)) _⟩
       cases h5 : isB x.save (-7200) 7200
       ·
        have hS := fun w => h5 ▸ spec_l02SaveT x.save w
        have HR : Hid (zb = false) := HN3.out _ x hx (turn_no2 h5)
        clear HN1 HN2 HN3 HY HS
        go_quiet ((first | (go_at_call 26; exact Calls.quiet_of_same (spec_l01Is_v h4 _)) | (go_at_call 38; exact Calls.quiet_of_same (hS _))))
        go_wp2
        go_ret
        exact ⟨ret_bool HR.out.symm, below_drewN (hB0'.trans (hBV.mono hB0'.size)) _⟩
       have hS := fun w => h5 ▸ spec_l02SaveT x.save w
       by_cases h6 : x.abbr.size ≤ 20
       ·
        have g6 : decide (20 < x.abbr.size) = false := by simpa using h6
        have g7 : decide ((20 : Int) < (x.abbr.size : Int)) = false := by simp; omega
        have HR : Hid (∀ i, i < (j + 1) + 1 → ∀ y, l[i]? = some y → TStep l i y) := fun i hi y hy => by
         by_cases e : i = (j + 1)
         ·
          subst e; rw [hx] at hy; obtain rfl := Option.some.inj hy; exact ⟨by omega, fun i p hi hp => by obtain rfl : i = j := (by omega); rw [hq] at hp; obtain rfl := Option.some.inj hp; exact hu, turn_yes h4 h5 h6⟩
         ·
          exact HS.out i (by omega) y hy
        clear HN1 HN2 HN3 HY HS
        go_quiet ((first | (go_at_call 26; exact Calls.quiet_of_same (spec_l01Is_v h4 _)) | (go_at_call 38; exact Calls.quiet_of_same (hS _))))
        go_wp2
        go_roundw
        case rel => exact ⟨(j + 1) + 1, by omega, by go_num, HR, below_drewN hBV _⟩
        case measure => simp [intOf]; omega
       ·
        have g6 : decide (20 < x.abbr.size) = true := by simpa using h6
        have g7 : decide ((20 : Int) < (x.abbr.size : Int)) = true := by simp; omega
        have HR : Hid (zb = false) := HN3.out _ x hx (turn_no3 h6)
        clear HN1 HN2 HN3 HY HS
        go_quiet ((first | (go_at_call 26; exact Calls.quiet_of_same (spec_l01Is_v h4 _)) | (go_at_call 38; exact Calls.quiet_of_same (hS _))))
        go_wp2
        go_ret
        exact ⟨ret_bool HR.out.symm, below_drewN (hB0'.trans (hBV.mono hB0'.size)) _⟩
      ·
       have hu' : decide (x.at_ ≤ q.at_) = true := by simpa using hu
       have h4 := spec_l01Is x.offset
       have hS := fun w => spec_l02SaveT x.save w
       have HR : Hid (zb = false) := HN2.out j q x hq hx (by omega)
       clear HN1 HN2 HN3 HY HS
       go_quiet ((first | (go_at_call 26; exact Calls.quiet_of_same (spec_l01Is _ _ _ _)) | (go_at_call 38; exact Calls.quiet_of_same (hS _))))
       go_wp2
       go_ret
       exact ⟨ret_bool HR.out.symm, below_drewN (hB0'.trans (hBV.mono hB0'.size)) _⟩
    ·
     have g1 : decide (253402300799 < x.at_) = true := by simpa using h1
     have hS := fun w => spec_l02SaveT x.save w
     have HR : Hid (zb = false) := HN1.out k x hx (by omega)
     clear HN1 HN2 HN3 HY HS
     go_quiet ((first | (go_at_call 26; exact Calls.quiet_of_same (spec_l01Is _ _ _ _)) | (go_at_call 38; exact Calls.quiet_of_same (hS _))))
     go_wp2
     go_ret
     exact ⟨ret_bool HR.out.symm, below_drewN (hB0'.trans (hBV.mono hB0'.size)) _⟩
   ·
    have e : k = l.length := by omega
    subst e
    have y0 : wr.cell? ⟨w.heap.size, 0, none⟩ = some (.slice (some ⟨b, o, none⟩) l.length cap) := by rw [(bcell hB).1 _ _ (World.block_lt_of_cell? _ _ x0)]; exact x0
    have HR : Hid (zb = true) := HY.out fun j y hy => hall.out j (List.getElem?_eq_some_iff.mp hy).1 y hy
    go_wp2
    go_ret
    exact ⟨ret_bool HR.out.symm, hB0'.trans (hB.mono hB0'.size)⟩
 ·
  rw [tab_first hf hf0]
  have g0 : (f.at_ != -62135596800) = true := by simpa using hf0
  clear hf0
  go_enter Tryz.func17, Tryz.ntmps17
  go_wp2
  go_ret
  exact ⟨rfl, hB0 _⟩
end Go.Proofs.YtcelbkmnbjcjhaaGreatDoor
