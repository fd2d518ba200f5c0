/- Packed: TabRel TabMath TabImpl TabSpec TabAt TabTurn TabTurn2 Wall1 Wall2 Eqs. -/
import Derived.Test.YtcelbkmnbjcjhaaRelAw
import Derived.Laws.EntriesVeiled
import Derived.Deep.RegionHeld3
import Derived.Laws.OwnMore
namespace Go.Proofs.Ytcelbkmnbjcjhaa
open Go.RowKit Go.Sort

/-- a table in memory: a list of turns. -/
def TabAt (w : World) (v : Value) (l : List TurnD) : Prop := ∃ a cap, v = .agg #[.slice a l.length cap] ∧ SeqAt w a 4 (l.map TurnD.cs)
theorem TabAt.below {w w' : World} {v : Value} {l : List TurnD} (h : TabAt w v l) (hb : Below w.heap.size w w') : TabAt w' v l := by
  obtain ⟨a, cap, rfl, hA⟩ := h
  exact ⟨a, cap, rfl, hA.below hb⟩
/-- a table of one's own memory, from a block on. -/
def OwnTab (w : World) (B : Nat) (v : Value) (l : List TurnD) : Prop := ∃ g, v = .agg #[.slice (some ⟨g, 0, none⟩) l.length l.length] ∧ B ≤ g ∧ SeqAt w (some ⟨g, 0, none⟩) 4 (l.map TurnD.cs) ∧ Room w g (l.length * 4)
theorem OwnTab.tab {w : World} {B : Nat} {v : Value} {l : List TurnD} (h : OwnTab w B v l) : TabAt w v l := by
  obtain ⟨g, hv, _, h1, _⟩ := h
  exact ⟨_, _, hv, h1⟩
theorem OwnTab.below {w w' : World} {B : Nat} {v : Value} {l : List TurnD} (h : OwnTab w B v l) (hb : Below w.heap.size w w') : OwnTab w' B v l := by
  obtain ⟨g, hv, hg, h1, h2⟩ := h
  exact ⟨g, hv, hg, h1.below hb, h2.below hb⟩
theorem ne_blk2T {p q i j : Nat} (h : p ≠ q) : (⟨p, i, none⟩ : Addr) ≠ ⟨q, j, none⟩ := fun e => by injection e with e1; exact h e1
theorem SeqAt.keepT {w w' : World} {g k : Nat} {rows : List (List Value)} (h : SeqAt w (some ⟨g, 0, none⟩) k rows) (hc : ∀ x, w'.cell? ⟨g, x, none⟩ = w.cell? ⟨g, x, none⟩) : SeqAt w' (some ⟨g, 0, none⟩) k rows := by
  rcases h with h | ⟨b, o, ha, hh⟩
  · exact .inl h
  · injection ha with ha
    injection ha with h1 h2
    subst h1 h2
    exact .inr ⟨_, _, rfl, fun i j r c hi hj => by rw [hc]; exact hh i j r c hi hj⟩
theorem Room.keepT {w w' : World} {g m : Nat} (h : Room w g m) (hc : ∀ x, w'.cell? ⟨g, x, none⟩ = w.cell? ⟨g, x, none⟩) (hf : ∀ x, w'.frozen? ⟨g, x, none⟩ = w.frozen? ⟨g, x, none⟩) : Room w' g m := fun x hx => by
  obtain ⟨⟨v, hv⟩, hz⟩ := h x hx
  exact ⟨⟨v, by rw [hc]; exact hv⟩, by rw [hf]; exact hz⟩
end Go.Proofs.Ytcelbkmnbjcjhaa
namespace Go.Proofs.Ytcelbkmnbjcjhaa
open Go.RowKit

/-- what is asked of a turn. -/
def turnB (t : TurnD) : Bool := isB t.offset (-100000) 100000 && (isB t.save (-7200) 7200 && decide (t.abbr.size ≤ 20))
theorem turn_no1 {t : TurnD} (h : isB t.offset (-100000) 100000 = false) : turnB t = false := by unfold turnB; rw [h]; rfl
theorem turn_no2 {t : TurnD} (h : isB t.save (-7200) 7200 = false) : turnB t = false := by unfold turnB; rw [h]; simp
theorem turn_no3 {t : TurnD} (h : ¬ t.abbr.size ≤ 20) : turnB t = false := by unfold turnB; rw [decide_eq_false h]; simp
theorem turn_yes {t : TurnD} (h1 : isB t.offset (-100000) 100000 = true) (h2 : isB t.save (-7200) 7200 = true) (h3 : t.abbr.size ≤ 20) : turnB t = true := by unfold turnB; rw [h1, h2, decide_eq_true h3]; rfl
/-- the turns rise. -/
def upT : List TurnD → Bool
  | [] => true
  | [_] => true
  | x :: y :: l => decide (x.at_ < y.at_) && upT (y :: l)
theorem upT_no {es : List TurnD} : ∀ {i : Nat} {x y : TurnD}, es[i]? = some x → es[i + 1]? = some y → ¬ x.at_ < y.at_ → upT es = false := by
  induction es with
  | nil => intro i x y h; simp at h
  | cons a l ih =>
    intro i x y hx hy hn
    match l, i with
    | [], _ => simp at hy
    | b :: l, 0 =>
      simp at hx hy
      subst hx hy
      simp [upT, hn]
    | b :: l, i + 1 =>
      have := ih (i := i) (x := x) (y := y) (by simpa using hx) (by simpa using hy) hn
      simp only [upT, this, Bool.and_false]
theorem upT_yes {es : List TurnD} (h : ∀ i x y, es[i]? = some x → es[i + 1]? = some y → x.at_ < y.at_) : upT es = true := by
  induction es with
  | nil => rfl
  | cons a l ih =>
    match l with
    | [] => rfl
    | b :: l =>
      have h0 := h 0 a b rfl rfl
      have := ih fun i x y hx hy => h (i + 1) x y (by simpa using hx) (by simpa using hy)
      simp only [upT, this, decide_eq_true h0, Bool.and_true]
theorem upT_of {es : List TurnD} (h : upT es = true) {i : Nat} {x y : TurnD} (hx : es[i]? = some x) (hy : es[i + 1]? = some y) : x.at_ < y.at_ := by
  by_cases hn : x.at_ < y.at_
  · exact hn
  · rw [upT_no hx hy hn] at h; cases h
theorem upT_le {es : List TurnD} (h : upT es = true) {i : Nat} {x : TurnD} (hx : es[i]? = some x) : ∀ (d : Nat) {y : TurnD}, es[i + d]? = some y → x.at_ ≤ y.at_ := by
  intro d
  induction d with
  | zero => intro y hy; rw [Nat.add_zero, hx] at hy; obtain rfl := Option.some.inj hy; exact Int.le_refl _
  | succ d ih =>
    intro y hy
    have hlt := (List.getElem?_eq_some_iff.mp hy).1
    obtain ⟨z, hz⟩ : ∃ z, es[i + d]? = some z := ⟨_, List.getElem?_eq_getElem (by omega)⟩
    have h1 := ih hz
    have h2 := upT_of h hz (y := y) (by rw [show i + d + 1 = i + (d + 1) by omega]; exact hy)
    omega
theorem upT_le2 {es : List TurnD} (h : upT es = true) {i j : Nat} (hij : i ≤ j) {x y : TurnD} (hx : es[i]? = some x) (hy : es[j]? = some y) : x.at_ ≤ y.at_ :=
  upT_le h hx (j - i) (by rw [show i + (j - i) = j by omega]; exact hy)
def endsT (l : List TurnD) : Bool := match l[0]?, l[l.length - 1]? with
  | some a, some b => (a.at_ == -62135596800) && decide (b.at_ ≤ 253402300799)
  | _, _ => false
/-- is a table right? -/
def tabB (l : List TurnD) : Bool := decide (1 ≤ l.length ∧ l.length ≤ 600) && (l.all turnB && (upT l && endsT l))
theorem tab_no1 {l : List TurnD} (h : ¬ (1 ≤ l.length ∧ l.length ≤ 600)) : tabB l = false := by unfold tabB; rw [decide_eq_false h]; rfl
theorem tab_no2 {l : List TurnD} (h : l.all turnB = false) : tabB l = false := by unfold tabB; rw [h]; simp
theorem tab_no3 {l : List TurnD} (h : upT l = false) : tabB l = false := by unfold tabB; rw [h]; simp
theorem tab_no4 {l : List TurnD} (h : endsT l = false) : tabB l = false := by unfold tabB; rw [h]; simp
theorem tab_ends {l : List TurnD} (h1 : 1 ≤ l.length ∧ l.length ≤ 600) (h2 : l.all turnB = true) (h3 : upT l = true) : tabB l = endsT l := by unfold tabB; rw [decide_eq_true h1, h2, h3]; simp
theorem ends_of {l : List TurnD} {n : Nat} {a b : TurnD} (hn : l.length = n + 1) (ha : l[0]? = some a) (hb : l[n]? = some b) : endsT l = ((a.at_ == -62135596800) && decide (b.at_ ≤ 253402300799)) := by
  unfold endsT
  rw [show l.length - 1 = n by omega, ha, hb]
theorem tab_first {l : List TurnD} {a : TurnD} (ha : l[0]? = some a) (h : a.at_ ≠ -62135596800) : tabB l = false := by
  apply tab_no4
  unfold endsT
  rw [ha]
  cases l[l.length - 1]? with
  | none => rfl
  | some b => simp [h]
theorem tab_top {l : List TurnD} {k : Nat} {x : TurnD} (hx : l[k]? = some x) (h : 253402300799 < x.at_) : tabB l = false := by
  cases hu : upT l
  · exact tab_no3 hu
  · apply tab_no4
    have hk := (List.getElem?_eq_some_iff.mp hx).1
    obtain ⟨b, hb⟩ : ∃ b, l[l.length - 1]? = some b := ⟨_, List.getElem?_eq_getElem (by omega)⟩
    have := upT_le2 hu (show k ≤ l.length - 1 by omega) hx hb
    unfold endsT
    rw [hb]
    cases l[0]? with
    | none => rfl
    | some a => simp; omega
theorem tab_up {l : List TurnD} {j : Nat} {p x : TurnD} (hp : l[j]? = some p) (hx : l[j + 1]? = some x) (h : x.at_ ≤ p.at_) : tabB l = false := tab_no3 (upT_no hp hx (by omega))
theorem tab_one {l : List TurnD} {k : Nat} {x : TurnD} (hx : l[k]? = some x) (h : turnB x = false) : tabB l = false := by
  apply tab_no2
  rw [List.all_eq_false]
  exact ⟨x, List.mem_of_getElem? hx, by simp [h]⟩
/-- what is asked of the turn at a place. -/
structure TStep (l : List TurnD) (k : Nat) (x : TurnD) : Prop where
  top : x.at_ ≤ 253402300799
  up : ∀ j p, k = j + 1 → l[j]? = some p → p.at_ < x.at_
  one : turnB x = true
theorem tab_yes {l : List TurnD} {a : TurnD} (h1 : 1 ≤ l.length ∧ l.length ≤ 600) (ha : l[0]? = some a) (h0 : a.at_ = -62135596800) (h : ∀ k x, l[k]? = some x → TStep l k x) : tabB l = true := by
  have h2 : l.all turnB = true := by
    rw [List.all_eq_true]
    intro x hx
    obtain ⟨k, hk⟩ := List.getElem?_of_mem hx
    exact (h k x hk).one
  have h3 : upT l = true := upT_yes fun i x y hx hy => (h _ y hy).up i x rfl hx
  rw [tab_ends h1 h2 h3]
  obtain ⟨b, hb⟩ : ∃ b, l[l.length - 1]? = some b := ⟨_, List.getElem?_eq_getElem (by omega)⟩
  rw [ends_of (n := l.length - 1) (by omega) ha hb]
  simp [h0, (h _ b hb).top]
structure TabR (l : List TurnD) : Prop where
  len : 1 ≤ l.length ∧ l.length ≤ 600
  up : upT l = true
  first : ∀ a, l[0]? = some a → a.at_ = -62135596800
  top : ∀ (k : Nat) x, l[k]? = some x → x.at_ ≤ 253402300799
  one : ∀ x ∈ l, turnB x = true
theorem tab_of {l : List TurnD} (h : tabB l = true) : TabR l := by
  have hh := h
  unfold tabB at h
  simp only [Bool.and_eq_true, decide_eq_true_eq, List.all_eq_true] at h
  obtain ⟨h1, h2, h3, h4⟩ := h
  refine ⟨h1, h3, fun a ha => ?_, fun k x hx => ?_, h2⟩
  · by_cases e : a.at_ = -62135596800
    · exact e
    · rw [tab_first ha e] at hh; cases hh
  · by_cases e : x.at_ ≤ 253402300799
    · exact e
    · rw [tab_top hx (by omega)] at hh; cases hh
theorem countP_cut (p : Nat → Bool) (m : Nat) : ∀ n, m ≤ n → (∀ i, i < m → p i = true) → (∀ i, m ≤ i → i < n → p i = false) → (List.range n).countP p = m := by
  intro n
  induction n with
  | zero => intro h _ _; simp; omega
  | succ n ih =>
    intro h h1 h2
    rw [List.range_succ, List.countP_append]
    by_cases e : m = n + 1
    · have hall : ∀ k, k ≤ n → (List.range k).countP p = k := by
        intro k
        induction k with
        | zero => intro _; rfl
        | succ k ihk => intro hk; rw [List.range_succ, List.countP_append, ihk (by omega)]; simp [h1 k (by omega)]
      rw [hall n (Nat.le_refl _)]
      simp [h1 n (by omega), e]
    · rw [ih (by omega) h1 fun i h3 h4 => h2 i h3 (by omega)]
      simp [h2 n (by omega) (by omega)]
end Go.Proofs.Ytcelbkmnbjcjhaa
namespace Go.Proofs.Ytcelbkmnbjcjhaa
open Go.RowKit

set_option maxHeartbeats 400000 in
theorem impl_saveRightT (n : Int) (w : World) :
    Calls Try.prog 49 #[.int .i64 n] w fun e w' => e = .returned (.bool (isB n (-7200) 7200)) ∧ w' = w := by
  by_cases h : -7200 ≤ n
  · go_enter Try.func49, Try.ntmps49
    go_wp2
    go_ret
    exact ⟨ret_bool (by unfold isB; simp [h]), rfl⟩
  · go_enter Try.func49, Try.ntmps49
    go_wp2
    go_ret
    exact ⟨ret_bool (isB_f (by omega)).symm, rfl⟩
set_option maxHeartbeats 400000 in
theorem spec_l02SaveT (n : Int) (w : World) :
    Calls Try.prog 31 #[.int .i64 n] w fun e w' => e = .returned (.bool (isB n (-7200) 7200)) ∧ w' = w := by
  go_enter Try.func31, Try.ntmps31
  go_wp2_with (go_at_call 30; refine (spec_l01Is _ _ _ _).mono ?_; rintro e w' ⟨rfl, rfl⟩)
  go_ret
  exact ⟨rfl, rfl⟩
set_option maxHeartbeats 1000000 in
theorem impl_turnRight (t : TurnD) (w : World) (ok : t.ok) :
    Calls Try.prog 29 #[t.v] w fun e w' => e = .returned (.bool (turnB t)) ∧ Below w.heap.size w w' := by
  obtain ⟨at_, offset, save, abbr⟩ := t
  unfold TurnD.ok maxLen at ok
  have hS := fun w => impl_saveRightT save w
  have N1 := @turn_no1 ⟨at_, offset, save, abbr⟩
  have N2 := @turn_no2 ⟨at_, offset, save, abbr⟩
  have N3 := @turn_no3 ⟨at_, offset, save, abbr⟩
  have Y := @turn_yes ⟨at_, offset, save, abbr⟩
  generalize turnB ⟨at_, offset, save, abbr⟩ = b at *
  simp only [TurnD.v] at *
  by_cases h1 : -100000 ≤ offset
  · by_cases h2 : offset ≤ 100000
    · have h12 := isB_t h1 h2
      cases h3 : isB save (-7200) 7200
      · have HR : Hid (b = false) := N2 h3
        rw [h3] at hS
        clear N1 N2 N3 Y h12 h3
        go_enter Try.func29, Try.ntmps29
        go_wp2_with (go_at_call 49; refine (hS _).mono ?_; rintro e w' ⟨rfl, rfl⟩)
        go_ret
        exact ⟨ret_bool HR.out.symm, (Below.refl _ _).alloc (Nat.le_refl _) _⟩
      · rw [h3] at hS
        have HR : Hid (b = decide (abbr.size ≤ 20)) := by
          by_cases h4 : abbr.size ≤ 20
          · exact (Y h12 h3 h4).trans (decide_eq_true h4).symm
          · exact (N3 h4).trans (decide_eq_false h4).symm
        clear N1 N2 N3 Y h12 h3
        go_enter Try.func29, Try.ntmps29
        go_wp2_with (go_at_call 49; refine (hS _).mono ?_; rintro e w' ⟨rfl, rfl⟩)
        go_ret
        exact ⟨ret_bool (by rw [HR.out]; simp; omega), (Below.refl _ _).alloc (Nat.le_refl _) _⟩
    · have HR : Hid (b = false) := N1 (isB_f (by simp; omega))
      clear N1 N2 N3 Y
      go_enter Try.func29, Try.ntmps29
      go_wp2_with (go_at_call 49; refine (hS _).mono ?_; rintro e w' ⟨rfl, rfl⟩)
      go_ret
      exact ⟨ret_bool HR.out.symm, (Below.refl _ _).alloc (Nat.le_refl _) _⟩
  · have HR : Hid (b = false) := N1 (isB_f (by simp; omega))
    clear N1 N2 N3 Y
    go_enter Try.func29, Try.ntmps29
    go_wp2_with (go_at_call 49; refine (hS _).mono ?_; rintro e w' ⟨rfl, rfl⟩)
    go_ret
    exact ⟨ret_bool HR.out.symm, (Below.refl _ _).alloc (Nat.le_refl _) _⟩
theorem allT_no {α : Type} {l : List α} {p : α → Bool} {k : Nat} {x : α} (hk : l[k]? = some x) (h : p x = false) : l.all p = false := by
  rw [List.all_eq_false]
  exact ⟨x, List.mem_of_getElem? hk, by simp [h]⟩
theorem allT_yes {α : Type} {l : List α} {p : α → Bool} (h : ∀ j, j < l.length → ∀ x, l[j]? = some x → p x = true) : l.all p = true := by
  rw [List.all_eq_true]
  intro x hx
  obtain ⟨j, hj⟩ := List.getElem?_of_mem hx
  exact h j (List.getElem?_eq_some_iff.mp hj).1 x hj
set_option maxHeartbeats 2000000 in
theorem impl_allTurn (l : List TurnD) (a : Option Addr) (cap : Nat) (w : World) (hA : SeqAt w a 4 (l.map TurnD.cs)) (hok : ∀ r ∈ l, r.ok) (hl : l.length ≤ 1048576) :
    Calls Try.prog 28 #[.slice a l.length cap, .func (.func 29) #[] #[]] w fun e w' => e = .returned (.bool (l.all turnB)) ∧ Below w.heap.size w w' := by
  go_enter Try.func28, Try.ntmps28
  go_wp2
  go_loopw [9] (fun i wr => ∃ k : Nat, k ≤ l.length ∧ i = .int .i64 k ∧ Hid (∀ j, j < k → ∀ x, l[j]? = some x → turnB x = true) ∧ Below w.heap.size w wr) (fun i _ => l.length - (intOf i).toNat)
  case atStart => exact ⟨0, by omega, rfl, fun j hj => by omega, Below.refl _ _⟩
  case round =>
    obtain ⟨k, hk, rfl, hall, hB⟩ := hrel
    by_cases hlt : k < l.length
    · obtain ⟨r, hr⟩ : ∃ r, l[k]? = some r := ⟨_, List.getElem?_eq_getElem hlt⟩
      have hrow : (l.map TurnD.cs)[k]? = some r.cs := by rw [List.getElem?_map, hr]; rfl
      obtain ⟨b, o, rfl, hc⟩ := (hA.below hB).at (i := k) hrow
      have ok := hok r (List.mem_of_getElem? hr)
      have hS := fun w => impl_turnRight r w ok
      have c0 : wr.cell? ⟨b, o + k * 4, none⟩ = some (.int .i64 r.at_) := hc 0 _ rfl
      have c1 := hc 1 _ rfl
      have c2 := hc 2 _ rfl
      have c3 := hc 3 _ rfl
      clear hc
      unfold TurnD.v at hS
      cases hb : turnB r
      · have HR : Hid (l.all turnB = false) := allT_no hr hb
        rw [hb] at hS
        clear hb
        go_wp2_with fail
        refine (hS _).mono ?_
        rintro e w2 ⟨rfl, hb2⟩
        go_wp2
        go_ret
        exact ⟨ret_bool HR.out.symm, (hB.alloc hB.size _).trans (hb2.mono (by simp; have := hB.size; omega))⟩
      · have HR : Hid (∀ j, j < k + 1 → ∀ x, l[j]? = some x → turnB x = true) := fun j hj x hx => by
          by_cases e : j = k
          · subst e; rw [hr] at hx; obtain rfl := Option.some.inj hx; exact hb
          · exact hall.out j (by omega) x hx
        rw [hb] at hS
        clear hb
        go_wp2_with fail
        refine (hS _).mono ?_
        rintro e w2 ⟨rfl, hb2⟩
        go_wp2
        go_roundw
        case rel => exact ⟨k + 1, by omega, by go_num, HR, (hB.alloc hB.size _).trans (hb2.mono (by simp; have := hB.size; omega))⟩
        case measure => simp [intOf]; omega
    · have e : k = l.length := by omega
      subst e
      have HR : Hid (l.all turnB = true) := allT_yes hall.out
      go_wp2
      go_ret
      exact ⟨ret_bool HR.out.symm, hB⟩
set_option maxRecDepth 20000 in
set_option maxHeartbeats 2000000 in
theorem impl_TableRight (l : List TurnD) (v : Value) (w : World) (hv : TabAt w v l) (hok : ∀ r ∈ l, r.ok) (hl : l.length ≤ 1048576) :
    Calls Try.prog 10 #[v] w fun e w' => e = .returned (.bool (tabB l)) ∧ Below w.heap.size w w' := by
  obtain ⟨a, cap, rfl, hA⟩ := hv
  have hB0 := fun o => (Below.refl w.heap.size w).alloc (Nat.le_refl _) o
  by_cases hl0 : l.length < 1
  · rw [tab_no1 (by omega)]
    go_enter Try.func10, Try.ntmps10
    go_wp2
    go_ret
    exact ⟨rfl, hB0 _⟩
  by_cases hl8 : 600 < l.length
  · rw [tab_no1 (by omega)]
    go_enter Try.func10, Try.ntmps10
    go_wp2
    go_ret
    exact ⟨rfl, hB0 _⟩
  have h2 := fun w (h : SeqAt w a 4 (l.map TurnD.cs)) => impl_allTurn l a cap w h hok (by omega)
  cases ha : l.all turnB
  · rw [tab_no2 ha]
    rw [ha] at h2
    clear ha
    go_enter Try.func10, Try.ntmps10
    go_wp2_with fail
    refine (h2 _ (hA.below (hB0 _))).mono ?_
    rintro e w1 ⟨rfl, hb1⟩
    go_wp2
    go_ret
    exact ⟨rfl, (hB0 _).trans (hb1.mono (by simp))⟩
  rw [ha] at h2
  have HZ : Hid (upT l = true → tabB l = endsT l) := fun h => tab_ends (by omega) ha h
  have HN : Hid (upT l = false → tabB l = false) := fun h => tab_no3 h
  clear ha
  generalize tabB l = zb at *
  go_enter Try.func10, Try.ntmps10
  go_wp2_with fail
  refine (h2 _ (hA.below (hB0 _))).mono ?_
  rintro e w1 ⟨rfl, hb1⟩
  obtain ⟨hc, _⟩ := bcell hb1
  have hB1 := (hB0 _).trans (hb1.mono (by simp))
  have x1 : w1.cell? ⟨w.heap.size, 0, none⟩ = some (.slice a l.length cap) := (hc _ _ (by simp)).trans (by simp [go_sem])
  have hA1 := hA.below hB1
  clear hc hb1 h2
  obtain ⟨n, hlen⟩ : ∃ n, l.length = n + 1 := ⟨l.length - 1, by omega⟩
  go_wp2
  go_loopw [22] (fun i wr => ∃ k : Nat, k ≤ n ∧ i = .int .i64 k ∧ Hid (∀ j, j < k → ∀ x y, l[j]? = some x → l[j + 1]? = some y → x.at_ < y.at_) ∧ Below w1.heap.size w1 wr) (fun i _ => n - (intOf i).toNat)
  case atStart => exact ⟨0, by omega, rfl, fun j hj => by omega, Below.refl _ _⟩
  case round =>
    obtain ⟨k, hk, rfl, hall, hB⟩ := hrel
    have y1 : wr.cell? ⟨w.heap.size, 0, none⟩ = some (.slice a l.length cap) := by rw [(bcell hB).1 _ _ (World.block_lt_of_cell? _ _ x1)]; exact x1
    have hBB := hB1.trans (hB.mono hB1.size)
    by_cases hlt : k < n
    · obtain ⟨r, hr⟩ : ∃ r, l[k]? = some r := ⟨_, List.getElem?_eq_getElem (by omega)⟩
      obtain ⟨r2, hr2⟩ : ∃ r, l[k + 1]? = some r := ⟨_, List.getElem?_eq_getElem (by omega)⟩
      obtain ⟨b, o, rfl, hc⟩ := (hA1.below hB).at (i := k) (r := r.cs) (by rw [List.getElem?_map, hr]; rfl)
      obtain ⟨b', o', he, hd⟩ := (hA1.below hB).at (i := k + 1) (r := r2.cs) (by rw [List.getElem?_map, hr2]; rfl)
      injection he with he
      injection he with e1 e2
      subst e1 e2
      have c4 : wr.cell? ⟨b, o + k * 4, none⟩ = some (.int .i64 r.at_) := hc 0 _ rfl
      have d4 : wr.cell? ⟨b, o + (k + 1) * 4, none⟩ = some (.int .i64 r2.at_) := hd 0 _ rfl
      clear hc hd
      by_cases hu : r.at_ < r2.at_
      · have HR : Hid (∀ j, j < k + 1 → ∀ x y, l[j]? = some x → l[j + 1]? = some y → x.at_ < y.at_) := fun j hj x y hx hy => by
          by_cases e : j = k
          · subst e; rw [hr] at hx; rw [hr2] at hy; obtain rfl := Option.some.inj hx; obtain rfl := Option.some.inj hy; exact hu
          · exact hall.out j (by omega) x y hx hy
        go_wp2_with fail
        go_quiet (fail)
        go_wp2
        go_roundw
        case rel => exact ⟨k + 1, by omega, by go_num, HR, below_drewN hB _⟩
        case measure => simp [intOf]; omega
      · have HR : Hid (zb = false) := HN.out (upT_no hr hr2 hu)
        go_wp2_with fail
        go_quiet (fail)
        go_wp2
        go_ret
        exact ⟨ret_bool HR.out.symm, below_drewN hBB _⟩
    · have e : k = n := by omega
      subst e
      obtain ⟨r, hr⟩ : ∃ r, l[k]? = some r := ⟨_, List.getElem?_eq_getElem (by omega)⟩
      obtain ⟨f, hf⟩ : ∃ r, l[0]? = some r := ⟨_, List.getElem?_eq_getElem (by omega)⟩
      obtain ⟨b, o, rfl, hc⟩ := (hA1.below hB).at (i := k) (r := r.cs) (by rw [List.getElem?_map, hr]; rfl)
      obtain ⟨b', o', he, hd⟩ := (hA1.below hB).at (i := 0) (r := f.cs) (by rw [List.getElem?_map, hf]; rfl)
      injection he with he
      injection he with e1 e2
      subst e1 e2
      have c4 : wr.cell? ⟨b, o + k * 4, none⟩ = some (.int .i64 r.at_) := hc 0 _ rfl
      have d4 : wr.cell? ⟨b, o, none⟩ = some (.int .i64 f.at_) := by simpa using hd 0 _ rfl
      clear hc hd
      have HR : Hid (zb = ((f.at_ == -62135596800) && decide (r.at_ ≤ 253402300799))) := by
        simp only [Hid]
        rw [HZ.out (upT_yes fun i x y hx hy => hall.out i (by have := (List.getElem?_eq_some_iff.mp hy).1; omega) x y hx hy)]
        exact ends_of hlen hf hr
      cases g : (f.at_ == -62135596800)
      · rw [g] at HR
        go_wp2
        go_ret
        exact ⟨ret_bool HR.out.symm, hBB⟩
      · rw [g] at HR
        go_wp2
        go_ret
        exact ⟨ret_bool (by rw [HR.out]; simp), hBB⟩
end Go.Proofs.Ytcelbkmnbjcjhaa
namespace Go.Proofs.Ytcelbkmnbjcjhaa
open Go.RowKit Go.Sort

set_option maxHeartbeats 4000000 in
theorem spec_TableRight (l : List TurnD) (v : Value) (w : World) (hv : TabAt w v l) (hok : ∀ r ∈ l, r.ok) :
    Calls Try.prog 11 #[v] w fun e w' => e = .returned (.bool (tabB l)) ∧ Below w.heap.size w w' := by
  obtain ⟨a, cap, rfl, hA⟩ := hv
  have hB0 := fun o => (Below.refl w.heap.size w).alloc (Nat.le_refl _) o
  by_cases hl0 : l.length < 1
  · rw [tab_no1 (by omega)]
    go_enter Try.func11, Try.ntmps11
    go_wp2
    go_ret
    exact ⟨rfl, hB0 _⟩
  by_cases hl8 : 600 < l.length
  · rw [tab_no1 (by omega)]
    go_enter Try.func11, Try.ntmps11
    go_wp2
    go_ret
    exact ⟨rfl, hB0 _⟩
  obtain ⟨f, hf⟩ : ∃ r, l[0]? = some r := ⟨_, List.getElem?_eq_getElem (by omega)⟩
  obtain ⟨b, o, rfl, hd⟩ := hA.at (i := 0) (r := f.cs) (by rw [List.getElem?_map, hf]; rfl)
  have d0 : w.cell? ⟨b, o, none⟩ = some (.int .i64 f.at_) := by simpa using hd 0 _ rfl
  have hbl := World.block_lt_of_cell? _ _ d0
  have hne : b ≠ w.heap.size := by simp at hbl; omega
  clear hd
  by_cases hf0 : f.at_ = -62135596800
  · have HN1 : Hid (∀ (k : Nat) (x : TurnD), l[k]? = some x → 253402300799 < x.at_ → tabB l = false) := fun k x hk h => tab_top hk h
    have HN2 : Hid (∀ (j : Nat) (p x : TurnD), l[j]? = some p → l[j + 1]? = some x → x.at_ ≤ p.at_ → tabB l = false) := fun j p x hp hx h => tab_up hp hx h
    have HN3 : Hid (∀ (k : Nat) (x : TurnD), l[k]? = some x → turnB x = false → tabB l = false) := fun k x hk h => tab_one hk h
    have HY : Hid ((∀ (k : Nat) (x : TurnD), l[k]? = some x → TStep l k x) → tabB l = true) := fun h => tab_yes (by omega) hf hf0 h
    generalize tabB l = zb at *
    have hB0' := hB0 (.cells #[.slice (some ⟨b, o, none⟩) l.length cap] 25)
    have hA1 := hA.below hB0'
    have x0 : (w.alloc (.cells #[.slice (some ⟨b, o, none⟩) l.length cap] 25)).cell? ⟨w.heap.size, 0, none⟩ = some (.slice (some ⟨b, o, none⟩) l.length cap) := by simp [go_sem]
    have g0 : (f.at_ != -62135596800) = false := by simp [hf0]
    clear hB0
    go_enter Try.func11, Try.ntmps11
    go_wp2
    clear g0 d0 hne hbl hf0 hA
    generalize hW : (w.alloc (.cells #[.slice (some ⟨b, o, none⟩) l.length cap] 25)) = W at *
    go_loopw [3] (fun i wr => ∃ k : Nat, k ≤ l.length ∧ i = .int .i64 k ∧ Hid (∀ j, j < k → ∀ x, l[j]? = some x → TStep l j x) ∧ Below W.heap.size W wr) (fun i _ => l.length - (intOf i).toNat)
    case atStart => exact ⟨0, by omega, rfl, fun j hj => by omega, by subst hW; exact Below.refl _ _⟩
    case round =>
      obtain ⟨k, hk, rfl, hall, hB⟩ := hrel
      by_cases hlt : k < l.length
      · obtain ⟨x, hx⟩ : ∃ x, l[k]? = some x := ⟨_, List.getElem?_eq_getElem hlt⟩
        have okx := hok x (List.mem_of_getElem? hx)
        unfold TurnD.ok maxLen at okx
        have hBV : Below W.heap.size W (wr.alloc (.cells #[.int .i64 x.at_, .int .i64 x.offset, .int .i64 x.save, .string x.abbr] 32)) := hB.alloc hB.size _
        obtain ⟨b', o', he, hc⟩ := (hA1.below hB).at (i := k) (r := x.cs) (by rw [List.getElem?_map, hx]; rfl)
        injection he with he
        injection he with u1 u2
        subst u1 u2
        have c0 : wr.cell? ⟨b, o + k * 4, none⟩ = some (.int .i64 x.at_) := hc 0 _ rfl
        have c1 := hc 1 _ rfl
        have c2 := hc 2 _ rfl
        have c3 := hc 3 _ rfl
        clear hc
        have y0 : wr.cell? ⟨w.heap.size, 0, none⟩ = some (.slice (some ⟨b, o, none⟩) l.length cap) := by rw [(bcell hB).1 _ _ (World.block_lt_of_cell? _ _ x0)]; exact x0
        have z0 : (wr.alloc (.cells #[.int .i64 x.at_, .int .i64 x.offset, .int .i64 x.save, .string x.abbr] 32)).cell? ⟨w.heap.size, 0, none⟩ = some (.slice (some ⟨b, o, none⟩) l.length cap) := by rw [(bcell hBV).1 _ _ (World.block_lt_of_cell? _ _ x0)]; exact x0
        have e0 : (wr.alloc (.cells #[.int .i64 x.at_, .int .i64 x.offset, .int .i64 x.save, .string x.abbr] 32)).cell? ⟨wr.heap.size, 0, none⟩ = some (.int .i64 x.at_) := by first | (simp; done) | simp [go_sem]
        have e1 : (wr.alloc (.cells #[.int .i64 x.at_, .int .i64 x.offset, .int .i64 x.save, .string x.abbr] 32)).cell? ⟨wr.heap.size, 1, none⟩ = some (.int .i64 x.offset) := by first | (simp; done) | simp [go_sem]
        have e2 : (wr.alloc (.cells #[.int .i64 x.at_, .int .i64 x.offset, .int .i64 x.save, .string x.abbr] 32)).cell? ⟨wr.heap.size, 2, none⟩ = some (.int .i64 x.save) := by first | (simp; done) | simp [go_sem]
        have e3 : (wr.alloc (.cells #[.int .i64 x.at_, .int .i64 x.offset, .int .i64 x.save, .string x.abbr] 32)).cell? ⟨wr.heap.size, 3, none⟩ = some (.string x.abbr) := by first | (simp; done) | simp [go_sem]
        have hA2 := hA1.below hBV
        go_wp2_with fail
        generalize hV : (wr.alloc (.cells #[.int .i64 x.at_, .int .i64 x.offset, .int .i64 x.save, .string x.abbr] 32)) = V at *
        generalize wr.heap.size = g at *
        clear c0 c1 c2 c3 y0
        have HS : Hid (∀ i, i < k → ∀ y, l[i]? = some y → TStep l i y) := hall
        clear hall
        by_cases h1 : x.at_ ≤ 253402300799
        · have g1 : decide (253402300799 < x.at_) = false := by simpa using h1
          by_cases hk0 : k = 0
          · have g2 : decide (0 < k) = false := by simp [hk0]
            have g3 : decide ((0 : Int) < (k : Int)) = false := by simp [hk0]
            have hk0' : Hid (k = 0) := hk0
            clear hk0
            cases h4 : isB x.offset (-100000) 100000
            · have hS := fun w => spec_l02SaveT x.save w
              have HR : Hid (zb = false) := HN3.out _ x hx (turn_no1 h4)
              clear HN1 HN2 HN3 HY HS
              go_quiet ((first | (go_at_call 30; exact Calls.quiet_of_same (spec_l01Is_v h4 _)) | (go_at_call 31; exact Calls.quiet_of_same (hS _))))
              go_wp2
              go_ret
              exact ⟨ret_bool HR.out.symm, below_drewN (hB0'.trans (hBV.mono hB0'.size)) _⟩
            cases h5 : isB x.save (-7200) 7200
            · have hS := fun w => h5 ▸ spec_l02SaveT x.save w
              have HR : Hid (zb = false) := HN3.out _ x hx (turn_no2 h5)
              clear HN1 HN2 HN3 HY HS
              go_quiet ((first | (go_at_call 30; exact Calls.quiet_of_same (spec_l01Is_v h4 _)) | (go_at_call 31; exact Calls.quiet_of_same (hS _))))
              go_wp2
              go_ret
              exact ⟨ret_bool HR.out.symm, below_drewN (hB0'.trans (hBV.mono hB0'.size)) _⟩
            have hS := fun w => h5 ▸ spec_l02SaveT x.save w
            by_cases h6 : x.abbr.size ≤ 20
            · have g6 : decide (20 < x.abbr.size) = false := by simpa using h6
              have g7 : decide ((20 : Int) < (x.abbr.size : Int)) = false := by simp; omega
              have HR : Hid (∀ i, i < k + 1 → ∀ y, l[i]? = some y → TStep l i y) := fun i hi y hy => by
                by_cases e : i = k
                · subst e; rw [hx] at hy; obtain rfl := Option.some.inj hy; exact ⟨by omega, fun j p hj _ => by have := hk0'.out; omega, turn_yes h4 h5 h6⟩
                · exact HS.out i (by omega) y hy
              clear HN1 HN2 HN3 HY HS
              go_quiet ((first | (go_at_call 30; exact Calls.quiet_of_same (spec_l01Is_v h4 _)) | (go_at_call 31; exact Calls.quiet_of_same (hS _))))
              go_wp2
              go_roundw
              case rel => exact ⟨k + 1, by omega, by go_num, HR, below_drewN hBV _⟩
              case measure => simp [intOf]; omega
            · have g6 : decide (20 < x.abbr.size) = true := by simpa using h6
              have g7 : decide ((20 : Int) < (x.abbr.size : Int)) = true := by simp; omega
              have HR : Hid (zb = false) := HN3.out _ x hx (turn_no3 h6)
              clear HN1 HN2 HN3 HY HS
              go_quiet ((first | (go_at_call 30; exact Calls.quiet_of_same (spec_l01Is_v h4 _)) | (go_at_call 31; exact Calls.quiet_of_same (hS _))))
              go_wp2
              go_ret
              exact ⟨ret_bool HR.out.symm, below_drewN (hB0'.trans (hBV.mono hB0'.size)) _⟩
          · obtain ⟨j, rfl⟩ : ∃ j, k = j + 1 := ⟨k - 1, by omega⟩
            obtain ⟨q, hq⟩ : ∃ q, l[j]? = some q := ⟨_, List.getElem?_eq_getElem (by omega)⟩
            obtain ⟨b', o', he, hd⟩ := hA2.at (i := j) (r := q.cs) (by rw [List.getElem?_map, hq]; rfl)
            injection he with he
            injection he with u1 u2
            subst u1 u2
            have p0 : V.cell? ⟨b, o + j * 4, none⟩ = some (.int .i64 q.at_) := hd 0 _ rfl
            clear hd
            by_cases hu : q.at_ < x.at_
            · have hu' : decide (x.at_ ≤ q.at_) = false := by simpa using hu
              cases h4 : isB x.offset (-100000) 100000
              · have hS := fun w => spec_l02SaveT x.save w
                have HR : Hid (zb = false) := HN3.out _ x hx (turn_no1 h4)
                clear HN1 HN2 HN3 HY HS
                go_quiet ((first | (go_at_call 30; exact Calls.quiet_of_same (spec_l01Is_v h4 _)) | (go_at_call 31; exact Calls.quiet_of_same (hS _))))
                go_wp2
                go_ret
                exact ⟨ret_bool HR.out.symm, below_drewN (hB0'.trans (hBV.mono hB0'.size)) _⟩
              cases h5 : isB x.save (-7200) 7200
              · have hS := fun w => h5 ▸ spec_l02SaveT x.save w
                have HR : Hid (zb = false) := HN3.out _ x hx (turn_no2 h5)
                clear HN1 HN2 HN3 HY HS
                go_quiet ((first | (go_at_call 30; exact Calls.quiet_of_same (spec_l01Is_v h4 _)) | (go_at_call 31; exact Calls.quiet_of_same (hS _))))
                go_wp2
                go_ret
                exact ⟨ret_bool HR.out.symm, below_drewN (hB0'.trans (hBV.mono hB0'.size)) _⟩
              have hS := fun w => h5 ▸ spec_l02SaveT x.save w
              by_cases h6 : x.abbr.size ≤ 20
              · have g6 : decide (20 < x.abbr.size) = false := by simpa using h6
                have g7 : decide ((20 : Int) < (x.abbr.size : Int)) = false := by simp; omega
                have HR : Hid (∀ i, i < (j + 1) + 1 → ∀ y, l[i]? = some y → TStep l i y) := fun i hi y hy => by
                  by_cases e : i = (j + 1)
                  · subst e; rw [hx] at hy; obtain rfl := Option.some.inj hy; exact ⟨by omega, fun i p hi hp => by obtain rfl : i = j := (by omega); rw [hq] at hp; obtain rfl := Option.some.inj hp; exact hu, turn_yes h4 h5 h6⟩
                  · exact HS.out i (by omega) y hy
                clear HN1 HN2 HN3 HY HS
                go_quiet ((first | (go_at_call 30; exact Calls.quiet_of_same (spec_l01Is_v h4 _)) | (go_at_call 31; exact Calls.quiet_of_same (hS _))))
                go_wp2
                go_roundw
                case rel => exact ⟨(j + 1) + 1, by omega, by go_num, HR, below_drewN hBV _⟩
                case measure => simp [intOf]; omega
              · have g6 : decide (20 < x.abbr.size) = true := by simpa using h6
                have g7 : decide ((20 : Int) < (x.abbr.size : Int)) = true := by simp; omega
                have HR : Hid (zb = false) := HN3.out _ x hx (turn_no3 h6)
                clear HN1 HN2 HN3 HY HS
                go_quiet ((first | (go_at_call 30; exact Calls.quiet_of_same (spec_l01Is_v h4 _)) | (go_at_call 31; exact Calls.quiet_of_same (hS _))))
                go_wp2
                go_ret
                exact ⟨ret_bool HR.out.symm, below_drewN (hB0'.trans (hBV.mono hB0'.size)) _⟩
            · have hu' : decide (x.at_ ≤ q.at_) = true := by simpa using hu
              have h4 := spec_l01Is x.offset
              have hS := fun w => spec_l02SaveT x.save w
              have HR : Hid (zb = false) := HN2.out j q x hq hx (by omega)
              clear HN1 HN2 HN3 HY HS
              go_quiet ((first | (go_at_call 30; exact Calls.quiet_of_same (spec_l01Is _ _ _ _)) | (go_at_call 31; exact Calls.quiet_of_same (hS _))))
              go_wp2
              go_ret
              exact ⟨ret_bool HR.out.symm, below_drewN (hB0'.trans (hBV.mono hB0'.size)) _⟩
        · have g1 : decide (253402300799 < x.at_) = true := by simpa using h1
          have hS := fun w => spec_l02SaveT x.save w
          have HR : Hid (zb = false) := HN1.out k x hx (by omega)
          clear HN1 HN2 HN3 HY HS
          go_quiet ((first | (go_at_call 30; exact Calls.quiet_of_same (spec_l01Is _ _ _ _)) | (go_at_call 31; exact Calls.quiet_of_same (hS _))))
          go_wp2
          go_ret
          exact ⟨ret_bool HR.out.symm, below_drewN (hB0'.trans (hBV.mono hB0'.size)) _⟩
      · have e : k = l.length := by omega
        subst e
        have y0 : wr.cell? ⟨w.heap.size, 0, none⟩ = some (.slice (some ⟨b, o, none⟩) l.length cap) := by rw [(bcell hB).1 _ _ (World.block_lt_of_cell? _ _ x0)]; exact x0
        have HR : Hid (zb = true) := HY.out fun j y hy => hall.out j (List.getElem?_eq_some_iff.mp hy).1 y hy
        go_wp2
        go_ret
        exact ⟨ret_bool HR.out.symm, hB0'.trans (hB.mono hB0'.size)⟩
  · rw [tab_first hf hf0]
    have g0 : (f.at_ != -62135596800) = true := by simpa using hf0
    clear hf0
    go_enter Try.func11, Try.ntmps11
    go_wp2
    go_ret
    exact ⟨rfl, hB0 _⟩
end Go.Proofs.Ytcelbkmnbjcjhaa
namespace Go.Proofs.Ytcelbkmnbjcjhaa
open Go.RowKit Go.Sort

/-- is the turn at a place behind an instant? -/
def behB (l : List TurnD) (n : Int) (i : Nat) : Bool := match l[i]? with
  | some t => decide (n < t.at_)
  | none => true
theorem beh_some {l : List TurnD} {n : Int} {i : Nat} {t : TurnD} (h : l[i]? = some t) : behB l n i = decide (n < t.at_) := by unfold behB; rw [h]
/-- how many are not. -/
def cntT (l : List TurnD) (n : Int) : Nat := (List.range l.length).countP fun i => !behB l n i
theorem beh_mono {l : List TurnD} (h : upT l = true) {n : Int} (a b : Nat) (hab : a ≤ b) (hb : b < l.length) (hp : behB l n a = true) : behB l n b = true := by
  obtain ⟨x, hx⟩ : ∃ x, l[a]? = some x := ⟨_, List.getElem?_eq_getElem (by omega)⟩
  obtain ⟨y, hy⟩ : ∃ y, l[b]? = some y := ⟨_, List.getElem?_eq_getElem hb⟩
  rw [beh_some hx] at hp
  rw [beh_some hy]
  have := upT_le2 h hab hx hy
  have := of_decide_eq_true hp
  exact decide_eq_true (by omega)
theorem cnt_cut {l : List TurnD} {n : Int} (m : Nat) (hm : m ≤ l.length) (h1 : ∀ i, i < m → behB l n i = false) (h2 : ∀ i, m ≤ i → i < l.length → behB l n i = true) : cntT l n = m :=
  countP_cut _ m _ hm (fun i hi => by rw [h1 i hi]; rfl) (fun i a b => by rw [h2 i a b]; rfl)
/-- where a search ends. -/
theorem cnt_at {l : List TurnD} (h : upT l = true) {n : Int} {k : Nat} {x : TurnD} (hx : l[k]? = some x) (h1 : x.at_ ≤ n) (h2 : ∀ y, l[k + 1]? = some y → n < y.at_) : cntT l n = k + 1 := by
  have hk := (List.getElem?_eq_some_iff.mp hx).1
  refine cnt_cut (k + 1) (by omega) (fun i hi => ?_) (fun i a b => ?_)
  · obtain ⟨y, hy⟩ : ∃ y, l[i]? = some y := ⟨_, List.getElem?_eq_getElem (by omega)⟩
    rw [beh_some hy]
    have := upT_le2 h (show i ≤ k by omega) hy hx
    exact decide_eq_false (by omega)
  · obtain ⟨y, hy⟩ : ∃ y, l[k + 1]? = some y := ⟨_, List.getElem?_eq_getElem (by omega)⟩
    exact beh_mono h (k + 1) i a b (by rw [beh_some hy]; exact decide_eq_true (h2 y hy))
theorem cnt_pos {l : List TurnD} {n : Int} {a : TurnD} (ha : l[0]? = some a) (h : a.at_ ≤ n) : 1 ≤ cntT l n := by
  have hk := (List.getElem?_eq_some_iff.mp ha).1
  exact List.countP_pos_iff.mpr ⟨0, List.mem_range.mpr hk, by rw [beh_some ha, decide_eq_false (by omega)]; rfl⟩
theorem cnt_le (l : List TurnD) (n : Int) : cntT l n ≤ l.length := by
  have := List.countP_le_length (l := List.range l.length) (p := fun i => !behB l n i)
  rw [List.length_range] at this
  exact this
set_option maxHeartbeats 1000000 in
theorem impl_behind (l : List TurnD) (a : Option Addr) (cap pt pa : Nat) (n : Int) (i : Nat) (w : World) (hA : SeqAt w a 4 (l.map TurnD.cs)) (hi : i < l.length) (_hl : l.length ≤ 1048576) (ht : w.cell? ⟨pt, 0, none⟩ = some (.slice a l.length cap)) (ha : w.cell? ⟨pa, 0, none⟩ = some (.int .i64 n)) :
    Calls Try.prog 27 #[.int .i64 i, .pointer (some ⟨pt, 0, none⟩), .pointer (some ⟨pa, 0, none⟩)] w fun e w' => e = .returned (.bool (behB l n i)) ∧ Below w.heap.size w w' := by
  obtain ⟨x, hx⟩ : ∃ x, l[i]? = some x := ⟨_, List.getElem?_eq_getElem hi⟩
  obtain ⟨b, o, rfl, hc⟩ := hA.at (i := i) (r := x.cs) (by rw [List.getElem?_map, hx]; rfl)
  have c0 : w.cell? ⟨b, o + i * 4, none⟩ = some (.int .i64 x.at_) := hc 0 _ rfl
  have HR : Hid (behB l n i = decide (n < x.at_)) := beh_some hx
  clear hc
  generalize behB l n i = q at *
  go_enter Try.func27, Try.ntmps27
  go_wp2_with fail
  go_quiet (fail)
  go_wp2
  go_ret
  exact ⟨ret_bool HR.out.symm, below_drewN (Below.refl _ _) _⟩
set_option maxHeartbeats 2000000 in
theorem sort_SearchT (l : List TurnD) (a : Option Addr) (cap pt pa : Nat) (n : Int) (w : World) (hA : SeqAt w a 4 (l.map TurnD.cs)) (hl : l.length ≤ 1048576) (hu : upT l = true) (ht : w.cell? ⟨pt, 0, none⟩ = some (.slice a l.length cap)) (ha : w.cell? ⟨pa, 0, none⟩ = some (.int .i64 n)) :
    Calls Try.prog 26 #[.int .i64 l.length, .func (.func 27) #[] #[.pointer (some ⟨pt, 0, none⟩), .pointer (some ⟨pa, 0, none⟩)]] w fun e w' => e = .returned (.int .i64 (cntT l n)) ∧ Below w.heap.size w w' := by
  have HC : Hid (∀ m, m ≤ l.length → (∀ i, i < m → behB l n i = false) → (∀ i, m ≤ i → i < l.length → behB l n i = true) → cntT l n = m) := fun m h1 h2 h3 => cnt_cut m h1 h2 h3
  have HM : Hid (∀ a b, a ≤ b → b < l.length → behB l n a = true → behB l n b = true) := fun a b h1 h2 h3 => beh_mono hu a b h1 h2 h3
  clear hu
  generalize cntT l n = c at *
  go_enter Try.func26, Try.ntmps26
  go_wp2
  go_loopw [5, 6] (fun s5 s6 wr => ∃ lo hi : Nat, lo ≤ hi ∧ hi ≤ l.length ∧ s5 = .int .i64 lo ∧ s6 = .int .i64 hi ∧ Hid (∀ t, t < lo → behB l n t = false) ∧ Hid (∀ t, hi ≤ t → t < l.length → behB l n t = true) ∧ Below w.heap.size w wr) (fun s5 s6 _ => (intOf s6).toNat - (intOf s5).toNat)
  case atStart => exact ⟨0, l.length, by omega, by omega, rfl, rfl, fun t ht => by omega, fun t h1 h2 => by omega, Below.refl _ _⟩
  case round =>
    obtain ⟨lo, hi, hlh, hhl, rfl, rfl, h1, h2, hB⟩ := hrel
    by_cases hlt : lo < hi
    · have hS := impl_behind l a cap pt pa n ((lo + hi) / 2) wr (hA.below hB) (by omega) hl ((bcell hB).1 _ _ (World.block_lt_of_cell? _ _ ht) |>.trans ht) ((bcell hB).1 _ _ (World.block_lt_of_cell? _ _ ha) |>.trans ha)
      rw [show (((lo + hi) / 2 : Nat) : Int) = ((lo : Int) + (hi : Int)) / 2 by omega] at hS
      cases hp : behB l n ((lo + hi) / 2)
      · have HR : Hid (∀ t, t < (lo + hi) / 2 + 1 → behB l n t = false) := fun t ht => by
          cases h : behB l n t with
          | false => rfl
          | true => have := HM.out t ((lo + hi) / 2) (by omega) (by omega) h; rw [hp] at this; cases this
        rw [hp] at hS
        clear hp
        go_wp2_with fail
        refine hS.mono ?_
        rintro e w2 ⟨rfl, hb2⟩
        go_wp2
        go_roundw
        case rel => exact ⟨(lo + hi) / 2 + 1, hi, by omega, hhl, by rw [show ((lo : Int) + (hi : Int)) / 2 + 1 = (((lo + hi) / 2 + 1 : Nat) : Int) by omega], rfl, HR, h2, hB.trans (hb2.mono hB.size)⟩
        case measure => simp [intOf]; omega
      · have HR : Hid (∀ t, (lo + hi) / 2 ≤ t → t < l.length → behB l n t = true) := fun t ha hb => HM.out _ t ha hb hp
        rw [hp] at hS
        clear hp
        go_wp2_with fail
        refine hS.mono ?_
        rintro e w2 ⟨rfl, hb2⟩
        go_wp2
        go_roundw
        case rel => exact ⟨lo, (lo + hi) / 2, by omega, by omega, rfl, by rw [show ((lo : Int) + (hi : Int)) / 2 = (((lo + hi) / 2 : Nat) : Int) by omega], h1, HR, hB.trans (hb2.mono hB.size)⟩
        case measure => simp [intOf]; omega
    · obtain rfl : hi = lo := by omega
      have HR : Hid (c = hi) := HC.out hi hhl h1.out h2.out
      go_wp2
      go_ret
      exact ⟨ret_int (by rw [HR.out]), hB⟩
end Go.Proofs.Ytcelbkmnbjcjhaa
namespace Go.Proofs.Ytcelbkmnbjcjhaa
open Go.RowKit Go.Sort

def zeroT : TurnD := ⟨0, 0, 0, ⟨#[]⟩⟩
def turnAtD (l : List TurnD) (n : Int) : TurnD := if tabB l = true ∧ isB n (-62135596800) 253402300799 = true then (match l[cntT l n - 1]? with | some t => t | none => zeroT) else zeroT
theorem turnAt_no1 {l : List TurnD} {n : Int} (h : tabB l = false) : turnAtD l n = zeroT := by unfold turnAtD; rw [if_neg (by rw [h]; simp)]
theorem turnAt_no2 {l : List TurnD} {n : Int} (h : isB n (-62135596800) 253402300799 = false) : turnAtD l n = zeroT := by unfold turnAtD; rw [if_neg (by rw [h]; simp)]
theorem turnAt_yes {l : List TurnD} {n : Int} {t : TurnD} (h : tabB l = true) (h2 : isB n (-62135596800) 253402300799 = true) (ht : l[cntT l n - 1]? = some t) : turnAtD l n = t := by unfold turnAtD; rw [if_pos ⟨h, h2⟩, ht]
set_option maxHeartbeats 2000000 in
theorem spec_l03At (l : List TurnD) (a : Option Addr) (cap : Nat) (n : Int) (w : World) (hA : SeqAt w a 4 (l.map TurnD.cs)) (hT : TabR l) (hn : -62135596800 ≤ n) :
    Calls Try.prog 25 #[.agg #[.slice a l.length cap], .int .i64 n] w fun e w' => e = .returned (.int .i64 ((cntT l n - 1 : Nat) : Int)) ∧ Below w.heap.size w w' := by
  have hl := hT.len
  have HC : Hid (∀ (k : Nat) (x : TurnD), l[k]? = some x → x.at_ ≤ n → (∀ y, l[k + 1]? = some y → n < y.at_) → cntT l n - 1 = k) := fun k x h1 h2 h3 => by rw [cnt_at hT.up h1 h2 h3]; omega
  have HF : Hid (∀ x, l[0]? = some x → x.at_ ≤ n) := fun x hx => by rw [hT.first x hx]; exact hn
  clear hn hT
  generalize cntT l n - 1 = c at *
  have hB0 := (Below.refl w.heap.size w).alloc (Nat.le_refl _) (.cells #[.slice a l.length cap] 25)
  have hA1 := hA.below hB0
  have x0 : (w.alloc (.cells #[.slice a l.length cap] 25)).cell? ⟨w.heap.size, 0, none⟩ = some (.slice a l.length cap) := by simp [go_sem]
  go_enter Try.func25, Try.ntmps25
  go_wp2
  generalize hW : (w.alloc (.cells #[.slice a l.length cap] 25)) = W at *
  go_loopw [5] (fun s wr => ∃ k : Nat, k < l.length ∧ s = .int .i64 k ∧ Hid (∀ x, l[k]? = some x → x.at_ ≤ n) ∧ Below W.heap.size W wr) (fun s _ => l.length - (intOf s).toNat)
  case atStart => exact ⟨0, by omega, rfl, HF.out, by subst hW; exact Below.refl _ _⟩
  case round =>
    obtain ⟨k, hk, rfl, hx, hB⟩ := hrel
    have y0 : wr.cell? ⟨w.heap.size, 0, none⟩ = some (.slice a l.length cap) := by rw [(bcell hB).1 _ _ (World.block_lt_of_cell? _ _ x0)]; exact x0
    have hBB := hB0.trans (hB.mono hB0.size)
    obtain ⟨x, hxx⟩ : ∃ x, l[k]? = some x := ⟨_, List.getElem?_eq_getElem hk⟩
    by_cases hlt : k + 1 < l.length
    · obtain ⟨y, hy⟩ : ∃ y, l[k + 1]? = some y := ⟨_, List.getElem?_eq_getElem hlt⟩
      obtain ⟨b, o, rfl, hc⟩ := (hA1.below hB).at (i := k + 1) (r := y.cs) (by rw [List.getElem?_map, hy]; rfl)
      have c0 : wr.cell? ⟨b, o + (k + 1) * 4, none⟩ = some (.int .i64 y.at_) := hc 0 _ rfl
      clear hc
      by_cases hu : y.at_ ≤ n
      · have HR : Hid (∀ x, l[k + 1]? = some x → x.at_ ≤ n) := fun z hz => by rw [hy] at hz; obtain rfl := Option.some.inj hz; exact hu
        go_wp2
        go_roundw
        case rel => exact ⟨k + 1, by omega, by go_num, HR, hB⟩
        case measure => simp [intOf]; omega
      · have HR : Hid (c = k) := HC.out k x hxx (hx.out x hxx) fun z hz => by rw [hy] at hz; obtain rfl := Option.some.inj hz; omega
        go_wp2
        go_ret
        exact ⟨ret_int (by rw [HR.out]), hBB⟩
    · have HR : Hid (c = k) := HC.out k x hxx (hx.out x hxx) fun z hz => by have := (List.getElem?_eq_some_iff.mp hz).1; omega
      go_wp2
      go_ret
      exact ⟨ret_int (by rw [HR.out]), hBB⟩
set_option maxHeartbeats 400000 in
theorem spec_l01TimeT (n : Int) (w : World) :
    Calls Try.prog 24 #[.int .i64 n] w fun e w' => e = .returned (.bool (isB n (-62135596800) 253402300799)) ∧ w' = w := by
  go_enter Try.func24, Try.ntmps24
  go_wp2_with (go_at_call 30; refine (spec_l01Is _ _ _ _).mono ?_; rintro e w' ⟨rfl, rfl⟩)
  go_ret
  exact ⟨rfl, rfl⟩
theorem set_four {w : World} {b : Nat} {x0 x1 x2 x3 v0 v1 v2 v3 : Value} (h0 : w.cell? ⟨b, 0, none⟩ = some x0) (h1 : w.cell? ⟨b, 1, none⟩ = some x1) (h2 : w.cell? ⟨b, 2, none⟩ = some x2) (h3 : w.cell? ⟨b, 3, none⟩ = some x3) :
    ((((w.setCell ⟨b, 0, none⟩ v0).setCell ⟨b, 1, none⟩ v1).setCell ⟨b, 2, none⟩ v2).setCell ⟨b, 3, none⟩ v3).cell? ⟨b, 0, none⟩ = some v0 ∧ ((((w.setCell ⟨b, 0, none⟩ v0).setCell ⟨b, 1, none⟩ v1).setCell ⟨b, 2, none⟩ v2).setCell ⟨b, 3, none⟩ v3).cell? ⟨b, 1, none⟩ = some v1 ∧ ((((w.setCell ⟨b, 0, none⟩ v0).setCell ⟨b, 1, none⟩ v1).setCell ⟨b, 2, none⟩ v2).setCell ⟨b, 3, none⟩ v3).cell? ⟨b, 2, none⟩ = some v2 ∧ ((((w.setCell ⟨b, 0, none⟩ v0).setCell ⟨b, 1, none⟩ v1).setCell ⟨b, 2, none⟩ v2).setCell ⟨b, 3, none⟩ v3).cell? ⟨b, 3, none⟩ = some v3 := by
  refine ⟨?_, ?_, ?_, ?_⟩
  · rw [World.cell?_setCell_other _ _ _ _ (by simp), World.cell?_setCell_other _ _ _ _ (by simp), World.cell?_setCell_other _ _ _ _ (by simp), World.cell?_setCell_same _ _ _ h0]
  · rw [World.cell?_setCell_other _ _ _ _ (by simp), World.cell?_setCell_other _ _ _ _ (by simp)]
    refine World.cell?_setCell_same _ _ _ (u := x1) ?_
    rw [World.cell?_setCell_other _ _ _ _ (by simp)]; exact h1
  · rw [World.cell?_setCell_other _ _ _ _ (by simp)]
    refine World.cell?_setCell_same _ _ _ (u := x2) ?_
    rw [World.cell?_setCell_other _ _ _ _ (by simp), World.cell?_setCell_other _ _ _ _ (by simp)]; exact h2
  · refine World.cell?_setCell_same _ _ _ (u := x3) ?_
    rw [World.cell?_setCell_other _ _ _ _ (by simp), World.cell?_setCell_other _ _ _ _ (by simp), World.cell?_setCell_other _ _ _ _ (by simp)]; exact h3
set_option maxHeartbeats 400000 in
theorem impl_isTimeT (n : Int) (w : World) :
    Calls Try.prog 22 #[.int .i64 n] w fun e w' => e = .returned (.bool (isB n (-62135596800) 253402300799)) ∧ w' = w := by
  by_cases h : -62135596800 ≤ n
  · go_enter Try.func22, Try.ntmps22
    go_wp2
    go_ret
    exact ⟨ret_bool (by unfold isB; simp [h]), rfl⟩
  · go_enter Try.func22, Try.ntmps22
    go_wp2
    go_ret
    exact ⟨ret_bool (isB_f (by omega)).symm, rfl⟩
set_option maxHeartbeats 4000000 in
theorem impl_TurnAt (l : List TurnD) (v : Value) (n : Int) (w : World) (hv : TabAt w v l) (hok : ∀ r ∈ l, r.ok) (hl : l.length ≤ 1048576) :
    Calls Try.prog 8 #[v, .int .i64 n] w fun e w' => e = .returned (turnAtD l n).v ∧ Below w.heap.size w w' := by
  obtain ⟨a, cap, rfl, hA⟩ := hv
  have hv : TabAt w (.agg #[.slice a l.length cap]) l := ⟨a, cap, rfl, hA⟩
  have hB0 := fun o o2 o3 => (((Below.refl w.heap.size w).alloc (Nat.le_refl _) o).alloc (by simp) o2).alloc (by simp; omega) o3
  have hM := fun w => impl_isTimeT n w
  by_cases h1 : n < -62135596800
  · rw [turnAt_no2 (isB_f (by omega))]
    rw [isB_f (by omega)] at hM
    go_enter Try.func8, Try.ntmps8
    go_wp2_with (go_at_call 22; refine (hM _).mono ?_; rintro e w' ⟨rfl, rfl⟩)
    exact bodyPost_ret (v := zeroT.v) (by simp [results, Try.results8, go_sem, zeroT, TurnD.v]) rfl ⟨rfl, hB0 _ _ _⟩
  by_cases h2 : 253402300799 < n
  · rw [turnAt_no2 (isB_f (by omega))]
    rw [isB_f (by omega)] at hM
    go_enter Try.func8, Try.ntmps8
    go_wp2_with (go_at_call 22; refine (hM _).mono ?_; rintro e w' ⟨rfl, rfl⟩)
    exact bodyPost_ret (v := zeroT.v) (by simp [results, Try.results8, go_sem, zeroT, TurnD.v]) rfl ⟨rfl, hB0 _ _ _⟩
  rw [isB_t (by omega) (by omega)] at hM
  have hI := fun w (h : TabAt w (.agg #[.slice a l.length cap]) l) => impl_TableRight l _ w h hok hl
  cases ht : tabB l
  · rw [turnAt_no1 ht]
    rw [ht] at hI
    clear ht
    go_enter Try.func8, Try.ntmps8
    go_wp2_with fail
    refine (hM _).mono ?_
    rintro e wM ⟨rfl, rfl⟩
    go_wp2_with fail
    refine (hI _ (hv.below (hB0 _ _ _))).mono ?_
    rintro e w1 ⟨rfl, hb1⟩
    obtain ⟨hc1, hf1⟩ := bcell hb1
    have hB1 := (hB0 _ _ _).trans (hb1.mono (by simp; omega))
    have r0 : w1.cell? ⟨w.heap.size + 1 + 1, 0, none⟩ = some (.int .i64 0) := (hc1 _ _ (by simp)).trans (by simp [go_sem])
    have r1 : w1.cell? ⟨w.heap.size + 1 + 1, 1, none⟩ = some (.int .i64 0) := (hc1 _ _ (by simp)).trans (by simp [go_sem])
    have r2 : w1.cell? ⟨w.heap.size + 1 + 1, 2, none⟩ = some (.int .i64 0) := (hc1 _ _ (by simp)).trans (by simp [go_sem])
    have r3 : w1.cell? ⟨w.heap.size + 1 + 1, 3, none⟩ = some (.string ⟨#[]⟩) := (hc1 _ _ (by simp)).trans (by simp [go_sem])
    have f0 : w1.frozen? ⟨w.heap.size + 1 + 1, 0, none⟩ = false := (hf1 _ _ (by simp)).trans (by simp [go_sem])
    have f1 : w1.frozen? ⟨w.heap.size + 1 + 1, 1, none⟩ = false := (hf1 _ _ (by simp)).trans (by simp [go_sem])
    have f2 : w1.frozen? ⟨w.heap.size + 1 + 1, 2, none⟩ = false := (hf1 _ _ (by simp)).trans (by simp [go_sem])
    have f3 : w1.frozen? ⟨w.heap.size + 1 + 1, 3, none⟩ = false := (hf1 _ _ (by simp)).trans (by simp [go_sem])
    obtain ⟨s0, s1, s2, s3⟩ := set_four (v0 := .int .i64 0) (v1 := .int .i64 0) (v2 := .int .i64 0) (v3 := .string ⟨#[]⟩) r0 r1 r2 r3
    clear hc1 hf1 hb1
    go_wp2
    exact bodyPost_ret (v := zeroT.v) (by simp [results, Try.results8, go_sem, zeroT, TurnD.v, s0, s1, s2, s3]) rfl ⟨rfl, (((hB1.setCell (show w.heap.size ≤ w.heap.size + 1 + 1 by omega) _).setCell (show w.heap.size ≤ w.heap.size + 1 + 1 by omega) _).setCell (show w.heap.size ≤ w.heap.size + 1 + 1 by omega) _).setCell (show w.heap.size ≤ w.heap.size + 1 + 1 by omega) _⟩
  have hR := tab_of ht
  have hlen := hR.len
  obtain ⟨f, hf⟩ : ∃ r, l[0]? = some r := ⟨_, List.getElem?_eq_getElem (by omega)⟩
  have hp1 := cnt_pos (n := n) hf (by rw [hR.first f hf]; omega)
  have hp2 := cnt_le l n
  obtain ⟨x, hx⟩ : ∃ r, l[cntT l n - 1]? = some r := ⟨_, List.getElem?_eq_getElem (by omega)⟩
  rw [turnAt_yes ht (isB_t (by omega) (by omega)) hx]
  rw [ht] at hI
  have hS := fun pt pa w (h : SeqAt w a 4 (l.map TurnD.cs)) => sort_SearchT l a cap pt pa n w h hl hR.up
  obtain ⟨c, hcc⟩ : ∃ c, cntT l n = c + 1 := ⟨cntT l n - 1, by omega⟩
  rw [hcc] at hS hp1 hp2 hx
  simp only [Nat.add_sub_cancel] at hx
  clear ht hcc hR hf hp1
  go_enter Try.func8, Try.ntmps8
  go_wp2_with fail
  refine (hM _).mono ?_
  rintro e wM ⟨rfl, rfl⟩
  go_wp2_with fail
  refine (hI _ (hv.below (hB0 _ _ _))).mono ?_
  rintro e w1 ⟨rfl, hb1⟩
  obtain ⟨hc1, hf1⟩ := bcell hb1
  have hB1 := (hB0 _ _ _).trans (hb1.mono (by simp; omega))
  have r0 : w1.cell? ⟨w.heap.size + 1 + 1, 0, none⟩ = some (.int .i64 0) := (hc1 _ _ (by simp)).trans (by simp [go_sem])
  have r1 : w1.cell? ⟨w.heap.size + 1 + 1, 1, none⟩ = some (.int .i64 0) := (hc1 _ _ (by simp)).trans (by simp [go_sem])
  have r2 : w1.cell? ⟨w.heap.size + 1 + 1, 2, none⟩ = some (.int .i64 0) := (hc1 _ _ (by simp)).trans (by simp [go_sem])
  have r3 : w1.cell? ⟨w.heap.size + 1 + 1, 3, none⟩ = some (.string ⟨#[]⟩) := (hc1 _ _ (by simp)).trans (by simp [go_sem])
  have f0 : w1.frozen? ⟨w.heap.size + 1 + 1, 0, none⟩ = false := (hf1 _ _ (by simp)).trans (by simp [go_sem])
  have f1 : w1.frozen? ⟨w.heap.size + 1 + 1, 1, none⟩ = false := (hf1 _ _ (by simp)).trans (by simp [go_sem])
  have f2 : w1.frozen? ⟨w.heap.size + 1 + 1, 2, none⟩ = false := (hf1 _ _ (by simp)).trans (by simp [go_sem])
  have f3 : w1.frozen? ⟨w.heap.size + 1 + 1, 3, none⟩ = false := (hf1 _ _ (by simp)).trans (by simp [go_sem])
  have t0 : w1.cell? ⟨w.heap.size, 0, none⟩ = some (.slice a l.length cap) := (hc1 _ _ (by simp; omega)).trans (by simp [go_sem])
  have t1 : w1.cell? ⟨w.heap.size + 1, 0, none⟩ = some (.int .i64 n) := (hc1 _ _ (by simp)).trans (by simp [go_sem])
  clear hc1 hf1 hb1
  go_wp2_with fail
  refine (hS _ _ _ (hA.below hB1) t0 t1).mono ?_
  rintro e w2 ⟨rfl, hb2⟩
  obtain ⟨hc2, hf2⟩ := bcell hb2
  have hB2 := hB1.trans (hb2.mono hB1.size)
  have q0 := (hc2 _ _ (World.block_lt_of_cell? _ _ r0)).trans r0
  have q1 := (hc2 _ _ (World.block_lt_of_cell? _ _ r1)).trans r1
  have q2 := (hc2 _ _ (World.block_lt_of_cell? _ _ r2)).trans r2
  have q3 := (hc2 _ _ (World.block_lt_of_cell? _ _ r3)).trans r3
  have e0 := (hf2 _ _ (World.block_lt_of_cell? _ _ r0)).trans f0
  have e1 := (hf2 _ _ (World.block_lt_of_cell? _ _ r1)).trans f1
  have e2 := (hf2 _ _ (World.block_lt_of_cell? _ _ r2)).trans f2
  have e3 := (hf2 _ _ (World.block_lt_of_cell? _ _ r3)).trans f3
  have u0 := (hc2 _ _ (World.block_lt_of_cell? _ _ t0)).trans t0
  obtain ⟨b, o, rfl, hc⟩ := (hA.below hB2).at (i := c) (r := x.cs) (by rw [List.getElem?_map, hx]; rfl)
  have c0 : w2.cell? ⟨b, o + c * 4, none⟩ = some (.int .i64 x.at_) := hc 0 _ rfl
  have c1 := hc 1 _ rfl
  have c2 := hc 2 _ rfl
  have c3 := hc 3 _ rfl
  obtain ⟨s0, s1, s2, s3⟩ := set_four (v0 := .int .i64 x.at_) (v1 := .int .i64 x.offset) (v2 := .int .i64 x.save) (v3 := .string x.abbr) q0 q1 q2 q3
  clear hc hc2 hf2 hb2 r0 r1 r2 r3 f0 f1 f2 f3 t0 t1 hI hS
  go_wp2
  exact bodyPost_ret (v := x.v) (by simp [results, Try.results8, go_sem, TurnD.v, s0, s1, s2, s3]) rfl ⟨rfl, (((hB2.setCell (show w.heap.size ≤ w.heap.size + 1 + 1 by omega) _).setCell (show w.heap.size ≤ w.heap.size + 1 + 1 by omega) _).setCell (show w.heap.size ≤ w.heap.size + 1 + 1 by omega) _).setCell (show w.heap.size ≤ w.heap.size + 1 + 1 by omega) _⟩
end Go.Proofs.Ytcelbkmnbjcjhaa
namespace Go.Proofs.Ytcelbkmnbjcjhaa
open Go.RowKit Go.Sort

set_option maxHeartbeats 4000000 in
theorem spec_TurnAt (l : List TurnD) (v : Value) (n : Int) (w : World) (hv : TabAt w v l) (hok : ∀ r ∈ l, r.ok) :
    Calls Try.prog 9 #[v, .int .i64 n] w fun e w' => e = .returned (turnAtD l n).v ∧ Below w.heap.size w w' := by
  obtain ⟨a, cap, rfl, hA⟩ := hv
  have hv : TabAt w (.agg #[.slice a l.length cap]) l := ⟨a, cap, rfl, hA⟩
  have hB0 := fun o o2 => ((Below.refl w.heap.size w).alloc (Nat.le_refl _) o).alloc (by simp) o2
  have hI := fun w (h : TabAt w (.agg #[.slice a l.length cap]) l) => spec_TableRight l _ w h hok
  have hM := fun w => spec_l01TimeT n w
  have KEEP : ∀ w1, Below ((w.alloc (.cells #[.slice a l.length cap] 25)).alloc (.cells #[.int .i64 0, .int .i64 0, .int .i64 0, .string ⟨#[]⟩] 32)).heap.size ((w.alloc (.cells #[.slice a l.length cap] 25)).alloc (.cells #[.int .i64 0, .int .i64 0, .int .i64 0, .string ⟨#[]⟩] 32)) w1 →
      (w1.cell? ⟨w.heap.size + 1, 0, none⟩ = some (.int .i64 0) ∧ w1.cell? ⟨w.heap.size + 1, 1, none⟩ = some (.int .i64 0) ∧ w1.cell? ⟨w.heap.size + 1, 2, none⟩ = some (.int .i64 0) ∧ w1.cell? ⟨w.heap.size + 1, 3, none⟩ = some (.string ⟨#[]⟩)) ∧ (∀ i, w1.frozen? ⟨w.heap.size + 1, i, none⟩ = false) ∧ w1.cell? ⟨w.heap.size, 0, none⟩ = some (.slice a l.length cap) ∧ Below w.heap.size w w1 := fun w1 hb1 => by
    obtain ⟨hc1, hf1⟩ := bcell hb1
    exact ⟨⟨(hc1 _ _ (by simp)).trans (by simp [go_sem]), (hc1 _ _ (by simp)).trans (by simp [go_sem]), (hc1 _ _ (by simp)).trans (by simp [go_sem]), (hc1 _ _ (by simp)).trans (by simp [go_sem])⟩, fun i => (hf1 _ _ (by simp)).trans (by simp [go_sem]), (hc1 _ _ (by simp; omega)).trans (by simp [go_sem]), (hB0 _ _).trans (hb1.mono (by simp; omega))⟩
  cases ht : tabB l
  · rw [turnAt_no1 ht]
    rw [ht] at hI
    clear ht
    go_enter Try.func9, Try.ntmps9
    go_wp2_with fail
    refine (hI _ (hv.below (hB0 _ _))).mono ?_
    rintro e w1 ⟨rfl, hb1⟩
    obtain ⟨⟨r0, r1, r2, r3⟩, f, t0, hB1⟩ := KEEP w1 hb1
    have f0 := f 0
    have f1 := f 1
    have f2 := f 2
    have f3 := f 3
    clear f KEEP hb1
    obtain ⟨s0, s1, s2, s3⟩ := set_four (v0 := .int .i64 0) (v1 := .int .i64 0) (v2 := .int .i64 0) (v3 := .string ⟨#[]⟩) r0 r1 r2 r3
    go_wp2
    exact bodyPost_ret (v := zeroT.v) (by simp [results, Try.results9, go_sem, zeroT, TurnD.v, s0, s1, s2, s3]) rfl ⟨rfl, (((hB1.setCell (show w.heap.size ≤ w.heap.size + 1 by omega) _).setCell (show w.heap.size ≤ w.heap.size + 1 by omega) _).setCell (show w.heap.size ≤ w.heap.size + 1 by omega) _).setCell (show w.heap.size ≤ w.heap.size + 1 by omega) _⟩
  rw [ht] at hI
  cases hn : isB n (-62135596800) 253402300799
  · rw [turnAt_no2 hn]
    rw [hn] at hM
    clear hn ht
    go_enter Try.func9, Try.ntmps9
    go_wp2_with fail
    refine (hI _ (hv.below (hB0 _ _))).mono ?_
    rintro e w1 ⟨rfl, hb1⟩
    obtain ⟨⟨r0, r1, r2, r3⟩, f, t0, hB1⟩ := KEEP w1 hb1
    have f0 := f 0
    have f1 := f 1
    have f2 := f 2
    have f3 := f 3
    clear f KEEP hb1
    obtain ⟨s0, s1, s2, s3⟩ := set_four (v0 := .int .i64 0) (v1 := .int .i64 0) (v2 := .int .i64 0) (v3 := .string ⟨#[]⟩) r0 r1 r2 r3
    go_wp2_with fail
    refine (hM _).mono ?_
    rintro e w' ⟨rfl, rfl⟩
    go_wp2
    exact bodyPost_ret (v := zeroT.v) (by simp [results, Try.results9, go_sem, zeroT, TurnD.v, s0, s1, s2, s3]) rfl ⟨rfl, (((hB1.setCell (show w.heap.size ≤ w.heap.size + 1 by omega) _).setCell (show w.heap.size ≤ w.heap.size + 1 by omega) _).setCell (show w.heap.size ≤ w.heap.size + 1 by omega) _).setCell (show w.heap.size ≤ w.heap.size + 1 by omega) _⟩
  rw [hn] at hM
  have hnn := isB_of_t hn
  have hR := tab_of ht
  have hlen := hR.len
  obtain ⟨f, hf⟩ : ∃ r, l[0]? = some r := ⟨_, List.getElem?_eq_getElem (by omega)⟩
  have hp1 := cnt_pos (n := n) hf (by rw [hR.first f hf]; omega)
  have hp2 := cnt_le l n
  obtain ⟨x, hx⟩ : ∃ r, l[cntT l n - 1]? = some r := ⟨_, List.getElem?_eq_getElem (by omega)⟩
  rw [turnAt_yes ht hn hx]
  have hS := fun w (h : SeqAt w a 4 (l.map TurnD.cs)) => spec_l03At l a cap n w h hR hnn.1
  obtain ⟨c, hcc⟩ : ∃ c, cntT l n = c + 1 := ⟨cntT l n - 1, by omega⟩
  rw [hcc] at hS hp1 hp2 hx
  simp only [Nat.add_sub_cancel] at hx hS
  clear ht hcc hR hf hp1 hn
  go_enter Try.func9, Try.ntmps9
  go_wp2_with fail
  refine (hI _ (hv.below (hB0 _ _))).mono ?_
  rintro e w1 ⟨rfl, hb1⟩
  obtain ⟨⟨r0, r1, r2, r3⟩, f, t0, hB1⟩ := KEEP w1 hb1
  have f0 := f 0
  have f1 := f 1
  have f2 := f 2
  have f3 := f 3
  clear f KEEP hb1
  go_wp2_with fail
  refine (hM _).mono ?_
  rintro e w' ⟨rfl, rfl⟩
  clear hM hI
  have hD : Below w'.heap.size w' w'.drew := ⟨rfl, rfl, rfl, Nat.le_refl _, fun _ _ => rfl⟩
  have hBD : Below w.heap.size w w'.drew := hB1.trans (hD.mono hB1.size)
  have hAD := hA.below hBD
  obtain ⟨b, o, rfl, hc⟩ := hAD.at (i := c) (r := x.cs) (by rw [List.getElem?_map, hx]; rfl)
  have hbl : b < w.heap.size := by
    obtain ⟨b', o', he, hd⟩ := hA.at (i := c) (r := x.cs) (by rw [List.getElem?_map, hx]; rfl)
    injection he with he
    injection he with u1 u2
    subst u1 u2
    exact World.block_lt_of_cell? _ _ (hd 0 _ rfl)
  have hne1 : b ≠ w.heap.size + 1 := by omega
  have hne2 : w.heap.size + 1 ≠ b := by omega
  have c0 : w'.drew.cell? ⟨b, o + c * 4, none⟩ = some (.int .i64 x.at_) := hc 0 _ rfl
  have c1 : w'.drew.cell? ⟨b, o + c * 4 + 1, none⟩ = some (.int .i64 x.offset) := hc 1 _ rfl
  have c2 : w'.drew.cell? ⟨b, o + c * 4 + 2, none⟩ = some (.int .i64 x.save) := hc 2 _ rfl
  have c3 : w'.drew.cell? ⟨b, o + c * 4 + 3, none⟩ = some (.string x.abbr) := hc 3 _ rfl
  have i0 : (0 : Int) ≤ (c : Int) := by omega
  have i1 : (c : Int) < (l.length : Int) := by omega
  clear hc
  have R0 : w'.drew.cell? ⟨w.heap.size + 1, 0, none⟩ = some (.int .i64 0) := r0
  have R1 : w'.drew.cell? ⟨w.heap.size + 1, 1, none⟩ = some (.int .i64 0) := r1
  have R2 : w'.drew.cell? ⟨w.heap.size + 1, 2, none⟩ = some (.int .i64 0) := r2
  have R3 : w'.drew.cell? ⟨w.heap.size + 1, 3, none⟩ = some (.string ⟨#[]⟩) := r3
  have T0 : w'.drew.cell? ⟨w.heap.size, 0, none⟩ = some (.slice (some ⟨b, o, none⟩) l.length cap) := t0
  have F0 : w'.drew.frozen? ⟨w.heap.size + 1, 0, none⟩ = false := f0
  have F1 : w'.drew.frozen? ⟨w.heap.size + 1, 1, none⟩ = false := f1
  have F2 : w'.drew.frozen? ⟨w.heap.size + 1, 2, none⟩ = false := f2
  have F3 : w'.drew.frozen? ⟨w.heap.size + 1, 3, none⟩ = false := f3
  go_wp2_with fail
  go_region_held3 (fun w' => w'.cell? ⟨w.heap.size, 0, none⟩ = some (.slice (some ⟨b, o, none⟩) l.length cap) ∧ w'.cell? ⟨b, o + c * 4, none⟩ = some (.int .i64 x.at_) ∧ w'.cell? ⟨b, o + c * 4 + 1, none⟩ = some (.int .i64 x.offset) ∧ w'.cell? ⟨b, o + c * 4 + 2, none⟩ = some (.int .i64 x.save) ∧ w'.cell? ⟨b, o + c * 4 + 3, none⟩ = some (.string x.abbr)) (go_keep) (first | (go_at_call 25; refine (hS _ hAD).mono ?_; rintro e w2 ⟨rfl, hb2⟩; have gc := (bcell hb2).1; have gf := (bcell hb2).2; have u0 := (gc _ _ (World.block_lt_of_cell? _ _ T0)).trans T0; have d0 := (gc _ _ (World.block_lt_of_cell? _ _ c0)).trans c0; have d1 := (gc _ _ (World.block_lt_of_cell? _ _ c1)).trans c1; have d2 := (gc _ _ (World.block_lt_of_cell? _ _ c2)).trans c2; have d3 := (gc _ _ (World.block_lt_of_cell? _ _ c3)).trans c3; have q0 := (gc _ _ (World.block_lt_of_cell? _ _ R0)).trans R0; have q1 := (gc _ _ (World.block_lt_of_cell? _ _ R1)).trans R1; have q2 := (gc _ _ (World.block_lt_of_cell? _ _ R2)).trans R2; have q3 := (gc _ _ (World.block_lt_of_cell? _ _ R3)).trans R3; have p0 := (gf _ _ (World.block_lt_of_cell? _ _ R0)).trans F0; have p1 := (gf _ _ (World.block_lt_of_cell? _ _ R1)).trans F1; have p2 := (gf _ _ (World.block_lt_of_cell? _ _ R2)).trans F2; have p3 := (gf _ _ (World.block_lt_of_cell? _ _ R3)).trans F3; clear gc gf))
  have hB2 := hBD.trans (hb2.mono hBD.size)
  obtain ⟨s0, s1, s2, s3⟩ := set_four (v0 := .int .i64 x.at_) (v1 := .int .i64 x.offset) (v2 := .int .i64 x.save) (v3 := .string x.abbr) q0 q1 q2 q3
  go_wp2
  exact bodyPost_ret (v := x.v) (by simp [results, Try.results9, go_sem, TurnD.v, s0, s1, s2, s3]) rfl ⟨rfl, (((hB2.setCell (show w.heap.size ≤ w.heap.size + 1 by omega) _).setCell (show w.heap.size ≤ w.heap.size + 1 by omega) _).setCell (show w.heap.size ≤ w.heap.size + 1 by omega) _).setCell (show w.heap.size ≤ w.heap.size + 1 by omega) _⟩
end Go.Proofs.Ytcelbkmnbjcjhaa
namespace Go.Proofs.Ytcelbkmnbjcjhaa
open Go.RowKit Go.Sort

/-- a number and a code. -/
def outV (p : Int × Int) : Value := .agg #[.int .i64 p.1, .int .i64 p.2]
def timeD (m : Int) : Int × Int := if isB m (-62135596800) 253402300799 = true then (m, 0) else (0, 4)
theorem timeD_t {m : Int} (h : isB m (-62135596800) 253402300799 = true) : timeD m = (m, 0) := by unfold timeD; rw [if_pos h]
theorem timeD_f {m : Int} (h : isB m (-62135596800) 253402300799 = false) : timeD m = (0, 4) := by unfold timeD; rw [if_neg (by rw [h]; simp)]
def wallD (l : List TurnD) (n : Int) : Int × Int := if tabB l = true ∧ isB n (-62135596800) 253402300799 = true then timeD (n + (turnAtD l n).offset) else (0, 1)
theorem wallD_no1 {l : List TurnD} {n : Int} (h : tabB l = false) : wallD l n = (0, 1) := by unfold wallD; rw [if_neg (by rw [h]; simp)]
theorem wallD_no2 {l : List TurnD} {n : Int} (h : isB n (-62135596800) 253402300799 = false) : wallD l n = (0, 1) := by unfold wallD; rw [if_neg (by rw [h]; simp)]
theorem wallD_yes {l : List TurnD} {n : Int} (h : tabB l = true) (h2 : isB n (-62135596800) 253402300799 = true) : wallD l n = timeD (n + (turnAtD l n).offset) := by unfold wallD; rw [if_pos ⟨h, h2⟩]
theorem set_twoW {w : World} {b : Nat} {x0 x1 v0 v1 : Value} (h0 : w.cell? ⟨b, 0, none⟩ = some x0) (h1 : w.cell? ⟨b, 1, none⟩ = some x1) :
    ((w.setCell ⟨b, 0, none⟩ v0).setCell ⟨b, 1, none⟩ v1).cell? ⟨b, 0, none⟩ = some v0 ∧ ((w.setCell ⟨b, 0, none⟩ v0).setCell ⟨b, 1, none⟩ v1).cell? ⟨b, 1, none⟩ = some v1 := by
  refine ⟨?_, ?_⟩
  · rw [World.cell?_setCell_other _ _ _ _ (by simp), World.cell?_setCell_same _ _ _ h0]
  · refine World.cell?_setCell_same _ _ _ (u := x1) ?_
    rw [World.cell?_setCell_other _ _ _ _ (by simp)]; exact h1
set_option maxHeartbeats 1000000 in
theorem impl_timeOrRange (m : Int) (w : World) :
    Calls Try.prog 23 #[.int .i64 m] w fun e w' => e = .returned (outV (timeD m)) ∧ Below w.heap.size w w' := by
  have hB0 := fun o => (Below.refl w.heap.size w).alloc (Nat.le_refl _) o
  have hM := fun w => impl_isTimeT m w
  cases h : isB m (-62135596800) 253402300799
  · rw [timeD_f h]
    rw [h] at hM
    clear h
    go_enter Try.func23, Try.ntmps23
    go_wp2_with (go_at_call 22; refine (hM _).mono ?_; rintro e w' ⟨rfl, rfl⟩)
    exact bodyPost_ret (v := outV (0, 4)) (by simp [results, Try.results23, go_sem, outV]) rfl ⟨rfl, hB0 _⟩
  · rw [timeD_t h]
    rw [h] at hM
    clear h
    go_enter Try.func23, Try.ntmps23
    go_wp2_with (go_at_call 22; refine (hM _).mono ?_; rintro e w' ⟨rfl, rfl⟩)
    exact bodyPost_ret (v := outV (m, 0)) (by simp [results, Try.results23, go_sem, outV]) rfl ⟨rfl, hB0 _⟩
/-- the offset of a right table's turn is small. -/
theorem turnAt_off {l : List TurnD} {n : Int} (h : tabB l = true) (h2 : isB n (-62135596800) 253402300799 = true) : -100000 ≤ (turnAtD l n).offset ∧ (turnAtD l n).offset ≤ 100000 := by
  have hR := tab_of h
  have hlen := hR.len
  obtain ⟨f, hf⟩ : ∃ r, l[0]? = some r := ⟨_, List.getElem?_eq_getElem (by omega)⟩
  have hn := isB_of_t h2
  have hp1 := cnt_pos (n := n) hf (by rw [hR.first f hf]; omega)
  have hp2 := cnt_le l n
  obtain ⟨x, hx⟩ : ∃ r, l[cntT l n - 1]? = some r := ⟨_, List.getElem?_eq_getElem (by omega)⟩
  rw [turnAt_yes h h2 hx]
  have := hR.one x (List.mem_of_getElem? hx)
  unfold turnB at this
  rw [Bool.and_eq_true] at this
  exact isB_of_t this.1
set_option maxRecDepth 20000 in
set_option maxHeartbeats 4000000 in
theorem impl_WallOf (l : List TurnD) (v : Value) (n : Int) (w : World) (hv : TabAt w v l) (hok : ∀ r ∈ l, r.ok) (hl : l.length ≤ 1048576) :
    Calls Try.prog 6 #[v, .int .i64 n] w fun e w' => e = .returned (outV (wallD l n)) ∧ Below w.heap.size w w' := by
  obtain ⟨a, cap, rfl, hA⟩ := hv
  have hv : TabAt w (.agg #[.slice a l.length cap]) l := ⟨a, cap, rfl, hA⟩
  have hB0 := fun o o2 => ((Below.refl w.heap.size w).alloc (Nat.le_refl _) o).alloc (by simp) o2
  have hM := fun w => impl_isTimeT n w
  have hI := fun w (h : TabAt w (.agg #[.slice a l.length cap]) l) => impl_TableRight l _ w h hok hl
  have hT := fun w (h : TabAt w (.agg #[.slice a l.length cap]) l) => impl_TurnAt l _ n w h hok hl
  have hR := fun m w => impl_timeOrRange m w
  have KEEP : ∀ w1, Below ((w.alloc (.cells #[.slice a l.length cap] 25)).alloc (.cells #[.int .i64 0, .int .i64 0] 29)).heap.size ((w.alloc (.cells #[.slice a l.length cap] 25)).alloc (.cells #[.int .i64 0, .int .i64 0] 29)) w1 →
      (w1.cell? ⟨w.heap.size + 1, 0, none⟩ = some (.int .i64 0) ∧ w1.cell? ⟨w.heap.size + 1, 1, none⟩ = some (.int .i64 0)) ∧ (∀ i, w1.frozen? ⟨w.heap.size + 1, i, none⟩ = false) ∧ w1.cell? ⟨w.heap.size, 0, none⟩ = some (.slice a l.length cap) ∧ Below w.heap.size w w1 := fun w1 hb1 => by
    obtain ⟨hc1, hf1⟩ := bcell hb1
    exact ⟨⟨(hc1 _ _ (by simp)).trans (by simp [go_sem]), (hc1 _ _ (by simp)).trans (by simp [go_sem])⟩, fun i => (hf1 _ _ (by simp)).trans (by simp [go_sem]), (hc1 _ _ (by simp; omega)).trans (by simp [go_sem]), (hB0 _ _).trans (hb1.mono (by simp; omega))⟩
  cases hn : isB n (-62135596800) 253402300799
  · rw [wallD_no2 hn]
    rw [hn] at hM
    clear hn
    go_enter Try.func6, Try.ntmps6
    go_wp2_with (go_at_call 22; refine (hM _).mono ?_; rintro e w' ⟨rfl, rfl⟩)
    exact bodyPost_ret (v := outV (0, 1)) (by simp [results, Try.results6, go_sem, outV]) rfl ⟨rfl, hB0 _ _⟩
  rw [hn] at hM
  cases ht : tabB l
  · rw [wallD_no1 ht]
    rw [ht] at hI
    clear ht hn
    go_enter Try.func6, Try.ntmps6
    go_wp2_with fail
    refine (hM _).mono ?_
    rintro e wM ⟨rfl, rfl⟩
    go_wp2_with fail
    refine (hI _ (hv.below (hB0 _ _))).mono ?_
    rintro e w1 ⟨rfl, hb1⟩
    obtain ⟨⟨r0, r1⟩, f, t0, hB1⟩ := KEEP w1 hb1
    have f0 := f 0
    have f1 := f 1
    obtain ⟨s0, s1⟩ := set_twoW (v0 := .int .i64 0) (v1 := .int .i64 1) r0 r1
    clear f KEEP hb1
    go_wp2
    exact bodyPost_ret (v := outV (0, 1)) (by simp [results, Try.results6, go_sem, outV, s0, s1]) rfl ⟨rfl, (hB1.setCell (show w.heap.size ≤ w.heap.size + 1 by omega) _).setCell (show w.heap.size ≤ w.heap.size + 1 by omega) _⟩
  rw [wallD_yes ht hn]
  rw [ht] at hI
  have hoff := turnAt_off ht hn
  obtain ⟨n1, n2⟩ := isB_of_t hn
  clear ht hn
  generalize turnAtD l n = T at *
  obtain ⟨tA, tO, tS, tB⟩ := T
  simp only [TurnD.v] at hT hoff ⊢
  obtain ⟨o1, o2⟩ := hoff
  have hR := fun w => impl_timeOrRange (n + tO) w
  generalize timeD (n + tO) = P at *
  obtain ⟨pN, pC⟩ := P
  unfold outV at hR ⊢
  have hfd : ∀ w : World, (Instr.field 32 (.agg #[.int .i64 tA, .int .i64 tO, .int .i64 tS, .string tB]) 1).run Try.prog w = .ok (.int .i64 tO) w := fun _ => by kernel_rfl
  go_enter Try.func6, Try.ntmps6
  go_wp2_with fail
  refine (hM _).mono ?_
  rintro e wM ⟨rfl, rfl⟩
  go_wp2_with fail
  refine (hI _ (hv.below (hB0 _ _))).mono ?_
  rintro e w1 ⟨rfl, hb1⟩
  obtain ⟨⟨r0, r1⟩, f, t0, hB1⟩ := KEEP w1 hb1
  clear KEEP
  go_wp2_with fail
  refine (hT _ (hv.below hB1)).mono ?_
  rintro e w2 ⟨rfl, hb2⟩
  obtain ⟨hc2, hf2⟩ := bcell hb2
  have hB2 := hB1.trans (hb2.mono hB1.size)
  have p0 := (hc2 _ _ (World.block_lt_of_cell? _ _ r0)).trans r0
  have p1 := (hc2 _ _ (World.block_lt_of_cell? _ _ r1)).trans r1
  have g0 := (hf2 _ _ (World.block_lt_of_cell? _ _ r0)).trans (f 0)
  have g1 := (hf2 _ _ (World.block_lt_of_cell? _ _ r1)).trans (f 1)
  clear hc2 hf2 hb2 hb1 r0 r1 f t0
  go_wp2_with fail
  refine (hR _).mono ?_
  rintro e w3 ⟨rfl, hb3⟩
  obtain ⟨hc3, hf3⟩ := bcell hb3
  have hB3 := hB2.trans (hb3.mono hB2.size)
  have q0 := (hc3 _ _ (World.block_lt_of_cell? _ _ p0)).trans p0
  have q1 := (hc3 _ _ (World.block_lt_of_cell? _ _ p1)).trans p1
  have e0 := (hf3 _ _ (World.block_lt_of_cell? _ _ p0)).trans g0
  have e1 := (hf3 _ _ (World.block_lt_of_cell? _ _ p1)).trans g1
  obtain ⟨s0, s1⟩ := set_twoW (v0 := .int .i64 pN) (v1 := .int .i64 pC) q0 q1
  clear hc3 hf3 hb3 p0 p1 g0 g1
  go_wp2
  exact bodyPost_ret (v := .agg #[.int .i64 pN, .int .i64 pC]) (by simp [results, Try.results6, go_sem, s0, s1]) rfl ⟨rfl, (hB3.setCell (show w.heap.size ≤ w.heap.size + 1 by omega) _).setCell (show w.heap.size ≤ w.heap.size + 1 by omega) _⟩
end Go.Proofs.Ytcelbkmnbjcjhaa
namespace Go.Proofs.Ytcelbkmnbjcjhaa
open Go.RowKit Go.Sort

set_option maxRecDepth 20000 in
set_option maxHeartbeats 4000000 in
theorem spec_WallOf (l : List TurnD) (v : Value) (n : Int) (w : World) (hv : TabAt w v l) (hok : ∀ r ∈ l, r.ok) :
    Calls Try.prog 7 #[v, .int .i64 n] w fun e w' => e = .returned (outV (wallD l n)) ∧ Below w.heap.size w w' := by
  obtain ⟨a, cap, rfl, hA⟩ := hv
  have hv : TabAt w (.agg #[.slice a l.length cap]) l := ⟨a, cap, rfl, hA⟩
  have hB0 := fun o o2 => ((Below.refl w.heap.size w).alloc (Nat.le_refl _) o).alloc (by simp) o2
  have hI := fun w (h : TabAt w (.agg #[.slice a l.length cap]) l) => spec_TableRight l _ w h hok
  have hM := fun w => spec_l01TimeT n w
  have KEEP : ∀ w1, Below ((w.alloc (.cells #[.slice a l.length cap] 25)).alloc (.cells #[.int .i64 0, .int .i64 0] 29)).heap.size ((w.alloc (.cells #[.slice a l.length cap] 25)).alloc (.cells #[.int .i64 0, .int .i64 0] 29)) w1 →
      (w1.cell? ⟨w.heap.size + 1, 0, none⟩ = some (.int .i64 0) ∧ w1.cell? ⟨w.heap.size + 1, 1, none⟩ = some (.int .i64 0)) ∧ (∀ i, w1.frozen? ⟨w.heap.size + 1, i, none⟩ = false) ∧ w1.cell? ⟨w.heap.size, 0, none⟩ = some (.slice a l.length cap) ∧ Below w.heap.size w w1 := fun w1 hb1 => by
    obtain ⟨hc1, hf1⟩ := bcell hb1
    exact ⟨⟨(hc1 _ _ (by simp)).trans (by simp [go_sem]), (hc1 _ _ (by simp)).trans (by simp [go_sem])⟩, fun i => (hf1 _ _ (by simp)).trans (by simp [go_sem]), (hc1 _ _ (by simp; omega)).trans (by simp [go_sem]), (hB0 _ _).trans (hb1.mono (by simp; omega))⟩
  cases ht : tabB l
  · rw [wallD_no1 ht]
    rw [ht] at hI
    clear ht
    go_enter Try.func7, Try.ntmps7
    go_wp2_with fail
    refine (hI _ (hv.below (hB0 _ _))).mono ?_
    rintro e w1 ⟨rfl, hb1⟩
    obtain ⟨⟨r0, r1⟩, f, t0, hB1⟩ := KEEP w1 hb1
    have f0 := f 0
    have f1 := f 1
    clear f KEEP hb1
    obtain ⟨s0, s1⟩ := set_twoW (v0 := .int .i64 0) (v1 := .int .i64 1) r0 r1
    go_wp2
    exact bodyPost_ret (v := outV (0, 1)) (by simp [results, Try.results7, go_sem, outV, s0, s1]) rfl ⟨rfl, (hB1.setCell (show w.heap.size ≤ w.heap.size + 1 by omega) _).setCell (show w.heap.size ≤ w.heap.size + 1 by omega) _⟩
  rw [ht] at hI
  cases hn : isB n (-62135596800) 253402300799
  · rw [wallD_no2 hn]
    rw [hn] at hM
    clear hn ht
    go_enter Try.func7, Try.ntmps7
    go_wp2_with fail
    refine (hI _ (hv.below (hB0 _ _))).mono ?_
    rintro e w1 ⟨rfl, hb1⟩
    obtain ⟨⟨r0, r1⟩, f, t0, hB1⟩ := KEEP w1 hb1
    have f0 := f 0
    have f1 := f 1
    clear f KEEP hb1
    obtain ⟨s0, s1⟩ := set_twoW (v0 := .int .i64 0) (v1 := .int .i64 1) r0 r1
    go_wp2_with fail
    refine (hM _).mono ?_
    rintro e w' ⟨rfl, rfl⟩
    go_wp2
    exact bodyPost_ret (v := outV (0, 1)) (by simp [results, Try.results7, go_sem, outV, s0, s1]) rfl ⟨rfl, (hB1.setCell (show w.heap.size ≤ w.heap.size + 1 by omega) _).setCell (show w.heap.size ≤ w.heap.size + 1 by omega) _⟩
  rw [hn] at hM
  have hoff := turnAt_off ht hn
  obtain ⟨n1, n2⟩ := isB_of_t hn
  have hR := tab_of ht
  have hlen := hR.len
  obtain ⟨f, hf⟩ : ∃ r, l[0]? = some r := ⟨_, List.getElem?_eq_getElem (by omega)⟩
  have hp1 := cnt_pos (n := n) hf (by rw [hR.first f hf]; omega)
  have hp2 := cnt_le l n
  obtain ⟨x, hx⟩ : ∃ r, l[cntT l n - 1]? = some r := ⟨_, List.getElem?_eq_getElem (by omega)⟩
  rw [wallD_yes ht hn]
  rw [turnAt_yes ht hn hx] at hoff ⊢
  obtain ⟨o1, o2⟩ := hoff
  have hS := fun w (h : SeqAt w a 4 (l.map TurnD.cs)) => spec_l03At l a cap n w h hR n1
  obtain ⟨c, hcc⟩ : ∃ c, cntT l n = c + 1 := ⟨cntT l n - 1, by omega⟩
  rw [hcc] at hS hp1 hp2 hx
  simp only [Nat.add_sub_cancel] at hx hS
  clear ht hcc hR hf hp1 hn
  have hM2 := fun w => spec_l01TimeT (n + x.offset) w
  have HT : Hid ((isB (n + x.offset) (-62135596800) 253402300799 = true → timeD (n + x.offset) = (n + x.offset, 0)) ∧ (isB (n + x.offset) (-62135596800) 253402300799 = false → timeD (n + x.offset) = (0, 4))) := ⟨timeD_t, timeD_f⟩
  generalize timeD (n + x.offset) = P at *
  generalize isB (n + x.offset) (-62135596800) 253402300799 = Bm at *
  go_enter Try.func7, Try.ntmps7
  go_wp2_with fail
  refine (hI _ (hv.below (hB0 _ _))).mono ?_
  rintro e w1 ⟨rfl, hb1⟩
  obtain ⟨⟨r0, r1⟩, f, t0, hB1⟩ := KEEP w1 hb1
  have f0 := f 0
  have f1 := f 1
  clear f KEEP hb1
  go_wp2_with fail
  refine (hM _).mono ?_
  rintro e w' ⟨rfl, rfl⟩
  clear hM hI
  have hD : Below w'.heap.size w' w'.drew := ⟨rfl, rfl, rfl, Nat.le_refl _, fun _ _ => rfl⟩
  have hBD : Below w.heap.size w w'.drew := hB1.trans (hD.mono hB1.size)
  have hAD := hA.below hBD
  obtain ⟨b, o, rfl, hc⟩ := hAD.at (i := c) (r := x.cs) (by rw [List.getElem?_map, hx]; rfl)
  have c1 : w'.drew.cell? ⟨b, o + c * 4 + 1, none⟩ = some (.int .i64 x.offset) := hc 1 _ rfl
  have i0 : (0 : Int) ≤ (c : Int) := by omega
  have i1 : (c : Int) < (l.length : Int) := by omega
  clear hc
  have R0 : w'.drew.cell? ⟨w.heap.size + 1, 0, none⟩ = some (.int .i64 0) := r0
  have R1 : w'.drew.cell? ⟨w.heap.size + 1, 1, none⟩ = some (.int .i64 0) := r1
  have T0 : w'.drew.cell? ⟨w.heap.size, 0, none⟩ = some (.slice (some ⟨b, o, none⟩) l.length cap) := t0
  have F0 : w'.drew.frozen? ⟨w.heap.size + 1, 0, none⟩ = false := f0
  have F1 : w'.drew.frozen? ⟨w.heap.size + 1, 1, none⟩ = false := f1
  go_wp2_with fail
  go_region_held3 (fun w' => w'.cell? ⟨w.heap.size, 0, none⟩ = some (.slice (some ⟨b, o, none⟩) l.length cap) ∧ w'.cell? ⟨b, o + c * 4 + 1, none⟩ = some (.int .i64 x.offset)) (go_keep) (first | (go_at_call 25; refine (hS _ hAD).mono ?_; rintro e w2 ⟨rfl, hb2⟩; have gc := (bcell hb2).1; have gf := (bcell hb2).2; have u0 := (gc _ _ (World.block_lt_of_cell? _ _ T0)).trans T0; have d1 := (gc _ _ (World.block_lt_of_cell? _ _ c1)).trans c1; have q0 := (gc _ _ (World.block_lt_of_cell? _ _ R0)).trans R0; have q1 := (gc _ _ (World.block_lt_of_cell? _ _ R1)).trans R1; have p0 := (gf _ _ (World.block_lt_of_cell? _ _ R0)).trans F0; have p1 := (gf _ _ (World.block_lt_of_cell? _ _ R1)).trans F1; clear gc gf))
  have hB2 := hBD.trans (hb2.mono hBD.size)
  clear hb2
  cases Bm
  · obtain rfl := HT.out.2 rfl
    obtain ⟨s0, s1⟩ := set_twoW (v0 := .int .i64 0) (v1 := .int .i64 4) q0 q1
    go_wp2_with fail
    refine (hM2 _).mono ?_
    rintro e w3 ⟨rfl, rfl⟩
    go_wp2
    exact bodyPost_ret (v := outV (0, 4)) (by simp [results, Try.results7, go_sem, outV, s0, s1]) rfl ⟨rfl, (hB2.setCell (show w.heap.size ≤ w.heap.size + 1 by omega) _).setCell (show w.heap.size ≤ w.heap.size + 1 by omega) _⟩
  · obtain rfl := HT.out.1 rfl
    obtain ⟨s0, s1⟩ := set_twoW (v0 := .int .i64 (n + x.offset)) (v1 := .int .i64 0) q0 q1
    go_wp2_with fail
    refine (hM2 _).mono ?_
    rintro e w3 ⟨rfl, rfl⟩
    go_wp2
    exact bodyPost_ret (v := outV (n + x.offset, 0)) (by simp [results, Try.results7, go_sem, outV, s0, s1]) rfl ⟨rfl, (hB2.setCell (show w.heap.size ≤ w.heap.size + 1 by omega) _).setCell (show w.heap.size ≤ w.heap.size + 1 by omega) _⟩
end Go.Proofs.Ytcelbkmnbjcjhaa
namespace Go.Proofs.Ytcelbkmnbjcjhaa
open Go.RowKit

set_option maxRecDepth 100000 in
theorem fields_outE : ∃ a b c d e f, (Try.prog.fieldsOf 29).toList = [⟨ "N", 2, 0, false, a, b, c⟩, ⟨ "Code", 2, 1, false, d, e, f⟩] := ⟨_, _, _, _, _, _, rfl⟩
theorem eq_outE (p1 p2 q1 q2 : Int) (w : World) : (Op.equalIn 10000 29 (.agg #[.int .i64 p1, .int .i64 p2]) (.agg #[.int .i64 q1, .int .i64 q2])).run Try.prog w = .ok (decide (p1 = q1 ∧ p2 = q2)) w := by
  have ht : Try.prog.underlying 29 = some (.struct (Try.prog.fieldsOf 29)) := by kernel_rfl
  have hp : Try.prog.stoodInHeld 29 = false := by kernel_rfl
  obtain ⟨a, b, c, d, e, f, hf⟩ := fields_outE
  rw [run_equalIn_agg _ 9999 _ _ _ ht hp, hf]
  simp [Op.eqFields, go_sem]
  by_cases h1 : p1 = q1
  · by_cases h2 : p2 = q2
    · simp [h1, h2]
    · simp [h1, h2]
  · simp [h1]
theorem neq_outE (p1 p2 q1 q2 : Int) (w : World) : (binOp .neq 29 (.agg #[.int .i64 p1, .int .i64 p2]) (.agg #[.int .i64 q1, .int .i64 q2])).run Try.prog w = .ok (.bool (!decide (p1 = q1 ∧ p2 = q2))) w := by
  rw [run_neq_struct, eq_outE]; rfl
theorem eql_outE (p1 p2 q1 q2 : Int) (w : World) : (binOp .eql 29 (.agg #[.int .i64 p1, .int .i64 p2]) (.agg #[.int .i64 q1, .int .i64 q2])).run Try.prog w = .ok (.bool (decide (p1 = q1 ∧ p2 = q2))) w := by
  rw [run_eql_struct, eq_outE]; rfl
theorem guard_outE (op : BinOp) (x y : Operand) (v1 v2 : Array Value) (w : World) : (eqGuard op 29 x y (.agg v1) (.agg v2)).run Try.prog w = .ok () w := run_eqGuard_agg w _ _ _ _ _ _ (by kernel_rfl)
set_option maxRecDepth 100000 in
theorem fields_turnE : ∃ a b c d e f g h i j k l, (Try.prog.fieldsOf 32).toList = [⟨ "At", 2, 0, false, a, b, c⟩, ⟨ "Offset", 2, 1, false, d, e, f⟩, ⟨ "Save", 2, 2, false, g, h, i⟩, ⟨ "Abbr", 9, 3, false, j, k, l⟩] := ⟨_, _, _, _, _, _, _, _, _, _, _, _, rfl⟩
theorem neq_turnE (t o s : Int) (b : ByteArray) (w : World) : (binOp .neq 32 (.agg #[.int .i64 t, .int .i64 o, .int .i64 s, .string b]) (.agg #[.int .i64 t, .int .i64 o, .int .i64 s, .string b])).run Try.prog w = .ok (.bool false) w := by
  have ht : Try.prog.underlying 32 = some (.struct (Try.prog.fieldsOf 32)) := by kernel_rfl
  have hp : Try.prog.stoodInHeld 32 = false := by kernel_rfl
  obtain ⟨a, b', c, d, e, f, g, h, i, j, k, l, hf⟩ := fields_turnE
  rw [run_neq_struct, run_equalIn_agg _ 9999 _ _ _ ht hp, hf]
  simp [Op.eqFields, go_sem]
theorem guard_turnE (op : BinOp) (x y : Operand) (v1 v2 : Array Value) (w : World) : (eqGuard op 32 x y (.agg v1) (.agg v2)).run Try.prog w = .ok () w := run_eqGuard_agg w _ _ _ _ _ _ (by kernel_rfl)
theorem ints_get {w : World} {base : Nat} {v : Value} {L : List Int} (h : w.ownsRow base 2 1 v L.length (L.map (Value.int .i64))) {i : Nat} {x : Int} (hx : L[i]? = some x) : ∃ g c, v = .slice (some ⟨g, 0, none⟩) L.length c ∧ w.cell? ⟨g, i, none⟩ = some (.int .i64 x) := by
  have hi : i < L.length := (List.getElem?_eq_some_iff.1 hx).1
  have h' := h
  rcases h'.2 with ⟨_, h0⟩ | ⟨g, c, cur, rfl, _⟩
  · omega
  · exact ⟨g, c, rfl, by rw [h.cellAt i (by omega), List.getElem?_map, hx]; rfl⟩
theorem ints_slice {w : World} {base : Nat} {v : Value} {L : List Int} (h : w.ownsRow base 2 1 v L.length (L.map (Value.int .i64))) : ∃ a c, v = .slice a L.length c := by
  rcases h.2 with ⟨rfl, h0⟩ | ⟨g, c, cur, rfl, _⟩
  · exact ⟨none, 0, by rw [h0]⟩
  · exact ⟨_, _, rfl⟩
set_option maxRecDepth 20000 in
set_option maxHeartbeats 2000000 in
theorem laws_lwIn (L : List Int) (v : Value) (base : Nat) (x : Int) (w : World) (h : w.ownsRow base 2 1 v L.length (L.map (Value.int .i64))) (hx : x ∈ L) (hl : L.length ≤ 600) :
    Calls Try.prog 12 #[v, .int .i64 x] w fun e w' => e = .returned (.bool true) ∧ w' = w := by
  obtain ⟨i, hi, rfl⟩ := List.getElem_of_mem hx
  obtain ⟨g, c, rfl, hc⟩ := ints_get h (List.getElem?_eq_getElem hi)
  have HC : Hid (∀ j (hj : j < L.length), w.cell? ⟨g, j, none⟩ = some (.int .i64 L[j])) := fun j hj => by
    obtain ⟨g2, c2, e, h2⟩ := ints_get h (List.getElem?_eq_getElem hj)
    injection e with e _ _
    injection e with e
    injection e with e _ _
    subst e
    exact h2
  generalize hz : L[i] = z at *
  have HZ : Hid (L[i]? = some z) := by simp only [Hid]; rw [List.getElem?_eq_getElem hi, hz]
  clear hz h hx hc
  obtain ⟨n, hn⟩ : ∃ n, L.length = n := ⟨_, rfl⟩
  have HN : Hid (L.length = n) := hn
  rw [hn] at hi hl
  rw [hn]
  clear hn
  go_enter Try.func12, Try.ntmps12
  go_wp2
  go_loop [5] (fun s => ∃ k : Nat, k ≤ i ∧ s = .int .i64 k) (fun s => i - (intOf s).toNat)
  case atStart => exact ⟨0, by omega, rfl⟩
  case round =>
    obtain ⟨k, hk, rfl⟩ := hrel
    have hkn : (k : Int) < (n : Int) := by omega
    obtain ⟨y, hy⟩ : ∃ y, L[k]? = some y := ⟨_, List.getElem?_eq_getElem (by have := HN.out; omega)⟩
    have cy : w.cell? ⟨g, k, none⟩ = some (.int .i64 y) := by
      have h1 := (List.getElem?_eq_some_iff.1 hy)
      rw [HC.out k h1.1, h1.2]
    by_cases hyz : y = z
    · have hyz' : (y == z) = true := by simp [hyz]
      clear hy hyz
      go_wp2
      go_ret
      exact ⟨rfl, rfl⟩
    · have hyz' : (y == z) = false := by simp [hyz]
      have hki : k < i := by
        rcases Nat.lt_or_ge k i with h1 | h1
        · exact h1
        · have e : k = i := by omega
          subst e
          rw [HZ.out] at hy
          exact absurd (Option.some.inj hy).symm hyz
      clear hy hyz
      go_wp2
      go_round
      case rel => exact ⟨k + 1, by omega, by go_num⟩
      case measure => simp [intOf]; omega
end Go.Proofs.Ytcelbkmnbjcjhaa
