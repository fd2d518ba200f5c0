/- What is asked of a turn and of a table: plain mathematics. -/
import Derived.Test.YtjfonbnmdcpepaaTabRel
namespace Go.Proofs.Ytjfonbnmdcpepaa
open Go.RowKit

/-- what is asked of a turn. -/
def turnB (t : TurnD) : Bool := isB t.offset (-100000) 100000 && (isB t.save (-7200) 7200 && decide (t.abbr.size ≤ 20))
theorem turn_no1 {t : TurnD} (h : isB t.offset (-100000) 100000 = false) : turnB t = false := by unfold turnB; rw [h]; rfl
theorem turn_no2 {t : TurnD} (h : isB t.save (-7200) 7200 = false) : turnB t = false := by unfold turnB; rw [h]; simp
theorem turn_no3 {t : TurnD} (h : ¬ t.abbr.size ≤ 20) : turnB t = false := by unfold turnB; rw [decide_eq_false h]; simp
theorem turn_yes {t : TurnD} (h1 : isB t.offset (-100000) 100000 = true) (h2 : isB t.save (-7200) 7200 = true) (h3 : t.abbr.size ≤ 20) : turnB t = true := by unfold turnB; rw [h1, h2, decide_eq_true h3]; rfl
/-- the turns rise. -/
def upT : List TurnD → Bool
  | [] => true
  | [_] => true
  | x :: y :: l => decide (x.at_ < y.at_) && upT (y :: l)
theorem upT_no {es : List TurnD} : ∀ {i : Nat} {x y : TurnD}, es[i]? = some x → es[i + 1]? = some y → ¬ x.at_ < y.at_ → upT es = false := by
  induction es with
  | nil => intro i x y h; simp at h
  | cons a l ih =>
    intro i x y hx hy hn
    match l, i with
    | [], _ => simp at hy
    | b :: l, 0 =>
      simp at hx hy
      subst hx hy
      simp [upT, hn]
    | b :: l, i + 1 =>
      have := ih (i := i) (x := x) (y := y) (by simpa using hx) (by simpa using hy) hn
      simp only [upT, this, Bool.and_false]
theorem upT_yes {es : List TurnD} (h : ∀ i x y, es[i]? = some x → es[i + 1]? = some y → x.at_ < y.at_) : upT es = true := by
  induction es with
  | nil => rfl
  | cons a l ih =>
    match l with
    | [] => rfl
    | b :: l =>
      have h0 := h 0 a b rfl rfl
      have := ih fun i x y hx hy => h (i + 1) x y (by simpa using hx) (by simpa using hy)
      simp only [upT, this, decide_eq_true h0, Bool.and_true]
theorem upT_of {es : List TurnD} (h : upT es = true) {i : Nat} {x y : TurnD} (hx : es[i]? = some x) (hy : es[i + 1]? = some y) : x.at_ < y.at_ := by
  by_cases hn : x.at_ < y.at_
  · exact hn
  · rw [upT_no hx hy hn] at h; cases h
theorem upT_le {es : List TurnD} (h : upT es = true) {i : Nat} {x : TurnD} (hx : es[i]? = some x) : ∀ (d : Nat) {y : TurnD}, es[i + d]? = some y → x.at_ ≤ y.at_ := by
  intro d
  induction d with
  | zero => intro y hy; rw [Nat.add_zero, hx] at hy; obtain rfl := Option.some.inj hy; exact Int.le_refl _
  | succ d ih =>
    intro y hy
    have hlt := (List.getElem?_eq_some_iff.mp hy).1
    obtain ⟨z, hz⟩ : ∃ z, es[i + d]? = some z := ⟨_, List.getElem?_eq_getElem (by omega)⟩
    have h1 := ih hz
    have h2 := upT_of h hz (y := y) (by rw [show i + d + 1 = i + (d + 1) by omega]; exact hy)
    omega
theorem upT_le2 {es : List TurnD} (h : upT es = true) {i j : Nat} (hij : i ≤ j) {x y : TurnD} (hx : es[i]? = some x) (hy : es[j]? = some y) : x.at_ ≤ y.at_ :=
  upT_le h hx (j - i) (by rw [show i + (j - i) = j by omega]; exact hy)
def endsT (l : List TurnD) : Bool := match l[0]?, l[l.length - 1]? with
  | some a, some b => (a.at_ == -62135596800) && decide (b.at_ ≤ 253402300799)
  | _, _ => false
/-- is a table right? -/
def tabB (l : List TurnD) : Bool := decide (1 ≤ l.length ∧ l.length ≤ 600) && (l.all turnB && (upT l && endsT l))
theorem tab_no1 {l : List TurnD} (h : ¬ (1 ≤ l.length ∧ l.length ≤ 600)) : tabB l = false := by unfold tabB; rw [decide_eq_false h]; rfl
theorem tab_no2 {l : List TurnD} (h : l.all turnB = false) : tabB l = false := by unfold tabB; rw [h]; simp
theorem tab_no3 {l : List TurnD} (h : upT l = false) : tabB l = false := by unfold tabB; rw [h]; simp
theorem tab_no4 {l : List TurnD} (h : endsT l = false) : tabB l = false := by unfold tabB; rw [h]; simp
theorem tab_ends {l : List TurnD} (h1 : 1 ≤ l.length ∧ l.length ≤ 600) (h2 : l.all turnB = true) (h3 : upT l = true) : tabB l = endsT l := by unfold tabB; rw [decide_eq_true h1, h2, h3]; simp
theorem ends_of {l : List TurnD} {n : Nat} {a b : TurnD} (hn : l.length = n + 1) (ha : l[0]? = some a) (hb : l[n]? = some b) : endsT l = ((a.at_ == -62135596800) && decide (b.at_ ≤ 253402300799)) := by
  unfold endsT
  rw [show l.length - 1 = n by omega, ha, hb]
theorem tab_first {l : List TurnD} {a : TurnD} (ha : l[0]? = some a) (h : a.at_ ≠ -62135596800) : tabB l = false := by
  apply tab_no4
  unfold endsT
  rw [ha]
  cases l[l.length - 1]? with
  | none => rfl
  | some b => simp [h]
theorem tab_top {l : List TurnD} {k : Nat} {x : TurnD} (hx : l[k]? = some x) (h : 253402300799 < x.at_) : tabB l = false := by
  cases hu : upT l
  · exact tab_no3 hu
  · apply tab_no4
    have hk := (List.getElem?_eq_some_iff.mp hx).1
    obtain ⟨b, hb⟩ : ∃ b, l[l.length - 1]? = some b := ⟨_, List.getElem?_eq_getElem (by omega)⟩
    have := upT_le2 hu (show k ≤ l.length - 1 by omega) hx hb
    unfold endsT
    rw [hb]
    cases l[0]? with
    | none => rfl
    | some a => simp; omega
theorem tab_up {l : List TurnD} {j : Nat} {p x : TurnD} (hp : l[j]? = some p) (hx : l[j + 1]? = some x) (h : x.at_ ≤ p.at_) : tabB l = false := tab_no3 (upT_no hp hx (by omega))
theorem tab_one {l : List TurnD} {k : Nat} {x : TurnD} (hx : l[k]? = some x) (h : turnB x = false) : tabB l = false := by
  apply tab_no2
  rw [List.all_eq_false]
  exact ⟨x, List.mem_of_getElem? hx, by simp [h]⟩
/-- what is asked of the turn at a place. -/
structure TStep (l : List TurnD) (k : Nat) (x : TurnD) : Prop where
  top : x.at_ ≤ 253402300799
  up : ∀ j p, k = j + 1 → l[j]? = some p → p.at_ < x.at_
  one : turnB x = true
theorem tab_yes {l : List TurnD} {a : TurnD} (h1 : 1 ≤ l.length ∧ l.length ≤ 600) (ha : l[0]? = some a) (h0 : a.at_ = -62135596800) (h : ∀ k x, l[k]? = some x → TStep l k x) : tabB l = true := by
  have h2 : l.all turnB = true := by
    rw [List.all_eq_true]
    intro x hx
    obtain ⟨k, hk⟩ := List.getElem?_of_mem hx
    exact (h k x hk).one
  have h3 : upT l = true := upT_yes fun i x y hx hy => (h _ y hy).up i x rfl hx
  rw [tab_ends h1 h2 h3]
  obtain ⟨b, hb⟩ : ∃ b, l[l.length - 1]? = some b := ⟨_, List.getElem?_eq_getElem (by omega)⟩
  rw [ends_of (n := l.length - 1) (by omega) ha hb]
  simp [h0, (h _ b hb).top]
structure TabR (l : List TurnD) : Prop where
  len : 1 ≤ l.length ∧ l.length ≤ 600
  up : upT l = true
  first : ∀ a, l[0]? = some a → a.at_ = -62135596800
  top : ∀ (k : Nat) x, l[k]? = some x → x.at_ ≤ 253402300799
  one : ∀ x ∈ l, turnB x = true
theorem tab_of {l : List TurnD} (h : tabB l = true) : TabR l := by
  have hh := h
  unfold tabB at h
  simp only [Bool.and_eq_true, decide_eq_true_eq, List.all_eq_true] at h
  obtain ⟨h1, h2, h3, h4⟩ := h
  refine ⟨h1, h3, fun a ha => ?_, fun k x hx => ?_, h2⟩
  · by_cases e : a.at_ = -62135596800
    · exact e
    · rw [tab_first ha e] at hh; cases hh
  · by_cases e : x.at_ ≤ 253402300799
    · exact e
    · rw [tab_top hx (by omega)] at hh; cases hh
theorem countP_cut (p : Nat → Bool) (m : Nat) : ∀ n, m ≤ n → (∀ i, i < m → p i = true) → (∀ i, m ≤ i → i < n → p i = false) → (List.range n).countP p = m := by
  intro n
  induction n with
  | zero => intro h _ _; simp; omega
  | succ n ih =>
    intro h h1 h2
    rw [List.range_succ, List.countP_append]
    by_cases e : m = n + 1
    · have hall : ∀ k, k ≤ n → (List.range k).countP p = k := by
        intro k
        induction k with
        | zero => intro _; rfl
        | succ k ihk => intro hk; rw [List.range_succ, List.countP_append, ihk (by omega)]; simp [h1 k (by omega)]
      rw [hall n (Nat.le_refl _)]
      simp [h1 n (by omega), e]
    · rw [ih (by omega) h1 fun i h3 h4 => h2 i h3 (by omega)]
      simp [h2 n (by omega) (by omega)]
end Go.Proofs.Ytjfonbnmdcpepaa
