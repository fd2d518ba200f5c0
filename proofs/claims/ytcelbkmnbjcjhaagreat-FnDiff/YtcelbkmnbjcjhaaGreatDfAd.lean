/- Packed: DfMath DfMath2 Df1 Ints Two Ints2 Chg1 Chg2 Tch1. -/
import Derived.Test.YtcelbkmnbjcjhaaGreatTabPd
import Derived.Test.YtcelbkmnbjcjhaaGreatRelAd
import Derived.Test.YtcelbkmnbjcjhaaGreatStrPd
import Derived.Lib.MinMax
import Derived.Deep.AppendLies
import Derived.Laws.AppendOwn
import Derived.Test.YtcelbkmnbjcjhaaGreatRsAd
import Derived.Lib.QuietBelow
import Derived.Laws.StructEq
namespace Go.Proofs.YtcelbkmnbjcjhaaGreat
open Go.RowKit

/-- put into a rising list, once. -/
def insI : List Int → Int → List Int
 | [], n => [n]
 | x :: l, n => if x < n then x :: insI l n else if x = n then x :: l else n :: x :: l
theorem insI_mem {l : List Int} {n y : Int} : y ∈ insI l n ↔ y = n ∨ y ∈ l := by
 induction l with
 | nil => simp [insI]
 | cons x l ih =>
  unfold insI
  split
  ·
   rw [List.mem_cons, ih, List.mem_cons]; constructor
   ·
    rintro (h | h | h)
    ·
     exact .inr (.inl h)
    ·
     exact .inl h
    ·
     exact .inr (.inr h)
   ·
    rintro (h | h | h)
    ·
     exact .inr (.inl h)
    ·
     exact .inl h
    ·
     exact .inr (.inr h)
  ·
   split
   ·
    rename_i _ e
    subst e
    simp
   ·
    simp
theorem insI_up {l : List Int} {n : Int} (h : l.Pairwise (· < ·)) : (insI l n).Pairwise (· < ·) := by
 induction l with
 | nil => simp [insI]
 | cons x l ih =>
  rw [List.pairwise_cons] at h
  unfold insI
  split
  ·
   rename_i hx
   rw [List.pairwise_cons]
   refine ⟨fun y hy => ?_, ih h.2⟩
   rcases insI_mem.mp hy with e | e
   ·
    subst e; exact hx
   ·
    exact h.1 y e
  ·
   split
   ·
    rw [List.pairwise_cons]; exact h
   ·
    rename_i h1 h2
    rw [List.pairwise_cons, List.pairwise_cons]
    refine ⟨fun y hy => ?_, h⟩
    rcases List.mem_cons.mp hy with e | e
    ·
     subst e; omega
    ·
     have := h.1 y e; omega
/-- two rising lists with the same members are one. -/
theorem up_ext : ∀ {l m : List Int}, l.Pairwise (· < ·) → m.Pairwise (· < ·) → (∀ y, y ∈ l ↔ y ∈ m) → l = m := by
 intro l
 induction l with
 | nil =>
  intro m _ _ h
  cases m with
  | nil => rfl
  | cons x m => exact absurd ((h x).mpr (by simp)) (by simp)
 | cons x l ih =>
  intro m hl hm h
  cases m with
  | nil => exact absurd ((h x).mp (by simp)) (by simp)
  | cons y m =>
   rw [List.pairwise_cons] at hl hm
   have hxy : x = y := by
    have h1 := (h x).mp (by simp)
    have h2 := (h y).mpr (by simp)
    rcases List.mem_cons.mp h1 with e | e
    ·
     exact e
    ·
     rcases List.mem_cons.mp h2 with e2 | e2
     ·
      exact e2.symm
     ·
      have := hm.1 x e; have := hl.1 y e2; omega
   subst hxy
   have : l = m := ih hl.2 hm.2 fun z => by
    constructor
    ·
     intro hz
     have h3 := (h z).mp (List.mem_cons_of_mem _ hz)
     rcases List.mem_cons.mp h3 with e | e
     ·
      have := hl.1 z hz; omega
     ·
      exact e
    ·
     intro hz
     have h3 := (h z).mpr (List.mem_cons_of_mem _ hz)
     rcases List.mem_cons.mp h3 with e | e
     ·
      have := hm.1 z hz; omega
     ·
      exact e
   rw [this]
/-- all instants of two lists. -/
def uniI (A B : List Int) : List Int := B.foldl insI A
theorem uniI_mem {B : List Int} : ∀ {A : List Int} {y : Int}, y ∈ uniI A B ↔ y ∈ A ∨ y ∈ B := by
 induction B with
 | nil => intro A y; simp [uniI]
 | cons b B ih =>
  intro A y
  have := ih (A := insI A b) (y := y)
  unfold uniI at this ⊢
  rw [List.foldl_cons, this, insI_mem, List.mem_cons]
  constructor
  ·
   rintro ((h | h) | h)
   ·
    exact .inr (.inl h)
   ·
    exact .inl h
   ·
    exact .inr (.inr h)
  ·
   rintro (h | h | h)
   ·
    exact .inl (.inr h)
   ·
    exact .inl (.inl h)
   ·
    exact .inr h
theorem uniI_up {B : List Int} : ∀ {A : List Int}, A.Pairwise (· < ·) → (uniI A B).Pairwise (· < ·) := by
 induction B with
 | nil => intro A h; exact h
 | cons b B ih => intro A h; exact ih (insI_up h)
theorem insI_len (l : List Int) (n : Int) : (insI l n).length ≤ l.length + 1 := by
 induction l with
 | nil => simp [insI]
 | cons x l ih =>
  unfold insI
  split
  ·
   simp; omega
  ·
   split <;> simp
theorem uniI_len {B : List Int} : ∀ {A : List Int}, (uniI A B).length ≤ A.length + B.length := by
 induction B with
 | nil => intro A; simp [uniI]
 | cons b B ih =>
  intro A
  have h1 := ih (A := insI A b)
  have h2 := insI_len A b
  unfold uniI at *
  rw [List.foldl_cons, List.length_cons]
  omega
theorem ats_up {l : List TurnD} (h : upT l = true) : (l.map TurnD.at_).Pairwise (· < ·) := by
 induction l with
 | nil => simp
 | cons x l ih =>
  match l with
  | [] => simp
  | y :: l =>
   simp only [upT, Bool.and_eq_true, decide_eq_true_eq] at h
   have h2 := ih h.2
   rw [List.map_cons, List.pairwise_cons]
   refine ⟨fun z hz => ?_, h2⟩
   rw [List.map_cons, List.pairwise_cons] at h2
   rw [List.map_cons, List.mem_cons] at hz
   rcases hz with e | e
   ·
    subst e; exact h.1
   ·
    have := h2.1 z e; omega
/-- a meeting: an instant, and the places in both. -/
structure MeetD where
 at_ : Int
 i : Nat
 j : Nat
def MeetD.cs (m : MeetD) : List Value := [.int .i64 m.at_, .int .i64 m.i, .int .i64 m.j]
/-- the last place that is not behind. -/
def Here (A : List Int) (n : Int) (i : Nat) : Prop := ∃ x, A[i]? = some x ∧ x ≤ n ∧ ∀ y, A[i + 1]? = some y → n < y
/-- how far two lists have been gone through. -/
structure Met (A B : List Int) (i j : Nat) (M : List MeetD) : Prop where
 upA : A.Pairwise (· < ·)
 upB : B.Pairwise (· < ·)
 last : ∃ M0 m, M = M0 ++ [m] ∧ m.i = i ∧ m.j = j ∧ ∃ x y, A[i]? = some x ∧ B[j]? = some y ∧ m.at_ = max x y
 here : ∀ m ∈ M, Here A m.at_ m.i ∧ Here B m.at_ m.j
 up : (M.map MeetD.at_).Pairwise (· < ·)
 all : ∀ y, y ∈ M.map MeetD.at_ ↔ (∃ k, k ≤ i ∧ A[k]? = some y) ∨ (∃ k, k ≤ j ∧ B[k]? = some y)
 len : M.length ≤ i + j + 1
theorem up_lt {A : List Int} (h : A.Pairwise (· < ·)) {i k : Nat} (hik : i < k) {x y : Int} (hx : A[i]? = some x) (hy : A[k]? = some y) : x < y := by
 obtain ⟨h1, rfl⟩ := List.getElem?_eq_some_iff.mp hx
 obtain ⟨h2, rfl⟩ := List.getElem?_eq_some_iff.mp hy
 exact List.pairwise_iff_getElem.mp h i k h1 h2 hik
theorem Met.step {A B : List Int} {i j i2 j2 : Nat} {M : List MeetD} (h : Met A B i j M) {n : Int} (hn : ∀ m ∈ M, m.at_ < n)
  (hi : i2 = i ∨ i2 = i + 1) (hj : j2 = j ∨ j2 = j + 1) (hij : i + j < i2 + j2) {x y : Int} (hx : A[i2]? = some x) (hy : B[j2]? = some y) (hm : n = max x y) (hA : Here A n i2) (hB : Here B n j2)
  (c1 : i2 = i + 1 → x = n) (c2 : j2 = j + 1 → y = n) : Met A B i2 j2 (M ++ [⟨n, i2, j2⟩]) := by
 refine ⟨h.upA, h.upB, ⟨M, ⟨n, i2, j2⟩, rfl, rfl, rfl, x, y, hx, hy, hm⟩, fun m hmm => ?_, ?_, fun z => ?_, by have := h.len; simp; omega⟩
 ·
  rcases List.mem_append.mp hmm with e | e
  ·
   exact h.here m e
  ·
   simp at e; subst e; exact ⟨hA, hB⟩
 ·
  rw [List.map_append, List.pairwise_append]
  refine ⟨h.up, by simp, fun a ha b hb => ?_⟩
  simp at hb; subst hb
  obtain ⟨m, hm1, rfl⟩ := List.mem_map.mp ha
  exact hn m hm1
 ·
  rw [List.map_append, List.mem_append, h.all z]
  constructor
  ·
   rintro ((⟨k, hk, e⟩ | ⟨k, hk, e⟩) | e)
   ·
    exact .inl ⟨k, by omega, e⟩
   ·
    exact .inr ⟨k, by omega, e⟩
   ·
    simp at e
    subst e
    rcases hi with e1 | e1
    ·
     rcases hj with e2 | e2
     ·
      omega
     ·
      exact .inr ⟨j2, Nat.le_refl _, by rw [hy, c2 e2]⟩
    ·
     exact .inl ⟨i2, Nat.le_refl _, by rw [hx, c1 e1]⟩
  ·
   rintro (⟨k, hk, e⟩ | ⟨k, hk, e⟩)
   ·
    by_cases hki : k ≤ i
    ·
     exact .inl (.inl ⟨k, hki, e⟩)
    ·
     obtain rfl : k = i2 := by omega
     rw [hx] at e
     obtain rfl := Option.some.inj e
     exact .inr (by simp [c1 (by omega)])
   ·
    by_cases hki : k ≤ j
    ·
     exact .inl (.inr ⟨k, hki, e⟩)
    ·
     obtain rfl : k = j2 := by omega
     rw [hy] at e
     obtain rfl := Option.some.inj e
     exact .inr (by simp [c2 (by omega)])
/-- the last one is the greatest. -/
theorem Met.top {A B : List Int} {i j : Nat} {M : List MeetD} (h : Met A B i j M) {x y : Int} (hx : A[i]? = some x) (hy : B[j]? = some y) : ∀ m ∈ M, m.at_ ≤ max x y := by
 obtain ⟨M0, m, rfl, _, _, x', y', hx', hy', hm⟩ := h.last
 rw [hx] at hx'
 rw [hy] at hy'
 obtain rfl := Option.some.inj hx'
 obtain rfl := Option.some.inj hy'
 intro q hq
 rcases List.mem_append.mp hq with e | e
 ·
  have := h.up
  rw [List.map_append, List.pairwise_append] at this
  have := this.2.2 q.at_ (List.mem_map.mpr ⟨q, e, rfl⟩) m.at_ (by simp)
  omega
 ·
  simp at e; subst e; omega
theorem Met.cur {A B : List Int} {i j : Nat} {M : List MeetD} (h : Met A B i j M) {x y : Int} (hx : A[i]? = some x) (hy : B[j]? = some y) : Here A (max x y) i ∧ Here B (max x y) j := by
 obtain ⟨M0, m, e, hi, hj, x', y', hx', hy', hm⟩ := h.last
 rw [hx] at hx'
 rw [hy] at hy'
 obtain rfl := Option.some.inj hx'
 obtain rfl := Option.some.inj hy'
 have := h.here m (by rw [e]; simp)
 rw [hi, hj, hm] at this
 exact this
theorem here_lt {A : List Int} {n : Int} {i : Nat} (h : Here A n i) {y : Int} (hy : A[i + 1]? = some y) : n < y := by
 obtain ⟨_, _, _, h3⟩ := h
 exact h3 y hy
theorem here_next {A : List Int} (hA : A.Pairwise (· < ·)) {i : Nat} {x : Int} (hx : A[i]? = some x) : Here A x i :=
 ⟨x, hx, Int.le_refl _, fun _ hy => up_lt hA (Nat.lt_succ_self _) hx hy⟩
/-- the first goes on. -/
theorem Met.first {A B : List Int} {i j : Nat} {M : List MeetD} (h : Met A B i j M) {x y x1 : Int} (hx : A[i]? = some x) (hy : B[j]? = some y) (hx1 : A[i + 1]? = some x1) (hb : ∀ y1, B[j + 1]? = some y1 → x1 < y1) : Met A B (i + 1) j (M ++ [⟨max x1 y, i + 1, j⟩]) := by
 obtain ⟨cA, cB⟩ := h.cur hx hy
 have h1 := here_lt cA hx1
 have e : max x1 y = x1 := by omega
 rw [e]
 refine h.step (fun m hm => ?_) (.inr rfl) (.inl rfl) (by omega) hx1 hy e.symm (here_next h.upA hx1) ⟨y, hy, by omega, fun z hz => hb z hz⟩ (fun _ => rfl) (fun e => by omega)
 have := h.top hx hy m hm
 omega
/-- the second goes on. -/
theorem Met.second {A B : List Int} {i j : Nat} {M : List MeetD} (h : Met A B i j M) {x y y1 : Int} (hx : A[i]? = some x) (hy : B[j]? = some y) (hy1 : B[j + 1]? = some y1) (hb : ∀ x1, A[i + 1]? = some x1 → y1 < x1) : Met A B i (j + 1) (M ++ [⟨max x y1, i, j + 1⟩]) := by
 obtain ⟨cA, cB⟩ := h.cur hx hy
 have h1 := here_lt cB hy1
 have e : max x y1 = y1 := by omega
 rw [e]
 refine h.step (fun m hm => ?_) (.inl rfl) (.inr rfl) (by omega) hx hy1 e.symm ⟨x, hx, by omega, fun z hz => hb z hz⟩ (here_next h.upB hy1) (fun e => by omega) (fun _ => rfl)
 have := h.top hx hy m hm
 omega
/-- both go on. -/
theorem Met.both {A B : List Int} {i j : Nat} {M : List MeetD} (h : Met A B i j M) {x y x1 y1 : Int} (hx : A[i]? = some x) (hy : B[j]? = some y) (hx1 : A[i + 1]? = some x1) (hy1 : B[j + 1]? = some y1) (e0 : x1 = y1) : Met A B (i + 1) (j + 1) (M ++ [⟨max x1 y1, i + 1, j + 1⟩]) := by
 subst e0
 obtain ⟨cA, cB⟩ := h.cur hx hy
 have h1 := here_lt cA hx1
 have h2 := here_lt cB hy1
 have e : max x1 x1 = x1 := by omega
 rw [e]
 refine h.step (fun m hm => ?_) (.inr rfl) (.inr rfl) (by omega) hx1 hy1 e.symm (here_next h.upA hx1) (here_next h.upB hy1) (fun _ => rfl) (fun _ => rfl)
 have := h.top hx hy m hm
 omega
theorem Met.begin {A B : List Int} (hA : A.Pairwise (· < ·)) (hB : B.Pairwise (· < ·)) {x : Int} (hx : A[0]? = some x) (hy : B[0]? = some x) : Met A B 0 0 [⟨x, 0, 0⟩] := by
 refine ⟨hA, hB, ⟨[], _, rfl, rfl, rfl, x, x, hx, hy, by simp⟩, fun m hm => ?_, by simp, fun y => ?_, by simp⟩
 ·
  simp at hm; subst hm; exact ⟨here_next hA hx, here_next hB hy⟩
 ·
  constructor
  ·
   intro h; simp at h; subst h; exact .inl ⟨0, Nat.le_refl _, hx⟩
  ·
   rintro (⟨k, hk, e⟩ | ⟨k, hk, e⟩)
   ·
    obtain rfl : k = 0 := by omega
    rw [hx] at e; obtain rfl := Option.some.inj e; simp
   ·
    obtain rfl : k = 0 := by omega
    rw [hy] at e; obtain rfl := Option.some.inj e; simp
theorem Met.done {A B : List Int} {i j : Nat} {M : List MeetD} (h : Met A B i j M) (hi : A.length = i + 1) (hj : B.length = j + 1) : M.map MeetD.at_ = uniI A B := by
 refine up_ext h.up (uniI_up h.upA) fun y => ?_
 rw [h.all y, uniI_mem]
 constructor
 ·
  rintro (⟨k, _, e⟩ | ⟨k, _, e⟩)
  ·
   exact .inl (List.mem_of_getElem? e)
  ·
   exact .inr (List.mem_of_getElem? e)
 ·
  rintro (e | e)
  ·
   obtain ⟨k, hk⟩ := List.getElem?_of_mem e
   exact .inl ⟨k, by have := (List.getElem?_eq_some_iff.mp hk).1; omega, hk⟩
  ·
   obtain ⟨k, hk⟩ := List.getElem?_of_mem e
   exact .inr ⟨k, by have := (List.getElem?_eq_some_iff.mp hk).1; omega, hk⟩
end Go.Proofs.YtcelbkmnbjcjhaaGreat
namespace Go.Proofs.YtcelbkmnbjcjhaaGreat
open Go.RowKit

/-- a piece of time. -/
structure PieceD where
 lo : Int
 hi : Int
 un : Bool
def PieceD.cs (p : PieceD) : List Value := [.int .i64 p.lo, .int .i64 p.hi, .bool p.un]
/-- spans, and whether the last one may grow. -/
def stepS (s : List SpanD × Bool) (p : PieceD) : List SpanD × Bool :=
 if p.un = true then (if s.2 = true then (s.1.set (s.1.length - 1) ⟨(s.1[s.1.length - 1]?.getD ⟨0, 0⟩).lo, p.hi⟩, true) else (s.1 ++ [⟨p.lo, p.hi⟩], true)) else (s.1, false)
def foldS (P : List PieceD) : List SpanD × Bool := P.foldl stepS ([], false)
theorem step_no {s : List SpanD × Bool} {p : PieceD} (h : p.un = false) : stepS s p = (s.1, false) := by unfold stepS; rw [if_neg (by rw [h]; simp)]
theorem step_new {s : List SpanD × Bool} {p : PieceD} (h : p.un = true) (h2 : s.2 = false) : stepS s p = (s.1 ++ [⟨p.lo, p.hi⟩], true) := by unfold stepS; rw [if_pos h, if_neg (by rw [h2]; simp)]
theorem step_grow {s : List SpanD × Bool} {p : PieceD} (h : p.un = true) (h2 : s.2 = true) {n : Nat} (hn : s.1.length = n + 1) {x : SpanD} (hx : s.1[n]? = some x) : stepS s p = (s.1.set n ⟨x.lo, p.hi⟩, true) := by
 unfold stepS; rw [if_pos h, if_pos h2, hn, Nat.add_sub_cancel, hx]; rfl
theorem foldS_take {P : List PieceD} {k : Nat} {p : PieceD} (h : P[k]? = some p) : foldS (P.take (k + 1)) = stepS (foldS (P.take k)) p := by
 unfold foldS; rw [List.take_add_one, h, List.foldl_append]; rfl
/-- where the last one may grow there is one. -/
theorem step_some {s : List SpanD × Bool} {p : PieceD} (h : s.2 = true → s.1 ≠ []) : (stepS s p).2 = true → (stepS s p).1 ≠ [] := by
 unfold stepS
 split
 ·
  split
  ·
   rename_i _ h2
   intro _ e
   have e2 := congrArg List.length e
   simp at e2
   exact h h2 e2
  ·
   intro _; simp
 ·
  intro e; cases e
theorem step_len (s : List SpanD × Bool) (p : PieceD) : (stepS s p).1.length ≤ s.1.length + 1 := by
 unfold stepS
 split
 ·
  split <;> simp
 ·
  simp
theorem foldS_some (P : List PieceD) : ∀ k, k ≤ P.length → ((foldS (P.take k)).2 = true → (foldS (P.take k)).1 ≠ []) ∧ (foldS (P.take k)).1.length ≤ k := by
 intro k
 induction k with
 | zero => intro _; exact ⟨fun h => by simp [foldS] at h, by simp [foldS]⟩
 | succ k ih =>
  intro hk
  obtain ⟨p, hp⟩ : ∃ p, P[k]? = some p := ⟨_, List.getElem?_eq_getElem (by omega)⟩
  rw [foldS_take hp]
  have h := ih (by omega)
  refine ⟨step_some h.1, ?_⟩
  have := step_len (foldS (P.take k)) p
  omega
theorem foldS_len (P : List PieceD) : (foldS P).1.length ≤ P.length := by
 have := (foldS_some P P.length (Nat.le_refl _)).2
 rw [List.take_length] at this
 exact this
/-- a run of pieces that are not unlike. -/
theorem run_no : ∀ {R : List PieceD} {out : List SpanD} {ws : Bool}, R ≠ [] → (∀ p ∈ R, p.un = false) → R.foldl stepS (out, ws) = (out, false) := by
 intro R
 induction R with
 | nil => intro _ _ h; exact absurd rfl h
 | cons p R ih =>
  intro out ws _ h
  rw [List.foldl_cons, step_no (h p (by simp))]
  cases R with
  | nil => rfl
  | cons q R => exact ih (by simp) fun x hx => h x (List.mem_cons_of_mem _ hx)
theorem run_grow : ∀ {R : List PieceD} {out : List SpanD} {x y : Int} {z : PieceD}, (∀ p ∈ R, p.un = true) → (R = [] → z.hi = y) → (∀ q, R.getLast? = some q → z = q) → R.foldl stepS (out ++ [⟨x, y⟩], true) = (out ++ [⟨x, z.hi⟩], true) := by
 intro R
 induction R with
 | nil => intro out x y z _ h _; rw [h rfl]; rfl
 | cons p R ih =>
  intro out x y z h h1 h2
  rw [List.foldl_cons, step_grow (n := out.length) (x := ⟨x, y⟩) (h p (by simp)) rfl (by simp) (by simp)]
  rw [List.set_append_right _ _ (Nat.le_refl _), Nat.sub_self, List.set_cons_zero]
  refine ih (fun q hq => h q (List.mem_cons_of_mem _ hq)) (fun e => ?_) (fun q hq => h2 q ?_)
  ·
   subst e; rw [h2 p rfl]
  ·
   cases R with
   | nil => simp at hq
   | cons r R => rw [List.getLast?_cons_cons]; exact hq
/-- a run of unlike pieces. -/
theorem run_yes {R : List PieceD} {out : List SpanD} {f z : PieceD} (h : ∀ p ∈ R, p.un = true) (hf : R.head? = some f) (hz : R.getLast? = some z) : R.foldl stepS (out, false) = (out ++ [⟨f.lo, z.hi⟩], true) := by
 cases R with
 | nil => cases hf
 | cons p R =>
  simp at hf
  subst hf
  rw [List.foldl_cons, step_new (h p (by simp)) rfl]
  refine run_grow (fun q hq => h q (List.mem_cons_of_mem _ hq)) (fun e => ?_) (fun q hq => ?_)
  ·
   subst e; simp at hz; rw [← hz]
  ·
   cases R with
   | nil => simp at hq
   | cons r R => rw [List.getLast?_cons_cons] at hz; rw [hz] at hq; exact Option.some.inj hq
/-- how many are alike from the first on. -/
def RunN (Q : List PieceD) (m : Nat) : Prop := 1 ≤ m ∧ m ≤ Q.length ∧ (∀ f, Q[0]? = some f → (∀ t p, t < m → Q[t]? = some p → p.un = f.un) ∧ ∀ p, Q[m]? = some p → p.un ≠ f.un)
/-- what is left to be done. -/
def LeftS (P : List PieceD) (k : Nat) (out : List SpanD) : Prop := ∃ ws, (P.drop k).foldl stepS (out, ws) = foldS P ∧ (ws = true → ∀ p, P[k]? = some p → p.un = false)
theorem left_begin (P : List PieceD) : LeftS P 0 [] := ⟨false, rfl, fun h => by cases h⟩
theorem left_end {P : List PieceD} {k : Nat} {out : List SpanD} (h : LeftS P k out) (hk : P.length ≤ k) : (foldS P).1 = out := by
 obtain ⟨ws, h, _⟩ := h
 rw [List.drop_eq_nil_of_le hk] at h
 rw [← h]; rfl
theorem run_parts {P : List PieceD} {k m : Nat} : P.drop k = (P.drop k).take m ++ P.drop (k + m) := by
 rw [← List.drop_drop, List.take_append_drop]
theorem run_mem {P : List PieceD} {k m : Nat} (h : RunN (P.drop k) m) {f : PieceD} (hf : P[k]? = some f) : ∀ p ∈ (P.drop k).take m, p.un = f.un := by
 intro p hp
 obtain ⟨t, ht⟩ := List.getElem?_of_mem hp
 have hlt := (List.getElem?_eq_some_iff.mp ht).1
 rw [List.length_take] at hlt
 rw [List.getElem?_take_of_lt (by omega)] at ht
 exact (h.2.2 f (by rw [List.getElem?_drop]; exact hf)).1 t p (by omega) ht
theorem run_next {P : List PieceD} {k m : Nat} (h : RunN (P.drop k) m) {f : PieceD} (hf : P[k]? = some f) {p : PieceD} (hp : P[k + m]? = some p) : p.un ≠ f.un :=
 (h.2.2 f (by rw [List.getElem?_drop]; exact hf)).2 p (by rw [List.getElem?_drop]; exact hp)
theorem left_no {P : List PieceD} {k m : Nat} {out : List SpanD} (h : LeftS P k out) (hr : RunN (P.drop k) m) {f : PieceD} (hf : P[k]? = some f) (hu : f.un = false) : LeftS P (k + m) out := by
 obtain ⟨ws, h1, _⟩ := h
 rw [run_parts (m := m), List.foldl_append, run_no (R := (P.drop k).take m)] at h1
 ·
  exact ⟨false, h1, fun e => by cases e⟩
 ·
  intro e
  have := congrArg List.length e
  have h2 := hr.1
  have h3 := hr.2.1
  rw [List.length_take] at this
  simp at this h3
  omega
 ·
  intro p hp; rw [run_mem hr hf p hp, hu]
theorem left_yes {P : List PieceD} {k m : Nat} {out : List SpanD} (h : LeftS P k out) (hr : RunN (P.drop k) m) {f z : PieceD} (hf : P[k]? = some f) (hz : P[k + (m - 1)]? = some z) (hu : f.un = true) : LeftS P (k + m) (out ++ [⟨f.lo, z.hi⟩]) := by
 obtain ⟨ws, h1, h2⟩ := h
 have hw : ws = false := by
  cases hws : ws with
  | false => rfl
  | true => have := h2 hws f hf; rw [hu] at this; cases this
 subst hw
 have m1 := hr.1
 have m2 := hr.2.1
 rw [run_parts (m := m), List.foldl_append, run_yes (R := (P.drop k).take m) (f := f) (z := z)] at h1
 ·
  exact ⟨true, h1, fun _ p hp => by
   have := run_next hr hf hp
   rw [hu] at this
   simpa using this⟩
 ·
  intro p hp; rw [run_mem hr hf p hp, hu]
 ·
  rw [List.head?_take, if_neg (by omega), List.head?_drop]; exact hf
 ·
  rw [List.getLast?_eq_getElem?, List.length_take, Nat.min_eq_left m2, List.getElem?_take_of_lt (by omega), List.getElem?_drop]; exact hz
/-- the offset at an instant. -/
def offAt (l : List TurnD) (n : Int) : Int := match l[cntT l n - 1]? with
 | some t => t.offset
 | none => 0
def endOf (U : List Int) (k : Nat) : Int := match U[k + 1]? with
 | some y => y - 1
 | none => 253402300799
def pieceAt (la lb : List TurnD) (U : List Int) (k : Nat) : PieceD := ⟨U[k]?.getD 0, endOf U k, offAt la (U[k]?.getD 0) != offAt lb (U[k]?.getD 0)⟩
def piecesD (la lb : List TurnD) (U : List Int) : List PieceD := (List.range U.length).map (pieceAt la lb U)
theorem pieces_len (la lb : List TurnD) (U : List Int) : (piecesD la lb U).length = U.length := by simp [piecesD]
theorem pieces_at {la lb : List TurnD} {U : List Int} {k : Nat} {x : Int} (h : U[k]? = some x) : (piecesD la lb U)[k]? = some ⟨x, endOf U k, offAt la x != offAt lb x⟩ := by
 unfold piecesD
 rw [List.getElem?_map, List.getElem?_range (List.getElem?_eq_some_iff.mp h).1]
 simp [pieceAt, h]
theorem pieces_take {la lb : List TurnD} {U : List Int} {k : Nat} {x : Int} (h : U[k]? = some x) : (piecesD la lb U).take (k + 1) = (piecesD la lb U).take k ++ [⟨x, endOf U k, offAt la x != offAt lb x⟩] := by
 rw [List.take_add_one, pieces_at h]; rfl
def uniT (la lb : List TurnD) : List Int := uniI (la.map TurnD.at_) (lb.map TurnD.at_)
def diffR (la lb : List TurnD) : List SpanD := (foldS (piecesD la lb (uniT la lb))).1
def diffD (la lb : List TurnD) : List SpanD := if tabB la = true ∧ tabB lb = true then diffR la lb else []
theorem diff_no1 {la lb : List TurnD} (h : tabB la = false) : diffD la lb = [] := by unfold diffD; rw [if_neg (by rw [h]; simp)]
theorem diff_no2 {la lb : List TurnD} (h : tabB lb = false) : diffD la lb = [] := by unfold diffD; rw [if_neg (by rw [h]; simp)]
theorem diff_yes {la lb : List TurnD} (h : tabB la = true) (h2 : tabB lb = true) : diffD la lb = diffR la lb := by unfold diffD; rw [if_pos ⟨h, h2⟩]
theorem uniT_len {la lb : List TurnD} (ha : TabR la) (hb : TabR lb) : (uniT la lb).length ≤ 1200 := by
 have := uniI_len (A := la.map TurnD.at_) (B := lb.map TurnD.at_)
 have := ha.len
 have := hb.len
 unfold uniT
 simp at *
 omega
theorem diff_len (la lb : List TurnD) : (diffD la lb).length ≤ 1200 := by
 cases ha : tabB la
 ·
  rw [diff_no1 ha]; simp
 ·
  cases hb : tabB lb
  ·
   rw [diff_no2 hb]; simp
  ·
   rw [diff_yes ha hb]
   have h1 := foldS_len (piecesD la lb (uniT la lb))
   rw [pieces_len] at h1
   have h2 := uniT_len (tab_of ha) (tab_of hb)
   unfold diffR
   omega
theorem ats_at {l : List TurnD} {k : Nat} {x : TurnD} (h : l[k]? = some x) : (l.map TurnD.at_)[k]? = some x.at_ := by rw [List.getElem?_map, h]; rfl
theorem ats_of {l : List TurnD} {k : Nat} {n : Int} (h : (l.map TurnD.at_)[k]? = some n) : ∃ x, l[k]? = some x ∧ x.at_ = n := by
 rw [List.getElem?_map] at h
 obtain ⟨x, hx, e⟩ := Option.map_eq_some_iff.mp h
 exact ⟨x, hx, e⟩
theorem off_here {l : List TurnD} (hT : TabR l) {n : Int} {i : Nat} {x : TurnD} (h : Here (l.map TurnD.at_) n i) (hx : l[i]? = some x) : offAt l n = x.offset := by
 obtain ⟨a, ha, h1, h2⟩ := h
 rw [ats_at hx] at ha
 obtain rfl := Option.some.inj ha
 have hc := cnt_at hT.up hx h1 fun y hy => h2 y.at_ (ats_at hy)
 unfold offAt
 rw [hc, Nat.add_sub_cancel, hx]
theorem uni_low {la lb : List TurnD} (ha : TabR la) (hb : TabR lb) {k : Nat} {n : Int} (h : (uniT la lb)[k]? = some n) : -62135596800 ≤ n ∧ n ≤ 253402300799 := by
 have low : ∀ {l : List TurnD}, TabR l → n ∈ l.map TurnD.at_ → -62135596800 ≤ n ∧ n ≤ 253402300799 := fun {l} hT hm => by
  obtain ⟨x, hx, e⟩ := List.mem_map.mp hm
  obtain ⟨j, hj⟩ := List.getElem?_of_mem hx
  have h0 := hT.len
  obtain ⟨f, hf⟩ : ∃ f, l[0]? = some f := ⟨_, List.getElem?_eq_getElem (by omega)⟩
  have h1 := hT.first f hf
  have h2 := upT_le2 hT.up (Nat.zero_le j) hf hj
  have h3 := hT.top j x hj
  omega
 rcases uniI_mem.mp (List.mem_of_getElem? h) with e | e
 ·
  exact low ha e
 ·
  exact low hb e
end Go.Proofs.YtcelbkmnbjcjhaaGreat
namespace Go.Proofs.YtcelbkmnbjcjhaaGreat
open Go.RowKit

theorem flat_at5 {q : Nat} : ∀ {rows : List (List Value)}, (∀ r ∈ rows, r.length = q) → ∀ {i j : Nat} {r : List Value} {c : Value}, rows[i]? = some r → r[j]? = some c → rows.flatten[i * q + j]? = some c := by
 intro rows
 induction rows with
 | nil => intro _ i j r c h; simp at h
 | cons x rows ih =>
  intro hq i j r c hi hj
  have hx := hq x (by simp)
  cases i with
  | zero =>
   simp at hi
   subst hi
   rw [List.flatten_cons, Nat.zero_mul, Nat.zero_add, List.getElem?_append_left (List.getElem?_eq_some_iff.mp hj).1]
   exact hj
  | succ i =>
   rw [List.flatten_cons, List.getElem?_append_right (by rw [hx, Nat.add_mul]; omega), hx]
   rw [show (i + 1) * q + j - q = i * q + j by rw [Nat.add_mul]; omega]
   exact ih (fun y hy => hq y (List.mem_cons_of_mem _ hy)) (by simpa using hi) hj
theorem flat_len5 {q : Nat} : ∀ {rows : List (List Value)}, (∀ r ∈ rows, r.length = q) → rows.flatten.length = rows.length * q := by
 intro rows
 induction rows with
 | nil => intro _; simp
 | cons x rows ih =>
  intro hq
  rw [List.flatten_cons, List.length_append, hq x (by simp), ih fun y hy => hq y (List.mem_cons_of_mem _ hy), List.length_cons, Nat.add_mul]
  omega
/-- a row of structs in memory of one's own. -/
theorem seq_of_owns5 {w : World} {base : Nat} {e : TypeId} {q : Nat} {v : Value} {rows : List (List Value)} (h : w.ownsRow base e q v rows.length rows.flatten) (hq : ∀ r ∈ rows, r.length = q) : ∃ a cap, v = .slice a rows.length cap ∧ SeqAt w a q rows ∧ rows.length ≤ cap := by
 rcases h.2 with ⟨hv, h0⟩ | ⟨g, cap, cur, hv, hb, hg, hc, _, _, _⟩
 ·
  exact ⟨none, 0, by rw [hv, h0], .inl (List.length_eq_zero_iff.mp h0), by omega⟩
 ·
  refine ⟨_, cap, hv, .inr ⟨g, 0, rfl, fun i j r c hi hj => ?_⟩, hc⟩
  rw [hv] at h
  have hl := flat_at5 hq hi hj
  have hlt := (List.getElem?_eq_some_iff.mp hl).1
  rw [flat_len5 hq] at hlt
  rw [Nat.zero_add, h.cellAt _ hlt, hl]
theorem cells_new5 (w : World) (cs : List Value) (t : TypeId) : ∀ j u, cs[j]? = some u → (w.alloc (.cells cs.toArray t)).cell? ((⟨w.heap.size, 0, none⟩ : Addr).add j) = some u := fun j u h => World.news_of_block (heap_alloc_new w _) j u (by simpa using h)
set_option maxRecDepth 20000 in
set_option maxHeartbeats 2000000 in
theorem impl_turnInstants (l : List TurnD) (v : Value) (w : World) (hv : TabAt w v l) (hl : l.length ≤ 1048576) :
  Calls Tryz.prog 40 #[v] w fun e W' => ∃ v', e = .returned v' ∧ W'.ownsRow w.heap.size 2 1 v' (l.map TurnD.at_).length ((l.map TurnD.at_).map (Value.int .i64)) ∧ Below w.heap.size w W' := by
 obtain ⟨i0, hi, hz0, hz1, hz2⟩ := info_parts info64
 obtain ⟨a, cap, rfl, hA⟩ := hv
 go_enter Tryz.func40, Tryz.ntmps40
 go_wp2
 go_loopw [3, 9] (fun s3 s9 wr => ∃ k : Nat, k ≤ l.length ∧ s9 = .int .i64 k ∧ wr.ownsRow w.heap.size 2 1 s3 ((l.take k).map TurnD.at_).length (((l.take k).map TurnD.at_).map (Value.int .i64)) ∧ Below w.heap.size w wr) (fun _ s9 _ => l.length - (intOf s9).toNat)
 case atStart => exact ⟨0, by omega, rfl, World.ownsRow_nil _ _ _ _, (Below.refl _ _).alloc (Nat.le_refl _) _⟩
 case round =>
  obtain ⟨k, hk, rfl, hown, hB⟩ := hrel
  by_cases hlt : k < l.length
  ·
   obtain ⟨x, hx⟩ : ∃ x, l[k]? = some x := ⟨_, List.getElem?_eq_getElem hlt⟩
   obtain ⟨b, o, rfl, hc⟩ := (hA.below hB).at (i := k) (r := x.cs) (by rw [List.getElem?_map, hx]; rfl)
   have c0 : wr.cell? ⟨b, o + k * 4, none⟩ = some (.int .i64 x.at_) := hc 0 _ rfl
   have c1 := hc 1 _ rfl
   have c2 := hc 2 _ rfl
   have c3 := hc 3 _ rfl
   clear hc
   have HS : Hid ((l.take (k + 1)).map TurnD.at_ = (l.take k).map TurnD.at_ ++ [x.at_]) := by simp only [Hid]; rw [List.take_add_one, hx, List.map_append]; rfl
   have hsl : ((l.take k).map TurnD.at_).length ≤ 1048576 := by simp; omega
   obtain ⟨L, hL⟩ : ∃ L, (l.take k).map TurnD.at_ = L := ⟨_, rfl⟩
   rw [hL] at hown HS hsl
   clear hL hx
   have hsW := hB.size
   go_wp2_with (first
    | (at_builtin; refine wpList_append_own _ rfl _ _ 72 rfl w.heap.size 2 i0 (.int .i64 0) 1 8 Tryz.underlying72 hi hz0 hz1 hz2 rfl (by decide) _ _ _ rfl ((hown.alloc _).alloc _) ⟨wr.heap.size + 1, 0, none⟩ 1 1 [.int .i64 x.at_] rfl rfl ?c1 ?c2 ?c3 ?c4 ?c5 ?_)
    | fail)
   case c1 => simpa using cell_one_new (wr.alloc _) (.int .i64 x.at_) _
   case c2 => intro u hu; simp at hu; subst hu; rfl
   case c3 => unfold maxLen; omega
   case c4 => omega
   case c5 => simp; omega
   ·
    intro v' w1 hown' hgrow _
    have hB1 : Below w.heap.size w w1 := ((hB.alloc (by omega) _).alloc (by simp; omega) _).grown hgrow (by simp; omega) (fun j hj => (hown.lt j hj).1)
    have HO : Hid (w1.ownsRow w.heap.size 2 1 v' (L ++ [x.at_]).length ((L ++ [x.at_]).map (Value.int .i64))) := by simpa [Hid] using hown'
    clear hgrow hown' hown
    go_wp2
    go_roundw
    case rel => exact ⟨k + 1, by omega, by go_num, by rw [HS.out]; exact HO.out, hB1⟩
    case measure => simp [intOf]; omega
  ·
   obtain rfl : k = l.length := by omega
   rw [List.take_length] at hown
   go_wp2
   go_ret
   exact ⟨_, rfl, hown, hB⟩
end Go.Proofs.YtcelbkmnbjcjhaaGreat
namespace Go.Proofs.YtcelbkmnbjcjhaaGreat
open Go.RowKit

end Go.Proofs.YtcelbkmnbjcjhaaGreat
namespace Go.Proofs.YtcelbkmnbjcjhaaGreat
open Go.RowKit

/-- a cell is as it was. -/
theorem keepC5 {w w' : World} (hb : Below w.heap.size w w') {b o : Nat} {v : Value} (h : w.cell? ⟨b, o, none⟩ = some v) : w'.cell? ⟨b, o, none⟩ = some v := ((bcell hb).1 _ _ (World.block_lt_of_cell? _ _ h)).trans h
theorem below_drew5 (w : World) : Below w.heap.size w w.drew := ⟨rfl, rfl, rfl, Nat.le_refl _, fun _ _ => rfl⟩
theorem addP5 (b o j : Nat) : (⟨b, o, none⟩ : Addr).add j = ⟨b, o + j, none⟩ := by unfold Addr.add; split <;> simp_all
theorem row_shape35 {w : World} {base : Nat} {e : TypeId} {size : Nat} {v : Value} {n : Nat} {xs : List Value} (h : w.ownsRow base e size v n xs) : ∃ a m c, v = .slice a m c := by
 rcases h.2 with ⟨hv, _⟩ | ⟨g, cap, cur, hv, _⟩
 ·
  exact ⟨_, _, _, hv⟩
 ·
  exact ⟨_, _, _, hv⟩
end Go.Proofs.YtcelbkmnbjcjhaaGreat
namespace Go.Proofs.YtcelbkmnbjcjhaaGreat
open Go.RowKit

theorem owns_touch5 {S : Nat → Prop} {w w' : World} {base : Nat} {e : TypeId} {size : Nat} {v : Value} {n : Nat} {xs : List Value} (h : w.ownsRow base e size v n xs) (ht : Touch S w w') (hs : ∀ g, v.ownBlock = some g → ¬ S g) : w'.ownsRow base e size v n xs := by
 refine ⟨h.1, ?_⟩
 rcases h.2 with h | ⟨g, cap, cur, rfl, e2, e3, e4⟩
 ·
  exact .inl h
 ·
  exact .inr ⟨g, cap, cur, rfl, e2, (ht.block g (Array.getElem?_eq_some_iff.1 e3).1 (hs g rfl)).trans e3, e4⟩
theorem owns_below5 {w w' : World} {base : Nat} {e : TypeId} {size : Nat} {v : Value} {n : Nat} {xs : List Value} (h : w.ownsRow base e size v n xs) (hb : Below w.heap.size w w') : w'.ownsRow base e size v n xs :=
 owns_touch5 h (Touch.of_below (S := fun _ => False) hb) (fun _ _ hf => hf)
end Go.Proofs.YtcelbkmnbjcjhaaGreat
namespace Go.Proofs.YtcelbkmnbjcjhaaGreat
open Go.RowKit Go.Sort

def changedD (la lb : List TurnD) (n g f : Int) : Bool := tabB la && (tabB lb && decide (resD la n g f ≠ resD lb n g f))
theorem changed_no1 {la lb : List TurnD} {n g f : Int} (h : tabB la = false) : changedD la lb n g f = false := by unfold changedD; rw [h]; rfl
theorem changed_no2 {la lb : List TurnD} {n g f : Int} (h : tabB lb = false) : changedD la lb n g f = false := by unfold changedD; rw [h]; simp
theorem changed_yes {la lb : List TurnD} {n g f : Int} (h : tabB la = true) (h2 : tabB lb = true) : changedD la lb n g f = decide (resD la n g f ≠ resD lb n g f) := by unfold changedD; rw [h, h2]; rfl
set_option maxRecDepth 100000 in
theorem fields_out : ∃ a b c d e f, (Tryz.prog.fieldsOf 53).toList = [⟨ "N", 2, 0, false, a, b, c⟩, ⟨ "Code", 2, 1, false, d, e, f⟩] := ⟨_, _, _, _, _, _, rfl⟩
theorem neq_out (p1 p2 q1 q2 : Int) (w : World) : (binOp .neq 53 (.agg #[.int .i64 p1, .int .i64 p2]) (.agg #[.int .i64 q1, .int .i64 q2])).run Tryz.prog w = .ok (.bool (decide ((p1, p2) ≠ (q1, q2)))) w := by
 have ht : Tryz.prog.underlying 53 = some (.struct (Tryz.prog.fieldsOf 53)) := by kernel_rfl
 have hp : Tryz.prog.stoodInHeld 53 = false := by kernel_rfl
 obtain ⟨a, b, c, d, e, f, hf⟩ := fields_out
 rw [run_neq_struct, run_equalIn_agg _ 9999 _ _ _ ht hp, hf]
 simp [Op.eqFields, go_sem]
 by_cases h1 : p1 = q1
 ·
  by_cases h2 : p2 = q2
  ·
   simp [h1, h2]
  ·
   simp [h1, h2]
 ·
  simp [h1]
theorem guard_out (x y : Operand) (p1 p2 q1 q2 : Int) (w : World) : (eqGuard .neq 53 x y (.agg #[.int .i64 p1, .int .i64 p2]) (.agg #[.int .i64 q1, .int .i64 q2])).run Tryz.prog w = .ok () w := run_eqGuard_agg w _ _ _ _ _ _ (by kernel_rfl)
set_option maxRecDepth 20000 in
set_option maxHeartbeats 2000000 in
theorem impl_Changed (la lb : List TurnD) (va vb : Value) (n g f : Int) (w : World) (hva : TabAt w va la) (hvb : TabAt w vb lb) (oka : ∀ r ∈ la, r.ok) (okb : ∀ r ∈ lb, r.ok) (hla : la.length ≤ 1048576) (hlb : lb.length ≤ 1048576) :
  Calls Tryz.prog 8 #[va, vb, .int .i64 n, .int .i64 g, .int .i64 f] w fun e w' => e = .returned (.bool (changedD la lb n g f)) ∧ Below w.heap.size w w' := by
 obtain ⟨a, cap, rfl, hA⟩ := hva
 obtain ⟨b, capb, rfl, hAb⟩ := hvb
 have hva : TabAt w (.agg #[.slice a la.length cap]) la := ⟨a, cap, rfl, hA⟩
 have hvb : TabAt w (.agg #[.slice b lb.length capb]) lb := ⟨b, capb, rfl, hAb⟩
 clear hA hAb
 have hB0 := fun o o2 => ((Below.refl w.heap.size w).alloc (Nat.le_refl _) o).alloc (by simp) o2
 have hRa := fun w (h : TabAt w (.agg #[.slice a la.length cap]) la) => impl_TableRight la _ w h oka hla
 have hRb := fun w (h : TabAt w (.agg #[.slice b lb.length capb]) lb) => impl_TableRight lb _ w h okb hlb
 have KEEP : ∀ w1, Below ((w.alloc (.cells #[.slice a la.length cap] 25)).alloc (.cells #[.slice b lb.length capb] 25)).heap.size ((w.alloc (.cells #[.slice a la.length cap] 25)).alloc (.cells #[.slice b lb.length capb] 25)) w1 →
   w1.cell? ⟨w.heap.size, 0, none⟩ = some (.slice a la.length cap) ∧ w1.cell? ⟨w.heap.size + 1, 0, none⟩ = some (.slice b lb.length capb) ∧ Below w.heap.size w w1 := fun w1 hb1 => by
  obtain ⟨hc1, hf1⟩ := bcell hb1
  exact ⟨(hc1 _ _ (by simp; omega)).trans (by simp [go_sem]), (hc1 _ _ (by simp)).trans (by simp [go_sem]), (hB0 _ _).trans (hb1.mono (by simp; omega))⟩
 cases ha : tabB la
 ·
  rw [changed_no1 ha]
  rw [ha] at hRa
  go_enter Tryz.func8, Tryz.ntmps8
  go_wp2_with fail
  refine (hRa _ (hva.below (hB0 _ _))).mono ?_
  rintro e w1 ⟨rfl, hb1⟩
  go_wp2
  go_ret
  exact ⟨rfl, (KEEP w1 hb1).2.2⟩
 rw [ha] at hRa
 cases hb : tabB lb
 ·
  rw [changed_no2 hb]
  rw [hb] at hRb
  go_enter Tryz.func8, Tryz.ntmps8
  go_wp2_with fail
  refine (hRa _ (hva.below (hB0 _ _))).mono ?_
  rintro e w1 ⟨rfl, hb1⟩
  obtain ⟨c0, c1, hB1⟩ := KEEP w1 hb1
  go_wp2_with fail
  refine (hRb _ (hvb.below hB1)).mono ?_
  rintro e w2 ⟨rfl, hb2⟩
  go_wp2
  go_ret
  exact ⟨rfl, hB1.trans (hb2.mono hB1.size)⟩
 rw [hb] at hRb
 rw [changed_yes ha hb]
 clear ha hb
 have hSa := fun w (h : TabAt w (.agg #[.slice a la.length cap]) la) => impl_Resolve la _ n g f w h oka hla
 have hSb := fun w (h : TabAt w (.agg #[.slice b lb.length capb]) lb) => impl_Resolve lb _ n g f w h okb hlb
 generalize resD la n g f = R1 at *
 generalize resD lb n g f = R2 at *
 obtain ⟨p1, p2⟩ := R1
 obtain ⟨q1, q2⟩ := R2
 unfold outV at hSa hSb
 go_enter Tryz.func8, Tryz.ntmps8
 go_wp2_with fail
 refine (hRa _ (hva.below (hB0 _ _))).mono ?_
 rintro e w1 ⟨rfl, hb1⟩
 obtain ⟨c0, c1, hB1⟩ := KEEP w1 hb1
 clear KEEP hb1
 go_wp2_with fail
 refine (hRb _ (hvb.below hB1)).mono ?_
 rintro e w2 ⟨rfl, hb2⟩
 have hB2 := hB1.trans (hb2.mono hB1.size)
 have d0 := ((bcell hb2).1 _ _ (World.block_lt_of_cell? _ _ c0)).trans c0
 have d1 := ((bcell hb2).1 _ _ (World.block_lt_of_cell? _ _ c1)).trans c1
 have va2 := hva.below hB2
 have vb2 := hvb.below hB2
 clear hb2 c0 c1 hB1 hRa hRb hva hvb hB0
 have cA : ∀ dd os, Calls Tryz.prog _ _ (grow (redrawn w2 dd) os) fun e w'' => e = .returned (.agg #[.int .i64 p1, .int .i64 p2]) ∧ ∃ p : Regrown, w'' = grow (redrawn w2 p.d) p.os := fun dd os => Calls.regrown_of (hSa _ (va2.below (below_regrown w2 dd os)))
 have cB : ∀ dd os, Calls Tryz.prog _ _ (grow (redrawn w2 dd) os) fun e w'' => e = .returned (.agg #[.int .i64 q1, .int .i64 q2]) ∧ ∃ p : Regrown, w'' = grow (redrawn w2 p.d) p.os := fun dd os => Calls.regrown_of (hSb _ (vb2.below (below_regrown w2 dd os)))
 have hcmp := neq_out p1 p2 q1 q2
 have hgrd := fun x y => guard_out x y p1 p2 q1 q2
 obtain ⟨z, hz⟩ : ∃ z, decide ((p1, p2) ≠ (q1, q2)) = z := ⟨_, rfl⟩
 have HZ : Hid (z = decide ((p1, p2) ≠ (q1, q2))) := hz.symm
 rw [hz] at hcmp
 clear hz
 have kc0 := cell_regrown d0
 have kc1 := cell_regrown d1
 go_wp2_with fail
 refine wp_region_quiet_below (by kernel_rfl) (by kernel_rfl) ?_
 repeat (quiet_step ((go_at_call 24; first | with_reducible exact cA _ _ | with_reducible exact cB _ _)))
 refine wpQuiet_nil ?_
 intro _ hw'
 obtain ⟨⟨dq, osq⟩, hw''⟩ := hw'
 subst hw''
 have hb3 := below_regrown w2 dq osq
 go_wp2
 go_ret
 exact ⟨ret_bool HZ.out, hB2.trans (hb3.mono hB2.size)⟩
end Go.Proofs.YtcelbkmnbjcjhaaGreat
namespace Go.Proofs.YtcelbkmnbjcjhaaGreat
open Go.RowKit Go.Sort

theorem changed_no3 {la lb : List TurnD} {n g f : Int} (h : rightR la n g f = false) : changedD la lb n g f = false := by
 cases ha : tabB la
 ·
  exact changed_no1 ha
 cases hb : tabB lb
 ·
  exact changed_no2 hb
 rw [changed_yes ha hb, rightR_f h]
 have h2 : rightR lb n g f = false := by
  unfold rightR at h ⊢
  rw [ha] at h
  rw [hb]
  exact h
 rw [rightR_f h2]
 simp
set_option maxRecDepth 20000 in
set_option maxHeartbeats 2000000 in
theorem spec_Changed (la lb : List TurnD) (va vb : Value) (n g f : Int) (w : World) (hva : TabAt w va la) (hvb : TabAt w vb lb) (oka : ∀ r ∈ la, r.ok) (okb : ∀ r ∈ lb, r.ok) :
  Calls Tryz.prog 9 #[va, vb, .int .i64 n, .int .i64 g, .int .i64 f] w fun e w' => e = .returned (.bool (changedD la lb n g f)) ∧ Below w.heap.size w w' := by
 obtain ⟨a, cap, rfl, hA⟩ := hva
 obtain ⟨b, capb, rfl, hAb⟩ := hvb
 have hva : TabAt w (.agg #[.slice a la.length cap]) la := ⟨a, cap, rfl, hA⟩
 have hvb : TabAt w (.agg #[.slice b lb.length capb]) lb := ⟨b, capb, rfl, hAb⟩
 clear hA hAb
 have hB0 := fun o o2 => ((Below.refl w.heap.size w).alloc (Nat.le_refl _) o).alloc (by simp) o2
 have hRa := fun w (h : TabAt w (.agg #[.slice a la.length cap]) la) => spec_l04Right la _ n g f w h oka
 have hRb := fun w (h : TabAt w (.agg #[.slice b lb.length capb]) lb) => spec_TableRight lb _ w h okb
 have KEEP : ∀ w1, Below ((w.alloc (.cells #[.slice a la.length cap] 25)).alloc (.cells #[.slice b lb.length capb] 25)).heap.size ((w.alloc (.cells #[.slice a la.length cap] 25)).alloc (.cells #[.slice b lb.length capb] 25)) w1 →
   w1.cell? ⟨w.heap.size, 0, none⟩ = some (.slice a la.length cap) ∧ w1.cell? ⟨w.heap.size + 1, 0, none⟩ = some (.slice b lb.length capb) ∧ Below w.heap.size w w1 := fun w1 hb1 => by
  obtain ⟨hc1, hf1⟩ := bcell hb1
  exact ⟨(hc1 _ _ (by simp; omega)).trans (by simp [go_sem]), (hc1 _ _ (by simp)).trans (by simp [go_sem]), (hB0 _ _).trans (hb1.mono (by simp; omega))⟩
 cases ha : rightR la n g f
 ·
  rw [changed_no3 ha]
  rw [ha] at hRa
  go_enter Tryz.func9, Tryz.ntmps9
  go_wp2_with fail
  refine (hRa _ (hva.below (hB0 _ _))).mono ?_
  rintro e w1 ⟨rfl, hb1⟩
  go_wp2
  go_ret
  exact ⟨rfl, (KEEP w1 hb1).2.2⟩
 rw [ha] at hRa
 cases hb : tabB lb
 ·
  rw [changed_no2 hb]
  rw [hb] at hRb
  go_enter Tryz.func9, Tryz.ntmps9
  go_wp2_with fail
  refine (hRa _ (hva.below (hB0 _ _))).mono ?_
  rintro e w1 ⟨rfl, hb1⟩
  obtain ⟨c0, c1, hB1⟩ := KEEP w1 hb1
  go_wp2_with fail
  refine (hRb _ (hvb.below hB1)).mono ?_
  rintro e w2 ⟨rfl, hb2⟩
  go_wp2
  go_ret
  exact ⟨rfl, hB1.trans (hb2.mono hB1.size)⟩
 rw [hb] at hRb
 obtain ⟨h1, h2, h3, h4⟩ := rightR_t ha
 rw [changed_yes h1 hb, resD_yes h1 h2 h3 h4, resD_yes hb h2 h3 h4]
 have hSa := fun w (h : TabAt w (.agg #[.slice a la.length cap]) la) => spec_l04Resolve la _ n g f w h (tab_of h1) (isB_of_t h2).1 (isB_of_t h2).2 (isB_of_t h3).1 (isB_of_t h3).2 (isB_of_t h4).1 (isB_of_t h4).2
 have hSb := fun w (h : TabAt w (.agg #[.slice b lb.length capb]) lb) => spec_l04Resolve lb _ n g f w h (tab_of hb) (isB_of_t h2).1 (isB_of_t h2).2 (isB_of_t h3).1 (isB_of_t h3).2 (isB_of_t h4).1 (isB_of_t h4).2
 clear ha hb h1 h2 h3 h4
 generalize resR la n g f = R1 at *
 generalize resR lb n g f = R2 at *
 obtain ⟨p1, p2⟩ := R1
 obtain ⟨q1, q2⟩ := R2
 unfold outV at hSa hSb
 go_enter Tryz.func9, Tryz.ntmps9
 go_wp2_with fail
 refine (hRa _ (hva.below (hB0 _ _))).mono ?_
 rintro e w1 ⟨rfl, hb1⟩
 obtain ⟨c0, c1, hB1⟩ := KEEP w1 hb1
 clear KEEP hb1
 go_wp2_with fail
 refine (hRb _ (hvb.below hB1)).mono ?_
 rintro e w2 ⟨rfl, hb2⟩
 have hB2 := hB1.trans (hb2.mono hB1.size)
 have d0 := ((bcell hb2).1 _ _ (World.block_lt_of_cell? _ _ c0)).trans c0
 have d1 := ((bcell hb2).1 _ _ (World.block_lt_of_cell? _ _ c1)).trans c1
 have va2 := hva.below hB2
 have vb2 := hvb.below hB2
 clear hb2 c0 c1 hB1 hRa hRb hva hvb hB0
 have cA : ∀ dd os, Calls Tryz.prog _ _ (grow (redrawn w2 dd) os) fun e w'' => e = .returned (.agg #[.int .i64 p1, .int .i64 p2]) ∧ ∃ p : Regrown, w'' = grow (redrawn w2 p.d) p.os := fun dd os => Calls.regrown_of (hSa _ (va2.below (below_regrown w2 dd os)))
 have cB : ∀ dd os, Calls Tryz.prog _ _ (grow (redrawn w2 dd) os) fun e w'' => e = .returned (.agg #[.int .i64 q1, .int .i64 q2]) ∧ ∃ p : Regrown, w'' = grow (redrawn w2 p.d) p.os := fun dd os => Calls.regrown_of (hSb _ (vb2.below (below_regrown w2 dd os)))
 have hcmp := neq_out p1 p2 q1 q2
 have hgrd := fun x y => guard_out x y p1 p2 q1 q2
 obtain ⟨z, hz⟩ : ∃ z, decide ((p1, p2) ≠ (q1, q2)) = z := ⟨_, rfl⟩
 have HZ : Hid (z = decide ((p1, p2) ≠ (q1, q2))) := hz.symm
 rw [hz] at hcmp
 clear hz
 have kc0 := cell_regrown d0
 have kc1 := cell_regrown d1
 go_wp2_with fail
 refine wp_region_quiet_below (by kernel_rfl) (by kernel_rfl) ?_
 repeat (quiet_step ((go_at_call 26; first | with_reducible exact cA _ _ | with_reducible exact cB _ _)))
 refine wpQuiet_nil ?_
 intro _ hw'
 obtain ⟨⟨dq, osq⟩, hw''⟩ := hw'
 subst hw''
 have hb3 := below_regrown w2 dq osq
 go_wp2
 go_ret
 exact ⟨ret_bool HZ.out, hB2.trans (hb3.mono hB2.size)⟩
end Go.Proofs.YtcelbkmnbjcjhaaGreat
namespace Go.Proofs.YtcelbkmnbjcjhaaGreat
open Go.RowKit

def hitB (f t : Int) (s : SpanD) : Bool := decide (max s.lo f ≤ min s.hi t)
def touchD (l : List SpanD) (f t : Int) : Bool := if l.length ≤ 400 then l.any (hitB f t) else false
theorem touch_no {l : List SpanD} {f t : Int} (h : ¬ l.length ≤ 400) : touchD l f t = false := by unfold touchD; rw [if_neg h]
theorem touch_hit {l : List SpanD} {f t : Int} (h : l.length ≤ 400) {k : Nat} {x : SpanD} (hx : l[k]? = some x) (hh : hitB f t x = true) : touchD l f t = true := by
 unfold touchD; rw [if_pos h, List.any_eq_true]; exact ⟨x, List.mem_of_getElem? hx, hh⟩
theorem touch_none {l : List SpanD} {f t : Int} (h : l.length ≤ 400) (hh : ∀ (k : Nat) x, l[k]? = some x → hitB f t x = false) : touchD l f t = false := by
 unfold touchD; rw [if_pos h, List.any_eq_false]
 intro x hx
 obtain ⟨k, hk⟩ := List.getElem?_of_mem hx
 rw [hh k x hk]; simp
set_option maxHeartbeats 400000 in
theorem spec_l01Max (a b : Int) (w : World) : Calls Tryz.prog 32 #[.int .i64 a, .int .i64 b] w fun e w' => e = .returned (.int .i64 (max a b)) ∧ w' = w := by
 by_cases h : b < a
 ·
  go_enter Tryz.func32, Tryz.ntmps32
  go_wp2
  go_ret
  exact ⟨ret_int (by omega), rfl⟩
 ·
  go_enter Tryz.func32, Tryz.ntmps32
  go_wp2
  go_ret
  exact ⟨ret_int (by omega), rfl⟩
set_option maxHeartbeats 400000 in
theorem spec_l01Min (a b : Int) (w : World) : Calls Tryz.prog 33 #[.int .i64 a, .int .i64 b] w fun e w' => e = .returned (.int .i64 (min a b)) ∧ w' = w := by
 by_cases h : a < b
 ·
  go_enter Tryz.func33, Tryz.ntmps33
  go_wp2
  go_ret
  exact ⟨ret_int (by omega), rfl⟩
 ·
  go_enter Tryz.func33, Tryz.ntmps33
  go_wp2
  go_ret
  exact ⟨ret_int (by omega), rfl⟩
set_option maxHeartbeats 2000000 in
theorem impl_Touched (l : List SpanD) (a : Option Addr) (cap : Nat) (f t : Int) (w : World) (hA : SeqAt w a 2 (l.map SpanD.cs)) (hl : l.length ≤ 1048576) :
  Calls Tryz.prog 10 #[.slice a l.length cap, .int .i64 f, .int .i64 t] w fun e w' => e = .returned (.bool (touchD l f t)) ∧ Below w.heap.size w w' := by
 by_cases h4 : l.length ≤ 400
 ·
  have HY := fun k x => touch_hit (f := f) (t := t) h4 (k := k) (x := x)
  have HN := touch_none (f := f) (t := t) h4
  generalize touchD l f t = z at *
  go_enter Tryz.func10, Tryz.ntmps10
  go_wp2
  go_loopw [14] (fun s wr => ∃ i : Nat, i ≤ l.length ∧ s = .int .i64 i ∧ Hid (∀ k, k < i → ∀ x, l[k]? = some x → hitB f t x = false) ∧ Below w.heap.size w wr) (fun s _ => l.length - (intOf s).toNat)
  case atStart => exact ⟨0, by omega, rfl, fun k hk => by omega, Below.refl _ _⟩
  case round =>
   obtain ⟨i, hi, rfl, HS, hB⟩ := hrel
   by_cases hlt : i < l.length
   ·
    obtain ⟨x, hx⟩ : ∃ x, l[i]? = some x := ⟨_, List.getElem?_eq_getElem hlt⟩
    obtain ⟨b, o, rfl, hc⟩ := (hA.below hB).at (i := i) (r := x.cs) (by rw [List.getElem?_map, hx]; rfl)
    have c0 : wr.cell? ⟨b, o + i * 2, none⟩ = some (.int .i64 x.lo) := hc 0 _ rfl
    have c1 : wr.cell? ⟨b, o + i * 2 + 1, none⟩ = some (.int .i64 x.hi) := hc 1 _ rfl
    clear hc
    by_cases hh : max x.lo f ≤ min x.hi t
    ·
     have HR : Hid (z = true) := HY i x hx (decide_eq_true hh)
     clear HY HN HS hx
     go_wp2
     go_ret
     exact ⟨ret_bool HR.out.symm, hB.alloc hB.size _⟩
    ·
     have HR : Hid (∀ k, k < i + 1 → ∀ x, l[k]? = some x → hitB f t x = false) := fun k hk y hy => by
      by_cases e : k = i
      ·
       subst e; rw [hx] at hy; obtain rfl := Option.some.inj hy; exact decide_eq_false hh
      ·
       exact HS.out k (by omega) y hy
     clear HY HN HS hx
     go_wp2
     go_roundw
     case rel => exact ⟨i + 1, by omega, by go_num, HR, hB.alloc hB.size _⟩
     case measure => simp [intOf]; omega
   ·
    obtain rfl : i = l.length := by omega
    have HR : Hid (z = false) := HN fun k x hx => HS.out k (List.getElem?_eq_some_iff.mp hx).1 x hx
    go_wp2
    go_ret
    exact ⟨ret_bool HR.out.symm, hB⟩
 ·
  rw [touch_no h4]
  go_enter Tryz.func10, Tryz.ntmps10
  go_wp2
  go_ret
  exact ⟨rfl, Below.refl _ _⟩
set_option maxHeartbeats 2000000 in
theorem spec_Touched (l : List SpanD) (a : Option Addr) (cap : Nat) (f t : Int) (w : World) (hA : SeqAt w a 2 (l.map SpanD.cs)) (hl : l.length ≤ 1048576) :
  Calls Tryz.prog 15 #[.slice a l.length cap, .int .i64 f, .int .i64 t] w fun e w' => e = .returned (.bool (touchD l f t)) ∧ Below w.heap.size w w' := by
 by_cases h4 : l.length ≤ 400
 ·
  have HY := fun k x => touch_hit (f := f) (t := t) h4 (k := k) (x := x)
  have HN := touch_none (f := f) (t := t) h4
  generalize touchD l f t = z at *
  go_enter Tryz.func15, Tryz.ntmps15
  go_wp2
  go_loopw [7] (fun s wr => ∃ i : Nat, i ≤ l.length ∧ s = .int .i64 i ∧ Hid (∀ k, k < i → ∀ x, l[k]? = some x → hitB f t x = false) ∧ Below w.heap.size w wr) (fun s _ => l.length - (intOf s).toNat)
  case atStart => exact ⟨0, by omega, rfl, fun k hk => by omega, Below.refl _ _⟩
  case round =>
   obtain ⟨i, hi, rfl, HS, hB⟩ := hrel
   by_cases hlt : i < l.length
   ·
    obtain ⟨x, hx⟩ : ∃ x, l[i]? = some x := ⟨_, List.getElem?_eq_getElem hlt⟩
    obtain ⟨b, o, rfl, hc⟩ := (hA.below hB).at (i := i) (r := x.cs) (by rw [List.getElem?_map, hx]; rfl)
    have c0 : wr.cell? ⟨b, o + i * 2, none⟩ = some (.int .i64 x.lo) := hc 0 _ rfl
    have c1 : wr.cell? ⟨b, o + i * 2 + 1, none⟩ = some (.int .i64 x.hi) := hc 1 _ rfl
    clear hc
    have hM := fun w => spec_l01Max x.lo f w
    have hN := fun w => spec_l01Min x.hi t w
    by_cases hh : max x.lo f ≤ min x.hi t
    ·
     have HR : Hid (z = true) := HY i x hx (decide_eq_true hh)
     clear HY HN HS hx
     generalize max x.lo f = p at *
     generalize min x.hi t = q at *
     go_wp2_with fail
     go_quiet ((first | (go_at_call 32; exact Calls.quiet_of_same (hM _)) | (go_at_call 33; exact Calls.quiet_of_same (hN _))))
     go_wp2
     go_ret
     exact ⟨ret_bool HR.out.symm, below_drewN hB _⟩
    ·
     have HR : Hid (∀ k, k < i + 1 → ∀ x, l[k]? = some x → hitB f t x = false) := fun k hk y hy => by
      by_cases e : k = i
      ·
       subst e; rw [hx] at hy; obtain rfl := Option.some.inj hy; exact decide_eq_false hh
      ·
       exact HS.out k (by omega) y hy
     clear HY HN HS hx
     generalize max x.lo f = p at *
     generalize min x.hi t = q at *
     go_wp2_with fail
     go_quiet ((first | (go_at_call 32; exact Calls.quiet_of_same (hM _)) | (go_at_call 33; exact Calls.quiet_of_same (hN _))))
     go_wp2
     go_roundw
     case rel => exact ⟨i + 1, by omega, by go_num, HR, below_drewN hB _⟩
     case measure => simp [intOf]; omega
   ·
    obtain rfl : i = l.length := by omega
    have HR : Hid (z = false) := HN fun k x hx => HS.out k (List.getElem?_eq_some_iff.mp hx).1 x hx
    go_wp2
    go_ret
    exact ⟨ret_bool HR.out.symm, hB⟩
 ·
  rw [touch_no h4]
  go_enter Tryz.func15, Tryz.ntmps15
  go_wp2
  go_ret
  exact ⟨rfl, Below.refl _ _⟩
end Go.Proofs.YtcelbkmnbjcjhaaGreat
