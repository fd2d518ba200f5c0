/- Where two tables differ: plain mathematics. -/
import Derived.Test.YtjfonbnmdcpepaaTabAt
import Derived.Test.YtjfonbnmdcpepaaRelSpan
namespace Go.Proofs.Ytjfonbnmdcpepaa
open Go.RowKit

/-- put into a rising list, once. -/
def insI : List Int → Int → List Int
  | [], n => [n]
  | x :: l, n => if x < n then x :: insI l n else if x = n then x :: l else n :: x :: l
theorem insI_mem {l : List Int} {n y : Int} : y ∈ insI l n ↔ y = n ∨ y ∈ l := by
  induction l with
  | nil => simp [insI]
  | cons x l ih =>
    unfold insI
    split
    · rw [List.mem_cons, ih, List.mem_cons]; constructor
      · rintro (h | h | h)
        · exact .inr (.inl h)
        · exact .inl h
        · exact .inr (.inr h)
      · rintro (h | h | h)
        · exact .inr (.inl h)
        · exact .inl h
        · exact .inr (.inr h)
    · split
      · rename_i _ e
        subst e
        simp
      · simp
theorem insI_up {l : List Int} {n : Int} (h : l.Pairwise (· < ·)) : (insI l n).Pairwise (· < ·) := by
  induction l with
  | nil => simp [insI]
  | cons x l ih =>
    rw [List.pairwise_cons] at h
    unfold insI
    split
    · rename_i hx
      rw [List.pairwise_cons]
      refine ⟨fun y hy => ?_, ih h.2⟩
      rcases insI_mem.mp hy with e | e
      · subst e; exact hx
      · exact h.1 y e
    · split
      · rw [List.pairwise_cons]; exact h
      · rename_i h1 h2
        rw [List.pairwise_cons, List.pairwise_cons]
        refine ⟨fun y hy => ?_, h⟩
        rcases List.mem_cons.mp hy with e | e
        · subst e; omega
        · have := h.1 y e; omega
/-- two rising lists with the same members are one. -/
theorem up_ext : ∀ {l m : List Int}, l.Pairwise (· < ·) → m.Pairwise (· < ·) → (∀ y, y ∈ l ↔ y ∈ m) → l = m := by
  intro l
  induction l with
  | nil =>
    intro m _ _ h
    cases m with
    | nil => rfl
    | cons x m => exact absurd ((h x).mpr (by simp)) (by simp)
  | cons x l ih =>
    intro m hl hm h
    cases m with
    | nil => exact absurd ((h x).mp (by simp)) (by simp)
    | cons y m =>
      rw [List.pairwise_cons] at hl hm
      have hxy : x = y := by
        have h1 := (h x).mp (by simp)
        have h2 := (h y).mpr (by simp)
        rcases List.mem_cons.mp h1 with e | e
        · exact e
        · rcases List.mem_cons.mp h2 with e2 | e2
          · exact e2.symm
          · have := hm.1 x e; have := hl.1 y e2; omega
      subst hxy
      have : l = m := ih hl.2 hm.2 fun z => by
        constructor
        · intro hz
          have h3 := (h z).mp (List.mem_cons_of_mem _ hz)
          rcases List.mem_cons.mp h3 with e | e
          · have := hl.1 z hz; omega
          · exact e
        · intro hz
          have h3 := (h z).mpr (List.mem_cons_of_mem _ hz)
          rcases List.mem_cons.mp h3 with e | e
          · have := hm.1 z hz; omega
          · exact e
      rw [this]
/-- all instants of two lists. -/
def uniI (A B : List Int) : List Int := B.foldl insI A
theorem uniI_mem {B : List Int} : ∀ {A : List Int} {y : Int}, y ∈ uniI A B ↔ y ∈ A ∨ y ∈ B := by
  induction B with
  | nil => intro A y; simp [uniI]
  | cons b B ih =>
    intro A y
    have := ih (A := insI A b) (y := y)
    unfold uniI at this ⊢
    rw [List.foldl_cons, this, insI_mem, List.mem_cons]
    constructor
    · rintro ((h | h) | h)
      · exact .inr (.inl h)
      · exact .inl h
      · exact .inr (.inr h)
    · rintro (h | h | h)
      · exact .inl (.inr h)
      · exact .inl (.inl h)
      · exact .inr h
theorem uniI_up {B : List Int} : ∀ {A : List Int}, A.Pairwise (· < ·) → (uniI A B).Pairwise (· < ·) := by
  induction B with
  | nil => intro A h; exact h
  | cons b B ih => intro A h; exact ih (insI_up h)
theorem insI_len (l : List Int) (n : Int) : (insI l n).length ≤ l.length + 1 := by
  induction l with
  | nil => simp [insI]
  | cons x l ih =>
    unfold insI
    split
    · simp; omega
    · split <;> simp
theorem uniI_len {B : List Int} : ∀ {A : List Int}, (uniI A B).length ≤ A.length + B.length := by
  induction B with
  | nil => intro A; simp [uniI]
  | cons b B ih =>
    intro A
    have h1 := ih (A := insI A b)
    have h2 := insI_len A b
    unfold uniI at *
    rw [List.foldl_cons, List.length_cons]
    omega
theorem ats_up {l : List TurnD} (h : upT l = true) : (l.map TurnD.at_).Pairwise (· < ·) := by
  induction l with
  | nil => simp
  | cons x l ih =>
    match l with
    | [] => simp
    | y :: l =>
      simp only [upT, Bool.and_eq_true, decide_eq_true_eq] at h
      have h2 := ih h.2
      rw [List.map_cons, List.pairwise_cons]
      refine ⟨fun z hz => ?_, h2⟩
      rw [List.map_cons, List.pairwise_cons] at h2
      rw [List.map_cons, List.mem_cons] at hz
      rcases hz with e | e
      · subst e; exact h.1
      · have := h2.1 z e; omega
/-- a meeting: an instant, and the places in both. -/
structure MeetD where
  at_ : Int
  i : Nat
  j : Nat
def MeetD.cs (m : MeetD) : List Value := [.int .i64 m.at_, .int .i64 m.i, .int .i64 m.j]
/-- the last place that is not behind. -/
def Here (A : List Int) (n : Int) (i : Nat) : Prop := ∃ x, A[i]? = some x ∧ x ≤ n ∧ ∀ y, A[i + 1]? = some y → n < y
/-- how far two lists have been gone through. -/
structure Met (A B : List Int) (i j : Nat) (M : List MeetD) : Prop where
  upA : A.Pairwise (· < ·)
  upB : B.Pairwise (· < ·)
  last : ∃ M0 m, M = M0 ++ [m] ∧ m.i = i ∧ m.j = j ∧ ∃ x y, A[i]? = some x ∧ B[j]? = some y ∧ m.at_ = max x y
  here : ∀ m ∈ M, Here A m.at_ m.i ∧ Here B m.at_ m.j
  up : (M.map MeetD.at_).Pairwise (· < ·)
  all : ∀ y, y ∈ M.map MeetD.at_ ↔ (∃ k, k ≤ i ∧ A[k]? = some y) ∨ (∃ k, k ≤ j ∧ B[k]? = some y)
  len : M.length ≤ i + j + 1
theorem up_lt {A : List Int} (h : A.Pairwise (· < ·)) {i k : Nat} (hik : i < k) {x y : Int} (hx : A[i]? = some x) (hy : A[k]? = some y) : x < y := by
  obtain ⟨h1, rfl⟩ := List.getElem?_eq_some_iff.mp hx
  obtain ⟨h2, rfl⟩ := List.getElem?_eq_some_iff.mp hy
  exact List.pairwise_iff_getElem.mp h i k h1 h2 hik
theorem Met.step {A B : List Int} {i j i2 j2 : Nat} {M : List MeetD} (h : Met A B i j M) {n : Int} (hn : ∀ m ∈ M, m.at_ < n)
    (hi : i2 = i ∨ i2 = i + 1) (hj : j2 = j ∨ j2 = j + 1) (hij : i + j < i2 + j2) {x y : Int} (hx : A[i2]? = some x) (hy : B[j2]? = some y) (hm : n = max x y) (hA : Here A n i2) (hB : Here B n j2)
    (c1 : i2 = i + 1 → x = n) (c2 : j2 = j + 1 → y = n) : Met A B i2 j2 (M ++ [⟨n, i2, j2⟩]) := by
  refine ⟨h.upA, h.upB, ⟨M, ⟨n, i2, j2⟩, rfl, rfl, rfl, x, y, hx, hy, hm⟩, fun m hmm => ?_, ?_, fun z => ?_, by have := h.len; simp; omega⟩
  · rcases List.mem_append.mp hmm with e | e
    · exact h.here m e
    · simp at e; subst e; exact ⟨hA, hB⟩
  · rw [List.map_append, List.pairwise_append]
    refine ⟨h.up, by simp, fun a ha b hb => ?_⟩
    simp at hb; subst hb
    obtain ⟨m, hm1, rfl⟩ := List.mem_map.mp ha
    exact hn m hm1
  · rw [List.map_append, List.mem_append, h.all z]
    constructor
    · rintro ((⟨k, hk, e⟩ | ⟨k, hk, e⟩) | e)
      · exact .inl ⟨k, by omega, e⟩
      · exact .inr ⟨k, by omega, e⟩
      · simp at e
        subst e
        rcases hi with e1 | e1
        · rcases hj with e2 | e2
          · omega
          · exact .inr ⟨j2, Nat.le_refl _, by rw [hy, c2 e2]⟩
        · exact .inl ⟨i2, Nat.le_refl _, by rw [hx, c1 e1]⟩
    · rintro (⟨k, hk, e⟩ | ⟨k, hk, e⟩)
      · by_cases hki : k ≤ i
        · exact .inl (.inl ⟨k, hki, e⟩)
        · obtain rfl : k = i2 := by omega
          rw [hx] at e
          obtain rfl := Option.some.inj e
          exact .inr (by simp [c1 (by omega)])
      · by_cases hki : k ≤ j
        · exact .inl (.inr ⟨k, hki, e⟩)
        · obtain rfl : k = j2 := by omega
          rw [hy] at e
          obtain rfl := Option.some.inj e
          exact .inr (by simp [c2 (by omega)])
/-- the last one is the greatest. -/
theorem Met.top {A B : List Int} {i j : Nat} {M : List MeetD} (h : Met A B i j M) {x y : Int} (hx : A[i]? = some x) (hy : B[j]? = some y) : ∀ m ∈ M, m.at_ ≤ max x y := by
  obtain ⟨M0, m, rfl, _, _, x', y', hx', hy', hm⟩ := h.last
  rw [hx] at hx'
  rw [hy] at hy'
  obtain rfl := Option.some.inj hx'
  obtain rfl := Option.some.inj hy'
  intro q hq
  rcases List.mem_append.mp hq with e | e
  · have := h.up
    rw [List.map_append, List.pairwise_append] at this
    have := this.2.2 q.at_ (List.mem_map.mpr ⟨q, e, rfl⟩) m.at_ (by simp)
    omega
  · simp at e; subst e; omega
theorem Met.cur {A B : List Int} {i j : Nat} {M : List MeetD} (h : Met A B i j M) {x y : Int} (hx : A[i]? = some x) (hy : B[j]? = some y) : Here A (max x y) i ∧ Here B (max x y) j := by
  obtain ⟨M0, m, e, hi, hj, x', y', hx', hy', hm⟩ := h.last
  rw [hx] at hx'
  rw [hy] at hy'
  obtain rfl := Option.some.inj hx'
  obtain rfl := Option.some.inj hy'
  have := h.here m (by rw [e]; simp)
  rw [hi, hj, hm] at this
  exact this
theorem here_lt {A : List Int} {n : Int} {i : Nat} (h : Here A n i) {y : Int} (hy : A[i + 1]? = some y) : n < y := by
  obtain ⟨_, _, _, h3⟩ := h
  exact h3 y hy
theorem here_next {A : List Int} (hA : A.Pairwise (· < ·)) {i : Nat} {x : Int} (hx : A[i]? = some x) : Here A x i :=
  ⟨x, hx, Int.le_refl _, fun _ hy => up_lt hA (Nat.lt_succ_self _) hx hy⟩
/-- the first goes on. -/
theorem Met.first {A B : List Int} {i j : Nat} {M : List MeetD} (h : Met A B i j M) {x y x1 : Int} (hx : A[i]? = some x) (hy : B[j]? = some y) (hx1 : A[i + 1]? = some x1) (hb : ∀ y1, B[j + 1]? = some y1 → x1 < y1) : Met A B (i + 1) j (M ++ [⟨max x1 y, i + 1, j⟩]) := by
  obtain ⟨cA, cB⟩ := h.cur hx hy
  have h1 := here_lt cA hx1
  have e : max x1 y = x1 := by omega
  rw [e]
  refine h.step (fun m hm => ?_) (.inr rfl) (.inl rfl) (by omega) hx1 hy e.symm (here_next h.upA hx1) ⟨y, hy, by omega, fun z hz => hb z hz⟩ (fun _ => rfl) (fun e => by omega)
  have := h.top hx hy m hm
  omega
/-- the second goes on. -/
theorem Met.second {A B : List Int} {i j : Nat} {M : List MeetD} (h : Met A B i j M) {x y y1 : Int} (hx : A[i]? = some x) (hy : B[j]? = some y) (hy1 : B[j + 1]? = some y1) (hb : ∀ x1, A[i + 1]? = some x1 → y1 < x1) : Met A B i (j + 1) (M ++ [⟨max x y1, i, j + 1⟩]) := by
  obtain ⟨cA, cB⟩ := h.cur hx hy
  have h1 := here_lt cB hy1
  have e : max x y1 = y1 := by omega
  rw [e]
  refine h.step (fun m hm => ?_) (.inl rfl) (.inr rfl) (by omega) hx hy1 e.symm ⟨x, hx, by omega, fun z hz => hb z hz⟩ (here_next h.upB hy1) (fun e => by omega) (fun _ => rfl)
  have := h.top hx hy m hm
  omega
/-- both go on. -/
theorem Met.both {A B : List Int} {i j : Nat} {M : List MeetD} (h : Met A B i j M) {x y x1 y1 : Int} (hx : A[i]? = some x) (hy : B[j]? = some y) (hx1 : A[i + 1]? = some x1) (hy1 : B[j + 1]? = some y1) (e0 : x1 = y1) : Met A B (i + 1) (j + 1) (M ++ [⟨max x1 y1, i + 1, j + 1⟩]) := by
  subst e0
  obtain ⟨cA, cB⟩ := h.cur hx hy
  have h1 := here_lt cA hx1
  have h2 := here_lt cB hy1
  have e : max x1 x1 = x1 := by omega
  rw [e]
  refine h.step (fun m hm => ?_) (.inr rfl) (.inr rfl) (by omega) hx1 hy1 e.symm (here_next h.upA hx1) (here_next h.upB hy1) (fun _ => rfl) (fun _ => rfl)
  have := h.top hx hy m hm
  omega
theorem Met.begin {A B : List Int} (hA : A.Pairwise (· < ·)) (hB : B.Pairwise (· < ·)) {x : Int} (hx : A[0]? = some x) (hy : B[0]? = some x) : Met A B 0 0 [⟨x, 0, 0⟩] := by
  refine ⟨hA, hB, ⟨[], _, rfl, rfl, rfl, x, x, hx, hy, by simp⟩, fun m hm => ?_, by simp, fun y => ?_, by simp⟩
  · simp at hm; subst hm; exact ⟨here_next hA hx, here_next hB hy⟩
  · constructor
    · intro h; simp at h; subst h; exact .inl ⟨0, Nat.le_refl _, hx⟩
    · rintro (⟨k, hk, e⟩ | ⟨k, hk, e⟩)
      · obtain rfl : k = 0 := by omega
        rw [hx] at e; obtain rfl := Option.some.inj e; simp
      · obtain rfl : k = 0 := by omega
        rw [hy] at e; obtain rfl := Option.some.inj e; simp
theorem Met.done {A B : List Int} {i j : Nat} {M : List MeetD} (h : Met A B i j M) (hi : A.length = i + 1) (hj : B.length = j + 1) : M.map MeetD.at_ = uniI A B := by
  refine up_ext h.up (uniI_up h.upA) fun y => ?_
  rw [h.all y, uniI_mem]
  constructor
  · rintro (⟨k, _, e⟩ | ⟨k, _, e⟩)
    · exact .inl (List.mem_of_getElem? e)
    · exact .inr (List.mem_of_getElem? e)
  · rintro (e | e)
    · obtain ⟨k, hk⟩ := List.getElem?_of_mem e
      exact .inl ⟨k, by have := (List.getElem?_eq_some_iff.mp hk).1; omega, hk⟩
    · obtain ⟨k, hk⟩ := List.getElem?_of_mem e
      exact .inr ⟨k, by have := (List.getElem?_eq_some_iff.mp hk).1; omega, hk⟩
end Go.Proofs.Ytjfonbnmdcpepaa
