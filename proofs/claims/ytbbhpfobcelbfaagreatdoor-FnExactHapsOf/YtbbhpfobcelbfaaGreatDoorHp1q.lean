/- What happens, sorted by wall times, those of one as they stand: plain mathematics. -/
import Derived.Test.YtbbhpfobcelbfaaGreatDoorOwn1q
namespace Go.Proofs.YtbbhpfobcelbfaaGreatDoor
open Go.RowKit

structure WallD where
  wall : Int
  place : Nat
def WallD.cs (x : WallD) : List Value := [.int .i64 x.wall, .int .i64 x.place]
theorem wall_len {l : List WallD} : ∀ r ∈ l.map WallD.cs, r.length = 2 := fun r hr => by
  obtain ⟨x, _, rfl⟩ := List.mem_map.mp hr; rfl
def atW (t : Int) (l : List WallD) : List WallD := l.filter fun x => decide (x.wall = t)
theorem atW_append (t : Int) (a b : List WallD) : atW t (a ++ b) = atW t a ++ atW t b := List.filter_append ..
theorem atW_hit {t : Int} {x : WallD} (l : List WallD) (h : x.wall = t) : atW t (x :: l) = x :: atW t l := List.filter_cons_of_pos (by simpa using h)
theorem atW_miss {t : Int} {x : WallD} (l : List WallD) (h : x.wall ≠ t) : atW t (x :: l) = atW t l := List.filter_cons_of_neg (by simpa using h)
theorem atW_none {t : Int} {l : List WallD} (h : ∀ x ∈ l, t < x.wall) : atW t l = [] := by
  unfold atW
  rw [List.filter_eq_nil_iff]
  intro x hx
  have := h x hx
  simp
  omega
def UpW (l : List WallD) : Prop := l.Pairwise fun a b => a.wall ≤ b.wall
/-- s is l, sorted by wall times, those of one as they stand. -/
structure SrtOf (l s : List WallD) : Prop where
  up : UpW s
  at_ : ∀ t, atW t s = atW t l
  len : s.length = l.length
theorem srt_short {l : List WallD} (h : l.length < 2) : SrtOf l l := by
  refine ⟨?_, fun _ => rfl, rfl⟩
  match l, h with
  | [], _ => exact List.Pairwise.nil
  | [x], _ => exact List.pairwise_singleton _ _
def mergeWA (x : WallD) (f : List WallD → List WallD) : List WallD → List WallD
  | [] => x :: f []
  | y :: b => if x.wall ≤ y.wall then x :: f (y :: b) else y :: mergeWA x f b
def mergeW : List WallD → List WallD → List WallD
  | [], b => b
  | x :: a, b => mergeWA x (mergeW a) b
theorem merge_nil (b : List WallD) : mergeW [] b = b := rfl
theorem merge_nil2 (a : List WallD) : mergeW a [] = a := by
  induction a with
  | nil => rfl
  | cons x a ih => rw [mergeW, mergeWA, ih]
theorem merge_left {x y : WallD} {a b : List WallD} (h : x.wall ≤ y.wall) : mergeW (x :: a) (y :: b) = x :: mergeW a (y :: b) := by rw [mergeW, mergeWA, if_pos h]
theorem merge_right {x y : WallD} {a b : List WallD} (h : ¬ x.wall ≤ y.wall) : mergeW (x :: a) (y :: b) = y :: mergeW (x :: a) b := by rw [mergeW, mergeWA, if_neg h, mergeW]
theorem merge_mem : ∀ {n : Nat} {a b : List WallD} {z : WallD}, a.length + b.length ≤ n → (z ∈ mergeW a b ↔ z ∈ a ∨ z ∈ b) := by
  intro n
  induction n with
  | zero =>
    intro a b z h
    obtain rfl : a = [] := List.length_eq_zero_iff.mp (by omega)
    rw [merge_nil]; simp
  | succ n ih =>
    intro a b z h
    match a, b with
    | [], b => rw [merge_nil]; simp
    | x :: a, [] => rw [merge_nil2]; simp
    | x :: a, y :: b =>
      by_cases hc : x.wall ≤ y.wall
      · rw [merge_left hc, List.mem_cons, ih (by simp at h ⊢; omega), List.mem_cons, List.mem_cons]
        constructor
        · rintro (h | h | h)
          · exact .inl (.inl h)
          · exact .inl (.inr h)
          · exact .inr h
        · rintro ((h | h) | h)
          · exact .inl h
          · exact .inr (.inl h)
          · exact .inr (.inr h)
      · rw [merge_right hc, List.mem_cons, ih (by simp at h ⊢; omega), List.mem_cons, List.mem_cons]
        constructor
        · rintro (h | h | h)
          · exact .inr (.inl h)
          · exact .inl h
          · exact .inr (.inr h)
        · rintro (h | h | h)
          · exact .inr (.inl h)
          · exact .inl h
          · exact .inr (.inr h)
theorem merge_srt : ∀ {n : Nat} {a b : List WallD}, a.length + b.length ≤ n → UpW a → UpW b → SrtOf (a ++ b) (mergeW a b) := by
  intro n
  induction n with
  | zero =>
    intro a b h ha hb
    obtain rfl : a = [] := List.length_eq_zero_iff.mp (by omega)
    rw [merge_nil]
    exact ⟨hb, fun _ => rfl, rfl⟩
  | succ n ih =>
    intro a b h ha hb
    match a, b with
    | [], b => rw [merge_nil]; exact ⟨hb, fun _ => rfl, rfl⟩
    | x :: a, [] => rw [merge_nil2, List.append_nil]; exact ⟨ha, fun _ => rfl, rfl⟩
    | x :: a, y :: b =>
      have ha' := List.pairwise_cons.mp ha
      have hb' := List.pairwise_cons.mp hb
      by_cases hc : x.wall ≤ y.wall
      · have := ih (a := a) (b := y :: b) (by simp at h ⊢; omega) ha'.2 hb
        rw [merge_left hc]
        refine ⟨List.pairwise_cons.mpr ⟨fun z hz => ?_, this.up⟩, fun t => ?_, by simp [this.len]⟩
        · rcases (merge_mem (Nat.le_refl _)).mp hz with e | e
          · exact ha'.1 z e
          · rcases List.mem_cons.mp e with e | e
            · subst e; exact hc
            · have := hb'.1 z e; omega
        · rw [List.cons_append]
          by_cases ht : x.wall = t
          · rw [atW_hit _ ht, atW_hit _ ht, this.at_]
          · rw [atW_miss _ ht, atW_miss _ ht, this.at_]
      · have := ih (a := x :: a) (b := b) (by simp at h ⊢; omega) ha hb'.2
        rw [merge_right hc]
        refine ⟨List.pairwise_cons.mpr ⟨fun z hz => ?_, this.up⟩, fun t => ?_, by simp [this.len]; omega⟩
        · rcases (merge_mem (Nat.le_refl _)).mp hz with e | e
          · rcases List.mem_cons.mp e with e | e
            · subst e; omega
            · have := ha'.1 z e; omega
          · exact hb'.1 z e
        · by_cases ht : y.wall = t
          · rw [atW_hit _ ht, this.at_, atW_append, atW_append, atW_hit _ ht, atW_none (l := x :: a)]
            · rfl
            · intro z hz
              rcases List.mem_cons.mp hz with e | e
              · subst e; omega
              · have := ha'.1 z e; omega
          · rw [atW_miss _ ht, this.at_, atW_append, atW_append, atW_miss _ ht]
theorem srt_merge {l1 l2 s1 s2 : List WallD} (h1 : SrtOf l1 s1) (h2 : SrtOf l2 s2) : SrtOf (l1 ++ l2) (mergeW s1 s2) := by
  have h := merge_srt (Nat.le_refl _) h1.up h2.up
  refine ⟨h.up, fun t => ?_, by rw [h.len, List.length_append, List.length_append, h1.len, h2.len]⟩
  rw [h.at_, atW_append, atW_append, h1.at_, h2.at_]
/-- there is but one. -/
theorem srt_one : ∀ {s1 s2 : List WallD}, UpW s1 → UpW s2 → (∀ t, atW t s1 = atW t s2) → s1 = s2 := by
  intro s1
  induction s1 with
  | nil =>
    intro s2 _ _ h
    cases s2 with
    | nil => rfl
    | cons y s2 => have := h y.wall; rw [atW_hit _ rfl] at this; simp [atW] at this
  | cons x s1 ih =>
    intro s2 h1 h2 h
    have h1' := List.pairwise_cons.mp h1
    cases s2 with
    | nil => have := h x.wall; rw [atW_hit _ rfl] at this; simp [atW] at this
    | cons y s2 =>
      have h2' := List.pairwise_cons.mp h2
      have hw : x.wall = y.wall := by
        rcases Int.lt_trichotomy x.wall y.wall with e | e | e
        · have := h x.wall
          rw [atW_hit _ rfl, atW_none (l := y :: s2)] at this
          · cases this
          · intro z hz
            rcases List.mem_cons.mp hz with e2 | e2
            · subst e2; exact e
            · have := h2'.1 z e2; omega
        · exact e
        · have := h y.wall
          rw [atW_hit (x := y) _ rfl, atW_none (l := x :: s1)] at this
          · cases this
          · intro z hz
            rcases List.mem_cons.mp hz with e2 | e2
            · subst e2; exact e
            · have := h1'.1 z e2; omega
      have hxy := h x.wall
      rw [atW_hit _ rfl, atW_hit _ hw.symm] at hxy
      injection hxy with e1 e2
      subst e1
      rw [ih h1'.2 h2'.2 fun t => ?_]
      have := h t
      by_cases ht : x.wall = t
      · rw [atW_hit _ ht, atW_hit _ ht] at this
        injection this
      · rw [atW_miss _ ht, atW_miss _ ht] at this
        exact this
end Go.Proofs.YtbbhpfobcelbfaaGreatDoor
