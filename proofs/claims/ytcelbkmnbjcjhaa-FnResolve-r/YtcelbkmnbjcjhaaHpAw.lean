/- Packed: Hp1 Hp7 Hp8 Hp9 Hp10 Hp11 Hp12. -/
import Derived.Test.YtcelbkmnbjcjhaaRelAw
import Derived.BigRegion
import Derived.Deep.RegionHeld3
import Derived.Lib.QuietBelow
import Derived.Deep.RegionLaw
namespace Go.Proofs.Ytcelbkmnbjcjhaa
open Go.RowKit

structure WallD where
  wall : Int
  place : Nat
def WallD.cs (x : WallD) : List Value := [.int .i64 x.wall, .int .i64 x.place]
theorem wall_len {l : List WallD} : ∀ r ∈ l.map WallD.cs, r.length = 2 := fun r hr => by
  obtain ⟨x, _, rfl⟩ := List.mem_map.mp hr; rfl
def atW (t : Int) (l : List WallD) : List WallD := l.filter fun x => decide (x.wall = t)
theorem atW_append (t : Int) (a b : List WallD) : atW t (a ++ b) = atW t a ++ atW t b := List.filter_append ..
theorem atW_hit {t : Int} {x : WallD} (l : List WallD) (h : x.wall = t) : atW t (x :: l) = x :: atW t l := List.filter_cons_of_pos (by simpa using h)
theorem atW_miss {t : Int} {x : WallD} (l : List WallD) (h : x.wall ≠ t) : atW t (x :: l) = atW t l := List.filter_cons_of_neg (by simpa using h)
theorem atW_none {t : Int} {l : List WallD} (h : ∀ x ∈ l, t < x.wall) : atW t l = [] := by
  unfold atW
  rw [List.filter_eq_nil_iff]
  intro x hx
  have := h x hx
  simp
  omega
def UpW (l : List WallD) : Prop := l.Pairwise fun a b => a.wall ≤ b.wall
/-- s is l, sorted by wall times, those of one as they stand. -/
structure SrtOf (l s : List WallD) : Prop where
  up : UpW s
  at_ : ∀ t, atW t s = atW t l
  len : s.length = l.length
theorem srt_short {l : List WallD} (h : l.length < 2) : SrtOf l l := by
  refine ⟨?_, fun _ => rfl, rfl⟩
  match l, h with
  | [], _ => exact List.Pairwise.nil
  | [x], _ => exact List.pairwise_singleton _ _
def mergeWA (x : WallD) (f : List WallD → List WallD) : List WallD → List WallD
  | [] => x :: f []
  | y :: b => if x.wall ≤ y.wall then x :: f (y :: b) else y :: mergeWA x f b
def mergeW : List WallD → List WallD → List WallD
  | [], b => b
  | x :: a, b => mergeWA x (mergeW a) b
theorem merge_nil (b : List WallD) : mergeW [] b = b := rfl
theorem merge_nil2 (a : List WallD) : mergeW a [] = a := by
  induction a with
  | nil => rfl
  | cons x a ih => rw [mergeW, mergeWA, ih]
theorem merge_left {x y : WallD} {a b : List WallD} (h : x.wall ≤ y.wall) : mergeW (x :: a) (y :: b) = x :: mergeW a (y :: b) := by rw [mergeW, mergeWA, if_pos h]
theorem merge_right {x y : WallD} {a b : List WallD} (h : ¬ x.wall ≤ y.wall) : mergeW (x :: a) (y :: b) = y :: mergeW (x :: a) b := by rw [mergeW, mergeWA, if_neg h, mergeW]
theorem merge_mem : ∀ {n : Nat} {a b : List WallD} {z : WallD}, a.length + b.length ≤ n → (z ∈ mergeW a b ↔ z ∈ a ∨ z ∈ b) := by
  intro n
  induction n with
  | zero =>
    intro a b z h
    obtain rfl : a = [] := List.length_eq_zero_iff.mp (by omega)
    rw [merge_nil]; simp
  | succ n ih =>
    intro a b z h
    match a, b with
    | [], b => rw [merge_nil]; simp
    | x :: a, [] => rw [merge_nil2]; simp
    | x :: a, y :: b =>
      by_cases hc : x.wall ≤ y.wall
      · rw [merge_left hc, List.mem_cons, ih (by simp at h ⊢; omega), List.mem_cons, List.mem_cons]
        constructor
        · rintro (h | h | h)
          · exact .inl (.inl h)
          · exact .inl (.inr h)
          · exact .inr h
        · rintro ((h | h) | h)
          · exact .inl h
          · exact .inr (.inl h)
          · exact .inr (.inr h)
      · rw [merge_right hc, List.mem_cons, ih (by simp at h ⊢; omega), List.mem_cons, List.mem_cons]
        constructor
        · rintro (h | h | h)
          · exact .inr (.inl h)
          · exact .inl h
          · exact .inr (.inr h)
        · rintro (h | h | h)
          · exact .inr (.inl h)
          · exact .inl h
          · exact .inr (.inr h)
theorem merge_srt : ∀ {n : Nat} {a b : List WallD}, a.length + b.length ≤ n → UpW a → UpW b → SrtOf (a ++ b) (mergeW a b) := by
  intro n
  induction n with
  | zero =>
    intro a b h ha hb
    obtain rfl : a = [] := List.length_eq_zero_iff.mp (by omega)
    rw [merge_nil]
    exact ⟨hb, fun _ => rfl, rfl⟩
  | succ n ih =>
    intro a b h ha hb
    match a, b with
    | [], b => rw [merge_nil]; exact ⟨hb, fun _ => rfl, rfl⟩
    | x :: a, [] => rw [merge_nil2, List.append_nil]; exact ⟨ha, fun _ => rfl, rfl⟩
    | x :: a, y :: b =>
      have ha' := List.pairwise_cons.mp ha
      have hb' := List.pairwise_cons.mp hb
      by_cases hc : x.wall ≤ y.wall
      · have := ih (a := a) (b := y :: b) (by simp at h ⊢; omega) ha'.2 hb
        rw [merge_left hc]
        refine ⟨List.pairwise_cons.mpr ⟨fun z hz => ?_, this.up⟩, fun t => ?_, by simp [this.len]⟩
        · rcases (merge_mem (Nat.le_refl _)).mp hz with e | e
          · exact ha'.1 z e
          · rcases List.mem_cons.mp e with e | e
            · subst e; exact hc
            · have := hb'.1 z e; omega
        · rw [List.cons_append]
          by_cases ht : x.wall = t
          · rw [atW_hit _ ht, atW_hit _ ht, this.at_]
          · rw [atW_miss _ ht, atW_miss _ ht, this.at_]
      · have := ih (a := x :: a) (b := b) (by simp at h ⊢; omega) ha hb'.2
        rw [merge_right hc]
        refine ⟨List.pairwise_cons.mpr ⟨fun z hz => ?_, this.up⟩, fun t => ?_, by simp [this.len]; omega⟩
        · rcases (merge_mem (Nat.le_refl _)).mp hz with e | e
          · rcases List.mem_cons.mp e with e | e
            · subst e; omega
            · have := ha'.1 z e; omega
          · exact hb'.1 z e
        · by_cases ht : y.wall = t
          · rw [atW_hit _ ht, this.at_, atW_append, atW_append, atW_hit _ ht, atW_none (l := x :: a)]
            · rfl
            · intro z hz
              rcases List.mem_cons.mp hz with e | e
              · subst e; omega
              · have := ha'.1 z e; omega
          · rw [atW_miss _ ht, this.at_, atW_append, atW_append, atW_miss _ ht]
theorem srt_merge {l1 l2 s1 s2 : List WallD} (h1 : SrtOf l1 s1) (h2 : SrtOf l2 s2) : SrtOf (l1 ++ l2) (mergeW s1 s2) := by
  have h := merge_srt (Nat.le_refl _) h1.up h2.up
  refine ⟨h.up, fun t => ?_, by rw [h.len, List.length_append, List.length_append, h1.len, h2.len]⟩
  rw [h.at_, atW_append, atW_append, h1.at_, h2.at_]
/-- there is but one. -/
theorem srt_one : ∀ {s1 s2 : List WallD}, UpW s1 → UpW s2 → (∀ t, atW t s1 = atW t s2) → s1 = s2 := by
  intro s1
  induction s1 with
  | nil =>
    intro s2 _ _ h
    cases s2 with
    | nil => rfl
    | cons y s2 => have := h y.wall; rw [atW_hit _ rfl] at this; simp [atW] at this
  | cons x s1 ih =>
    intro s2 h1 h2 h
    have h1' := List.pairwise_cons.mp h1
    cases s2 with
    | nil => have := h x.wall; rw [atW_hit _ rfl] at this; simp [atW] at this
    | cons y s2 =>
      have h2' := List.pairwise_cons.mp h2
      have hw : x.wall = y.wall := by
        rcases Int.lt_trichotomy x.wall y.wall with e | e | e
        · have := h x.wall
          rw [atW_hit _ rfl, atW_none (l := y :: s2)] at this
          · cases this
          · intro z hz
            rcases List.mem_cons.mp hz with e2 | e2
            · subst e2; exact e
            · have := h2'.1 z e2; omega
        · exact e
        · have := h y.wall
          rw [atW_hit (x := y) _ rfl, atW_none (l := x :: s1)] at this
          · cases this
          · intro z hz
            rcases List.mem_cons.mp hz with e2 | e2
            · subst e2; exact e
            · have := h1'.1 z e2; omega
      have hxy := h x.wall
      rw [atW_hit _ rfl, atW_hit _ hw.symm] at hxy
      injection hxy with e1 e2
      subst e1
      rw [ih h1'.2 h2'.2 fun t => ?_]
      have := h t
      by_cases ht : x.wall = t
      · rw [atW_hit _ ht, atW_hit _ ht] at this
        injection this
      · rw [atW_miss _ ht, atW_miss _ ht] at this
        exact this
end Go.Proofs.Ytcelbkmnbjcjhaa
namespace Go.Proofs.Ytcelbkmnbjcjhaa
open Go.RowKit

/-- not behind. -/
def LeW (a b : WallD) : Prop := a.wall < b.wall ∨ (a.wall = b.wall ∧ a.place ≤ b.place)
def ltW (a b : WallD) : Bool := if a.wall = b.wall then decide (a.place < b.place) else decide (a.wall < b.wall)
theorem lt_le {a b : WallD} (h : ltW a b = true) : LeW a b := by
  unfold ltW at h
  unfold LeW
  split at h
  · have := of_decide_eq_true h; omega
  · have := of_decide_eq_true h; omega
theorem nlt_le {a b : WallD} (h : ltW a b = false) : LeW b a := by
  unfold ltW at h
  unfold LeW
  split at h
  · have := of_decide_eq_false h; omega
  · have := of_decide_eq_false h; omega
theorem le_trans {a b c : WallD} (h : LeW a b) (h2 : LeW b c) : LeW a c := by unfold LeW at *; omega
theorem le_refl (a : WallD) : LeW a a := by unfold LeW; omega
/-- two places changed for each other. -/
def swapW (X : List WallD) (i j : Nat) (a b : WallD) : List WallD := (X.set i b).set j a
theorem swap_len (X : List WallD) (i j : Nat) (a b : WallD) : (swapW X i j a b).length = X.length := by unfold swapW; simp
theorem swap_i {X : List WallD} {i j : Nat} {a b : WallD} (hij : i ≠ j) (hi : i < X.length) : (swapW X i j a b)[i]? = some b := by
  unfold swapW
  rw [List.getElem?_set_ne (by omega), List.getElem?_set_self hi]
theorem swap_j {X : List WallD} {i j : Nat} {a b : WallD} (hj : j < X.length) : (swapW X i j a b)[j]? = some a := by
  unfold swapW
  rw [List.getElem?_set_self (by simpa using hj)]
theorem swap_k {X : List WallD} {i j k : Nat} {a b : WallD} (h1 : k ≠ i) (h2 : k ≠ j) : (swapW X i j a b)[k]? = X[k]? := by
  unfold swapW
  rw [List.getElem?_set_ne (by omega), List.getElem?_set_ne (by omega)]
theorem swap_perm {X : List WallD} {i j : Nat} {a b : WallD} (ha : X[i]? = some a) (hb : X[j]? = some b) : (swapW X i j a b).Perm X := by
  obtain ⟨h1, rfl⟩ := List.getElem?_eq_some_iff.mp ha
  obtain ⟨h2, rfl⟩ := List.getElem?_eq_some_iff.mp hb
  exact List.set_set_perm h1 h2
/-- a heap. -/
def HeapX (X : List WallD) : Prop := ∀ i p c, 0 < i → X[(i - 1) / 2]? = some p → X[i]? = some c → LeW p c
theorem heap_min {X : List WallD} (h : HeapX X) {x0 : WallD} (h0 : X[0]? = some x0) : ∀ (n i : Nat) (y : WallD), i ≤ n → X[i]? = some y → LeW x0 y := by
  intro n
  induction n with
  | zero => intro i y hi hy; obtain rfl : i = 0 := (by omega); rw [h0] at hy; obtain rfl := Option.some.inj hy; exact le_refl _
  | succ n ih =>
    intro i y hi hy
    by_cases e : i = 0
    · subst e; rw [h0] at hy; obtain rfl := Option.some.inj hy; exact le_refl _
    · have hil := (List.getElem?_eq_some_iff.mp hy).1
      obtain ⟨p, hp⟩ : ∃ p, X[(i - 1) / 2]? = some p := ⟨_, List.getElem?_eq_getElem (by omega)⟩
      exact le_trans (ih _ p (by omega) hp) (h i p y (by omega) hp hy)
/-- a heap but at a place, which may be ahead of the one above. -/
structure UpX (X : List WallD) (k : Nat) : Prop where
  one : ∀ i p c, 0 < i → i ≠ k → X[(i - 1) / 2]? = some p → X[i]? = some c → LeW p c
  two : ∀ i p c, 0 < i → 0 < k → (i - 1) / 2 = k → X[(k - 1) / 2]? = some p → X[i]? = some c → LeW p c
theorem up_begin {X : List WallD} {x : WallD} (h : HeapX X) : UpX (X ++ [x]) X.length := by
  have low : ∀ {i : Nat} {c : WallD}, i ≠ X.length → (X ++ [x])[i]? = some c → i < X.length ∧ X[i]? = some c := fun {i c} hi hc => by
    have hl := (List.getElem?_eq_some_iff.mp hc).1
    rw [List.length_append] at hl
    simp at hl
    rw [List.getElem?_append_left (by omega)] at hc
    exact ⟨by omega, hc⟩
  refine ⟨fun i p c h0 hk hp hc => ?_, fun i p c h0 hk he hp hc => ?_⟩
  · obtain ⟨hl, hc'⟩ := low hk hc
    obtain ⟨_, hp'⟩ := low (by omega) hp
    exact h i p c h0 hp' hc'
  · have hl := (List.getElem?_eq_some_iff.mp hc).1
    rw [List.length_append] at hl
    simp at hl
    omega
theorem up_root {X : List WallD} (h : UpX X 0) : HeapX X := fun i p c h0 hp hc => h.one i p c h0 (by omega) hp hc
theorem up_stop {X : List WallD} {k : Nat} {p c : WallD} (h : UpX X k) (hp : X[(k - 1) / 2]? = some p) (hc : X[k]? = some c) (hle : LeW p c) : HeapX X := fun i p' c' h0 hp' hc' => by
  by_cases e : i = k
  · subst e
    rw [hp] at hp'
    rw [hc] at hc'
    obtain rfl := Option.some.inj hp'
    obtain rfl := Option.some.inj hc'
    exact hle
  · exact h.one i p' c' h0 e hp' hc'
theorem up_step {X : List WallD} {k : Nat} {p c : WallD} (h : UpX X k) (hk : 0 < k) (hp : X[(k - 1) / 2]? = some p) (hc : X[k]? = some c) (hle : LeW c p) : UpX (swapW X k ((k - 1) / 2) c p) ((k - 1) / 2) := by
  have hkl := (List.getElem?_eq_some_iff.mp hc).1
  have hpk : (k - 1) / 2 < k := by omega
  obtain ⟨q, hq⟩ : ∃ q, (k - 1) / 2 = q := ⟨_, rfl⟩
  rw [hq] at hp hpk ⊢
  have ek : (swapW X k q c p)[k]? = some p := swap_i (by omega) hkl
  have eq : (swapW X k q c p)[q]? = some c := swap_j (by omega)
  have eo : ∀ {i : Nat}, i ≠ k → i ≠ q → (swapW X k q c p)[i]? = X[i]? := fun h1 h2 => swap_k h1 h2
  refine ⟨fun i a b h0 hi ha hb => ?_, fun i a b h0 hq0 hi ha hb => ?_⟩
  · by_cases e1 : i = k
    · subst e1
      rw [ek] at hb
      rw [hq, eq] at ha
      obtain rfl := Option.some.inj ha
      obtain rfl := Option.some.inj hb
      exact hle
    · rw [eo e1 hi] at hb
      by_cases e2 : (i - 1) / 2 = k
      · rw [e2, ek] at ha
        obtain rfl := Option.some.inj ha
        exact h.two i p b h0 hk e2 (by rw [hq]; exact hp) hb
      · by_cases e3 : (i - 1) / 2 = q
        · rw [e3, eq] at ha
          obtain rfl := Option.some.inj ha
          exact le_trans hle (h.one i p b h0 e1 (by rw [e3]; exact hp) hb)
        · rw [eo e2 e3] at ha
          exact h.one i a b h0 e1 ha hb
  · have hg : (q - 1) / 2 < q := by omega
    rw [eo (by omega) (by omega)] at ha
    have hgp := h.one q a p hq0 (by omega) ha hp
    by_cases e1 : i = k
    · subst e1
      rw [ek] at hb
      obtain rfl := Option.some.inj hb
      exact hgp
    · rw [eo e1 (by omega)] at hb
      exact le_trans hgp (h.one i p b h0 e1 (by rw [hi]; exact hp) hb)
/-- a heap but at a place, which may be behind those below. -/
structure DnX (X : List WallD) (k : Nat) : Prop where
  one : ∀ i p c, 0 < i → (i - 1) / 2 ≠ k → X[(i - 1) / 2]? = some p → X[i]? = some c → LeW p c
  two : ∀ i p c, 0 < i → 0 < k → (i - 1) / 2 = k → X[(k - 1) / 2]? = some p → X[i]? = some c → LeW p c
theorem dn_stop {X : List WallD} {k : Nat} (h : DnX X k) (hc : ∀ i p c, 0 < i → (i - 1) / 2 = k → X[k]? = some p → X[i]? = some c → LeW p c) : HeapX X := fun i p c h0 hp hcc => by
  by_cases e : (i - 1) / 2 = k
  · exact hc i p c h0 e (by rw [← e]; exact hp) hcc
  · exact h.one i p c h0 e hp hcc
theorem dn_step {X : List WallD} {k f : Nat} {p c : WallD} (h : DnX X k) (hf0 : 0 < f) (hfk : (f - 1) / 2 = k) (hp : X[k]? = some p) (hc : X[f]? = some c) (hle : LeW c p) (hmin : ∀ i y, 0 < i → (i - 1) / 2 = k → X[i]? = some y → LeW c y) : DnX (swapW X k f p c) f := by
  have hfl := (List.getElem?_eq_some_iff.mp hc).1
  have hkf : k < f := by omega
  have ek : (swapW X k f p c)[k]? = some c := swap_i (by omega) (by omega)
  have ef : (swapW X k f p c)[f]? = some p := swap_j hfl
  have eo : ∀ {i : Nat}, i ≠ k → i ≠ f → (swapW X k f p c)[i]? = X[i]? := fun h1 h2 => swap_k h1 h2
  refine ⟨fun i a b h0 hi ha hb => ?_, fun i a b h0 _ hi ha hb => ?_⟩
  · by_cases e1 : (i - 1) / 2 = k
    · rw [e1, ek] at ha
      obtain rfl := Option.some.inj ha
      by_cases e2 : i = f
      · subst e2
        rw [ef] at hb
        obtain rfl := Option.some.inj hb
        exact hle
      · rw [eo (by omega) e2] at hb
        exact hmin i b h0 e1 hb
    · have hif : i ≠ f := fun e => e1 (by rw [e]; exact hfk)
      rw [eo e1 hi] at ha
      by_cases e2 : i = k
      · subst e2
        rw [ek] at hb
        obtain rfl := Option.some.inj hb
        exact h.two f a c hf0 h0 hfk ha hc
      · rw [eo e2 hif] at hb
        exact h.one i a b h0 e1 ha hb
  · rw [hfk, ek] at ha
    obtain rfl := Option.some.inj ha
    rw [eo (by omega) (by omega)] at hb
    exact h.one i c b h0 (by omega) (by rw [hi]; exact hc) hb
/-- what is left when the first and the last have changed places, and the last is taken off. -/
theorem dn_begin {X : List WallD} {n : Nat} {x z : WallD} (h : HeapX X) : DnX ((swapW X 0 n x z).take n) 0 := by
  refine ⟨fun i p c h0 hi hp hc => ?_, fun i p c h0 hk => by omega⟩
  have low : ∀ {i : Nat} {c : WallD}, i ≠ 0 → ((swapW X 0 n x z).take n)[i]? = some c → X[i]? = some c := fun {i c} hi hc => by
    have hl := (List.getElem?_eq_some_iff.mp hc).1
    rw [List.length_take] at hl
    rw [List.getElem?_take_of_lt (by omega), swap_k hi (by omega)] at hc
    exact hc
  exact h i p c h0 (low hi hp) (low (by omega) hc)
theorem pop_perm {X : List WallD} {n : Nat} {x z : WallD} (hn : X.length = n + 1) (hx : X[0]? = some x) (hz : X[n]? = some z) : X.Perm (x :: (swapW X 0 n x z).take n) := by
  have h1 := (swap_perm hx hz).symm
  have hl : (swapW X 0 n x z).length = n + 1 := by rw [swap_len, hn]
  have hlast : (swapW X 0 n x z)[n]? = some x := swap_j (by omega)
  have h2 : swapW X 0 n x z = (swapW X 0 n x z).take n ++ [x] := by
    have := List.take_append_drop n (swapW X 0 n x z)
    have hd : (swapW X 0 n x z).drop n = [x] := by
      rw [List.drop_eq_getElem_cons (by omega)]
      obtain ⟨_, e⟩ := List.getElem?_eq_some_iff.mp hlast
      rw [e, List.drop_eq_nil_of_le (by omega)]
    rw [hd] at this
    exact this.symm
  have h3 : ((swapW X 0 n x z).take n ++ [x]).Perm (x :: (swapW X 0 n x z).take n) := List.perm_append_singleton x _
  rw [← h2] at h3
  exact h1.trans h3
end Go.Proofs.Ytcelbkmnbjcjhaa
namespace Go.Proofs.Ytcelbkmnbjcjhaa
open Go.RowKit

def WallD.v (x : WallD) : Value := .agg #[.int .i64 x.wall, .int .i64 x.place]
theorem flat_set {q : Nat} : ∀ {rows : List (List Value)}, (∀ r ∈ rows, r.length = q) → ∀ {i j : Nat} {r : List Value} (c : Value), rows[i]? = some r → j < q → (rows.set i (r.set j c)).flatten = rows.flatten.set (i * q + j) c := by
  intro rows
  induction rows with
  | nil => intro _ i j r c h; simp at h
  | cons x rows ih =>
    intro hq i j r c hi hj
    have hx := hq x (by simp)
    cases i with
    | zero =>
      simp at hi
      subst hi
      rw [List.set_cons_zero, List.flatten_cons, List.flatten_cons, Nat.zero_mul, Nat.zero_add, List.set_append_left _ _ (by omega)]
    | succ i =>
      rw [List.set_cons_succ, List.flatten_cons, List.flatten_cons, List.set_append_right _ _ (by rw [hx, Nat.add_mul]; omega), hx]
      rw [show (i + 1) * q + j - q = i * q + j by rw [Nat.add_mul]; omega]
      rw [ih (fun y hy => hq y (List.mem_cons_of_mem _ hy)) c (by simpa using hi) hj]
theorem flat_put2 {rows : List (List Value)} (hq : ∀ r ∈ rows, r.length = 2) {i : Nat} {r : List Value} (hr : rows[i]? = some r) (c0 c1 : Value) : (rows.set i [c0, c1]).flatten = (rows.flatten.set (i * 2) c0).set (i * 2 + 1) c1 := by
  have hl := hq r (List.mem_of_getElem? hr)
  have hil := (List.getElem?_eq_some_iff.mp hr).1
  have e1 := flat_set hq (i := i) (j := 0) c0 hr (by omega)
  have hq2 : ∀ r' ∈ rows.set i (r.set 0 c0), r'.length = 2 := fun r' h => by
    rcases List.mem_or_eq_of_mem_set h with h | h
    · exact hq r' h
    · rw [h, List.length_set, hl]
  have e2 := flat_set hq2 (i := i) (j := 1) (r := r.set 0 c0) c1 (by rw [List.getElem?_set_self hil]) (by omega)
  rw [e1] at e2
  rw [Nat.add_zero] at e2
  rw [← e2, List.set_set]
  congr 2
  match r, hl with
  | [x, y], _ => rfl
theorem swap_flat {X : List WallD} {i j : Nat} {a b : WallD} (ha : X[i]? = some a) (hb : X[j]? = some b) : ((swapW X i j a b).map WallD.cs).flatten = (((((X.map WallD.cs).flatten.set (i * 2) (.int .i64 b.wall)).set (i * 2 + 1) (.int .i64 b.place)).set (j * 2) (.int .i64 a.wall)).set (j * 2 + 1) (.int .i64 a.place)) := by
  have hil := (List.getElem?_eq_some_iff.mp ha).1
  have hjl := (List.getElem?_eq_some_iff.mp hb).1
  have e1 := flat_put2 (rows := X.map WallD.cs) wall_len (i := i) (r := a.cs) (by rw [List.getElem?_map, ha]; rfl) (.int .i64 b.wall) (.int .i64 b.place)
  have e0 : (X.map WallD.cs).set i [.int .i64 b.wall, .int .i64 b.place] = (X.set i b).map WallD.cs := by rw [List.map_set]; rfl
  rw [e0] at e1
  obtain ⟨c, hc⟩ : ∃ c, (X.set i b)[j]? = some c := ⟨_, List.getElem?_eq_getElem (by simpa using hjl)⟩
  have e2 := flat_put2 (rows := (X.set i b).map WallD.cs) wall_len (i := j) (r := c.cs) (by rw [List.getElem?_map, hc]; rfl) (.int .i64 a.wall) (.int .i64 a.place)
  rw [e1] at e2
  rw [← e2]
  unfold swapW
  rw [List.map_set]
  rfl
theorem grown_trans {w w1 w2 : World} {row : Option Nat} (h : w.grownBy w1 row) (h2 : w1.grownBy w2 row) : w.grownBy w2 row :=
  ⟨h2.os.trans h.os, h2.tape.trans h.tape, h2.output.trans h.output, Nat.le_trans h.size h2.size, fun k hk hr => (h2.block k (Nat.lt_of_lt_of_le hk h.size) hr).trans (h.block k hk hr)⟩
theorem grown_drew (w : World) (row : Option Nat) : w.grownBy w.drew row := ⟨rfl, rfl, rfl, Nat.le_refl _, fun _ _ _ => rfl⟩
/-- of what was there only the blocks of S may have turned. -/
structure Fr (S : Nat → Prop) (w w' : World) : Prop where
  os : w'.os = w.os
  tape : w'.tape = w.tape
  output : w'.output = w.output
  size : w.heap.size ≤ w'.heap.size
  block : ∀ b, b < w.heap.size → ¬ S b → w'.heap[b]? = w.heap[b]?
theorem Fr.refl (S : Nat → Prop) (w : World) : Fr S w w := ⟨rfl, rfl, rfl, Nat.le_refl _, fun _ _ _ => rfl⟩
theorem Fr.trans {S : Nat → Prop} {w w1 w2 : World} (h : Fr S w w1) (h2 : Fr S w1 w2) : Fr S w w2 :=
  ⟨h2.os.trans h.os, h2.tape.trans h.tape, h2.output.trans h.output, Nat.le_trans h.size h2.size, fun b hb hs => (h2.block b (Nat.lt_of_lt_of_le hb h.size) hs).trans (h.block b hb hs)⟩
theorem Fr.mono {S S2 : Nat → Prop} {w w' : World} (h : Fr S w w') (hs : ∀ b, b < w.heap.size → S b → S2 b) : Fr S2 w w' := ⟨h.os, h.tape, h.output, h.size, fun b hb hn => h.block b hb fun hx => hn (hs b hb hx)⟩
theorem Fr.of_below {S : Nat → Prop} {w w' : World} (h : Below w.heap.size w w') : Fr S w w' := ⟨h.os, h.tape, h.output, h.size, fun b hb _ => h.block b hb⟩
theorem Fr.of_grown {w w' : World} {row : Option Nat} (h : w.grownBy w' row) : Fr (fun b => row = some b) w w' := ⟨h.os, h.tape, h.output, h.size, fun b hb hn => h.block b hb fun e => hn e.symm⟩
theorem Fr.cell {S : Nat → Prop} {w w' : World} (h : Fr S w w') {b o : Nat} {v : Value} (hs : ¬ S b) (hc : w.cell? ⟨b, o, none⟩ = some v) : w'.cell? ⟨b, o, none⟩ = some v := by
  rw [World.cell?_of_block (h.block b (World.block_lt_of_cell? _ _ hc) hs)]; exact hc
theorem Fr.frozen {S : Nat → Prop} {w w' : World} (h : Fr S w w') {b o : Nat} (hb : b < w.heap.size) (hs : ¬ S b) : w'.frozen? ⟨b, o, none⟩ = w.frozen? ⟨b, o, none⟩ := World.frozen?_of_block (h.block b hb hs)
theorem Fr.below {S : Nat → Prop} {w w' : World} {B : Nat} (h : Fr S w w') (hS : ∀ b, S b → B ≤ b) (hB : B ≤ w.heap.size) : Below B w w' := ⟨h.os, h.tape, h.output, h.size, fun k hk => h.block k (by omega) fun hs => by have := hS k hs; omega⟩
end Go.Proofs.Ytcelbkmnbjcjhaa
namespace Go.Proofs.Ytcelbkmnbjcjhaa
open Go.RowKit Go.Sort

theorem grown_set (w : World) (b o : Nat) (v : Value) : w.grownBy (w.setCell ⟨b, o, none⟩ v) (some b) :=
  ⟨rfl, rfl, rfl, by simp, fun k _ hk => heap_setCell_other w ⟨b, o, none⟩ k v (fun e => hk (by simp [e]))⟩
end Go.Proofs.Ytcelbkmnbjcjhaa
namespace Go.Proofs.Ytcelbkmnbjcjhaa
open Go.RowKit Go.Sort

/-- the first among a place and the first t below it. -/
structure Cand (Y : List WallD) (p t f : Nat) : Prop where
  place : f = p ∨ ∃ j, j < t ∧ f = 2 * p + 1 + j ∧ f < Y.length
  top : ∀ x y, Y[f]? = some x → Y[p]? = some y → LeW x y
  low : ∀ j x y, j < t → Y[f]? = some x → Y[2 * p + 1 + j]? = some y → LeW x y
theorem cand_begin (Y : List WallD) (p : Nat) : Cand Y p 0 p := ⟨.inl rfl, fun x y h1 h2 => by rw [h1] at h2; obtain rfl := Option.some.inj h2; exact le_refl _, fun j x y h => by omega⟩
theorem cand_out {Y : List WallD} {p t f : Nat} (h : Cand Y p t f) (hc : Y.length ≤ 2 * p + 1 + t) : Cand Y p (t + 1) f := by
  refine ⟨?_, h.top, fun j x y hj hx hy => ?_⟩
  · rcases h.place with e | ⟨j, hj, e, hl⟩
    · exact .inl e
    · exact .inr ⟨j, by omega, e, hl⟩
  · by_cases e : j = t
    · subst e; rw [List.getElem?_eq_none hc] at hy; cases hy
    · exact h.low j x y (by omega) hx hy
theorem cand_no {Y : List WallD} {p t f : Nat} {c y : WallD} (h : Cand Y p t f) (hc : Y[2 * p + 1 + t]? = some c) (hf : Y[f]? = some y) (hle : LeW y c) : Cand Y p (t + 1) f := by
  refine ⟨?_, h.top, fun j x z hj hx hz => ?_⟩
  · rcases h.place with e | ⟨j, hj, e, hl⟩
    · exact .inl e
    · exact .inr ⟨j, by omega, e, hl⟩
  · by_cases e : j = t
    · subst e
      rw [hc] at hz
      rw [hf] at hx
      obtain rfl := Option.some.inj hz
      obtain rfl := Option.some.inj hx
      exact hle
    · exact h.low j x z (by omega) hx hz
theorem cand_yes {Y : List WallD} {p t f : Nat} {c y : WallD} (h : Cand Y p t f) (hc : Y[2 * p + 1 + t]? = some c) (hf : Y[f]? = some y) (hle : LeW c y) : Cand Y p (t + 1) (2 * p + 1 + t) := by
  refine ⟨.inr ⟨t, by omega, rfl, (List.getElem?_eq_some_iff.mp hc).1⟩, fun x z hx hz => ?_, fun j x z hj hx hz => ?_⟩
  · rw [hc] at hx
    obtain rfl := Option.some.inj hx
    exact le_trans hle (h.top y z hf hz)
  · rw [hc] at hx
    obtain rfl := Option.some.inj hx
    by_cases e : j = t
    · subst e; rw [hc] at hz; obtain rfl := Option.some.inj hz; exact le_refl _
    · exact le_trans hle (h.low j y z (by omega) hf hz)
theorem kids {i p : Nat} (h0 : 0 < i) (h : (i - 1) / 2 = p) : i = 2 * p + 1 + 0 ∨ i = 2 * p + 1 + 1 := by omega
theorem cand_heap {Y : List WallD} {p : Nat} (hD : DnX Y p) (h : Cand Y p 2 p) : HeapX Y := dn_stop hD fun i x y h0 hi hx hy => by
  rcases kids h0 hi with e | e
  · exact h.low 0 x y (by omega) hx (by rw [← e]; exact hy)
  · exact h.low 1 x y (by omega) hx (by rw [← e]; exact hy)
theorem cand_step {Y : List WallD} {p f : Nat} {x c : WallD} (hD : DnX Y p) (h : Cand Y p 2 f) (hfp : f ≠ p) (hx : Y[p]? = some x) (hc : Y[f]? = some c) : DnX (swapW Y p f x c) f := by
  rcases h.place with e | ⟨j, hj, e, hl⟩
  · exact absurd e hfp
  · refine dn_step hD (by omega) (by omega) hx hc (h.top c x hc hx) fun i y h0 hi hy => ?_
    rcases kids h0 hi with e2 | e2
    · exact h.low 0 c y (by omega) hc (by rw [← e2]; exact hy)
    · exact h.low 1 c y (by omega) hc (by rw [← e2]; exact hy)
end Go.Proofs.Ytcelbkmnbjcjhaa
namespace Go.Proofs.Ytcelbkmnbjcjhaa
open Go.RowKit Go.Sort

end Go.Proofs.Ytcelbkmnbjcjhaa
namespace Go.Proofs.Ytcelbkmnbjcjhaa
open Go.RowKit Go.Sort

theorem sink_all {X : List WallD} (h : HeapX X) {x : WallD} (hx : X[0]? = some x) : ∀ y ∈ X, LeW x y := fun y hy => by
  obtain ⟨i, hi⟩ := List.getElem?_of_mem hy
  exact heap_min h hx i i y (Nat.le_refl _) hi
end Go.Proofs.Ytcelbkmnbjcjhaa
