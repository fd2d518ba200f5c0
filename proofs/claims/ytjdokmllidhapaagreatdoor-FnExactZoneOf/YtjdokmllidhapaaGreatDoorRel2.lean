/- Lists that are made and filled: a block with room. -/
import Derived.Test.YtjdokmllidhapaaGreatDoorRel1
import Derived.Laws.OwnMore
namespace Go.Proofs.YtjdokmllidhapaaGreatDoor
open Go.RowKit

/-- a block with m cells that may be written. -/
def Room (w : World) (g m : Nat) : Prop := ∀ x, x < m → (∃ v, w.cell? ⟨g, x, none⟩ = some v) ∧ w.frozen? ⟨g, x, none⟩ = false
theorem Room.below {w w' : World} {g m : Nat} (h : Room w g m) (hb : Below w.heap.size w w') : Room w' g m := fun x hx => by
  obtain ⟨⟨v, hv⟩, hf⟩ := h x hx
  have hlt := World.block_lt_of_cell? _ _ hv
  exact ⟨⟨v, by rw [(bcell hb).1 _ _ hlt]; exact hv⟩, by rw [(bcell hb).2 _ _ hlt]; exact hf⟩
theorem Room.set {w : World} {g m : Nat} (h : Room w g m) (a : Addr) (v : Value) : Room (w.setCell a v) g m := fun x hx => by
  obtain ⟨⟨u, hu⟩, hf⟩ := h x hx
  exact ⟨cell?_setCell_some hu, by rw [World.frozen?_setCell]; exact hf⟩
/-- cells stored one behind the other. -/
def putAll (w : World) (g o : Nat) : List Value → World
  | [] => w
  | c :: cs => putAll (w.setCell ⟨g, o, none⟩ c) g (o + 1) cs
theorem putAll_room {g m : Nat} {cs : List Value} : ∀ {w : World} {o : Nat}, Room w g m → Room (putAll w g o cs) g m := by
  induction cs with
  | nil => intro w o h; exact h
  | cons c cs ih => intro w o h; exact ih (h.set _ _)
theorem putAll_far {cs : List Value} : ∀ {w : World} {g o : Nat} {b x : Nat}, (b ≠ g ∨ x < o ∨ o + cs.length ≤ x) → (putAll w g o cs).cell? ⟨b, x, none⟩ = w.cell? ⟨b, x, none⟩ := by
  induction cs with
  | nil => intros; rfl
  | cons c cs ih =>
    intro w g o b x h
    have hl : (c :: cs).length = cs.length + 1 := rfl
    rw [putAll, ih (by omega), World.cell?_setCell_other]
    intro e
    injection e with e1 e2
    omega
theorem putAll_at {cs : List Value} : ∀ {w : World} {g o m : Nat} {j : Nat} {c : Value}, Room w g m → o + cs.length ≤ m → cs[j]? = some c → (putAll w g o cs).cell? ⟨g, o + j, none⟩ = some c := by
  induction cs with
  | nil => intro w g o m j c _ _ h; simp at h
  | cons d cs ih =>
    intro w g o m j c hR hm h
    have hl : (d :: cs).length = cs.length + 1 := rfl
    cases j with
    | zero =>
      simp at h
      subst h
      rw [putAll, putAll_far (by omega)]
      obtain ⟨⟨u, hu⟩, _⟩ := hR o (by omega)
      exact World.cell?_setCell_same _ _ _ hu
    | succ j =>
      have := ih (w := w.setCell ⟨g, o, none⟩ d) (g := g) (o := o + 1) (m := m) (j := j) (c := c) (hR.set _ _) (by omega) (by simpa using h)
      rw [putAll, show o + (j + 1) = o + 1 + j by omega]
      exact this
theorem putAll_below {cs : List Value} : ∀ {w0 w : World} {n g o : Nat}, Below n w0 w → n ≤ g → Below n w0 (putAll w g o cs) := by
  induction cs with
  | nil => intro w0 w n g o h _; exact h
  | cons c cs ih => intro w0 w n g o h hg; exact ih (h.setCell hg _) hg
/-- the first k rows stand there. -/
def Filled (w : World) (g q k : Nat) (rows : List (List Value)) : Prop := ∀ i j r c, i < k → rows[i]? = some r → r[j]? = some c → w.cell? ⟨g, i * q + j, none⟩ = some c
theorem Filled.below {w w' : World} {g q k : Nat} {rows : List (List Value)} (h : Filled w g q k rows) (hb : Below w.heap.size w w') : Filled w' g q k rows := fun i j r c hi hr hc => by
  have := h i j r c hi hr hc
  rw [(bcell hb).1 _ _ (World.block_lt_of_cell? _ _ this)]; exact this
theorem Filled.put {w : World} {g q k m : Nat} {rows : List (List Value)} {r : List Value} (h : Filled w g q k rows) (hR : Room w g m) (hr : rows[k]? = some r) (hq : r.length = q) (hm : k * q + q ≤ m) (hlen : ∀ r ∈ rows, r.length = q) : Filled (putAll w g (k * q) r) g q (k + 1) rows := fun i j r' c hi hr' hc => by
  by_cases e : i = k
  · subst e
    rw [hr] at hr'
    obtain rfl := Option.some.inj hr'
    exact putAll_at hR (by omega) hc
  · have hj : j < q := by
      have := hlen r' (List.mem_of_getElem? hr')
      have := (List.getElem?_eq_some_iff.mp hc).1
      omega
    have hik : i * q + q ≤ k * q := by
      have : (i + 1) * q ≤ k * q := Nat.mul_le_mul_right q (by omega)
      rw [Nat.add_mul] at this; omega
    rw [putAll_far (by omega)]
    exact h i j r' c (by omega) hr' hc
theorem Filled.seq {w : World} {g q : Nat} {rows : List (List Value)} (h : Filled w g q rows.length rows) : SeqAt w (some ⟨g, 0, none⟩) q rows :=
  .inr ⟨g, 0, rfl, fun i j r c hr hc => by rw [show 0 + i * q + j = i * q + j by omega]; exact h i j r c (List.getElem?_eq_some_iff.mp hr).1 hr hc⟩
/-- the block that a make gives. -/
theorem room_of {w : World} {base g n q : Nat} {e : TypeId} {xs : List Value} (h : w.ownsRow base e q (.slice (some ⟨g, 0, none⟩) n n) n xs) : Room w g (n * q) := by
  rcases h.2 with ⟨h0, _⟩ | ⟨g', cap, cur, h1, _, hh, _, _, hs, _⟩
  · cases h0
  · injection h1 with h1 h2 h3
    injection h1 with h1
    injection h1 with h1
    subst h1 h3
    intro x hx
    have hx' : x < cur.size := by omega
    exact ⟨⟨cur[x], by simp [World.cell?, hh, hx']⟩, by simp [World.frozen?, hh]⟩
end Go.Proofs.YtjdokmllidhapaaGreatDoor
