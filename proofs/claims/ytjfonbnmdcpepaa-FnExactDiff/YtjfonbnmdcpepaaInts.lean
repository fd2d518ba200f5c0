/- Rows of numbers: held against each other, numbered, the numbers found again. -/
import Derived.Test.YtjfonbnmdcpepaaStr7
import Derived.Test.YtjfonbnmdcpepaaTouch
namespace Go.Proofs.Ytjfonbnmdcpepaa
open Go.RowKit

/-- a row of numbers in memory. -/
def RowAt (w : World) (v : Value) (L : List Int) : Prop := ∃ a c, v = .slice a L.length c ∧ (L = [] ∨ ∃ g, a = some ⟨g, 0, none⟩ ∧ g < w.heap.size ∧ ∀ (i : Nat) x, L[i]? = some x → w.cell? ⟨g, i, none⟩ = some (.int .i64 x))
theorem RowAt.below {w w' : World} {v : Value} {L : List Int} (h : RowAt w v L) (hb : Below w.heap.size w w') : RowAt w' v L := by
  obtain ⟨a, c, hv, h⟩ := h
  refine ⟨a, c, hv, ?_⟩
  rcases h with h | ⟨g, ha, hg, h⟩
  · exact .inl h
  · exact .inr ⟨g, ha, by have := hb.size; omega, fun i x hx => (hb.cell (p := ⟨g, i, none⟩) hg).trans (h i x hx)⟩
theorem RowAt.of_owns {w : World} {base : Nat} {v : Value} {L : List Int} (h : w.ownsRow base 2 1 v L.length (L.map (Value.int .i64))) : RowAt w v L := by
  cases hL : L with
  | nil =>
    rw [hL] at h
    obtain ⟨a, c, e⟩ := row_shape h
    exact ⟨a, c, e, .inl rfl⟩
  | cons x0 L0 =>
    obtain ⟨g, cap, e, hg, _, hc⟩ := row_open (n := L0.length) (by rw [hL]; rfl) h
    rw [← hL]
    exact ⟨_, cap, by rw [e, hL]; rfl, .inr ⟨g, rfl, hg, hc⟩⟩
def marksI (k n : Nat) : List Int := (List.range n).map fun i => ((k + i : Nat) : Int)
theorem marksI_len (k n : Nat) : (marksI k n).length = n := by simp [marksI]
theorem marksI_at {k n i : Nat} (h : i < n) : (marksI k n)[i]? = some ((k + i : Nat) : Int) := by unfold marksI; rw [List.getElem?_map, List.getElem?_range h]; rfl
end Go.Proofs.Ytjfonbnmdcpepaa
