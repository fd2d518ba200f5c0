/- Rows of numbers: held against each other, numbered, the numbers found again. -/
import Derived.Test.YtjglkodenegcnaaStr7
import Derived.Test.YtjglkodenegcnaaTouch
namespace Go.Proofs.Ytjglkodenegcnaa
open Go.RowKit

/-- a row of numbers in memory. -/
def RowAt (w : World) (v : Value) (L : List Int) : Prop := ∃ a c, v = .slice a L.length c ∧ (L = [] ∨ ∃ g, a = some ⟨g, 0, none⟩ ∧ g < w.heap.size ∧ ∀ (i : Nat) x, L[i]? = some x → w.cell? ⟨g, i, none⟩ = some (.int .i64 x))
theorem RowAt.below {w w' : World} {v : Value} {L : List Int} (h : RowAt w v L) (hb : Below w.heap.size w w') : RowAt w' v L := by
  obtain ⟨a, c, hv, h⟩ := h
  refine ⟨a, c, hv, ?_⟩
  rcases h with h | ⟨g, ha, hg, h⟩
  · exact .inl h
  · exact .inr ⟨g, ha, by have := hb.size; omega, fun i x hx => (hb.cell (p := ⟨g, i, none⟩) hg).trans (h i x hx)⟩
theorem RowAt.of_owns {w : World} {base : Nat} {v : Value} {L : List Int} (h : w.ownsRow base 2 1 v L.length (L.map (Value.int .i64))) : RowAt w v L := by
  cases hL : L with
  | nil =>
    rw [hL] at h
    obtain ⟨a, c, e⟩ := row_shape h
    exact ⟨a, c, e, .inl rfl⟩
  | cons x0 L0 =>
    obtain ⟨g, cap, e, hg, _, hc⟩ := row_open (n := L0.length) (by rw [hL]; rfl) h
    rw [← hL]
    exact ⟨_, cap, by rw [e, hL]; rfl, .inr ⟨g, rfl, hg, hc⟩⟩
set_option maxHeartbeats 2000000 in
theorem laws_eqInt64S (L : List Int) (v v2 : Value) (w : World) (h : RowAt w v L) (h2 : RowAt w v2 L) (hl : L.length ≤ 1048576) :
    Calls Try.prog 28 #[v, v2] w fun e w' => e = .returned (.bool true) ∧ Below w.heap.size w w' := by
  obtain ⟨a, c, rfl, h⟩ := h
  obtain ⟨a2, c2, rfl, h2⟩ := h2
  go_enter Try.func28, Try.ntmps28
  go_wp2
  go_loopw [5] (fun s wr => ∃ i : Nat, i ≤ L.length ∧ s = .int .i64 i ∧ Below w.heap.size w wr) (fun s _ => L.length - (intOf s).toNat)
  case atStart => exact ⟨0, by omega, rfl, Below.refl _ _⟩
  case round =>
    obtain ⟨i, hi, rfl, hB⟩ := hrel
    by_cases hlt : i < L.length
    · obtain ⟨x, hx⟩ : ∃ x, L[i]? = some x := ⟨_, List.getElem?_eq_getElem hlt⟩
      have hne : L ≠ [] := fun e => by rw [e] at hlt; simp at hlt
      obtain ⟨g, rfl, hg, hc⟩ := h.resolve_left hne
      obtain ⟨g2, rfl, hg2, hc2⟩ := h2.resolve_left hne
      have k1 := (hB.cell (p := ⟨g, i, none⟩) hg).trans (hc i x hx)
      have k2 := (hB.cell (p := ⟨g2, i, none⟩) hg2).trans (hc2 i x hx)
      clear hc hc2 h h2 hx
      go_wp2_with fail
      go_quiet (fail)
      go_wp2
      go_roundw
      case rel => exact ⟨i + 1, by omega, by go_num, below_drewN hB _⟩
      case measure => simp [intOf]; omega
    · obtain rfl : i = L.length := by omega
      go_wp2
      go_ret
      exact ⟨rfl, hB⟩
def marksI (k n : Nat) : List Int := (List.range n).map fun i => ((k + i : Nat) : Int)
theorem marksI_len (k n : Nat) : (marksI k n).length = n := by simp [marksI]
theorem marksI_at {k n i : Nat} (h : i < n) : (marksI k n)[i]? = some ((k + i : Nat) : Int) := by unfold marksI; rw [List.getElem?_map, List.getElem?_range h]; rfl
set_option maxHeartbeats 2000000 in
theorem laws_heldInt64S (k n : Nat) (v : Value) (w : World) (h : RowAt w v (marksI k n)) (h1 : k + n < 1000000000) :
    Calls Try.prog 31 #[v, .int .i64 k] w fun e w' => e = .returned (.int .i64 ((k + n : Nat) : Int)) ∧ w' = w := by
  obtain ⟨a, c, rfl, h⟩ := h
  rw [marksI_len]
  go_enter Try.func31, Try.ntmps31
  go_wp2
  go_loopw [1, 5] (fun s t wr => ∃ i : Nat, i ≤ n ∧ t = .int .i64 i ∧ s = .int .i64 ((k + i : Nat) : Int) ∧ wr = w) (fun _ t _ => n - (intOf t).toNat)
  case atStart => exact ⟨0, by omega, rfl, rfl, rfl⟩
  case round =>
    obtain ⟨i, hi, rfl, rfl, hw⟩ := hrel
    have hw := hw.symm
    subst hw
    by_cases hlt : i < n
    · have hne : marksI k n ≠ [] := fun e => by have := marksI_len k n; rw [e] at this; simp at this; omega
      obtain ⟨g, rfl, hg, hc⟩ := h.resolve_left hne
      have k1 := hc i _ (marksI_at hlt)
      have HK : Hid (k + (i + 1) = k + i + 1) := rfl
      have hci : k + i + 1 < 1000000000 := by omega
      clear hc h
      generalize k + i = c at *
      go_wp2
      go_roundw
      case rel => exact ⟨i + 1, by omega, by go_num, by rw [HK.out]; go_num, trivial⟩
      case measure => simp [intOf]; omega
    · obtain rfl : i = n := by omega
      go_wp2
      go_ret
      exact ⟨rfl, rfl⟩
end Go.Proofs.Ytjglkodenegcnaa
