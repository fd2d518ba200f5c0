/- Rows of numbers and tables of one's own: numbered. -/
import Derived.Test.YtjfonbnmdcpepaaInts
import Derived.Test.YtjfonbnmdcpepaaMarkTurn
namespace Go.Proofs.Ytjfonbnmdcpepaa
open Go.RowKit

theorem RowAt.touch {S : Nat → Prop} {w w' : World} {v : Value} {L : List Int} (h : RowAt w v L) (ht : Touch S w w') (hs : ∀ g, v.ownBlock = some g → ¬ S g) : RowAt w' v L := by
  obtain ⟨a, c, rfl, h⟩ := h
  refine ⟨a, c, rfl, ?_⟩
  rcases h with h | ⟨g, rfl, hg, h⟩
  · exact .inl h
  · exact .inr ⟨g, rfl, by have := ht.size; omega, fun i x hx => ht.cell (hs g rfl) (h i x hx)⟩
theorem owns_touch {S : Nat → Prop} {w w' : World} {base : Nat} {e : TypeId} {size : Nat} {v : Value} {n : Nat} {xs : List Value} (h : w.ownsRow base e size v n xs) (ht : Touch S w w') (hs : ∀ g, v.ownBlock = some g → ¬ S g) : w'.ownsRow base e size v n xs := by
  refine ⟨h.1, ?_⟩
  rcases h.2 with h | ⟨g, cap, cur, rfl, e2, e3, e4⟩
  · exact .inl h
  · exact .inr ⟨g, cap, cur, rfl, e2, (ht.block g (Array.getElem?_eq_some_iff.1 e3).1 (hs g rfl)).trans e3, e4⟩
theorem owns_below {w w' : World} {base : Nat} {e : TypeId} {size : Nat} {v : Value} {n : Nat} {xs : List Value} (h : w.ownsRow base e size v n xs) (hb : Below w.heap.size w w') : w'.ownsRow base e size v n xs :=
  owns_touch h (Touch.of_below (S := fun _ => False) hb) (fun _ _ hf => hf)
def partI (k i : Nat) (L : List Int) : List Int := marksI k i ++ L.drop i
theorem marksI_succ (k i : Nat) : marksI k (i + 1) = marksI k i ++ [((k + i : Nat) : Int)] := by simp [marksI, List.range_succ]
theorem partI_set {k i : Nat} {L : List Int} (h : i < L.length) : (partI k i L).set i ((k + i : Nat) : Int) = partI k (i + 1) L := by
  unfold partI
  rw [List.set_append_right _ _ (by rw [marksI_len]; exact Nat.le_refl _), marksI_len, Nat.sub_self, List.drop_eq_getElem_cons h, List.set_cons_zero, marksI_succ, List.append_assoc]
  rfl
theorem partI_zero (k : Nat) (L : List Int) : partI k 0 L = L := by simp [partI, marksI]
theorem partI_all (k : Nat) (L : List Int) : partI k L.length L = marksI k L.length := by simp [partI]
theorem partI_len {k i : Nat} {L : List Int} (h : i ≤ L.length) : (partI k i L).length = L.length := by simp [partI, marksI_len]; omega
set_option maxHeartbeats 2000000 in
theorem laws_markTable (n g cap k : Nat) (w : World) (hR0 : Room w g (n * 4)) (h0 : 0 < k) (h1 : k + 4 * n < 1000000000) :
    Calls Try.prog 28 #[.agg #[.slice (some ⟨g, 0, none⟩) n cap], .int .i64 k] w fun e w' => e = .returned (.int .i64 ((k + 4 * n : Nat) : Int)) ∧ Touch (fun b => b = g ∧ 0 < n) w w' := by
  have hM := fun w h => laws_markTurnS n g cap k w h h0 h1
  have hb0 := fun o => (Below.refl w.heap.size w).alloc (Nat.le_refl _) o
  generalize k + 4 * n = d at *
  go_enter Try.func28, Try.ntmps28
  go_wp2_with fail
  refine (hM _ (hR0.below (hb0 _))).mono ?_
  rintro e w1 ⟨rfl, _, _, hT⟩
  have hT1 : Touch (fun b => b = g ∧ 0 < n) w w1 := (Touch.of_below (hb0 _)).trans hT
  clear hT
  go_wp2
  go_ret
  exact ⟨rfl, hT1⟩
theorem instD_le (l : List TurnD) (n : Int) : (instD l n).length ≤ 600 := by
  cases ht : tabB l
  · rw [instD_no1 ht]; simp
  · cases hn : isB n (-62135596800) 253402300799
    · rw [instD_no2 hn]; simp
    · rw [instD_yes ht hn]
      have := inst_le l n
      have := (tab_of ht).len
      omega
end Go.Proofs.Ytjfonbnmdcpepaa
