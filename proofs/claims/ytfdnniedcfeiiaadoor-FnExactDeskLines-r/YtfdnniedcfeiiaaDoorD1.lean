/- A desk's lines: what both tell; the model's DeskLines. -/
import Derived.Test.YtfdnniedcfeiiaaDoorJ2
import Derived.Test.YtfdnniedcfeiiaaDoorJ3
import Derived.Deep.AppendLies
import Derived.OwnWalk
namespace Go.Proofs.YtfdnniedcfeiiaaDoor
open Go.RowKit

/-- a text that a desk may have. -/
def deskB (s : ByteArray) : Bool := decide ((lfs s s.size).2 = s.size) && (decide ((lfs s s.size).1.length ≤ 40) && (lfs s s.size).1.all lineB)
/-- a desk's lines. -/
def deskL (s : ByteArray) : List ByteArray := if s.size ≤ 8000 then (if deskB s then (lfs s s.size).1 else []) else []
/-- a row of texts of one's own, in memory. -/
structure RowP (L : List ByteArray) (w : World) (e : Ending) (w' : World) : Prop where
  ex : ∃ v, e = .returned v ∧ w'.ownsRow w.heap.size 9 1 v L.length (L.map Value.string) ∧ Below w.heap.size w w'
theorem deskL_long {s : ByteArray} (h : ¬ s.size ≤ 8000) : deskL s = [] := by unfold deskL; rw [if_neg h]
theorem deskL_no {s : ByteArray} (h : deskB s = false) : deskL s = [] := by unfold deskL; rw [h]; split <;> rfl
theorem deskL_yes {s : ByteArray} (h : s.size ≤ 8000) (hb : deskB s = true) : deskL s = (lfs s s.size).1 := by unfold deskL; rw [if_pos h, hb]; rfl
theorem deskB_end {s : ByteArray} (h : (lfs s s.size).2 ≠ s.size) : deskB s = false := by unfold deskB; rw [decide_eq_false h]; rfl
theorem deskB_many {s : ByteArray} (h : ¬ (lfs s s.size).1.length ≤ 40) : deskB s = false := by unfold deskB; rw [decide_eq_false h]; simp
theorem all_false {L : List ByteArray} {k : Nat} {x : ByteArray} (h : L[k]? = some x) (hx : lineB x = false) : L.all lineB = false := by
  rw [List.all_eq_false]; exact ⟨x, List.mem_of_getElem? h, by simp [hx]⟩
theorem deskB_line {s x : ByteArray} {k : Nat} (h : (lfs s s.size).1[k]? = some x) (hx : lineB x = false) : deskB s = false := by unfold deskB; rw [all_false h hx]; simp
theorem deskB_yes {s : ByteArray} (h1 : (lfs s s.size).2 = s.size) (h2 : (lfs s s.size).1.length ≤ 40) (h3 : (lfs s s.size).1.all lineB = true) : deskB s = true := by unfold deskB; rw [decide_eq_true h1, decide_eq_true h2, h3]; rfl
theorem all_take {L : List ByteArray} {k : Nat} {x : ByteArray} (h : L[k]? = some x) (ha : (L.take k).all lineB = true) (hx : lineB x = true) : (L.take (k + 1)).all lineB = true := by
  rw [List.take_add_one, h]; simp only [Option.toList, List.all_append, ha, List.all_cons, hx, List.all_nil, Bool.and_self]
theorem row_cell {w : World} {base : Nat} {L : List ByteArray} {v : Value} (h : w.ownsRow base 9 1 v L.length (L.map Value.string)) (hn : 0 < L.length) : ∃ g cap, v = .slice (some ⟨g, 0, none⟩) L.length cap ∧ base ≤ g ∧ g < w.heap.size ∧ ∀ i x, L[i]? = some x → w.cell? ⟨g, i, none⟩ = some (.string x) := by
  rcases h.2 with ⟨_, h0⟩ | ⟨g, cap, cur, rfl, hb, hg, hc, _, hs, ht⟩
  · omega
  · refine ⟨g, cap, rfl, hb, (Array.getElem?_eq_some_iff.1 hg).1, fun i x hx => ?_⟩
    rw [cell_of_row w g i cur _ _ hg]
    have hi : i < L.length := (List.getElem?_eq_some_iff.1 hx).1
    have := congrArg (·[i]?) ht
    simp only [List.getElem?_map, hx, List.getElem?_take, Nat.mul_one, if_pos hi] at this
    simpa using this
theorem ext_nil {s : ByteArray} {f : Nat} (h : f = s.size) : s.extract f s.size = ⟨#[]⟩ := by
  apply ByteArray.ext; apply Array.eq_empty_of_size_eq_zero; show (s.extract f s.size).size = 0; rw [ByteArray.size_extract]; omega
theorem lns_last (s : ByteArray) : (lns s)[(lfs s s.size).1.length]? = some (s.extract (lfs s s.size).2 s.size) := by
  unfold lns; rw [List.getElem?_append_right (Nat.le_refl _), Nat.sub_self]; rfl
theorem lns_at {s x : ByteArray} {k : Nat} (h : (lfs s s.size).1[k]? = some x) : (lns s)[k]? = some x := by
  unfold lns; rw [List.getElem?_append_left (List.getElem?_eq_some_iff.1 h).1]; exact h
theorem lns_n (s : ByteArray) : (lns s).length = (lfs s s.size).1.length + 1 := by unfold lns; simp
end Go.Proofs.YtfdnniedcfeiiaaDoor
