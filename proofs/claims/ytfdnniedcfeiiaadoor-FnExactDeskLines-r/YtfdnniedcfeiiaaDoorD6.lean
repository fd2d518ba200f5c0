/- Rows of texts: held against each other, numbered, held to their numbers. -/
import Derived.Test.YtfdnniedcfeiiaaDoorD2
import Derived.Test.YtfdnniedcfeiiaaDoorMark0
import Derived.Lib.QuietBelow
namespace Go.Proofs.YtfdnniedcfeiiaaDoor
open Go.RowKit Go.Sort

theorem row_get {w : World} {base : Nat} {v : Value} {n : Nat} {xs : List Value} (h : w.ownsRow base 9 1 v n xs) {i : Nat} {x : Value} (hx : xs[i]? = some x) : ∃ g cap, v = .slice (some ⟨g, 0, none⟩) n cap ∧ w.cell? ⟨g, i, none⟩ = some x ∧ w.frozen? ⟨g, i, none⟩ = false := by
  have h' := h
  have hi : i < n := by have := (List.getElem?_eq_some_iff.1 hx).1; have := h.1; omega
  rcases h'.2 with ⟨_, h0⟩ | ⟨g, cap, cur, rfl, _⟩
  · omega
  · exact ⟨g, cap, rfl, by rw [h.cellAt i (by omega), hx], h.frozenAt i⟩
theorem bkeepD {w wr : World} (hb : Below w.heap.size w wr) {b o : Nat} {v : Value} (h : w.cell? ⟨b, o, none⟩ = some v) : wr.cell? ⟨b, o, none⟩ = some v := ((bcell hb).1 _ _ (World.block_lt_of_cell? _ _ h)).trans h
theorem below_drewD {B : Nat} {w wr : World} (h : Below B w wr) : Below B w wr.drew := ⟨h.os, h.tape, h.output, h.size, h.block⟩
theorem row_slice {w : World} {base : Nat} {v : Value} {n : Nat} {xs : List Value} (h : w.ownsRow base 9 1 v n xs) : ∃ a c, v = .slice a n c := by
  rcases h.2 with ⟨rfl, rfl⟩ | ⟨g, cap, cur, rfl, _⟩
  · exact ⟨_, _, rfl⟩
  · exact ⟨_, _, rfl⟩
set_option maxRecDepth 20000 in
set_option maxHeartbeats 4000000 in
theorem laws_eqStringS (L : List ByteArray) (b1 b2 : Nat) (v1 v2 : Value) (w : World) (h1 : w.ownsRow b1 9 1 v1 L.length (L.map Value.string)) (h2 : w.ownsRow b2 9 1 v2 L.length (L.map Value.string)) (hL : L.length ≤ 8000) :
    Calls Tryd.prog 6 #[v1, v2] w fun e w' => e = .returned (.bool true) ∧ Below w.heap.size w w' := by
  obtain ⟨a1, c1, rfl⟩ := row_slice h1
  obtain ⟨a2, c2, rfl⟩ := row_slice h2
  have HG : Hid (∀ i : Nat, i < L.length → ∃ (x : ByteArray) (g1 g2 : Nat), a1 = some ⟨g1, 0, none⟩ ∧ a2 = some ⟨g2, 0, none⟩ ∧ w.cell? ⟨g1, i, none⟩ = some (.string x) ∧ w.cell? ⟨g2, i, none⟩ = some (.string x)) := fun i hi => by
    have hx : (L.map Value.string)[i]? = some (.string L[i]) := by rw [List.getElem?_map, List.getElem?_eq_getElem hi]; rfl
    obtain ⟨g1, k1, e1, q1, _⟩ := row_get h1 hx
    obtain ⟨g2, k2, e2, q2, _⟩ := row_get h2 hx
    injection e1 with e1; injection e2 with e2
    exact ⟨_, g1, g2, e1, e2, q1, q2⟩
  clear h1 h2
  obtain ⟨n, hn⟩ : ∃ n, L.length = n := ⟨_, rfl⟩
  rw [hn] at HG hL ⊢
  clear hn
  go_enter Tryd.func6, Tryd.ntmps6
  go_wp2
  go_loopw [5] (fun t wr => ∃ i : Nat, i ≤ n ∧ t = .int .i64 i ∧ Below w.heap.size w wr) (fun t _ => n - (intOf t).toNat)
  case atStart => exact ⟨0, by omega, rfl, Below.refl _ _⟩
  case round =>
    obtain ⟨i, hi, rfl, hB⟩ := hrel
    by_cases hlt : i < n
    · obtain ⟨x, g1, g2, rfl, rfl, q1, q2⟩ := HG.out i hlt
      have p1 : wr.cell? ⟨g1, i, none⟩ = some (.string x) := bkeepD hB q1
      have p2 : wr.cell? ⟨g2, i, none⟩ = some (.string x) := bkeepD hB q2
      clear q1 q2
      go_wp2
      go_region
      go_wp2
      go_roundw
      case rel => exact ⟨i + 1, by omega, by go_num, below_drewD hB⟩
      case measure => simp [intOf]; omega
    · have e : i = n := by omega
      subst e
      go_wp2
      go_ret
      exact ⟨rfl, hB⟩
end Go.Proofs.YtfdnniedcfeiiaaDoor
