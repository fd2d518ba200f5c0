/- Worlds in which some blocks have been written. -/
import Derived.Test.YtjfonbnmdcpepaaRel2
import Derived.Sort.Row
namespace Go.Proofs.Ytjfonbnmdcpepaa
open Go.RowKit

/-- of what was there only the blocks of S have turned. -/
structure Touch (S : Nat → Prop) (w w' : World) : Prop where
  os : w'.os = w.os
  tape : w'.tape = w.tape
  output : w'.output = w.output
  size : w.heap.size ≤ w'.heap.size
  block : ∀ b, b < w.heap.size → ¬ S b → w'.heap[b]? = w.heap[b]?
  room : ∀ g m, Room w g m → Room w' g m
theorem Touch.refl (S : Nat → Prop) (w : World) : Touch S w w := ⟨rfl, rfl, rfl, Nat.le_refl _, fun _ _ _ => rfl, fun _ _ h => h⟩
theorem Touch.trans {S : Nat → Prop} {w w1 w2 : World} (h : Touch S w w1) (h2 : Touch S w1 w2) : Touch S w w2 :=
  ⟨h2.os.trans h.os, h2.tape.trans h.tape, h2.output.trans h.output, Nat.le_trans h.size h2.size, fun b hb hs => (h2.block b (Nat.lt_of_lt_of_le hb h.size) hs).trans (h.block b hb hs), fun g m hr => h2.room g m (h.room g m hr)⟩
theorem Touch.mono {S S2 : Nat → Prop} {w w' : World} (h : Touch S w w') (hs : ∀ b, b < w.heap.size → S b → S2 b) : Touch S2 w w' :=
  ⟨h.os, h.tape, h.output, h.size, fun b hb hn => h.block b hb fun hx => hn (hs b hb hx), h.room⟩
theorem Touch.of_below {S : Nat → Prop} {w w' : World} (h : Below w.heap.size w w') : Touch S w w' := ⟨h.os, h.tape, h.output, h.size, fun b hb _ => h.block b hb, fun _ _ hr => hr.below h⟩
theorem Touch.set {S : Nat → Prop} {w w' : World} (h : Touch S w w') {g o : Nat} (hg : S g) (v : Value) : Touch S w (w'.setCell ⟨g, o, none⟩ v) := by
  refine ⟨h.os, h.tape, h.output, by simpa using h.size, fun b hb hn => ?_, fun _ _ hr => (h.room _ _ hr).set _ _⟩
  rw [← h.block b hb hn, Go.Sort.setCell_eq]
  have hne : g ≠ b := fun e => hn (e ▸ hg)
  simp [Go.Sort.mapBlock, Array.getElem?_modify, hne]
theorem Touch.below {S : Nat → Prop} {w0 w w' : World} {B : Nat} (h : Touch S w w') (hS : ∀ b, S b → B ≤ b) (hB : B ≤ w.heap.size) (hb : Below B w0 w) : Below B w0 w' :=
  ⟨h.os.trans hb.os, h.tape.trans hb.tape, h.output.trans hb.output, Nat.le_trans hb.size h.size, fun k hk => (h.block k (Nat.lt_of_lt_of_le hk hB) fun hs => by have := hS k hs; omega).trans (hb.block k hk)⟩
theorem Touch.cell {S : Nat → Prop} {w w' : World} (h : Touch S w w') {b o : Nat} {v : Value} (hs : ¬ S b) (hc : w.cell? ⟨b, o, none⟩ = some v) : w'.cell? ⟨b, o, none⟩ = some v := by
  rw [World.cell?_of_block (h.block b (World.block_lt_of_cell? _ _ hc) hs)]; exact hc
theorem Touch.frozen {S : Nat → Prop} {w w' : World} (h : Touch S w w') {b o : Nat} (hb : b < w.heap.size) (hs : ¬ S b) : w'.frozen? ⟨b, o, none⟩ = w.frozen? ⟨b, o, none⟩ := World.frozen?_of_block (h.block b hb hs)
theorem SeqAt.touch {S : Nat → Prop} {w w' : World} {g o k : Nat} {rows : List (List Value)} (h : SeqAt w (some ⟨g, o, none⟩) k rows) (ht : Touch S w w') (hs : ¬ S g) : SeqAt w' (some ⟨g, o, none⟩) k rows := by
  rcases h with h | ⟨b, o', ha, hc⟩
  · exact .inl h
  · injection ha with ha
    injection ha with h1 h2
    subst h1 h2
    exact .inr ⟨_, _, rfl, fun i j r c hi hj => ht.cell hs (hc i j r c hi hj)⟩
theorem Room.touch {S : Nat → Prop} {w w' : World} {g m : Nat} (h : Room w g m) (ht : Touch S w w') (hs : ¬ S g) : Room w' g m := fun x hx => by
  obtain ⟨⟨v, hv⟩, hf⟩ := h x hx
  exact ⟨⟨v, ht.cell hs hv⟩, (ht.frozen (World.block_lt_of_cell? _ _ hv) hs).trans hf⟩
/-- cells one behind the other. -/
def Part (w : World) (g o : Nat) (vals : List Value) : Prop := ∀ j v, vals[j]? = some v → w.cell? ⟨g, o + j, none⟩ = some v
theorem Part.nil (w : World) (g o : Nat) : Part w g o [] := fun j v h => by simp at h
theorem Part.below {w w' : World} {g o : Nat} {vals : List Value} (h : Part w g o vals) (hb : Below w.heap.size w w') : Part w' g o vals := fun j v hj => by
  have := h j v hj
  rw [(bcell hb).1 _ _ (World.block_lt_of_cell? _ _ this)]; exact this
theorem Part.store {w : World} {g o m : Nat} {vals : List Value} (h : Part w g o vals) (hR : Room w g m) {n : Nat} (hn : vals.length = n) (hm : o + n < m) (v : Value) : Part (w.setCell ⟨g, o + n, none⟩ v) g o (vals ++ [v]) := fun j u hj => by
  rcases Nat.lt_or_ge j vals.length with hl | hl
  · rw [List.getElem?_append_left hl] at hj
    rw [World.cell?_setCell_other]
    · exact h j u hj
    · intro e; injection e with _ e2; omega
  · rw [List.getElem?_append_right hl] at hj
    have e : j = vals.length := by
      rcases Nat.eq_or_lt_of_le hl with e | e
      · exact e.symm
      · rw [List.getElem?_eq_none (by simp; omega)] at hj; cases hj
    subst e
    simp at hj
    subst hj hn
    obtain ⟨⟨u, hu⟩, _⟩ := hR (o + vals.length) hm
    exact World.cell?_setCell_same _ _ _ hu
theorem Filled.store {w : World} {g q k : Nat} {rows : List (List Value)} (h : Filled w g q k rows) (hlen : ∀ r ∈ rows, r.length = q) (j : Nat) (v : Value) : Filled (w.setCell ⟨g, k * q + j, none⟩ v) g q k rows := fun i l r c hi hr hc => by
  have hl : l < q := by
    have := hlen r (List.mem_of_getElem? hr)
    have := (List.getElem?_eq_some_iff.mp hc).1
    omega
  have hik : i * q + q ≤ k * q := by
    have : (i + 1) * q ≤ k * q := Nat.mul_le_mul_right q (by omega)
    rw [Nat.add_mul] at this; omega
  rw [World.cell?_setCell_other]
  · exact h i l r c hi hr hc
  · intro e; injection e with _ e2; omega
theorem Filled.step {w : World} {g q k : Nat} {rows : List (List Value)} {row : List Value} (h : Filled w g q k rows) (hp : Part w g (k * q) row) (hr : rows[k]? = some row) : Filled w g q (k + 1) rows := fun i l r c hi hr' hc => by
  by_cases e : i = k
  · subst e
    rw [hr] at hr'
    obtain rfl := Option.some.inj hr'
    exact hp l c hc
  · exact h i l r c (by omega) hr' hc
end Go.Proofs.Ytjfonbnmdcpepaa
