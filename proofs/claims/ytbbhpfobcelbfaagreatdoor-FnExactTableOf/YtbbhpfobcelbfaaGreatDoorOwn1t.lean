/- Rows of structs of one's own, in general. -/
import Derived.Test.YtbbhpfobcelbfaaGreatDoorRelPt
import Derived.Laws.AppendOwn
import Derived.Deep.AppendLies
import Derived.OwnWalk
namespace Go.Proofs.YtbbhpfobcelbfaaGreatDoor
open Go.RowKit

theorem flat_at {q : Nat} : ∀ {rows : List (List Value)}, (∀ r ∈ rows, r.length = q) → ∀ {i j : Nat} {r : List Value} {c : Value}, rows[i]? = some r → r[j]? = some c → rows.flatten[i * q + j]? = some c := by
  intro rows
  induction rows with
  | nil => intro _ i j r c h; simp at h
  | cons x rows ih =>
    intro hq i j r c hi hj
    have hx := hq x (by simp)
    cases i with
    | zero =>
      simp at hi
      subst hi
      rw [List.flatten_cons, Nat.zero_mul, Nat.zero_add, List.getElem?_append_left (List.getElem?_eq_some_iff.mp hj).1]
      exact hj
    | succ i =>
      rw [List.flatten_cons, List.getElem?_append_right (by rw [hx, Nat.add_mul]; omega), hx]
      rw [show (i + 1) * q + j - q = i * q + j by rw [Nat.add_mul]; omega]
      exact ih (fun y hy => hq y (List.mem_cons_of_mem _ hy)) (by simpa using hi) hj
theorem flat_len {q : Nat} : ∀ {rows : List (List Value)}, (∀ r ∈ rows, r.length = q) → rows.flatten.length = rows.length * q := by
  intro rows
  induction rows with
  | nil => intro _; simp
  | cons x rows ih =>
    intro hq
    rw [List.flatten_cons, List.length_append, hq x (by simp), ih fun y hy => hq y (List.mem_cons_of_mem _ hy), List.length_cons, Nat.add_mul]
    omega
/-- a row of structs in memory of one's own. -/
theorem seq_of_owns {w : World} {base : Nat} {e : TypeId} {q : Nat} {v : Value} {rows : List (List Value)} (h : w.ownsRow base e q v rows.length rows.flatten) (hq : ∀ r ∈ rows, r.length = q) : ∃ a cap, v = .slice a rows.length cap ∧ SeqAt w a q rows ∧ rows.length ≤ cap := by
  rcases h.2 with ⟨hv, h0⟩ | ⟨g, cap, cur, hv, hb, hg, hc, _, _, _⟩
  · exact ⟨none, 0, by rw [hv, h0], .inl (List.length_eq_zero_iff.mp h0), by omega⟩
  · refine ⟨_, cap, hv, .inr ⟨g, 0, rfl, fun i j r c hi hj => ?_⟩, hc⟩
    rw [hv] at h
    have hl := flat_at hq hi hj
    have hlt := (List.getElem?_eq_some_iff.mp hl).1
    rw [flat_len hq] at hlt
    rw [Nat.zero_add, h.cellAt _ hlt, hl]
theorem room_of_owns {w : World} {base : Nat} {e : TypeId} {q : Nat} {g n cap : Nat} {xs : List Value} (h : w.ownsRow base e q (.slice (some ⟨g, 0, none⟩) n cap) n xs) : Room w g (n * q) := fun x hx => by
  refine ⟨?_, h.frozenAt x⟩
  have h1 := h.cellAt x hx
  have h2 := h.1
  exact ⟨_, h1.trans (List.getElem?_eq_getElem (by rw [h2]; exact hx))⟩
theorem cells_new (w : World) (cs : List Value) (t : TypeId) : ∀ j u, cs[j]? = some u → (w.alloc (.cells cs.toArray t)).cell? ((⟨w.heap.size, 0, none⟩ : Addr).add j) = some u := fun j u h => World.news_of_block (heap_alloc_new w _) j u (by simpa using h)
/-- a cell is as it was. -/
theorem keepC {w w' : World} (hb : Below w.heap.size w w') {b o : Nat} {v : Value} (h : w.cell? ⟨b, o, none⟩ = some v) : w'.cell? ⟨b, o, none⟩ = some v := ((bcell hb).1 _ _ (World.block_lt_of_cell? _ _ h)).trans h
theorem below_drew (w : World) : Below w.heap.size w w.drew := ⟨rfl, rfl, rfl, Nat.le_refl _, fun _ _ => rfl⟩
theorem addP (b o j : Nat) : (⟨b, o, none⟩ : Addr).add j = ⟨b, o + j, none⟩ := by unfold Addr.add; split <;> simp_all
theorem row_shape3 {w : World} {base : Nat} {e : TypeId} {size : Nat} {v : Value} {n : Nat} {xs : List Value} (h : w.ownsRow base e size v n xs) : ∃ a m c, v = .slice a m c := by
  rcases h.2 with ⟨hv, _⟩ | ⟨g, cap, cur, hv, _⟩
  · exact ⟨_, _, _, hv⟩
  · exact ⟨_, _, _, hv⟩
theorem owns_mono {w : World} {base base' : Nat} {e : TypeId} {size : Nat} {v : Value} {n : Nat} {xs : List Value} (h : w.ownsRow base e size v n xs) (hb : base' ≤ base) : w.ownsRow base' e size v n xs := by
  refine ⟨h.1, ?_⟩
  rcases h.2 with h | ⟨g, cap, cur, e1, e2, e3⟩
  · exact .inl h
  · exact .inr ⟨g, cap, cur, e1, by omega, e3⟩
theorem owns_below {w w' : World} {base : Nat} {e : TypeId} {size : Nat} {v : Value} {n : Nat} {xs : List Value} (h : w.ownsRow base e size v n xs) (hb : Below w.heap.size w w') : w'.ownsRow base e size v n xs := by
  refine ⟨h.1, ?_⟩
  rcases h.2 with h | ⟨g, cap, cur, e1, e2, e3, e4⟩
  · exact .inl h
  · exact .inr ⟨g, cap, cur, e1, e2, (hb.block g (Array.getElem?_eq_some_iff.1 e3).1).trans e3, e4⟩
theorem own_empty (w : World) (t : TypeId) (q : Nat) : (w.alloc (.cells #[] t)).ownsRow w.heap.size t q (.slice (some ⟨w.heap.size, 0, none⟩) 0 0) 0 [] :=
  ⟨by simp, .inr ⟨w.heap.size, 0, #[], rfl, Nat.le_refl _, heap_alloc_new w _, Nat.le_refl _, by unfold maxLen; omega, by simp, by simp⟩⟩
/-- rows of a list, some of them: the first ones dropped. -/
theorem SeqAt.drop {w : World} {b o k m : Nat} {rows : List (List Value)} (h : SeqAt w (some ⟨b, o, none⟩) k rows) : SeqAt w (some ⟨b, o + m * k, none⟩) k (rows.drop m) := by
  rcases h with h | ⟨b', o', e, h⟩
  · exact .inl (by rw [h]; simp)
  · injection e with e
    injection e with u1 u2
    subst u1 u2
    refine .inr ⟨_, _, rfl, fun i j r c hi hj => ?_⟩
    rw [show o + m * k + i * k + j = o + (m + i) * k + j by rw [Nat.add_mul]; omega]
    exact h (m + i) j r c (by rw [← List.getElem?_drop]; exact hi) hj
theorem SeqAt.take {w : World} {a : Option Addr} {k : Nat} {rows : List (List Value)} (h : SeqAt w a k rows) (m : Nat) : SeqAt w a k (rows.take m) := by
  rcases h with h | ⟨b, o, rfl, h⟩
  · exact .inl (by rw [h]; simp)
  · refine .inr ⟨b, o, rfl, fun i j r c hi hj => ?_⟩
    rw [List.getElem?_take] at hi
    split at hi
    · exact h i j r c hi hj
    · cases hi
/-- the cells of rows, one behind the other. -/
theorem SeqAt.flat {w : World} {b o q : Nat} {rows : List (List Value)} (h : SeqAt w (some ⟨b, o, none⟩) q rows) (hq : ∀ r ∈ rows, r.length = q) : ∀ j u, rows.flatten[j]? = some u → w.cell? ((⟨b, o, none⟩ : Addr).add j) = some u := fun j u hj => by
  have hlt := (List.getElem?_eq_some_iff.mp hj).1
  rw [flat_len hq] at hlt
  have hq0 : 0 < q := by
    rcases Nat.eq_zero_or_pos q with e | e
    · subst e; simp at hlt
    · exact e
  have hi : j / q < rows.length := Nat.div_lt_of_lt_mul (by rw [Nat.mul_comm]; exact hlt)
  obtain ⟨r, hr⟩ : ∃ r, rows[j / q]? = some r := ⟨_, List.getElem?_eq_getElem hi⟩
  have hrl := hq r (List.mem_of_getElem? hr)
  obtain ⟨c, hc⟩ : ∃ c, r[j % q]? = some c := ⟨_, List.getElem?_eq_getElem (by rw [hrl]; exact Nat.mod_lt _ hq0)⟩
  have e1 := flat_at hq hr hc
  rw [show j / q * q + j % q = j by rw [Nat.mul_comm]; exact Nat.div_add_mod j q] at e1
  rw [hj] at e1
  obtain rfl := Option.some.inj e1
  rw [addP]
  rcases h with h | ⟨b', o', e, h⟩
  · rw [h] at hr; simp at hr
  · injection e with e
    injection e with u1 u2
    subst u1 u2
    have := h (j / q) (j % q) r u hr hc
    rw [show o + j / q * q + j % q = o + j by have := Nat.div_add_mod j q; rw [Nat.mul_comm] at this; omega] at this
    exact this
end Go.Proofs.YtbbhpfobcelbfaaGreatDoor
