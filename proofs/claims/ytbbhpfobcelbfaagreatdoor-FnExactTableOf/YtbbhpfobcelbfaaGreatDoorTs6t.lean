/- The table of a zone, the model's: what its walk leans on. -/
import Derived.Test.YtbbhpfobcelbfaaGreatDoorTs5t
import Derived.Test.YtbbhpfobcelbfaaGreatDoorTb11t
import Derived.Test.YtbbhpfobcelbfaaGreatDoorHp6t
namespace Go.Proofs.YtbbhpfobcelbfaaGreatDoor
open Go.RowKit Go.Sort

/-- just the last era has no end. -/
def UntE (E : List EraD) : Prop := ∀ k e, E[k]? = some e → (e.until_ = 253402300799 ↔ k + 1 = E.length)
theorem up_until : ∀ {E : List EraD}, upB E = true → ∀ {i j : Nat} {x y : EraD}, i < j → E[i]? = some x → E[j]? = some y → x.until_ < y.until_ := by
  intro E
  induction E with
  | nil => intro _ i j x y _ hx; simp at hx
  | cons a E ih =>
    intro h i j x y hij hx hy
    cases E with
    | nil =>
      cases j with
      | zero => omega
      | succ j => simp at hy
    | cons b E =>
      rw [upB, Bool.and_eq_true] at h
      have h1 := of_decide_eq_true h.1
      cases j with
      | zero => omega
      | succ j =>
        rw [List.getElem?_cons_succ] at hy
        cases i with
        | zero =>
          simp at hx
          subst hx
          cases j with
          | zero => simp at hy; subst hy; exact h1
          | succ j =>
            have := ih h.2 (i := 0) (j := j + 1) (x := b) (y := y) (by omega) rfl hy
            omega
        | succ i => exact ih h.2 (i := i) (j := j) (by omega) (by simpa using hx) hy
theorem zone_unt {z : ZoneD} (h : zoneP z = true) : UntE z.eras := by
  unfold zoneP at h
  simp only [Bool.and_eq_true] at h
  obtain ⟨_, hl, _, hu, hla⟩ := h
  have hl := of_decide_eq_true hl
  intro k e he
  have hkl := (List.getElem?_eq_some_iff.mp he).1
  obtain ⟨f, hf⟩ : ∃ f, z.eras[z.eras.length - 1]? = some f := ⟨_, List.getElem?_eq_getElem (by omega)⟩
  unfold laB2 at hla
  rw [hf] at hla
  simp only [Bool.and_eq_true, beq_iff_eq] at hla
  constructor
  · intro h1
    rcases Nat.lt_or_ge (k + 1) z.eras.length with h2 | h2
    · have := up_until hu (i := k) (j := z.eras.length - 1) (by omega) he hf
      omega
    · omega
  · intro h1
    have : k = z.eras.length - 1 := by omega
    subst this
    rw [hf] at he
    injection he with he
    subst he
    exact hla.1
theorem endS_last {E : List EraD} (hU : UntE E) {k : Nat} {e : EraD} (he : E[k]? = some e) (h : k + 1 = E.length) (H : List HapD) (b : Int) : endS e H b = 253402300799 := if_pos ((hU k e he).mpr h)
theorem endS_more {E : List EraD} (hU : UntE E) {k : Nat} {e : EraD} (he : E[k]? = some e) (h : ¬ k + 1 = E.length) (H : List HapD) (b : Int) : endS e H b = endE e H b := if_neg fun h1 => h ((hU k e he).mp h1)
/-- by no name nothing happens. -/
theorem hapsT_none {r : RelD} {nm : ByteArray} {off : Int} (hr : ∀ x ∈ r.rules, ruleB x = true) (h0 : nm.size = 0) : hapsT r nm off = ([], true) := by
  have hw : ∀ k, wallsT nm r.rules k = [] := by
    intro k
    induction k with
    | zero => rfl
    | succ k ih =>
      rw [wallsT, ih]
      split
      · rename_i x hx
        split
        · rename_i hn
          have h1 := (nameB_t (ruleB_nm (hr x (List.mem_of_getElem? hx)))).1
          have h2 : x.name = nm := toList_injM (beq_iff_eq.mp hn)
          rw [h2] at h1
          omega
        · rfl
      · rfl
  unfold hapsT
  rw [hw, if_pos (by simp)]
  rfl
/-- the boxes of the arguments, of the answer, of the table. -/
structure Boxes (s : Nat) (v0 v1 v2 z0 z1 : Value) (W : World) : Prop where
  x0 : W.cell? ⟨s, 0, none⟩ = some v0
  x1 : W.cell? ⟨s, 1, none⟩ = some v1
  x2 : W.cell? ⟨s, 2, none⟩ = some v2
  y0 : W.cell? ⟨s + 1, 0, none⟩ = some z0
  y1 : W.cell? ⟨s + 1, 1, none⟩ = some z1
  r0 : W.cell? ⟨s + 1 + 1, 0, none⟩ = some (.slice none 0 0)
  f0 : W.frozen? ⟨s + 1 + 1, 0, none⟩ = false
  t : ∃ u, W.cell? ⟨s + 1 + 1 + 1, 0, none⟩ = some u
  f1 : W.frozen? ⟨s + 1 + 1 + 1, 0, none⟩ = false
theorem Boxes.fr {s : Nat} {v0 v1 v2 z0 z1 : Value} {S : Nat → Prop} {W W' : World} (h : Boxes s v0 v1 v2 z0 z1 W) (hf : Fr S W W') (hs : ∀ g, S g → s + 1 + 1 + 1 + 1 ≤ g) : Boxes s v0 v1 v2 z0 z1 W' := by
  have n : ∀ k, k < s + 1 + 1 + 1 + 1 → ¬ S k := fun k hk h => by have := hs k h; omega
  obtain ⟨u, hu⟩ := h.t
  exact ⟨hf.cell (n _ (by omega)) h.x0, hf.cell (n _ (by omega)) h.x1, hf.cell (n _ (by omega)) h.x2, hf.cell (n _ (by omega)) h.y0, hf.cell (n _ (by omega)) h.y1, hf.cell (n _ (by omega)) h.r0, (hf.frozen (World.block_lt_of_cell? _ _ h.r0) (n (s + 1 + 1) (by omega))).trans h.f0, ⟨u, hf.cell (n _ (by omega)) hu⟩, (hf.frozen (World.block_lt_of_cell? _ _ hu) (n (s + 1 + 1 + 1) (by omega))).trans h.f1⟩
theorem Boxes.below {s : Nat} {v0 v1 v2 z0 z1 : Value} {W W' : World} (h : Boxes s v0 v1 v2 z0 z1 W) (hb : Below W.heap.size W W') : Boxes s v0 v1 v2 z0 z1 W' := h.fr (S := fun _ => False) (Fr.of_below hb) fun _ h => h.elim
theorem Boxes.set {s : Nat} {v0 v1 v2 z0 z1 : Value} {W : World} (h : Boxes s v0 v1 v2 z0 z1 W) (u : Value) : Boxes s v0 v1 v2 z0 z1 (W.setCell ⟨s + 1 + 1 + 1, 0, none⟩ u) := by
  obtain ⟨v, hv⟩ := h.t
  refine ⟨?_, ?_, ?_, ?_, ?_, ?_, by rw [World.frozen?_setCell]; exact h.f0, ⟨u, World.cell?_setCell_same _ _ _ hv⟩, by rw [World.frozen?_setCell]; exact h.f1⟩
  · rw [World.cell?_setCell_other _ _ _ _ (by simp)]; exact h.x0
  · rw [World.cell?_setCell_other _ _ _ _ (by simp)]; exact h.x1
  · rw [World.cell?_setCell_other _ _ _ _ (by simp)]; exact h.x2
  · rw [World.cell?_setCell_other _ _ _ _ (by simp)]; exact h.y0
  · rw [World.cell?_setCell_other _ _ _ _ (by simp)]; exact h.y1
  · rw [World.cell?_setCell_other _ _ _ _ (by simp)]; exact h.r0
/-- what l03Table tells, in memory. -/
structure TabSP (r : RelD) (E : List EraD) (w : World) (q : Ending) (W' : World) : Prop where
  ex : ∃ v b T, q = .returned (.tuple #[.agg #[v], .bool b]) ∧ OwnsT W' w.heap.size v T ∧ b = (tabE r E).2 ∧ (b = true → T = (tabE r E).1) ∧ Below w.heap.size w W'
theorem inX_none {b e : Int} (h : ¬ b < e) (H : List HapD) : inX H b e = [] := by
  unfold inX
  rw [List.filter_eq_nil_iff]
  intro t _
  simp
  intro h1
  omega
end Go.Proofs.YtbbhpfobcelbfaaGreatDoor
