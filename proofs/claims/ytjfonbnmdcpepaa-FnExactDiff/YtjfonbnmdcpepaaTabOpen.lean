/- A table that came in, opened: what lies in memory. -/
import Derived.Test.YtjfonbnmdcpepaaTabRel
import Derived.Deep.Slices
import Derived.ProofKit
import Derived.OpenShut
import Derived.ShutString
import Derived.Lib.SmallJoins
namespace Go.Proofs.Ytjfonbnmdcpepaa
open Go.ChangeShapes Go.WideShapes Go.ChangeAt Go.RowKit Go.Deep

theorem list_ofT {α : Type} {P : Nat → α → Prop} : ∀ n, (∀ i, i < n → ∃ r, P i r) → ∃ l : List α, l.length = n ∧ ∀ i r, l[i]? = some r → P i r := by
  intro n
  induction n with
  | zero => intro _; exact ⟨[], rfl, fun i r h => by simp at h⟩
  | succ n ih =>
    intro h
    obtain ⟨l, hl, hp⟩ := ih fun i hi => h i (by omega)
    obtain ⟨r, hr⟩ := h n (by omega)
    refine ⟨l ++ [r], by simp [hl], fun i x hx => ?_⟩
    rcases Nat.lt_or_ge i l.length with hi | hi
    · rw [List.getElem?_append_left hi] at hx; exact hp i x hx
    · rw [List.getElem?_append_right hi] at hx
      have e : i - l.length = 0 := by
        rcases Nat.eq_zero_or_pos (i - l.length) with e | e
        · exact e
        · rw [List.getElem?_eq_none (by simp; omega)] at hx; cases hx
      rw [e] at hx
      simp at hx
      subst hx
      have : i = n := by omega
      subst this; exact hr
theorem cST : Try.prog.cellsOf 9 = 1 := by kernel_rfl
theorem cIT : Try.prog.cellsOf 2 = 1 := by kernel_rfl
section
variable {H : Type} {enc : TypeId × Value → H} {w : World} {spare : Nat → Bool} {held : Bool}
theorem cellsTurn : Try.prog.cellsOf 118 = 4 := by kernel_rfl
set_option maxRecDepth 100000 in
theorem open_Turn {n : Nat} {cs : List Value} {x : DataW H × List MemPlace} (h : DataW.trod enc Try.prog w 0 spare held n 118 cs = some x) : ∃ r : TurnD, cs = r.cs ∧ r.ok := by
  obtain ⟨xs, k, _, _, hl, hxl, hf⟩ := DataW.trod_struct Try.underlying118 h
  rw [cellsTurn] at hl
  have hxl2 : xs.length = 4 := hxl
  clear hxl
  match xs, hxl2, cs, hl with
  | [y0, y1, y2, y3], _, [c0, c1, c2, c3], _ =>
    have g0 := hf 0 _ rfl
    have g1 := hf 1 _ rfl
    have g2 := hf 2 _ rfl
    have g3 := hf 3 _ rfl
    simp [cST, cIT] at g0 g1 g2 g3
    obtain ⟨s0, e0, _, m0⟩ := DataW.trod_int Try.underlying2 g0
    obtain ⟨s1, e1, _, m1⟩ := DataW.trod_int Try.underlying2 g1
    obtain ⟨s2, e2, _, m2⟩ := DataW.trod_int Try.underlying2 g2
    obtain ⟨s3, e3, _, m3⟩ := DataW.trod_string Try.underlying9 g3
    simp at e0 e1 e2 e3
    subst e0 e1 e2 e3
    exact ⟨⟨s0, s1, s2, s3⟩, rfl, m3⟩
/-- a list of them. -/
theorem open_TurnS {n : Nat} {c : Value} {x : DataW H × List MemPlace} (h : DataW.trod enc Try.prog w 0 spare held n 43 [c] = some x) : ∃ (l : List TurnD) (a : Option Addr) (cap : Nat), c = .slice a l.length cap ∧ SeqAt w a 4 (l.map TurnD.cs) ∧ l.length ≤ maxLen ∧ ∀ r ∈ l, r.ok := by
  rcases open_slice Try.underlying43 h with ⟨hc, _⟩ | ⟨a, len, cap, m, k, D, Pl, hc, _, hl, hm, hmm, _, hx⟩
  · simp at hc; subst hc
    exact ⟨[], none, 0, rfl, .inl rfl, Nat.zero_le _, fun r hr => by simp at hr⟩
  · simp at hc; subst hc
    have hlm : len ≤ m := by rw [hmm]; split <;> omega
    obtain ⟨l, hll, hp⟩ := list_ofT (P := fun i (r : TurnD) => (∀ j v, r.cs[j]? = some v → w.cell? (a.add (i * 4 + j)) = some v) ∧ r.ok) len fun i hi => by
      obtain ⟨cs', h1, h2⟩ := hx i (by omega)
      rw [cellsTurn] at h1
      obtain ⟨_, hlen, hcell⟩ := World.cells?_some h1
      obtain ⟨r, rfl, ok⟩ := open_Turn h2
      refine ⟨r, fun j v hj => ?_, ok⟩
      have := hcell j (by have := (List.getElem?_eq_some_iff.mp hj).1; omega)
      rw [add_add] at this
      rw [this, hj]
    refine ⟨l, some a, cap, by rw [hll], ?_, by omega, fun r hr => by obtain ⟨i, hi⟩ := List.getElem?_of_mem hr; exact (hp i r hi).2⟩
    cases hl0 : l with
    | nil => exact .inl rfl
    | cons r0 l' =>
      obtain ⟨b, off, spot⟩ := a
      have hspot : spot = none := by
        have := (hp 0 r0 (by rw [hl0]; rfl)).1 0 _ rfl
        simpa [Addr.add] using World.cell?_spot this
      subst hspot
      rw [← hl0]
      refine .inr ⟨b, off, rfl, fun i j row v hi hj => ?_⟩
      rw [List.getElem?_map] at hi
      obtain ⟨r, hr, rfl⟩ := Option.map_eq_some_iff.mp hi
      have := (hp i r hr).1 j v hj
      rw [add_plain] at this
      rw [show off + i * 4 + j = off + (i * 4 + j) by omega]
      exact this
theorem cellsTable : Try.prog.cellsOf 45 = 1 := by kernel_rfl
theorem cTs : Try.prog.cellsOf 43 = 1 := by kernel_rfl
theorem array1 {α : Type} {cs : Array α} (h : cs.size = 1) : ∃ c0, cs = #[c0] := by
  obtain ⟨l⟩ := cs
  match l, h with
  | [c0], _ => exact ⟨c0, rfl⟩
end
set_option maxRecDepth 100000 in
/-- a table that came in. -/
theorem open_table {H : Type} {enc : TypeId × Value → H} {W : World} {base : Nat} {v : Value} {d : DataW H} {p : List MemPlace}
    (hv : Value.okWide Try.prog W .any base 45 v) (h : DataW.Trod enc Try.prog W 0 (fun _ => true) true 45 v d p) : ∃ l : List TurnD, TabAt W v l ∧ l.length ≤ maxLen ∧ ∀ r ∈ l, r.ok := by
  obtain ⟨cs, rfl, hsz⟩ := okWide_struct Try.underlying45 hv
  obtain ⟨c0, rfl⟩ := array1 (hsz.trans cellsTable)
  obtain ⟨fuel, hf⟩ := h
  obtain ⟨xs, k, _, _, hl, hxl, hfs⟩ := DataW.trod_struct Try.underlying45 hf
  have hxl2 : xs.length = 1 := hxl
  match xs, hxl2 with
  | [y0], _ =>
    have g0 := hfs 0 _ rfl
    simp [Value.cells, cTs] at g0
    obtain ⟨l0, a0, k0, rfl, s0, m0, ok0⟩ := open_TurnS g0
    exact ⟨l0, ⟨a0, k0, rfl, s0⟩, m0, ok0⟩
end Go.Proofs.Ytjfonbnmdcpepaa
