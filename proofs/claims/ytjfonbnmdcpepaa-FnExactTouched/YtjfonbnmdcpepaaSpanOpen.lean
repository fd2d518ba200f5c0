/- A list of spans that came in, opened: what lies in memory. -/
import Derived.Test.YtjfonbnmdcpepaaTabOpen
import Derived.Test.YtjfonbnmdcpepaaRelSpan
namespace Go.Proofs.Ytjfonbnmdcpepaa
open Go.ChangeShapes Go.WideShapes Go.ChangeAt Go.RowKit Go.Deep

section
variable {H : Type} {enc : TypeId × Value → H} {w : World} {spare : Nat → Bool} {held : Bool}
theorem cellsSpan : Try.prog.cellsOf 91 = 2 := by kernel_rfl
set_option maxRecDepth 100000 in
theorem open_Span {n : Nat} {cs : List Value} {x : DataW H × List MemPlace} (h : DataW.trod enc Try.prog w 0 spare held n 91 cs = some x) : ∃ r : SpanD, cs = r.cs := by
  obtain ⟨xs, k, _, _, hl, hxl, hf⟩ := DataW.trod_struct Try.underlying91 h
  rw [cellsSpan] at hl
  have hxl2 : xs.length = 2 := hxl
  clear hxl
  match xs, hxl2, cs, hl with
  | [y0, y1], _, [c0, c1], _ =>
    have g0 := hf 0 _ rfl
    have g1 := hf 1 _ rfl
    simp [cIT] at g0 g1
    obtain ⟨s0, e0, _, m0⟩ := DataW.trod_int Try.underlying2 g0
    obtain ⟨s1, e1, _, m1⟩ := DataW.trod_int Try.underlying2 g1
    simp at e0 e1
    subst e0 e1
    exact ⟨⟨s0, s1⟩, rfl⟩
/-- a list of them. -/
theorem open_SpanS {n : Nat} {c : Value} {x : DataW H × List MemPlace} (h : DataW.trod enc Try.prog w 0 spare held n 55 [c] = some x) : ∃ (l : List SpanD) (a : Option Addr) (cap : Nat), c = .slice a l.length cap ∧ SeqAt w a 2 (l.map SpanD.cs) ∧ l.length ≤ maxLen := by
  rcases open_slice Try.underlying55 h with ⟨hc, _⟩ | ⟨a, len, cap, m, k, D, Pl, hc, _, hl, hm, hmm, _, hx⟩
  · simp at hc; subst hc
    exact ⟨[], none, 0, rfl, .inl rfl, Nat.zero_le _⟩
  · simp at hc; subst hc
    have hlm : len ≤ m := by rw [hmm]; split <;> omega
    obtain ⟨l, hll, hp⟩ := list_ofT (P := fun i (r : SpanD) => (∀ j v, r.cs[j]? = some v → w.cell? (a.add (i * 2 + j)) = some v)) len fun i hi => by
      obtain ⟨cs', h1, h2⟩ := hx i (by omega)
      rw [cellsSpan] at h1
      obtain ⟨_, hlen, hcell⟩ := World.cells?_some h1
      obtain ⟨r, rfl⟩ := open_Span h2
      refine ⟨r, fun j v hj => ?_⟩
      have := hcell j (by have := (List.getElem?_eq_some_iff.mp hj).1; omega)
      rw [add_add] at this
      rw [this, hj]
    refine ⟨l, some a, cap, by rw [hll], ?_, by omega⟩
    cases hl0 : l with
    | nil => exact .inl rfl
    | cons r0 l' =>
      obtain ⟨b, off, spot⟩ := a
      have hspot : spot = none := by
        have := (hp 0 r0 (by rw [hl0]; rfl)) 0 _ rfl
        simpa [Addr.add] using World.cell?_spot this
      subst hspot
      rw [← hl0]
      refine .inr ⟨b, off, rfl, fun i j row v hi hj => ?_⟩
      rw [List.getElem?_map] at hi
      obtain ⟨r, hr, rfl⟩ := Option.map_eq_some_iff.mp hi
      have := (hp i r hr) j v hj
      rw [add_plain] at this
      rw [show off + i * 2 + j = off + (i * 2 + j) by omega]
      exact this
end
set_option maxRecDepth 100000 in
/-- a list of spans that came in. -/
theorem open_spans {H : Type} {enc : TypeId × Value → H} {W : World} {base : Nat} {v : Value} {d : DataW H} {p : List MemPlace}
    (hv : Value.okWide Try.prog W .any base 55 v) (h : DataW.Trod enc Try.prog W 0 (fun _ => true) true 55 v d p) : ∃ (l : List SpanD) (a : Option Addr) (cap : Nat), v = .slice a l.length cap ∧ SeqAt W a 2 (l.map SpanD.cs) ∧ l.length ≤ maxLen := by
  obtain ⟨a, len, cap, rfl⟩ := okWide_slice Try.underlying55 hv
  obtain ⟨fuel, hf⟩ := h
  exact open_SpanS hf
end Go.Proofs.Ytjfonbnmdcpepaa
