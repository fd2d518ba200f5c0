/- A release that came in, opened: what lies in memory. -/
import Derived.Test.YtjdokmllidhapaaGreatDoorRelRel2
import Derived.Deep.Slices
import Derived.ProofKit
import Derived.OpenShut
import Derived.ShutString
import Derived.Lib.SmallJoins
namespace Go.Proofs.YtjdokmllidhapaaGreatDoor
open Go.ChangeShapes Go.WideShapes Go.ChangeAt Go.RowKit Go.Deep

theorem list_of {α : Type} {P : Nat → α → Prop} : ∀ n, (∀ i, i < n → ∃ r, P i r) → ∃ l : List α, l.length = n ∧ ∀ i r, l[i]? = some r → P i r := by
  intro n
  induction n with
  | zero => intro _; exact ⟨[], rfl, fun i r h => by simp at h⟩
  | succ n ih =>
    intro h
    obtain ⟨l, hl, hp⟩ := ih fun i hi => h i (by omega)
    obtain ⟨r, hr⟩ := h n (by omega)
    refine ⟨l ++ [r], by simp [hl], fun i x hx => ?_⟩
    rcases Nat.lt_or_ge i l.length with hi | hi
    · rw [List.getElem?_append_left hi] at hx; exact hp i x hx
    · rw [List.getElem?_append_right hi] at hx
      have e : i - l.length = 0 := by
        rcases Nat.eq_zero_or_pos (i - l.length) with e | e
        · exact e
        · rw [List.getElem?_eq_none (by simp; omega)] at hx; cases hx
      rw [e] at hx
      simp at hx
      subst hx
      have : i = n := by omega
      subst this; exact hr
theorem cS : Tryz.prog.cellsOf 9 = 1 := by kernel_rfl
theorem cI : Tryz.prog.cellsOf 2 = 1 := by kernel_rfl
section
variable {H : Type} {enc : TypeId × Value → H} {w : World} {spare : Nat → Bool} {held : Bool}
theorem cellsRule : Tryz.prog.cellsOf 176 = 9 := by kernel_rfl
set_option maxRecDepth 100000 in
theorem open_Rule {n : Nat} {cs : List Value} {x : DataW H × List MemPlace} (h : DataW.trod enc Tryz.prog w 0 spare held n 176 cs = some x) : ∃ r : RuleD, cs = r.cs ∧ r.ok := by
  obtain ⟨xs, k, _, _, hl, hxl, hf⟩ := DataW.trod_struct Tryz.underlying176 h
  rw [cellsRule] at hl
  have hxl2 : xs.length = 9 := hxl
  clear hxl
  match xs, hxl2, cs, hl with
  | [y0, y1, y2, y3, y4, y5, y6, y7, y8], _, [c0, c1, c2, c3, c4, c5, c6, c7, c8], _ =>
    have g0 := hf 0 _ rfl
    have g1 := hf 1 _ rfl
    have g2 := hf 2 _ rfl
    have g3 := hf 3 _ rfl
    have g4 := hf 4 _ rfl
    have g5 := hf 5 _ rfl
    have g6 := hf 6 _ rfl
    have g7 := hf 7 _ rfl
    have g8 := hf 8 _ rfl
    simp [cS, cI] at g0 g1 g2 g3 g4 g5 g6 g7 g8
    obtain ⟨s0, e0, _, m0⟩ := DataW.trod_string Tryz.underlying9 g0
    obtain ⟨s1, e1, _, m1⟩ := DataW.trod_int Tryz.underlying2 g1
    obtain ⟨s2, e2, _, m2⟩ := DataW.trod_int Tryz.underlying2 g2
    obtain ⟨s3, e3, _, m3⟩ := DataW.trod_int Tryz.underlying2 g3
    obtain ⟨s4, e4, _, m4⟩ := DataW.trod_string Tryz.underlying9 g4
    obtain ⟨s5, e5, _, m5⟩ := DataW.trod_int Tryz.underlying2 g5
    obtain ⟨s6, e6, _, m6⟩ := DataW.trod_string Tryz.underlying9 g6
    obtain ⟨s7, e7, _, m7⟩ := DataW.trod_int Tryz.underlying2 g7
    obtain ⟨s8, e8, _, m8⟩ := DataW.trod_string Tryz.underlying9 g8
    simp at e0 e1 e2 e3 e4 e5 e6 e7 e8
    subst e0 e1 e2 e3 e4 e5 e6 e7 e8
    exact ⟨⟨s0, s1, s2, s3, s4, s5, s6, s7, s8⟩, rfl, ⟨m0, m4, m6, m8⟩⟩
/-- a list of them. -/
theorem open_RuleS {n : Nat} {c : Value} {x : DataW H × List MemPlace} (h : DataW.trod enc Tryz.prog w 0 spare held n 57 [c] = some x) : ∃ (l : List RuleD) (a : Option Addr) (cap : Nat), c = .slice a l.length cap ∧ SeqAt w a 9 (l.map RuleD.cs) ∧ l.length ≤ maxLen ∧ ∀ r ∈ l, r.ok := by
  rcases open_slice Tryz.underlying57 h with ⟨hc, _⟩ | ⟨a, len, cap, m, k, D, Pl, hc, _, hl, hm, hmm, _, hx⟩
  · simp at hc; subst hc
    exact ⟨[], none, 0, rfl, .inl rfl, Nat.zero_le _, fun r hr => by simp at hr⟩
  · simp at hc; subst hc
    have hlm : len ≤ m := by rw [hmm]; split <;> omega
    obtain ⟨l, hll, hp⟩ := list_of (P := fun i (r : RuleD) => (∀ j v, r.cs[j]? = some v → w.cell? (a.add (i * 9 + j)) = some v) ∧ r.ok) len fun i hi => by
      obtain ⟨cs', h1, h2⟩ := hx i (by omega)
      rw [cellsRule] at h1
      obtain ⟨_, hlen, hcell⟩ := World.cells?_some h1
      obtain ⟨r, rfl, ok⟩ := open_Rule h2
      refine ⟨r, fun j v hj => ?_, ok⟩
      have := hcell j (by have := (List.getElem?_eq_some_iff.mp hj).1; omega)
      rw [add_add] at this
      rw [this, hj]
    refine ⟨l, some a, cap, by rw [hll], ?_, by omega, fun r hr => by obtain ⟨i, hi⟩ := List.getElem?_of_mem hr; exact (hp i r hi).2⟩
    cases hl0 : l with
    | nil => exact .inl rfl
    | cons r0 l' =>
      obtain ⟨b, off, spot⟩ := a
      have hspot : spot = none := by
        have := (hp 0 r0 (by rw [hl0]; rfl)).1 0 _ rfl
        simpa [Addr.add] using World.cell?_spot this
      subst hspot
      rw [← hl0]
      refine .inr ⟨b, off, rfl, fun i j row v hi hj => ?_⟩
      rw [List.getElem?_map] at hi
      obtain ⟨r, hr, rfl⟩ := Option.map_eq_some_iff.mp hi
      have := (hp i r hr).1 j v hj
      rw [add_plain] at this
      rw [show off + i * 9 + j = off + (i * 9 + j) by omega]
      exact this
theorem cellsEra : Tryz.prog.cellsOf 265 = 6 := by kernel_rfl
set_option maxRecDepth 100000 in
theorem open_Era {n : Nat} {cs : List Value} {x : DataW H × List MemPlace} (h : DataW.trod enc Tryz.prog w 0 spare held n 265 cs = some x) : ∃ r : EraD, cs = r.cs ∧ r.ok := by
  obtain ⟨xs, k, _, _, hl, hxl, hf⟩ := DataW.trod_struct Tryz.underlying265 h
  rw [cellsEra] at hl
  have hxl2 : xs.length = 6 := hxl
  clear hxl
  match xs, hxl2, cs, hl with
  | [y0, y1, y2, y3, y4, y5], _, [c0, c1, c2, c3, c4, c5], _ =>
    have g0 := hf 0 _ rfl
    have g1 := hf 1 _ rfl
    have g2 := hf 2 _ rfl
    have g3 := hf 3 _ rfl
    have g4 := hf 4 _ rfl
    have g5 := hf 5 _ rfl
    simp [cS, cI] at g0 g1 g2 g3 g4 g5
    obtain ⟨s0, e0, _, m0⟩ := DataW.trod_int Tryz.underlying2 g0
    obtain ⟨s1, e1, _, m1⟩ := DataW.trod_string Tryz.underlying9 g1
    obtain ⟨s2, e2, _, m2⟩ := DataW.trod_int Tryz.underlying2 g2
    obtain ⟨s3, e3, _, m3⟩ := DataW.trod_string Tryz.underlying9 g3
    obtain ⟨s4, e4, _, m4⟩ := DataW.trod_int Tryz.underlying2 g4
    obtain ⟨s5, e5, _, m5⟩ := DataW.trod_string Tryz.underlying9 g5
    simp at e0 e1 e2 e3 e4 e5
    subst e0 e1 e2 e3 e4 e5
    exact ⟨⟨s0, s1, s2, s3, s4, s5⟩, rfl, ⟨m1, m3, m5⟩⟩
/-- a list of them. -/
theorem open_EraS {n : Nat} {c : Value} {x : DataW H × List MemPlace} (h : DataW.trod enc Tryz.prog w 0 spare held n 178 [c] = some x) : ∃ (l : List EraD) (a : Option Addr) (cap : Nat), c = .slice a l.length cap ∧ SeqAt w a 6 (l.map EraD.cs) ∧ l.length ≤ maxLen ∧ ∀ r ∈ l, r.ok := by
  rcases open_slice Tryz.underlying178 h with ⟨hc, _⟩ | ⟨a, len, cap, m, k, D, Pl, hc, _, hl, hm, hmm, _, hx⟩
  · simp at hc; subst hc
    exact ⟨[], none, 0, rfl, .inl rfl, Nat.zero_le _, fun r hr => by simp at hr⟩
  · simp at hc; subst hc
    have hlm : len ≤ m := by rw [hmm]; split <;> omega
    obtain ⟨l, hll, hp⟩ := list_of (P := fun i (r : EraD) => (∀ j v, r.cs[j]? = some v → w.cell? (a.add (i * 6 + j)) = some v) ∧ r.ok) len fun i hi => by
      obtain ⟨cs', h1, h2⟩ := hx i (by omega)
      rw [cellsEra] at h1
      obtain ⟨_, hlen, hcell⟩ := World.cells?_some h1
      obtain ⟨r, rfl, ok⟩ := open_Era h2
      refine ⟨r, fun j v hj => ?_, ok⟩
      have := hcell j (by have := (List.getElem?_eq_some_iff.mp hj).1; omega)
      rw [add_add] at this
      rw [this, hj]
    refine ⟨l, some a, cap, by rw [hll], ?_, by omega, fun r hr => by obtain ⟨i, hi⟩ := List.getElem?_of_mem hr; exact (hp i r hi).2⟩
    cases hl0 : l with
    | nil => exact .inl rfl
    | cons r0 l' =>
      obtain ⟨b, off, spot⟩ := a
      have hspot : spot = none := by
        have := (hp 0 r0 (by rw [hl0]; rfl)).1 0 _ rfl
        simpa [Addr.add] using World.cell?_spot this
      subst hspot
      rw [← hl0]
      refine .inr ⟨b, off, rfl, fun i j row v hi hj => ?_⟩
      rw [List.getElem?_map] at hi
      obtain ⟨r, hr, rfl⟩ := Option.map_eq_some_iff.mp hi
      have := (hp i r hr).1 j v hj
      rw [add_plain] at this
      rw [show off + i * 6 + j = off + (i * 6 + j) by omega]
      exact this
theorem cellsLink : Tryz.prog.cellsOf 182 = 2 := by kernel_rfl
set_option maxRecDepth 100000 in
theorem open_Link {n : Nat} {cs : List Value} {x : DataW H × List MemPlace} (h : DataW.trod enc Tryz.prog w 0 spare held n 182 cs = some x) : ∃ r : LinkD, cs = r.cs ∧ r.ok := by
  obtain ⟨xs, k, _, _, hl, hxl, hf⟩ := DataW.trod_struct Tryz.underlying182 h
  rw [cellsLink] at hl
  have hxl2 : xs.length = 2 := hxl
  clear hxl
  match xs, hxl2, cs, hl with
  | [y0, y1], _, [c0, c1], _ =>
    have g0 := hf 0 _ rfl
    have g1 := hf 1 _ rfl
    simp [cS] at g0 g1
    obtain ⟨s0, e0, _, m0⟩ := DataW.trod_string Tryz.underlying9 g0
    obtain ⟨s1, e1, _, m1⟩ := DataW.trod_string Tryz.underlying9 g1
    simp at e0 e1
    subst e0 e1
    exact ⟨⟨s0, s1⟩, rfl, ⟨m0, m1⟩⟩
/-- a list of them. -/
theorem open_LinkS {n : Nat} {c : Value} {x : DataW H × List MemPlace} (h : DataW.trod enc Tryz.prog w 0 spare held n 59 [c] = some x) : ∃ (l : List LinkD) (a : Option Addr) (cap : Nat), c = .slice a l.length cap ∧ SeqAt w a 2 (l.map LinkD.cs) ∧ l.length ≤ maxLen ∧ ∀ r ∈ l, r.ok := by
  rcases open_slice Tryz.underlying59 h with ⟨hc, _⟩ | ⟨a, len, cap, m, k, D, Pl, hc, _, hl, hm, hmm, _, hx⟩
  · simp at hc; subst hc
    exact ⟨[], none, 0, rfl, .inl rfl, Nat.zero_le _, fun r hr => by simp at hr⟩
  · simp at hc; subst hc
    have hlm : len ≤ m := by rw [hmm]; split <;> omega
    obtain ⟨l, hll, hp⟩ := list_of (P := fun i (r : LinkD) => (∀ j v, r.cs[j]? = some v → w.cell? (a.add (i * 2 + j)) = some v) ∧ r.ok) len fun i hi => by
      obtain ⟨cs', h1, h2⟩ := hx i (by omega)
      rw [cellsLink] at h1
      obtain ⟨_, hlen, hcell⟩ := World.cells?_some h1
      obtain ⟨r, rfl, ok⟩ := open_Link h2
      refine ⟨r, fun j v hj => ?_, ok⟩
      have := hcell j (by have := (List.getElem?_eq_some_iff.mp hj).1; omega)
      rw [add_add] at this
      rw [this, hj]
    refine ⟨l, some a, cap, by rw [hll], ?_, by omega, fun r hr => by obtain ⟨i, hi⟩ := List.getElem?_of_mem hr; exact (hp i r hi).2⟩
    cases hl0 : l with
    | nil => exact .inl rfl
    | cons r0 l' =>
      obtain ⟨b, off, spot⟩ := a
      have hspot : spot = none := by
        have := (hp 0 r0 (by rw [hl0]; rfl)).1 0 _ rfl
        simpa [Addr.add] using World.cell?_spot this
      subst hspot
      rw [← hl0]
      refine .inr ⟨b, off, rfl, fun i j row v hi hj => ?_⟩
      rw [List.getElem?_map] at hi
      obtain ⟨r, hr, rfl⟩ := Option.map_eq_some_iff.mp hi
      have := (hp i r hr).1 j v hj
      rw [add_plain] at this
      rw [show off + i * 2 + j = off + (i * 2 + j) by omega]
      exact this
theorem cellsZone : Tryz.prog.cellsOf 180 = 2 := by kernel_rfl
theorem cE : Tryz.prog.cellsOf 178 = 1 := by kernel_rfl
set_option maxRecDepth 100000 in
theorem open_Zone {n : Nat} {cs : List Value} {x : DataW H × List MemPlace} (h : DataW.trod enc Tryz.prog w 0 spare held n 180 cs = some x) : ∃ (z : ZoneD) (v : Value), cs = [.string z.name, v] ∧ EraSl w v z.eras ∧ z.ok := by
  obtain ⟨xs, k, _, _, hl, hxl, hf⟩ := DataW.trod_struct Tryz.underlying180 h
  rw [cellsZone] at hl
  have hxl2 : xs.length = 2 := hxl
  clear hxl
  match xs, hxl2, cs, hl with
  | [y0, y1], _, [c0, c1], _ =>
    have g0 := hf 0 _ rfl
    have g1 := hf 1 _ rfl
    simp [cS, cE] at g0 g1
    obtain ⟨s0, e0, _, m0⟩ := DataW.trod_string Tryz.underlying9 g0
    simp at e0
    subst e0
    obtain ⟨l, a, cap, rfl, hs, hl, ok⟩ := open_EraS g1
    exact ⟨⟨s0, l⟩, _, rfl, ⟨a, cap, rfl, hs⟩, ⟨m0, hl, ok⟩⟩
theorem open_ZoneS {n : Nat} {c : Value} {x : DataW H × List MemPlace} (h : DataW.trod enc Tryz.prog w 0 spare held n 58 [c] = some x) : ∃ (l : List ZoneD) (a : Option Addr) (cap : Nat), c = .slice a l.length cap ∧ ZonesAt w a l ∧ l.length ≤ maxLen ∧ ∀ r ∈ l, r.ok := by
  rcases open_slice Tryz.underlying58 h with ⟨hc, _⟩ | ⟨a, len, cap, m, k, D, Pl, hc, _, hl, hm, hmm, _, hx⟩
  · simp at hc; subst hc
    exact ⟨[], none, 0, rfl, .inl rfl, Nat.zero_le _, fun r hr => by simp at hr⟩
  · simp at hc; subst hc
    have hlm : len ≤ m := by rw [hmm]; split <;> omega
    obtain ⟨l, hll, hp⟩ := list_of (P := fun i (z : ZoneD) => (w.cell? (a.add (i * 2)) = some (.string z.name) ∧ ∃ v, w.cell? (a.add (i * 2 + 1)) = some v ∧ EraSl w v z.eras) ∧ z.ok) len fun i hi => by
      obtain ⟨cs', h1, h2⟩ := hx i (by omega)
      rw [cellsZone] at h1
      obtain ⟨_, hlen, hcell⟩ := World.cells?_some h1
      obtain ⟨z, v, rfl, hv, ok⟩ := open_Zone h2
      have e0 := hcell 0 (by omega)
      have e1 := hcell 1 (by omega)
      rw [add_add] at e0 e1
      exact ⟨z, ⟨by simpa using e0, v, by simpa using e1, hv⟩, ok⟩
    refine ⟨l, some a, cap, by rw [hll], ?_, by omega, fun r hr => by obtain ⟨i, hi⟩ := List.getElem?_of_mem hr; exact (hp i r hi).2⟩
    cases hl0 : l with
    | nil => exact .inl rfl
    | cons r0 l' =>
      obtain ⟨b, off, spot⟩ := a
      have hspot : spot = none := by
        have := (hp 0 r0 (by rw [hl0]; rfl)).1.1
        simpa [Addr.add] using World.cell?_spot this
      subst hspot
      rw [← hl0]
      refine .inr ⟨b, off, rfl, fun i z hz => ?_⟩
      obtain ⟨⟨c0, v, c1, hv⟩, _⟩ := hp i z hz
      rw [add_plain] at c0 c1
      exact ⟨c0, v, by rw [show off + i * 2 + 1 = off + (i * 2 + 1) by omega]; exact c1, hv⟩
end
set_option maxRecDepth 100000 in
/-- a release that came in. -/
theorem open_release {H : Type} {enc : TypeId × Value → H} {W : World} {base : Nat} {v : Value} {d : DataW H} {p : List MemPlace}
    (hv : Value.okWide Tryz.prog W .any base 61 v) (h : DataW.Trod enc Tryz.prog W 0 (fun _ => true) true 61 v d p) : ∃ r : RelD, RelAt W v r ∧ r.ok := by
  obtain ⟨c0, c1, c2, y0, y1, y2, n, rfl, _, _, h0, h1, h2⟩ := Joins.open_agg3 Tryz.underlying61 (by kernel_rfl) (by kernel_rfl) hv h
  obtain ⟨l0, a0, k0, rfl, s0, m0, ok0⟩ := open_RuleS h0
  obtain ⟨l1, a1, k1, rfl, s1, m1, ok1⟩ := open_ZoneS h1
  obtain ⟨l2, a2, k2, rfl, s2, m2, ok2⟩ := open_LinkS h2
  exact ⟨⟨l0, l1, l2⟩, ⟨_, _, _, _, _, _, rfl, s0, s1, s2⟩, ⟨m0, ok0⟩, ⟨m1, ok1⟩, ⟨m2, ok2⟩⟩
end Go.Proofs.YtjdokmllidhapaaGreatDoor
