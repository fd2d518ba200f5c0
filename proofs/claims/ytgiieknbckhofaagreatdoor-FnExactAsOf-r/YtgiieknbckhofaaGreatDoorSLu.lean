/- Packed. -/
import Derived.Lib.SmallJoins
import Derived.Test.YtgiieknbckhofaaGreatDoorSBu
import Derived.Test.YtgiieknbckhofaaGreatDoorMarkPu
set_option maxRecDepth 100000
set_option maxHeartbeats 20000000
set_option linter.unusedSimpArgs false
namespace Go.Proofs.YtgiieknbckhofaaGreatDoor
section
open Go.ChangeShapes Go.WideShapes Go.ChangeAt Go.RowKit Go.Deep
theorem je8 {α : Type} {P : Nat -> α -> Prop} : ∀ n, (∀ i, i < n -> ∃ r, P i r) -> ∃ l : List α, l.length = n /\ ∀ i r, l[i]? = some r -> P i r := by
 intro n
 induction n with
 | zero => intro _; exact ⟨[], rfl, fun i r h => by simp at h⟩
 | succ n ih =>
  intro h
  obtain ⟨l, hl, hp⟩ := ih fun i hi => h i (by omega)
  obtain ⟨r, hr⟩ := h n (by omega)
  refine ⟨l ++ [r], by simp [hl], fun i x hx => ?_⟩
  rcases Nat.lt_or_ge i l.length with hi | hi
  ·rw [lgl hi] at hx; exact hp i x hx
  ·rw [List.getElem?_append_right hi] at hx
   have e : i - l.length = 0 := by
    rcases Nat.eq_zero_or_pos (i - l.length) with e | e
    ·exact e
    ·rw [List.getElem?_eq_none (by simp; omega)] at hx; cases hx
   rw [e] at hx
   simp at hx
   subst hx
   have : i = n := by omega
   subst this; exact hr
theorem cS : Tryz.prog.cellsOf 9 = 1 := by kernel_rfl
theorem cI : Tryz.prog.cellsOf 2 = 1 := by kernel_rfl
section
variable {H : Type} {enc : TypeId × Value -> H} {w : World} {bM : Nat -> Bool} {held : Bool}
theorem jo9 : Tryz.prog.cellsOf 131 = 9 := by kernel_rfl
theorem jvt {n : Nat} {cs : List Value} {x : DataW H × List MemPlace} (h : DataW.trod enc Tryz.prog w 0 bM held n 131 cs = some x) : ∃ r : RuleD, cs = r.cs /\ r.ok := by
 obtain ⟨xs, k, _, _, hl, dk, hf⟩ := DataW.trod_struct Tryz.underlying131 h
 rw [jo9] at hl
 have cQ : xs.length = 9 := dk
 clear dk
 match xs, cQ, cs, hl with
 | [y0, y1, y2, y3, y4, y5, y6, y7, y8], _, [c0, c1, c2, c3, c4, c5, c6, c7, c8], _ =>
  have g0 := hf 0 _ rfl
  have g1 := hf 1 _ rfl
  have g2 := hf 2 _ rfl
  have g3 := hf 3 _ rfl
  have g4 := hf 4 _ rfl
  have g5 := hf 5 _ rfl
  have g6 := hf 6 _ rfl
  have g7 := hf 7 _ rfl
  have g8 := hf 8 _ rfl
  simp [cS, cI] at g0 g1 g2 g3 g4 g5 g6 g7 g8
  obtain ⟨s0, e0, _, m0⟩ := DataW.trod_string Tryz.underlying9 g0
  obtain ⟨s1, e1, _, m1⟩ := DataW.trod_int Tryz.underlying2 g1
  obtain ⟨s2, e2, _, m2⟩ := DataW.trod_int Tryz.underlying2 g2
  obtain ⟨s3, e3, _, m3⟩ := DataW.trod_int Tryz.underlying2 g3
  obtain ⟨s4, e4, _, m4⟩ := DataW.trod_string Tryz.underlying9 g4
  obtain ⟨s5, e5, _, m5⟩ := DataW.trod_int Tryz.underlying2 g5
  obtain ⟨s6, e6, _, m6⟩ := DataW.trod_string Tryz.underlying9 g6
  obtain ⟨s7, e7, _, m7⟩ := DataW.trod_int Tryz.underlying2 g7
  obtain ⟨s8, e8, _, m8⟩ := DataW.trod_string Tryz.underlying9 g8
  simp at e0 e1 e2 e3 e4 e5 e6 e7 e8
  subst e0 e1 e2 e3 e4 e5 e6 e7 e8
  exact ⟨⟨s0, s1, s2, s3, s4, s5, s6, s7, s8⟩, rfl, ⟨m0, m4, m6, m8⟩⟩
theorem jtf {n : Nat} {c : Value} {x : DataW H × List MemPlace} (h : DataW.trod enc Tryz.prog w 0 bM held n 22 [c] = some x) : ∃ (l : List RuleD) (a : Option Addr) (cap : Nat), c = .slice a l.length cap /\ Za w a 9 (l.map RuleD.cs) /\ l.length <= maxLen /\ ∀ r ∈ l, r.ok := by
 rcases open_slice Tryz.underlying22 h with ⟨hc, _⟩ | ⟨a, len, cap, m, k, D, Pl, hc, _, hl, hm, gw, _, hx⟩
 ·simp at hc; subst hc
  exact ⟨[], none, 0, rfl, .inl rfl, Nat.zero_le _, fun r hr => by simp at hr⟩
 ·simp at hc; subst hc
  have vo : len <= m := by rw [gw]; split <;> omega
  obtain ⟨l, io, hp⟩ := je8 (P := fun i (r : RuleD) => (∀ j v, r.cs[j]? = some v -> w.cell? (a.add (i * 9 + j)) = some v) /\ r.ok) len fun i hi => by
   obtain ⟨tH, h1, h2⟩ := hx i (by omega)
   rw [jo9] at h1
   obtain ⟨_, au, aF⟩ := World.cells?_some h1
   obtain ⟨r, rfl, ok⟩ := jvt h2
   refine ⟨r, fun j v hj => ?_, ok⟩
   have := aF j (by have := (lgs hj).1; omega)
   rw [add_add] at this
   rw [this, hj]
  refine ⟨l, some a, cap, by rw [io], ?_, by omega, fun r hr => by obtain ⟨i, hi⟩ := lgo hr; exact (hp i r hi).2⟩
  cases hl0 : l with
  | nil => exact .inl rfl
  | cons r0 l' =>
   obtain ⟨b, off, eC⟩ := a
   have cO : eC = none := by
    have := (hp 0 r0 (by rw [hl0]; rfl)).1 0 _ rfl
    simpa [Addr.add] using World.cell?_spot this
   subst cO
   rw [<- hl0]
   refine .inr ⟨b, off, rfl, fun i j row v hi hj => ?_⟩
   rw [lgm] at hi
   obtain ⟨r, hr, rfl⟩ := Option.map_eq_some_iff.mp hi
   have := (hp i r hr).1 j v hj
   rw [add_plain] at this
   rw [show off + i * 9 + j = off + (i * 9 + j) by omega]
   exact this
theorem jsl : Tryz.prog.cellsOf 213 = 6 := by kernel_rfl
theorem jzd {n : Nat} {cs : List Value} {x : DataW H × List MemPlace} (h : DataW.trod enc Tryz.prog w 0 bM held n 213 cs = some x) : ∃ r : EraD, cs = r.cs /\ r.ok := by
 obtain ⟨xs, k, _, _, hl, dk, hf⟩ := DataW.trod_struct Tryz.underlying213 h
 rw [jsl] at hl
 have cQ : xs.length = 6 := dk
 clear dk
 match xs, cQ, cs, hl with
 | [y0, y1, y2, y3, y4, y5], _, [c0, c1, c2, c3, c4, c5], _ =>
  have g0 := hf 0 _ rfl
  have g1 := hf 1 _ rfl
  have g2 := hf 2 _ rfl
  have g3 := hf 3 _ rfl
  have g4 := hf 4 _ rfl
  have g5 := hf 5 _ rfl
  simp [cS, cI] at g0 g1 g2 g3 g4 g5
  obtain ⟨s0, e0, _, m0⟩ := DataW.trod_int Tryz.underlying2 g0
  obtain ⟨s1, e1, _, m1⟩ := DataW.trod_string Tryz.underlying9 g1
  obtain ⟨s2, e2, _, m2⟩ := DataW.trod_int Tryz.underlying2 g2
  obtain ⟨s3, e3, _, m3⟩ := DataW.trod_string Tryz.underlying9 g3
  obtain ⟨s4, e4, _, m4⟩ := DataW.trod_int Tryz.underlying2 g4
  obtain ⟨s5, e5, _, m5⟩ := DataW.trod_string Tryz.underlying9 g5
  simp at e0 e1 e2 e3 e4 e5
  subst e0 e1 e2 e3 e4 e5
  exact ⟨⟨s0, s1, s2, s3, s4, s5⟩, rfl, ⟨m1, m3, m5⟩⟩
theorem jvv {n : Nat} {c : Value} {x : DataW H × List MemPlace} (h : DataW.trod enc Tryz.prog w 0 bM held n 133 [c] = some x) : ∃ (l : List EraD) (a : Option Addr) (cap : Nat), c = .slice a l.length cap /\ Za w a 6 (l.map EraD.cs) /\ l.length <= maxLen /\ ∀ r ∈ l, r.ok := by
 rcases open_slice Tryz.underlying133 h with ⟨hc, _⟩ | ⟨a, len, cap, m, k, D, Pl, hc, _, hl, hm, gw, _, hx⟩
 ·simp at hc; subst hc
  exact ⟨[], none, 0, rfl, .inl rfl, Nat.zero_le _, fun r hr => by simp at hr⟩
 ·simp at hc; subst hc
  have vo : len <= m := by rw [gw]; split <;> omega
  obtain ⟨l, io, hp⟩ := je8 (P := fun i (r : EraD) => (∀ j v, r.cs[j]? = some v -> w.cell? (a.add (i * 6 + j)) = some v) /\ r.ok) len fun i hi => by
   obtain ⟨tH, h1, h2⟩ := hx i (by omega)
   rw [jsl] at h1
   obtain ⟨_, au, aF⟩ := World.cells?_some h1
   obtain ⟨r, rfl, ok⟩ := jzd h2
   refine ⟨r, fun j v hj => ?_, ok⟩
   have := aF j (by have := (lgs hj).1; omega)
   rw [add_add] at this
   rw [this, hj]
  refine ⟨l, some a, cap, by rw [io], ?_, by omega, fun r hr => by obtain ⟨i, hi⟩ := lgo hr; exact (hp i r hi).2⟩
  cases hl0 : l with
  | nil => exact .inl rfl
  | cons r0 l' =>
   obtain ⟨b, off, eC⟩ := a
   have cO : eC = none := by
    have := (hp 0 r0 (by rw [hl0]; rfl)).1 0 _ rfl
    simpa [Addr.add] using World.cell?_spot this
   subst cO
   rw [<- hl0]
   refine .inr ⟨b, off, rfl, fun i j row v hi hj => ?_⟩
   rw [lgm] at hi
   obtain ⟨r, hr, rfl⟩ := Option.map_eq_some_iff.mp hi
   have := (hp i r hr).1 j v hj
   rw [add_plain] at this
   rw [show off + i * 6 + j = off + (i * 6 + j) by omega]
   exact this
theorem jpa : Tryz.prog.cellsOf 138 = 2 := by kernel_rfl
theorem jvu {n : Nat} {cs : List Value} {x : DataW H × List MemPlace} (h : DataW.trod enc Tryz.prog w 0 bM held n 138 cs = some x) : ∃ r : LinkD, cs = r.cs /\ r.ok := by
 obtain ⟨xs, k, _, _, hl, dk, hf⟩ := DataW.trod_struct Tryz.underlying138 h
 rw [jpa] at hl
 have cQ : xs.length = 2 := dk
 clear dk
 match xs, cQ, cs, hl with
 | [y0, y1], _, [c0, c1], _ =>
  have g0 := hf 0 _ rfl
  have g1 := hf 1 _ rfl
  simp [cS] at g0 g1
  obtain ⟨s0, e0, _, m0⟩ := DataW.trod_string Tryz.underlying9 g0
  obtain ⟨s1, e1, _, m1⟩ := DataW.trod_string Tryz.underlying9 g1
  simp at e0 e1
  subst e0 e1
  exact ⟨⟨s0, s1⟩, rfl, ⟨m0, m1⟩⟩
theorem jtg {n : Nat} {c : Value} {x : DataW H × List MemPlace} (h : DataW.trod enc Tryz.prog w 0 bM held n 24 [c] = some x) : ∃ (l : List LinkD) (a : Option Addr) (cap : Nat), c = .slice a l.length cap /\ Za w a 2 (l.map LinkD.cs) /\ l.length <= maxLen /\ ∀ r ∈ l, r.ok := by
 rcases open_slice Tryz.underlying24 h with ⟨hc, _⟩ | ⟨a, len, cap, m, k, D, Pl, hc, _, hl, hm, gw, _, hx⟩
 ·simp at hc; subst hc
  exact ⟨[], none, 0, rfl, .inl rfl, Nat.zero_le _, fun r hr => by simp at hr⟩
 ·simp at hc; subst hc
  have vo : len <= m := by rw [gw]; split <;> omega
  obtain ⟨l, io, hp⟩ := je8 (P := fun i (r : LinkD) => (∀ j v, r.cs[j]? = some v -> w.cell? (a.add (i * 2 + j)) = some v) /\ r.ok) len fun i hi => by
   obtain ⟨tH, h1, h2⟩ := hx i (by omega)
   rw [jpa] at h1
   obtain ⟨_, au, aF⟩ := World.cells?_some h1
   obtain ⟨r, rfl, ok⟩ := jvu h2
   refine ⟨r, fun j v hj => ?_, ok⟩
   have := aF j (by have := (lgs hj).1; omega)
   rw [add_add] at this
   rw [this, hj]
  refine ⟨l, some a, cap, by rw [io], ?_, by omega, fun r hr => by obtain ⟨i, hi⟩ := lgo hr; exact (hp i r hi).2⟩
  cases hl0 : l with
  | nil => exact .inl rfl
  | cons r0 l' =>
   obtain ⟨b, off, eC⟩ := a
   have cO : eC = none := by
    have := (hp 0 r0 (by rw [hl0]; rfl)).1 0 _ rfl
    simpa [Addr.add] using World.cell?_spot this
   subst cO
   rw [<- hl0]
   refine .inr ⟨b, off, rfl, fun i j row v hi hj => ?_⟩
   rw [lgm] at hi
   obtain ⟨r, hr, rfl⟩ := Option.map_eq_some_iff.mp hi
   have := (hp i r hr).1 j v hj
   rw [add_plain] at this
   rw [show off + i * 2 + j = off + (i * 2 + j) by omega]
   exact this
theorem jo8 : Tryz.prog.cellsOf 135 = 2 := by kernel_rfl
theorem cE : Tryz.prog.cellsOf 133 = 1 := by kernel_rfl
theorem jvs {n : Nat} {cs : List Value} {x : DataW H × List MemPlace} (h : DataW.trod enc Tryz.prog w 0 bM held n 135 cs = some x) : ∃ (z : ZoneD) (v : Value), cs = [.string z.name, v] /\ Jg w v z.eras /\ z.ok := by
 obtain ⟨xs, k, _, _, hl, dk, hf⟩ := DataW.trod_struct Tryz.underlying135 h
 rw [jo8] at hl
 have cQ : xs.length = 2 := dk
 clear dk
 match xs, cQ, cs, hl with
 | [y0, y1], _, [c0, c1], _ =>
  have g0 := hf 0 _ rfl
  have g1 := hf 1 _ rfl
  simp [cS, cE] at g0 g1
  obtain ⟨s0, e0, _, m0⟩ := DataW.trod_string Tryz.underlying9 g0
  simp at e0
  subst e0
  obtain ⟨l, a, cap, rfl, hs, hl, ok⟩ := jvv g1
  exact ⟨⟨s0, l⟩, _, rfl, ⟨a, cap, rfl, hs⟩, ⟨m0, hl, ok⟩⟩
theorem jtd {n : Nat} {c : Value} {x : DataW H × List MemPlace} (h : DataW.trod enc Tryz.prog w 0 bM held n 23 [c] = some x) : ∃ (l : List ZoneD) (a : Option Addr) (cap : Nat), c = .slice a l.length cap /\ Zo w a l /\ l.length <= maxLen /\ ∀ r ∈ l, r.ok := by
 rcases open_slice Tryz.underlying23 h with ⟨hc, _⟩ | ⟨a, len, cap, m, k, D, Pl, hc, _, hl, hm, gw, _, hx⟩
 ·simp at hc; subst hc
  exact ⟨[], none, 0, rfl, .inl rfl, Nat.zero_le _, fun r hr => by simp at hr⟩
 ·simp at hc; subst hc
  have vo : len <= m := by rw [gw]; split <;> omega
  obtain ⟨l, io, hp⟩ := je8 (P := fun i (z : ZoneD) => (w.cell? (a.add (i * 2)) = some (.string z.name) /\ ∃ v, w.cell? (a.add (i * 2 + 1)) = some v /\ Jg w v z.eras) /\ z.ok) len fun i hi => by
   obtain ⟨tH, h1, h2⟩ := hx i (by omega)
   rw [jo8] at h1
   obtain ⟨_, au, aF⟩ := World.cells?_some h1
   obtain ⟨z, v, rfl, hv, ok⟩ := jvs h2
   have e0 := aF 0 (by omega)
   have e1 := aF 1 (by omega)
   rw [add_add] at e0 e1
   exact ⟨z, ⟨by simpa using e0, v, by simpa using e1, hv⟩, ok⟩
  refine ⟨l, some a, cap, by rw [io], ?_, by omega, fun r hr => by obtain ⟨i, hi⟩ := lgo hr; exact (hp i r hi).2⟩
  cases hl0 : l with
  | nil => exact .inl rfl
  | cons r0 l' =>
   obtain ⟨b, off, eC⟩ := a
   have cO : eC = none := by
    have := (hp 0 r0 (by rw [hl0]; rfl)).1.1
    simpa [Addr.add] using World.cell?_spot this
   subst cO
   rw [<- hl0]
   refine .inr ⟨b, off, rfl, fun i z hz => ?_⟩
   obtain ⟨⟨c0, v, c1, hv⟩, _⟩ := hp i z hz
   rw [add_plain] at c0 c1
   exact ⟨c0, v, by rw [show off + i * 2 + 1 = off + (i * 2 + 1) by omega]; exact c1, hv⟩
end
end
section
open Go.RowKit
def StoreD.sz (s : StoreD) : Nat := s.now.sz + s.was.sz + (s.vs.length + vsz s.vs) + s.ix.length
structure StoreD.ok (s : StoreD) : Prop where
 now : s.now.ok
 was : s.was.ok
 vl : s.vs.length <= maxLen
 vs : ∀ v ∈ s.vs, v.ok
 xl : s.ix.length <= maxLen
theorem StoreD.ok.store {s : StoreD} (h : s.ok) (hs : s.sz <= 1048576) : Zv s := by
 unfold StoreD.sz at hs
 obtain ⟨sm, dn⟩ := jnk (r := s.now) (by omega)
 obtain ⟨MR, Cw⟩ := jnk (r := s.was) (by omega)
 exact ⟨⟨h.now, sm, dn⟩, ⟨h.was, MR, Cw⟩, h.vs, by omega, by omega⟩
theorem jl5 (m : Nat) (a : Option Addr) (cap : Nat) (n : Int) (w : World) (hl : m <= maxLen) (h0 : 0 <= n) (h1 : n <= 1048576) :
  Cl 27 #[.slice a m cap, iv n] w fun e w' => e = .returned (iv (clip (n - m))) /\ Bw w w' := by
 unfold maxLen at hl
 by_cases g : n < m
 ·have HR : Hid (clip (n - m) = -1) := jal (by omega)
  go_enter Tryz.func27, Tryz.ntmps27
  go_wp2
  go_ret
  exact ⟨ret_int HR.out.symm, brf _ _⟩
 ·have HR : Hid (clip (n - m) = n - m) := ja9 (by omega)
  go_enter Tryz.func27, Tryz.ntmps27
  go_wp2
  go_ret
  exact ⟨ret_int HR.out.symm, brf _ _⟩
theorem jn3 (s : StoreD) (v : Value) (n : Int) (w : World) (hv : Je w v s) (hm : s.ok) (h0 : 0 <= n) (h1 : n <= 1048576) :
  Cl 6 #[v, iv n] w fun e w' => e = .returned (iv (clip (n - s.sz))) /\ Bw w w' := by
 obtain ⟨a, b, c, d, e, f, va, ia, ca, cb, cc, cd, ce, cf, cv, ci, rfl, hN, hW, hV, hX, _, _⟩ := hv.form
 obtain ⟨tx, now, was, cur, vs, ix⟩ := s
 obtain ⟨m1, m2, m3, m4, m5⟩ := hm
 simp only [StoreD.sz] at *
 have ag : Bw w (w.alloc (.cells #[iv tx, .slice a now.rules.length ca, .slice b now.zones.length cb, .slice c now.links.length cc, .slice d was.rules.length cd, .slice e was.zones.length ce, .slice f was.links.length cf, iv cur, .slice va vs.length cv, .slice ia ix.length ci] 30)) := qal _ _
 have q1 := fun w (h : Zd w (.agg #[.slice a now.rules.length ca, .slice b now.zones.length cb, .slice c now.links.length cc]) now) => jeu now _ n w h m1 h0 h1
 obtain ⟨x4, x5, x6, x8, x9⟩ : (fun z : World => z.cell? (ad w.heap.size 4) = some (.slice d was.rules.length cd) /\ z.cell? (ad w.heap.size 5) = some (.slice e was.zones.length ce) /\ z.cell? (ad w.heap.size 6) = some (.slice f was.links.length cf) /\ z.cell? (ad w.heap.size 8) = some (.slice va vs.length cv) /\ z.cell? (ad w.heap.size 9) = some (.slice ia ix.length ci)) (w.alloc (.cells #[iv tx, .slice a now.rules.length ca, .slice b now.zones.length cb, .slice c now.links.length cc, .slice d was.rules.length cd, .slice e was.zones.length ce, .slice f was.links.length cf, iv cur, .slice va vs.length cv, .slice ia ix.length ci] 30)) := by simp [go_sem]
 have q2 := fun n w (h : Zd w (.agg #[.slice d was.rules.length cd, .slice e was.zones.length ce, .slice f was.links.length cf]) was) => jeu was _ n w h m2
 have q3 := fun n w (h : Za w va 8 (vs.map VersionD.cs)) => jiu vs va cv n w h m4 m3
 have q4 := fun n w => jl5 ix.length ia ci n w m5
 generalize now.sz = z1 at *
 generalize was.sz = z2 at *
 generalize vsz vs = z3 at *
 have HC : Hid (∀ y : Int, y = n - z1 - z2 - (vs.length + z3) - ix.length -> clip (n - ↑(z1 + z2 + (vs.length + z3) + ix.length)) = clip y) := fun y hy => by rw [hy]; congr 1; omega
 have HM : Hid (n - z1 < 0 \/ n - z1 - z2 < 0 \/ n - z1 - z2 - (vs.length + z3) < 0 -> clip (n - ↑(z1 + z2 + (vs.length + z3) + ix.length)) = -1) := fun h => jal (by omega)
 have HN := hid hV
 have HW := hid hW
 have fZ := hN.below ag
 clear hX hV hW hN m1 m2 m4 hv
 go_enter Tryz.func6, Tryz.ntmps6
 go_wp2_with fail
 refine (q1 _ fZ).mono ?_
 rintro e w1 ⟨rfl, hb1⟩
 have aj := qtr ag hb1
 have y4 := jaa hb1 x4
 have y5 := jaa hb1 x5
 have y6 := jaa hb1 x6
 have y8 := jaa hb1 x8
 have y9 := jaa hb1 x9
 clear q1 hb1 fZ ag x4 x5 x6 x8 x9
 by_cases g1 : n - z1 < 0
 ·have HR := HM.out (.inl g1)
  rw [jal g1]
  clear HC HM
  go_wp2
  go_ret
  exact ⟨ret_int HR.symm, aj⟩
 rw [ja9 (by omega)]
 go_wp2_with fail
 refine (q2 _ _ (HW.out.below aj) (by omega) (by omega)).mono ?_
 rintro e w2 ⟨rfl, ac⟩
 have ao := qtr aj ac
 have x8 := jaa ac y8
 have x9 := jaa ac y9
 clear q2 ac aj y4 y5 y6 y8 y9
 by_cases g2 : n - z1 - z2 < 0
 ·have HR := HM.out (.inr (.inl g2))
  rw [jal g2]
  clear HC HM
  go_wp2
  go_ret
  exact ⟨ret_int HR.symm, ao⟩
 rw [ja9 (by omega)]
 go_wp2_with fail
 refine (q3 _ _ (HN.out.below ao) (by omega) (by omega)).mono ?_
 rintro e w3 ⟨rfl, av⟩
 have ay := qtr ao av
 have y9 := jaa av x9
 clear q3 av ao x8 x9
 by_cases g3 : n - z1 - z2 - (vs.length + z3) < 0
 ·have HR := HM.out (.inr (.inr g3))
  rw [jal g3]
  clear HC HM
  go_wp2
  go_ret
  exact ⟨ret_int HR.symm, ay⟩
 rw [ja9 (by omega)]
 go_wp2_with fail
 refine (q4 _ _ (by omega) (by omega)).mono ?_
 rintro e w4 ⟨rfl, aD⟩
 have aS := qtr ay aD
 have HR := HC.out _ rfl
 clear q4 aD ay y9 HC HM
 by_cases g4 : n - z1 - z2 - (vs.length + z3) - ix.length < 0
 ·rw [jal g4] at HR ⊢
  go_wp2
  go_ret
  exact ⟨ret_int HR.symm, aS⟩
 have h5 : clip (n - z1 - z2 - (vs.length + z3) - ix.length) = n - z1 - z2 - (vs.length + z3) - ix.length := ja9 (by omega)
 rw [h5] at HR ⊢
 go_wp2
 go_ret
 exact ⟨ret_int HR.symm, aS⟩
end
section
open Go.ChangeShapes Go.WideShapes Go.ChangeAt Go.RowKit Go.Deep
theorem jxy : Tryz.prog.cellsOf 4 = 1 := by kernel_rfl
section
variable {H : Type} {enc : TypeId × Value -> H} {w : World} {bM : Nat -> Bool} {held : Bool}
theorem jlb : Tryz.prog.cellsOf 94 = 6 := by kernel_rfl
theorem jth {n : Nat} {cs : List Value} {x : DataW H × List MemPlace} (h : DataW.trod enc Tryz.prog w 0 bM held n 94 cs = some x) : ∃ r : EventD, cs = r.cs /\ r.ok := by
 obtain ⟨xs, k, _, _, hl, dk, hf⟩ := DataW.trod_struct Tryz.underlying94 h
 rw [jlb] at hl
 have cQ : xs.length = 6 := dk
 clear dk
 match xs, cQ, cs, hl with
 | [y0, y1, y2, y3, y4, y5], _, [c0, c1, c2, c3, c4, c5], _ =>
  have g0 := hf 0 _ rfl
  have g1 := hf 1 _ rfl
  have g2 := hf 2 _ rfl
  have g3 := hf 3 _ rfl
  have g4 := hf 4 _ rfl
  have g5 := hf 5 _ rfl
  simp [cS, cI, jxy] at g0 g1 g2 g3 g4 g5
  obtain ⟨s0, e0, _, m0⟩ := DataW.trod_int Tryz.underlying2 g0
  obtain ⟨s1, e1, _, m1⟩ := DataW.trod_string Tryz.underlying9 g1
  obtain ⟨s2, e2, _, m2⟩ := DataW.trod_string Tryz.underlying9 g2
  obtain ⟨s3, e3, _, m3⟩ := DataW.trod_int Tryz.underlying2 g3
  obtain ⟨s4, e4, _, m4⟩ := DataW.trod_int Tryz.underlying2 g4
  obtain ⟨s5, e5, _, m5⟩ := DataW.trod_int Tryz.underlying2 g5
  simp at e0 e1 e2 e3 e4 e5
  subst e0 e1 e2 e3 e4 e5
  exact ⟨⟨s0, s1, s2, s3, s4, s5⟩, rfl, ⟨m1, m2⟩⟩
theorem jg4 : Tryz.prog.cellsOf 96 = 8 := by kernel_rfl
theorem jnn {n : Nat} {cs : List Value} {x : DataW H × List MemPlace} (h : DataW.trod enc Tryz.prog w 0 bM held n 96 cs = some x) : ∃ r : VersionD, cs = r.cs /\ r.ok := by
 obtain ⟨xs, k, _, _, hl, dk, hf⟩ := DataW.trod_struct Tryz.underlying96 h
 rw [jg4] at hl
 have cQ : xs.length = 3 := dk
 clear dk
 match xs, cQ, cs, hl with
 | [y0, y1, y2], _, [c0, c1, c2, c3, c4, c5, c6, c7], _ =>
  have g0 := hf 0 _ rfl
  have g1 := hf 1 _ rfl
  have g2 := hf 2 _ rfl
  simp [cS, cI, jxy, jlb] at g0 g1 g2
  obtain ⟨s0, e0, _, m0⟩ := DataW.trod_int Tryz.underlying2 g0
  obtain ⟨s1, e1, _⟩ := DataW.trod_bool Tryz.underlying4 g1
  obtain ⟨ev, ee, M5⟩ := jth g2
  simp at e0 e1
  subst e0 e1
  simp only [EventD.cs, List.cons.injEq, and_true] at ee
  obtain ⟨rfl, rfl, rfl, rfl, rfl, rfl⟩ := ee
  exact ⟨⟨s0, s1, ev.id, ev.name, ev.zone, ev.wall, ev.gap, ev.fold⟩, rfl, M5⟩
theorem jlc : Tryz.prog.cellsOf 108 = 2 := by kernel_rfl
theorem jti {n : Nat} {cs : List Value} {x : DataW H × List MemPlace} (h : DataW.trod enc Tryz.prog w 0 bM held n 108 cs = some x) : ∃ r : EntryD, cs = r.cs := by
 obtain ⟨xs, k, _, _, hl, dk, hf⟩ := DataW.trod_struct Tryz.underlying108 h
 rw [jlc] at hl
 have cQ : xs.length = 2 := dk
 clear dk
 match xs, cQ, cs, hl with
 | [y0, y1], _, [c0, c1], _ =>
  have g0 := hf 0 _ rfl
  have g1 := hf 1 _ rfl
  simp [cS, cI, jxy] at g0 g1
  obtain ⟨s0, e0, _, m0⟩ := DataW.trod_int Tryz.underlying2 g0
  obtain ⟨s1, e1, _, m1⟩ := DataW.trod_int Tryz.underlying2 g1
  simp at e0 e1
  subst e0 e1
  exact ⟨⟨s0, s1⟩, rfl⟩
theorem jly {n : Nat} {c : Value} {x : DataW H × List MemPlace} (h : DataW.trod enc Tryz.prog w 0 bM held n 27 [c] = some x) : ∃ (l : List VersionD) (a : Option Addr) (cap : Nat), c = .slice a l.length cap /\ Za w a 8 (l.map VersionD.cs) /\ l.length <= maxLen /\ l.length <= cap /\ ∀ r ∈ l, r.ok := by
 rcases open_slice Tryz.underlying27 h with ⟨hc, _⟩ | ⟨a, len, cap, m, k, D, Pl, hc, _, hl, hm, gw, _, hx⟩
 ·simp at hc; subst hc
  exact ⟨[], none, 0, rfl, .inl rfl, Nat.zero_le _, Nat.zero_le _, fun r hr => by simp at hr⟩
 ·simp at hc; subst hc
  have vo : len <= m := by rw [gw]; split <;> omega
  obtain ⟨l, io, hp⟩ := je8 (P := fun i (r : VersionD) => (∀ j v, r.cs[j]? = some v -> w.cell? (a.add (i * 8 + j)) = some v) /\ r.ok) len fun i hi => by
   obtain ⟨tH, h1, h2⟩ := hx i (by omega)
   rw [jg4] at h1
   obtain ⟨_, au, aF⟩ := World.cells?_some h1
   obtain ⟨r, rfl, ok⟩ := jnn h2
   refine ⟨r, fun j v hj => ?_, ok⟩
   have := aF j (by have := (lgs hj).1; omega)
   rw [add_add] at this
   rw [this, hj]
  refine ⟨l, some a, cap, by rw [io], ?_, by omega, by omega, fun r hr => by obtain ⟨i, hi⟩ := lgo hr; exact (hp i r hi).2⟩
  cases hl0 : l with
  | nil => exact .inl rfl
  | cons r0 l' =>
   obtain ⟨b, off, eC⟩ := a
   have cO : eC = none := by
    have := (hp 0 r0 (by rw [hl0]; rfl)).1 0 _ rfl
    simpa [Addr.add] using World.cell?_spot this
   subst cO
   rw [<- hl0]
   refine .inr ⟨b, off, rfl, fun i j row v hi hj => ?_⟩
   rw [lgm] at hi
   obtain ⟨r, hr, rfl⟩ := Option.map_eq_some_iff.mp hi
   have := (hp i r hr).1 j v hj
   rw [add_plain] at this
   rw [show off + i * 8 + j = off + (i * 8 + j) by omega]
   exact this
theorem jpx {n : Nat} {c : Value} {x : DataW H × List MemPlace} (h : DataW.trod enc Tryz.prog w 0 bM held n 28 [c] = some x) : ∃ (l : List EntryD) (a : Option Addr) (cap : Nat), c = .slice a l.length cap /\ Za w a 2 (l.map EntryD.cs) /\ l.length <= maxLen /\ l.length <= cap := by
 rcases open_slice Tryz.underlying28 h with ⟨hc, _⟩ | ⟨a, len, cap, m, k, D, Pl, hc, _, hl, hm, gw, _, hx⟩
 ·simp at hc; subst hc
  exact ⟨[], none, 0, rfl, .inl rfl, Nat.zero_le _, Nat.zero_le _⟩
 ·simp at hc; subst hc
  have vo : len <= m := by rw [gw]; split <;> omega
  obtain ⟨l, io, hp⟩ := je8 (P := fun i (r : EntryD) => (∀ j v, r.cs[j]? = some v -> w.cell? (a.add (i * 2 + j)) = some v) /\ True) len fun i hi => by
   obtain ⟨tH, h1, h2⟩ := hx i (by omega)
   rw [jlc] at h1
   obtain ⟨_, au, aF⟩ := World.cells?_some h1
   obtain ⟨r, rfl⟩ := jti h2
   refine ⟨r, fun j v hj => ?_, trivial⟩
   have := aF j (by have := (lgs hj).1; omega)
   rw [add_add] at this
   rw [this, hj]
  refine ⟨l, some a, cap, by rw [io], ?_, by omega, by omega⟩
  cases hl0 : l with
  | nil => exact .inl rfl
  | cons r0 l' =>
   obtain ⟨b, off, eC⟩ := a
   have cO : eC = none := by
    have := (hp 0 r0 (by rw [hl0]; rfl)).1 0 _ rfl
    simpa [Addr.add] using World.cell?_spot this
   subst cO
   rw [<- hl0]
   refine .inr ⟨b, off, rfl, fun i j row v hi hj => ?_⟩
   rw [lgm] at hi
   obtain ⟨r, hr, rfl⟩ := Option.map_eq_some_iff.mp hi
   have := (hp i r hr).1 j v hj
   rw [add_plain] at this
   rw [show off + i * 2 + j = off + (i * 2 + j) by omega]
   exact this
theorem cRuS : Tryz.prog.cellsOf 22 = 1 := by kernel_rfl
theorem cZoS : Tryz.prog.cellsOf 23 = 1 := by kernel_rfl
theorem cLiS : Tryz.prog.cellsOf 24 = 1 := by kernel_rfl
theorem cVeS : Tryz.prog.cellsOf 27 = 1 := by kernel_rfl
theorem cEnS : Tryz.prog.cellsOf 28 = 1 := by kernel_rfl
theorem cellsRel3 : Tryz.prog.cellsOf 26 = 3 := by kernel_rfl
theorem jno {n : Nat} {cs : List Value} {x : DataW H × List MemPlace} (h : DataW.trod enc Tryz.prog w 0 bM held n 26 cs = some x) : ∃ (r : RelD) (a b c : Option Addr) (ca cb cc : Nat), cs = [.slice a r.rules.length ca, .slice b r.zones.length cb, .slice c r.links.length cc] /\ Zd w (.agg #[.slice a r.rules.length ca, .slice b r.zones.length cb, .slice c r.links.length cc]) r /\ r.ok := by
 obtain ⟨xs, k, _, _, hl, dk, hf⟩ := DataW.trod_struct Tryz.underlying26 h
 rw [cellsRel3] at hl
 have cQ : xs.length = 3 := dk
 clear dk
 match xs, cQ, cs, hl with
 | [y0, y1, y2], _, [c0, c1, c2], _ =>
  have g0 := hf 0 _ rfl
  have g1 := hf 1 _ rfl
  have g2 := hf 2 _ rfl
  simp [cS, cI, jxy, cRuS, cZoS, cLiS] at g0 g1 g2
  obtain ⟨l0, a0, k0, rfl, s0, m0, M4⟩ := jtf g0
  obtain ⟨l1, a1, k1, rfl, s1, m1, Di⟩ := jtd g1
  obtain ⟨l2, a2, k2, rfl, s2, m2, kU⟩ := jtg g2
  exact ⟨⟨l0, l1, l2⟩, a0, a1, a2, k0, k1, k2, rfl, ⟨_, _, _, _, _, _, rfl, s0, s1, s2⟩, ⟨m0, M4⟩, ⟨m1, Di⟩, ⟨m2, kU⟩⟩
theorem jud : Tryz.prog.cellsOf 30 = 10 := by kernel_rfl
theorem jte {n : Nat} {cs : List Value} {x : DataW H × List MemPlace} (h : DataW.trod enc Tryz.prog w 0 bM held n 30 cs = some x) : ∃ s : StoreD, Je w (.agg cs.toArray) s /\ s.ok := by
 obtain ⟨xs, k, _, _, hl, dk, hf⟩ := DataW.trod_struct Tryz.underlying30 h
 rw [jud] at hl
 have cQ : xs.length = 6 := dk
 clear dk
 match xs, cQ, cs, hl with
 | [y0, y1, y2, y3, y4, y5], _, [c0, c1, c2, c3, c4, c5, c6, c7, c8, c9], _ =>
  have g0 := hf 0 _ rfl
  have g1 := hf 1 _ rfl
  have g2 := hf 2 _ rfl
  have g3 := hf 3 _ rfl
  have g4 := hf 4 _ rfl
  have g5 := hf 5 _ rfl
  simp [cS, cI, jxy, cellsRel3, cVeS, cEnS] at g0 g1 g2 g3 g4 g5
  obtain ⟨s0, e0, _, m0⟩ := DataW.trod_int Tryz.underlying2 g0
  obtain ⟨r1, a, b, c, ca, cb, cc, e1, h1, Di⟩ := jno g1
  obtain ⟨r2, d, e, f, cd, ce, cf, e2, h2, kU⟩ := jno g2
  obtain ⟨s3, e3, _, m3⟩ := DataW.trod_int Tryz.underlying2 g3
  obtain ⟨vs, va, cv, rfl, sv, mv, J4, M6⟩ := jly g4
  obtain ⟨ix, ia, ci, rfl, sx, mx, J5⟩ := jpx g5
  simp at e0 e3
  subst e0 e3
  simp only [List.cons.injEq, and_true] at e1 e2
  obtain ⟨rfl, rfl, rfl⟩ := e1
  obtain ⟨rfl, rfl, rfl⟩ := e2
  exact ⟨⟨s0, r1, r2, s3, vs, ix⟩, ⟨a, b, c, d, e, f, va, ia, ca, cb, cc, cd, ce, cf, cv, ci, rfl, h1, h2, sv, sx, J4, J5⟩, ⟨Di, kU, mv, M6, mx⟩⟩
end
theorem jtc {H : Type} {enc : TypeId × Value -> H} {W : World} {base : Nat} {v : Value} {d : DataW H} {p : List MemPlace}
  (hv : Value.okWide Tryz.prog W .any base 30 v) (h : DataW.Trod enc Tryz.prog W 0 (fun _ => true) true 30 v d p) : ∃ s : StoreD, Je W v s /\ s.ok := by
 obtain ⟨cs, rfl, _⟩ := okWide_struct Tryz.underlying30 hv
 obtain ⟨pu, hf⟩ := h
 obtain ⟨s, h1, h2⟩ := jte (cs := cs.toList) (by simpa [Value.cells] using hf)
 exact ⟨s, by simpa using h1, h2⟩
end
section
open Go.RowKit
theorem Zr.from {w w' : World} {B B2 : Nat} {v : Value} {r : RelD} (h : Zr w B v r) (hf : Jj B2 w w') (hb : B2 <= B) : Zr w' B v r := by
 obtain ⟨a, b, c, hv, ⟨h1, h2, h3⟩, ⟨k1, k2⟩, ⟨k3, k4⟩, ⟨k5, k6⟩⟩ := h.form
 exact ⟨a, b, c, hv, ⟨h1, h2, h3⟩, ⟨k1.from hf (by omega), k2.from hf (by omega)⟩, ⟨k3.from hf (by omega), k4.from hf (by omega)⟩, ⟨k5.from hf (by omega), k6.from hf (by omega)⟩⟩
theorem Zr.mono {w : World} {B B2 : Nat} {v : Value} {r : RelD} (h : Zr w B v r) (hb : B2 <= B) : Zr w B2 v r := by
 obtain ⟨a, b, c, hv, ⟨h1, h2, h3⟩, k⟩ := h.form
 exact ⟨a, b, c, hv, ⟨by omega, by omega, by omega⟩, k⟩
theorem Ja.from {w w' : World} {g U B : Nat} {zs : List ZoneD} (h : Ja w g U zs) (hf : Jj B w w') (hb : B <= g) : Ja w' g U zs := fun i z hz => by
 obtain ⟨q, hq, hu, c1, hr⟩ := h i z hz
 exact ⟨q, hq, hu, (hf g _ hb).1.trans c1, hr.from hf (by omega)⟩
theorem Zp.below {w w' : World} {B U : Nat} {v : Value} {r : RelD} (h : Zp w B U v r) (hb : Bw w w') : Zp w' B U v r := by
 obtain ⟨a, b, c, hv, hB, hU, gj, h1, h2, h3, h4⟩ := h.form
 exact ⟨a, b, c, hv, hB, hU, gj, h1.below hb, h2.below hb, h3.below hb, h4.below hb⟩
theorem Zp.from {w w' : World} {B B2 U : Nat} {v : Value} {r : RelD} (h : Zp w B U v r) (hf : Jj B2 w w') (hb : B2 <= B) : Zp w' B U v r := by
 obtain ⟨a, b, c, hv, hB, hU, gj, h1, h2, h3, h4⟩ := h.form
 exact ⟨a, b, c, hv, hB, hU, gj, h1.from hf (by omega), h2.from hf (by omega), h3.from hf (by omega), h4.from hf (by omega)⟩
theorem Zp.mono {w : World} {B B2 U : Nat} {v : Value} {r : RelD} (h : Zp w B U v r) (hb : B2 <= B) : Zp w B2 U v r := by
 obtain ⟨a, b, c, hv, ⟨h1, h2, h3⟩, k⟩ := h.form
 exact ⟨a, b, c, hv, ⟨by omega, by omega, by omega⟩, k⟩
structure OwnRB (w : World) (B M : Nat) (v : Value) (r : RelD) : Prop where
 own : Zr w B v r
 upto : Zp w B M v r
theorem Zr.bnd {w : World} {B : Nat} {v : Value} {r : RelD} (h : Zr w B v r) : ∃ M, OwnRB w B M v r /\ M <= w.heap.size := ⟨_, ⟨h, h.upto (brf _ _)⟩, nlr _⟩
theorem OwnRB.below {w w' : World} {B M : Nat} {v : Value} {r : RelD} (h : OwnRB w B M v r) (hb : Bw w w') : OwnRB w' B M v r := ⟨h.own.below hb, h.upto.below hb⟩
theorem OwnRB.from {w w' : World} {B B2 M : Nat} {v : Value} {r : RelD} (h : OwnRB w B M v r) (hf : Jj B2 w w') (hb : B2 <= B) : OwnRB w' B M v r := ⟨h.own.from hf hb, h.upto.from hf hb⟩
structure OwnSt (w : World) (B : Nat) (v : Value) (s : StoreD) : Prop where
 form : ∃ a b c d e f va ia, v = .agg #[iv s.tx, so a s.now.rules.length s.now.rules.length, so b s.now.zones.length s.now.zones.length, so c s.now.links.length s.now.links.length, so d s.was.rules.length s.was.rules.length, so e s.was.zones.length s.was.zones.length, so f s.was.links.length s.was.links.length, iv s.cur, so va s.vs.length s.vs.length, so ia s.ix.length s.ix.length] /\ Zr w B (.agg #[so a s.now.rules.length s.now.rules.length, so b s.now.zones.length s.now.zones.length, so c s.now.links.length s.now.links.length]) s.now /\ Zr w B (.agg #[so d s.was.rules.length s.was.rules.length, so e s.was.zones.length s.was.zones.length, so f s.was.links.length s.was.links.length]) s.was /\ (B <= va /\ Za w (some (ad va 0)) 8 (s.vs.map VersionD.cs) /\ Zf w va (s.vs.length * 8)) /\ (B <= ia /\ Za w (some (ad ia 0)) 2 (s.ix.map EntryD.cs) /\ Zf w ia (s.ix.length * 2)) /\ ∃ M, Zp w B M (.agg #[so a s.now.rules.length s.now.rules.length, so b s.now.zones.length s.now.zones.length, so c s.now.links.length s.now.links.length]) s.now /\ M <= d /\ M <= e /\ M <= f
theorem OwnSt.st {w : World} {B : Nat} {v : Value} {s : StoreD} (h : OwnSt w B v s) : Je w v s := by
 obtain ⟨a, b, c, d, e, f, va, ia, hv, h1, h2, ⟨_, h3, _⟩, ⟨_, h4, _⟩, _⟩ := h.form
 exact ⟨some (ad a 0), some (ad b 0), some (ad c 0), some (ad d 0), some (ad e 0), some (ad f 0), some (ad va 0), some (ad ia 0), _, _, _, _, _, _, _, _, hv, h1.rel, h2.rel, h3, h4, nlr _, nlr _⟩
abbrev stA (s : StoreD) (a b c d e f va ia : Option Addr) (ca cb cc cd ce cf cv ci : Nat) : List Value := [iv s.tx, .slice a s.now.rules.length ca, .slice b s.now.zones.length cb, .slice c s.now.links.length cc, .slice d s.was.rules.length cd, .slice e s.was.zones.length ce, .slice f s.was.links.length cf, iv s.cur, .slice va s.vs.length cv, .slice ia s.ix.length ci]
def Ze (w : World) (b : Nat) (l : List Value) : Prop := ∀ (i : Nat) u, l[i]? = some u -> w.cell? (ad b i) = some u /\ w.frozen? (ad b i) = false
theorem Ze.below {w w' : World} {b : Nat} {l : List Value} (h : Ze w b l) (hb : Bw w w') : Ze w' b l := fun i u hu => by
 obtain ⟨h1, h2⟩ := h i u hu
 exact ⟨jaa hb h1, (qfz hb h1 h2)⟩
theorem Ze.set {w : World} {b j : Nat} {l : List Value} (h : Ze w b l) (v : Value) : Ze (w.setCell (ad b j) v) b (l.set j v) := fun i u hu => by
 rw [List.getElem?_set] at hu
 split at hu
 ·rename_i e
  subst e
  split at hu
  ·rename_i hl
   obtain rfl := osi hu
   obtain ⟨x, hx⟩ := qgg hl
   obtain ⟨h1, h2⟩ := h j x hx
   exact ⟨wcs _ _ _ h1, by rw [World.frozen?_setCell]; exact h2⟩
  ·cases hu
 ·rename_i e
  obtain ⟨h1, h2⟩ := h i u hu
  exact ⟨by rw [wco _ _ _ _ (by intro h; injection h with _ h; exact e h)]; exact h1, by rw [World.frozen?_setCell]; exact h2⟩
theorem Ze.other {w : World} {b b2 j : Nat} {l : List Value} (h : Ze w b l) (az : b ≠ b2) (v : Value) : Ze (w.setCell (ad b2 j) v) b l := fun i u hu => by
 obtain ⟨h1, h2⟩ := h i u hu
 exact ⟨by rw [wco _ _ _ _ (jcy (Ne.symm az))]; exact h1, by rw [World.frozen?_setCell]; exact h2⟩
theorem Ze.new (w : World) (l : List Value) (t : TypeId) : Ze (w.alloc (.cells l.toArray t)) w.heap.size l := fun i u hu => by
 have h := jag w l t i u hu
 rw [addP, Nat.zero_add] at h
 have hh := heap_alloc_new w (.cells l.toArray t)
 exact ⟨h, by unfold World.frozen?; rw [hh]; simp⟩
theorem bst {n : Nat} {w w2 : World} (g i : Nat) (v : Value) (hg : n <= g) (h : Below n w w2) : Below n w (w2.setCell (ad g i) v) := h.setCell hg v
theorem szs {w : World} {n : Nat} (a : Addr) (v : Value) (h : n <= w.heap.size) : n <= (w.setCell a v).heap.size := by rw [World.size_setCell]; exact h
theorem Ze.c {w : World} {b : Nat} {l : List Value} (h : Ze w b l) (i : Nat) {u : Value} (hu : l[i]? = some u) : w.cell? (ad b i) = some u := (h i u hu).1
theorem Ze.ten {w : World} {b : Nat} {p0 p1 p2 p3 p4 p5 p6 p7 p8 p9 : Value} {l : List Value} (h : Ze w b (p0 :: p1 :: p2 :: p3 :: p4 :: p5 :: p6 :: p7 :: p8 :: p9 :: l)) : w.cell? (ad b 0) = some p0 /\ w.cell? (ad b 1) = some p1 /\ w.cell? (ad b 2) = some p2 /\ w.cell? (ad b 3) = some p3 /\ w.cell? (ad b 4) = some p4 /\ w.cell? (ad b 5) = some p5 /\ w.cell? (ad b 6) = some p6 /\ w.cell? (ad b 7) = some p7 /\ w.cell? (ad b 8) = some p8 /\ w.cell? (ad b 9) = some p9 := ⟨h.c 0 rfl, h.c 1 rfl, h.c 2 rfl, h.c 3 rfl, h.c 4 rfl, h.c 5 rfl, h.c 6 rfl, h.c 7 rfl, h.c 8 rfl, h.c 9 rfl⟩
theorem Ze.f {w : World} {b : Nat} {l : List Value} (h : Ze w b l) (i : Nat) {u : Value} (hu : l[i]? = some u) : w.frozen? (ad b i) = false := (h i u hu).2
end
section
open Go.RowKit
theorem jn8 (s : StoreD) (v v2 : Value) (w : World) (hv : Je w v s) (eu : Je w v2 s) (hm : Zv s) :
  Cl 11 #[v, v2] w fun e w' => e = .returned (.bool true) /\ Bw w w' := by
 obtain ⟨a, b, c, d, e, f, va, ia, ca, cb, cc, cd, ce, cf, cv, ci, rfl, hN, hW, hV, hX, _, _⟩ := hv.form
 obtain ⟨a2, b2, c2, d2, e2, f2, rH, qS, fN, nR, nT, rW, rX, rY, sc, rZ, rfl, pU, su, G5, BP, _, _⟩ := eu.form
 obtain ⟨tx, now, was, cur, vs, ix⟩ := s
 obtain ⟨m1, m2, m3, m4, m5⟩ := hm
 simp only at *
 have ag : Bw w ((w.alloc (.cells (stA ⟨tx, now, was, cur, vs, ix⟩ a b c d e f va ia ca cb cc cd ce cf cv ci).toArray 42)).alloc (.cells (stA ⟨tx, now, was, cur, vs, ix⟩ a2 b2 c2 d2 e2 f2 rH qS fN nR nT rW rX rY sc rZ).toArray 42)) := (qal _ _).alloc (by simp) _
 have A0 : Ze ((w.alloc (.cells (stA ⟨tx, now, was, cur, vs, ix⟩ a b c d e f va ia ca cb cc cd ce cf cv ci).toArray 42)).alloc (.cells (stA ⟨tx, now, was, cur, vs, ix⟩ a2 b2 c2 d2 e2 f2 rH qS fN nR nT rW rX rY sc rZ).toArray 42)) w.heap.size (stA ⟨tx, now, was, cur, vs, ix⟩ a b c d e f va ia ca cb cc cd ce cf cv ci) := (Ze.new w (stA ⟨tx, now, was, cur, vs, ix⟩ a b c d e f va ia ca cb cc cd ce cf cv ci) 42).below (qal _ _)
 have B0 : Ze ((w.alloc (.cells (stA ⟨tx, now, was, cur, vs, ix⟩ a b c d e f va ia ca cb cc cd ce cf cv ci).toArray 42)).alloc (.cells (stA ⟨tx, now, was, cur, vs, ix⟩ a2 b2 c2 d2 e2 f2 rH qS fN nR nT rW rX rY sc rZ).toArray 42)) (w.heap.size + 1) (stA ⟨tx, now, was, cur, vs, ix⟩ a2 b2 c2 d2 e2 f2 rH qS fN nR nT rW rX rY sc rZ) := by have h := Ze.new (w.alloc (.cells (stA ⟨tx, now, was, cur, vs, ix⟩ a b c d e f va ia ca cb cc cd ce cf cv ci).toArray 42)) (stA ⟨tx, now, was, cur, vs, ix⟩ a2 b2 c2 d2 e2 f2 rH qS fN nR nT rW rX rY sc rZ) 42; simpa using h
 have q1 := fun w (h : Zd w (.agg #[.slice a now.rules.length ca, .slice b now.zones.length cb, .slice c now.links.length cc]) now) (h2 : Zd w (.agg #[.slice a2 now.rules.length fN, .slice b2 now.zones.length nR, .slice c2 now.links.length nT]) now) => jev now _ _ w h h2 m1.sm
 have q2 := fun w (h : Zd w (.agg #[.slice d was.rules.length cd, .slice e was.zones.length ce, .slice f was.links.length cf]) was) (h2 : Zd w (.agg #[.slice d2 was.rules.length rW, .slice e2 was.zones.length rX, .slice f2 was.links.length rY]) was) => jev was _ _ w h h2 m2.sm
 have q3 := fun w (h : Za w va 8 (vs.map VersionD.cs)) (h2 : Za w rH 8 (vs.map VersionD.cs)) => jiz vs va rH cv sc w h h2 m4
 have q4 := fun w (h : Za w ia 2 (ix.map EntryD.cs)) (h2 : Za w qS 2 (ix.map EntryD.cs)) => jl8 ix ia qS ci rZ w h h2 m5
 have HN := hid hN
 have HW := hid hW
 have HV := hid hV
 have HX := hid hX
 have gS := hid pU
 have IJ := hid su
 have II := hid G5
 have yW := hid BP
 clear hN hW hV hX pU su G5 BP hv eu m1 m2 m3 m4 m5
 have NC := A0.c 0 rfl
 have ND := A0.c 1 rfl
 have NE := A0.c 2 rfl
 have NF := A0.c 3 rfl
 have NN := B0.c 0 rfl
 have NO := B0.c 1 rfl
 have NP := B0.c 2 rfl
 have NQ := B0.c 3 rfl
 go_enter Tryz.func11, Tryz.ntmps11
 go_wp2_with fail
 refine (q1 _ (HN.out.below ag) (gS.out.below ag)).mono ?_
 rintro e w1 ⟨rfl, hb1⟩
 have aj := qtr ag hb1
 have A1 := A0.below hb1
 have B1 := B0.below hb1
 clear NC ND NE NF
 clear NN NO NP NQ
 clear A0 B0 ag hb1 q1
 have NG := A1.c 4 rfl
 have NH := A1.c 5 rfl
 have NI := A1.c 6 rfl
 have NR := B1.c 4 rfl
 have NS := B1.c 5 rfl
 have NT := B1.c 6 rfl
 go_wp2_with fail
 refine (q2 _ (HW.out.below aj) (IJ.out.below aj)).mono ?_
 rintro e w2 ⟨rfl, ac⟩
 have ao := qtr aj ac
 have A2 := A1.below ac
 have B2 := B1.below ac
 clear NG NH NI
 clear NR NS NT
 clear A1 B1 aj ac q2
 have NJ := A2.c 7 rfl
 have NK := A2.c 8 rfl
 have NU := B2.c 7 rfl
 have NV := B2.c 8 rfl
 go_wp2_with fail
 refine (q3 _ (HV.out.below ao) (II.out.below ao)).mono ?_
 rintro e w3 ⟨rfl, av⟩
 have ay := qtr ao av
 have A3 := A2.below av
 have B3 := B2.below av
 clear NJ NK
 clear NU NV
 clear A2 B2 ao av q3
 have NM := A3.c 9 rfl
 have NW := B3.c 9 rfl
 go_wp2_with fail
 refine (q4 _ (HX.out.below ay) (yW.out.below ay)).mono ?_
 rintro e w4 ⟨rfl, aD⟩
 have aS := qtr ay aD
 clear A3 B3 ay aD q4 NM NW
 go_wp2
 go_ret
 exact ⟨rfl, aS⟩
end
section
open Go.RowKit
theorem jnx (s : StoreD) (v : Value) (w : World) (hv : Je w v s) (hm : Zv s) :
  Cl 8 #[v] w fun e w' => ∃ v', e = .returned v' /\ OwnSt w' w.heap.size v' s /\ Bw w w' := by
 obtain ⟨a, b, c, d, e, f, va, ia, ca, cb, cc, cd, ce, cf, cv, ci, rfl, hN, hW, hV, hX, _, _⟩ := hv.form
 obtain ⟨tx, now, was, cur, vs, ix⟩ := s
 obtain ⟨m1, m2, m3, m4, m5⟩ := hm
 simp only at *
 have ag : Bw w (((w.alloc (.cells (stA ⟨tx, now, was, cur, vs, ix⟩ a b c d e f va ia ca cb cc cd ce cf cv ci).toArray 30)).alloc (.cells #[iv 0, nS, nS, nS, nS, nS, nS, iv 0, nS, nS] 42)).alloc (.cells #[iv tx, nS, nS, nS, nS, nS, nS, iv 0, nS, nS] 42)) := jc1 _ _ _ _
 have aH : (((w.alloc (.cells (stA ⟨tx, now, was, cur, vs, ix⟩ a b c d e f va ia ca cb cc cd ce cf cv ci).toArray 30)).alloc (.cells #[iv 0, nS, nS, nS, nS, nS, nS, iv 0, nS, nS] 42)).alloc (.cells #[iv tx, nS, nS, nS, nS, nS, nS, iv 0, nS, nS] 42)).heap.size = w.heap.size + 1 + 1 + 1 := by simp
 have A0 : Ze (((w.alloc (.cells (stA ⟨tx, now, was, cur, vs, ix⟩ a b c d e f va ia ca cb cc cd ce cf cv ci).toArray 30)).alloc (.cells #[iv 0, nS, nS, nS, nS, nS, nS, iv 0, nS, nS] 42)).alloc (.cells #[iv tx, nS, nS, nS, nS, nS, nS, iv 0, nS, nS] 42)) w.heap.size (stA ⟨tx, now, was, cur, vs, ix⟩ a b c d e f va ia ca cb cc cd ce cf cv ci) := (((Ze.new w (stA ⟨tx, now, was, cur, vs, ix⟩ a b c d e f va ia ca cb cc cd ce cf cv ci) 30).below (qal _ _))).below (qal _ _)
 have R0 : Ze (((w.alloc (.cells (stA ⟨tx, now, was, cur, vs, ix⟩ a b c d e f va ia ca cb cc cd ce cf cv ci).toArray 30)).alloc (.cells #[iv 0, nS, nS, nS, nS, nS, nS, iv 0, nS, nS] 42)).alloc (.cells #[iv tx, nS, nS, nS, nS, nS, nS, iv 0, nS, nS] 42)) (w.heap.size + 1) [iv 0, nS, nS, nS, nS, nS, nS, iv 0, nS, nS] := by have h := (Ze.new (w.alloc (.cells (stA ⟨tx, now, was, cur, vs, ix⟩ a b c d e f va ia ca cb cc cd ce cf cv ci).toArray 30)) [iv 0, nS, nS, nS, nS, nS, nS, iv 0, nS, nS] 42).below (qal _ (.cells #[iv tx, nS, nS, nS, nS, nS, nS, iv 0, nS, nS] 42)); simpa using h
 have O0 : Ze (((w.alloc (.cells (stA ⟨tx, now, was, cur, vs, ix⟩ a b c d e f va ia ca cb cc cd ce cf cv ci).toArray 30)).alloc (.cells #[iv 0, nS, nS, nS, nS, nS, nS, iv 0, nS, nS] 42)).alloc (.cells #[iv tx, nS, nS, nS, nS, nS, nS, iv 0, nS, nS] 42)) (w.heap.size + 1 + 1) [iv tx, nS, nS, nS, nS, nS, nS, iv 0, nS, nS] := by have h := Ze.new ((w.alloc (.cells (stA ⟨tx, now, was, cur, vs, ix⟩ a b c d e f va ia ca cb cc cd ce cf cv ci).toArray 30)).alloc (.cells #[iv 0, nS, nS, nS, nS, nS, nS, iv 0, nS, nS] 42)) [iv tx, nS, nS, nS, nS, nS, nS, iv 0, nS, nS] 42; simpa using h
 have q1 := fun w (h : Zd w (.agg #[.slice a now.rules.length ca, .slice b now.zones.length cb, .slice c now.links.length cc]) now) => jet now _ w h m1.sm
 have q2 := fun w (h : Zd w (.agg #[.slice d was.rules.length cd, .slice e was.zones.length ce, .slice f was.links.length cf]) was) => jet was _ w h m2.sm
 have q3 := fun w (h : Za w va 8 (vs.map VersionD.cs)) => jit vs va cv w h m4
 have q4 := fun w (h : Za w ia 2 (ix.map EntryD.cs)) => jl4 ix ia ci w h m5
 clear m1 m2 m3 hv
 have HN := hid hN
 have HW := hid hW
 have HV := hid hV
 have HX := hid hX
 clear hN hW hV hX
 go_enter Tryz.func8, Tryz.ntmps8
 have dK : w.heap.size + 1 + 1 + 1 <= (((w.alloc (.cells (stA ⟨tx, now, was, cur, vs, ix⟩ a b c d e f va ia ca cb cc cd ce cf cv ci).toArray 30)).alloc (.cells #[iv 0, nS, nS, nS, nS, nS, nS, iv 0, nS, nS] 42)).alloc (.cells #[iv tx, nS, nS, nS, nS, nS, nS, iv 0, nS, nS] 42)).heap.size := by rw [aH]; omega
 go_wp2_with fail
 generalize (((w.alloc (.cells (stA ⟨tx, now, was, cur, vs, ix⟩ a b c d e f va ia ca cb cc cd ce cf cv ci).toArray 30)).alloc (.cells #[iv 0, nS, nS, nS, nS, nS, nS, iv 0, nS, nS] 42)).alloc (.cells #[iv tx, nS, nS, nS, nS, nS, nS, iv 0, nS, nS] 42)) = wB at *
 clear aH
 refine (q1 _ (HN.out.below ag)).mono ?_
 rintro e w1 ⟨v1, rfl, aT, aX⟩
 obtain ⟨ga, gb, gc, dC, _⟩ := aT.form
 subst dC
 have aT := aT.mono dK
 obtain ⟨M, aT, hM⟩ := aT.bnd
 have aj := qtr ag aX
 have A1 := A0.below aX
 have R1 := R0.below aX
 have O1 := O0.below aX
 have cH : w.heap.size + 1 + 1 + 1 <= w1.heap.size := by have := aX.size; omega
 clear A0 R0 O0 ag dK aX
 have a4 := A1.c 4 rfl
 have a5 := A1.c 5 rfl
 have a6 := A1.c 6 rfl
 have o1 := O1.c 1 rfl
 have LU := O1.f 1 rfl
 have o2 := O1.c 2 rfl
 have LV := O1.f 2 rfl
 have o3 := O1.c 3 rfl
 have LW := O1.f 3 rfl
 go_wp2_with fail
 clear a4 a5 a6 o1 LU o2 LV o3 LW
 have O2 := (((O1.set (j := 1) (so ga now.rules.length now.rules.length)).set (j := 2) (so gb now.zones.length now.zones.length)).set (j := 3) (so gc now.links.length now.links.length))
 have A2 := (((A1.other (b2 := w.heap.size + 1 + 1) (j := 1) (by omega) (so ga now.rules.length now.rules.length)).other (b2 := w.heap.size + 1 + 1) (j := 2) (by omega) (so gb now.zones.length now.zones.length)).other (b2 := w.heap.size + 1 + 1) (j := 3) (by omega) (so gc now.links.length now.links.length))
 have R2 := (((R1.other (b2 := w.heap.size + 1 + 1) (j := 1) (by omega) (so ga now.rules.length now.rules.length)).other (b2 := w.heap.size + 1 + 1) (j := 2) (by omega) (so gb now.zones.length now.zones.length)).other (b2 := w.heap.size + 1 + 1) (j := 3) (by omega) (so gc now.links.length now.links.length))
 have ao := (bst (w.heap.size + 1 + 1) 3 (so gc now.links.length now.links.length) (by omega) (bst (w.heap.size + 1 + 1) 2 (so gb now.zones.length now.zones.length) (by omega) (bst (w.heap.size + 1 + 1) 1 (so ga now.rules.length now.rules.length) (by omega) aj)))
 have et := (szs (ad (w.heap.size + 1 + 1) 3) (so gc now.links.length now.links.length) (szs (ad (w.heap.size + 1 + 1) 2) (so gb now.zones.length now.zones.length) (szs (ad (w.heap.size + 1 + 1) 1) (so ga now.rules.length now.rules.length) cH)))
 have Kj := (szs (ad (w.heap.size + 1 + 1) 3) (so gc now.links.length now.links.length) (szs (ad (w.heap.size + 1 + 1) 2) (so gb now.zones.length now.zones.length) (szs (ad (w.heap.size + 1 + 1) 1) (so ga now.rules.length now.rules.length) hM)))
 have F2 := ((((Jj.refl (w.heap.size + 1 + 1 + 1) w1).set (p := w.heap.size + 1 + 1) (i := 1) (by omega) (so ga now.rules.length now.rules.length)).set (p := w.heap.size + 1 + 1) (i := 2) (by omega) (so gb now.zones.length now.zones.length)).set (p := w.heap.size + 1 + 1) (i := 3) (by omega) (so gc now.links.length now.links.length))
 have bI := aT.from F2 (nlr _)
 clear A1 R1 O1 aj cH F2 aT
 have aT := bI
 clear bI
 generalize (((w1.setCell (ad (w.heap.size + 1 + 1) 1) (so ga now.rules.length now.rules.length)).setCell (ad (w.heap.size + 1 + 1) 2) (so gb now.zones.length now.zones.length)).setCell (ad (w.heap.size + 1 + 1) 3) (so gc now.links.length now.links.length)) = wC at *
 refine (q2 _ (HW.out.below ao)).mono ?_
 rintro e w2 ⟨v2, rfl, cg, ac⟩
 obtain ⟨gd, ge, gf, eu, bU, _⟩ := cg.form
 subst eu
 have K2 : M <= gd /\ M <= ge /\ M <= gf := by omega
 clear hM Kj bU
 have cg := cg.mono et
 have ay := qtr ao ac
 have A3 := A2.below ac
 have R3 := R2.below ac
 have O3 := O2.below ac
 have j7 : w.heap.size + 1 + 1 + 1 <= w2.heap.size := by have := ac.size; omega
 have bI := aT.below ac
 clear aT
 have aT := bI
 clear bI
 clear A2 R2 O2 ao et ac
 have a7 := A3.c 7 rfl
 have a8 := A3.c 8 rfl
 have o4 := O3.c 4 rfl
 have LX := O3.f 4 rfl
 have o5 := O3.c 5 rfl
 have LY := O3.f 5 rfl
 have o6 := O3.c 6 rfl
 have LZ := O3.f 6 rfl
 have o7 := O3.c 7 rfl
 have M0 := O3.f 7 rfl
 go_wp2_with fail
 clear a7 a8 o4 LX o5 LY o6 LZ o7 M0
 have O4 := ((((O3.set (j := 4) (so gd was.rules.length was.rules.length)).set (j := 5) (so ge was.zones.length was.zones.length)).set (j := 6) (so gf was.links.length was.links.length)).set (j := 7) (iv cur))
 have A4 := ((((A3.other (b2 := w.heap.size + 1 + 1) (j := 4) (by omega) (so gd was.rules.length was.rules.length)).other (b2 := w.heap.size + 1 + 1) (j := 5) (by omega) (so ge was.zones.length was.zones.length)).other (b2 := w.heap.size + 1 + 1) (j := 6) (by omega) (so gf was.links.length was.links.length)).other (b2 := w.heap.size + 1 + 1) (j := 7) (by omega) (iv cur))
 have R4 := ((((R3.other (b2 := w.heap.size + 1 + 1) (j := 4) (by omega) (so gd was.rules.length was.rules.length)).other (b2 := w.heap.size + 1 + 1) (j := 5) (by omega) (so ge was.zones.length was.zones.length)).other (b2 := w.heap.size + 1 + 1) (j := 6) (by omega) (so gf was.links.length was.links.length)).other (b2 := w.heap.size + 1 + 1) (j := 7) (by omega) (iv cur))
 have aS := (bst (w.heap.size + 1 + 1) 7 (iv cur) (by omega) (bst (w.heap.size + 1 + 1) 6 (so gf was.links.length was.links.length) (by omega) (bst (w.heap.size + 1 + 1) 5 (so ge was.zones.length was.zones.length) (by omega) (bst (w.heap.size + 1 + 1) 4 (so gd was.rules.length was.rules.length) (by omega) ay))))
 have mP := (szs (ad (w.heap.size + 1 + 1) 7) (iv cur) (szs (ad (w.heap.size + 1 + 1) 6) (so gf was.links.length was.links.length) (szs (ad (w.heap.size + 1 + 1) 5) (so ge was.zones.length was.zones.length) (szs (ad (w.heap.size + 1 + 1) 4) (so gd was.rules.length was.rules.length) j7))))
 have F4 := (((((Jj.refl (w.heap.size + 1 + 1 + 1) w2).set (p := w.heap.size + 1 + 1) (i := 4) (by omega) (so gd was.rules.length was.rules.length)).set (p := w.heap.size + 1 + 1) (i := 5) (by omega) (so ge was.zones.length was.zones.length)).set (p := w.heap.size + 1 + 1) (i := 6) (by omega) (so gf was.links.length was.links.length)).set (p := w.heap.size + 1 + 1) (i := 7) (by omega) (iv cur))
 have bI := aT.from F4 (nlr _)
 have cR := cg.from F4 (nlr _)
 clear A3 R3 O3 ay j7 F4 aT cg
 have aT := bI
 clear bI
 have cg := cR
 clear cR
 generalize ((((w2.setCell (ad (w.heap.size + 1 + 1) 4) (so gd was.rules.length was.rules.length)).setCell (ad (w.heap.size + 1 + 1) 5) (so ge was.zones.length was.zones.length)).setCell (ad (w.heap.size + 1 + 1) 6) (so gf was.links.length was.links.length)).setCell (ad (w.heap.size + 1 + 1) 7) (iv cur)) = wD at *
 obtain ⟨gv, Ca⟩ := qeb wD.heap.size
 refine (q3 _ (HV.out.below aS)).mono ?_
 rintro e w3 ⟨rfl, sv, rv, aD⟩
 rw [Ca] at sv rv
 have JX : w.heap.size + 1 + 1 + 1 <= gv := by omega
 simp only [Ca]
 have bQ := qtr aS aD
 have A5 := A4.below aD
 have R5 := R4.below aD
 have O5 := O4.below aD
 have gP : w.heap.size + 1 + 1 + 1 <= w3.heap.size := by have := aD.size; omega
 have bI := aT.below aD
 clear aT
 have aT := bI
 clear bI
 have cR := cg.below aD
 clear cg
 have cg := cR
 clear cR
 clear A4 R4 O4 aS mP aD
 have a9 := A5.c 9 rfl
 have o8 := O5.c 8 rfl
 have M3 := O5.f 8 rfl
 clear Ca
 go_wp2_with fail
 clear a9 o8 M3
 have O6 := (O5.set (j := 8) (so gv vs.length vs.length))
 have A6 := (A5.other (b2 := w.heap.size + 1 + 1) (j := 8) (by omega) (so gv vs.length vs.length))
 have R6 := (R5.other (b2 := w.heap.size + 1 + 1) (j := 8) (by omega) (so gv vs.length vs.length))
 have cG := (bst (w.heap.size + 1 + 1) 8 (so gv vs.length vs.length) (by omega) bQ)
 have oN := (szs (ad (w.heap.size + 1 + 1) 8) (so gv vs.length vs.length) gP)
 have F6 := ((Jj.refl (w.heap.size + 1 + 1 + 1) w3).set (p := w.heap.size + 1 + 1) (i := 8) (by omega) (so gv vs.length vs.length))
 have bI := aT.from F6 (nlr _)
 have cR := cg.from F6 (nlr _)
 have wH := sv.from F6 (by omega)
 have wi := rv.from F6 (by omega)
 clear A5 R5 O5 bQ gP F6 aT cg sv rv
 have aT := bI
 clear bI
 have cg := cR
 clear cR
 have sv := wH
 clear wH
 have rv := wi
 clear wi
 generalize (w3.setCell (ad (w.heap.size + 1 + 1) 8) (so gv vs.length vs.length)) = wE at *
 obtain ⟨gx, Cb⟩ := qeb wE.heap.size
 refine (q4 _ (HX.out.below cG)).mono ?_
 rintro e w4 ⟨rfl, sx, rx, hb6⟩
 rw [Cb] at sx rx
 have JY : w.heap.size + 1 + 1 + 1 <= gx := by omega
 simp only [Cb]
 have dE := qtr cG hb6
 have A7 := A6.below hb6
 have R7 := R6.below hb6
 have O7 := O6.below hb6
 have ff : w.heap.size + 1 + 1 + 1 <= w4.heap.size := by have := hb6.size; omega
 have bI := aT.below hb6
 clear aT
 have aT := bI
 clear bI
 have cR := cg.below hb6
 clear cg
 have cg := cR
 clear cR
 have wH := sv.below hb6
 clear sv
 have sv := wH
 clear wH
 have wi := rv.below hb6
 clear rv
 have rv := wi
 clear wi
 clear A6 R6 O6 cG oN hb6
 have o9 := O7.c 9 rfl
 have Qb := O7.f 9 rfl
 clear Cb
 have OZ := O7.set (j := 9) (so gx ix.length ix.length)
 have RZ := R7.other (b2 := w.heap.size + 1 + 1) (j := 9) (by omega) (so gx ix.length ix.length)
 have z0 := OZ.c 0 rfl
 have y0 := RZ.c 0 rfl
 have Oe := RZ.f 0 rfl
 have z1 := OZ.c 1 rfl
 have y1 := RZ.c 1 rfl
 have Of := RZ.f 1 rfl
 have z2 := OZ.c 2 rfl
 have y2 := RZ.c 2 rfl
 have Og := RZ.f 2 rfl
 have z3 := OZ.c 3 rfl
 have y3 := RZ.c 3 rfl
 have Oh := RZ.f 3 rfl
 have z4 := OZ.c 4 rfl
 have y4 := RZ.c 4 rfl
 have Oi := RZ.f 4 rfl
 have z5 := OZ.c 5 rfl
 have y5 := RZ.c 5 rfl
 have Oj := RZ.f 5 rfl
 have z6 := OZ.c 6 rfl
 have y6 := RZ.c 6 rfl
 have Ok := RZ.f 6 rfl
 have z7 := OZ.c 7 rfl
 have y7 := RZ.c 7 rfl
 have Ol := RZ.f 7 rfl
 have z8 := OZ.c 8 rfl
 have y8 := RZ.c 8 rfl
 have Om := RZ.f 8 rfl
 have z9 := OZ.c 9 rfl
 have y9 := RZ.c 9 rfl
 have On := RZ.f 9 rfl
 have RF := ((((((((((RZ.set (j := 0) (iv tx)).set (j := 1) (so ga now.rules.length now.rules.length)).set (j := 2) (so gb now.zones.length now.zones.length)).set (j := 3) (so gc now.links.length now.links.length)).set (j := 4) (so gd was.rules.length was.rules.length)).set (j := 5) (so ge was.zones.length was.zones.length)).set (j := 6) (so gf was.links.length was.links.length)).set (j := 7) (iv cur)).set (j := 8) (so gv vs.length vs.length)).set (j := 9) (so gx ix.length ix.length))
 have FZ := ((((((((((((Jj.refl (w.heap.size + 1 + 1 + 1) w4).set (p := w.heap.size + 1 + 1) (i := 9) (by omega) (so gx ix.length ix.length)).set (p := w.heap.size + 1) (i := 0) (by omega) (iv tx)).set (p := w.heap.size + 1) (i := 1) (by omega) (so ga now.rules.length now.rules.length)).set (p := w.heap.size + 1) (i := 2) (by omega) (so gb now.zones.length now.zones.length)).set (p := w.heap.size + 1) (i := 3) (by omega) (so gc now.links.length now.links.length)).set (p := w.heap.size + 1) (i := 4) (by omega) (so gd was.rules.length was.rules.length)).set (p := w.heap.size + 1) (i := 5) (by omega) (so ge was.zones.length was.zones.length)).set (p := w.heap.size + 1) (i := 6) (by omega) (so gf was.links.length was.links.length)).set (p := w.heap.size + 1) (i := 7) (by omega) (iv cur)).set (p := w.heap.size + 1) (i := 8) (by omega) (so gv vs.length vs.length)).set (p := w.heap.size + 1) (i := 9) (by omega) (so gx ix.length ix.length))
 have yA : Hid (Bw w _) := (bst (w.heap.size + 1) 9 (so gx ix.length ix.length) (by omega) (bst (w.heap.size + 1) 8 (so gv vs.length vs.length) (by omega) (bst (w.heap.size + 1) 7 (iv cur) (by omega) (bst (w.heap.size + 1) 6 (so gf was.links.length was.links.length) (by omega) (bst (w.heap.size + 1) 5 (so ge was.zones.length was.zones.length) (by omega) (bst (w.heap.size + 1) 4 (so gd was.rules.length was.rules.length) (by omega) (bst (w.heap.size + 1) 3 (so gc now.links.length now.links.length) (by omega) (bst (w.heap.size + 1) 2 (so gb now.zones.length now.zones.length) (by omega) (bst (w.heap.size + 1) 1 (so ga now.rules.length now.rules.length) (by omega) (bst (w.heap.size + 1) 0 (iv tx) (by omega) (bst (w.heap.size + 1 + 1) 9 (so gx ix.length ix.length) (by omega) dE)))))))))))
 have Ix : Hid (OwnSt _ w.heap.size (.agg (stA ⟨tx, now, was, cur, vs, ix⟩ (some (ad ga 0)) (some (ad gb 0)) (some (ad gc 0)) (some (ad gd 0)) (some (ad ge 0)) (some (ad gf 0)) (some (ad gv 0)) (some (ad gx 0)) now.rules.length now.zones.length now.links.length was.rules.length was.zones.length was.links.length vs.length ix.length).toArray) ⟨tx, now, was, cur, vs, ix⟩) := ⟨ga, gb, gc, gd, ge, gf, gv, gx, rfl, (aT.own.from FZ (nlr _)).mono (by omega), (cg.from FZ (nlr _)).mono (by omega), ⟨by omega, sv.from FZ (by omega), rv.from FZ (by omega)⟩, ⟨by omega, sx.from FZ (by omega), rx.from FZ (by omega)⟩, M, (aT.upto.from FZ (nlr _)).mono (by omega), K2⟩
 obtain ⟨t0, t1, t2, t3, t4, t5, t6, t7, t8, t9⟩ := RF.ten
 clear FZ RF OZ RZ aT cg sv rv sx rx A7 R7 O7 dE ff JX JY
 go_wp2
 exact bpr (v := .agg (stA ⟨tx, now, was, cur, vs, ix⟩ (some (ad ga 0)) (some (ad gb 0)) (some (ad gc 0)) (some (ad gd 0)) (some (ad ge 0)) (some (ad gf 0)) (some (ad gv 0)) (some (ad gx 0)) now.rules.length now.zones.length now.links.length was.rules.length was.zones.length was.links.length vs.length ix.length).toArray) (by simp [results, Tryz.results8, go_sem, t0, t1, t2, t3, t4, t5, t6, t7, t8, t9]) rfl ⟨_, rfl, Ix.out, yA.out⟩
end
end Go.Proofs.YtgiieknbckhofaaGreatDoor
