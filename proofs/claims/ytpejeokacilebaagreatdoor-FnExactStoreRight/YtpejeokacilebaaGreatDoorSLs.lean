/- Packed. -/
import Derived.Test.YtpejeokacilebaaGreatDoorRelPs
import Derived.Deep.Slices
import Derived.ProofKit
import Derived.OpenShut
import Derived.ShutString
import Derived.Lib.SmallJoins
import Derived.Test.YtpejeokacilebaaGreatDoorSBs
set_option maxRecDepth 100000
set_option maxHeartbeats 20000000
set_option linter.unusedSimpArgs false
namespace Go.Proofs.YtpejeokacilebaaGreatDoor
section
open Go.ChangeShapes Go.WideShapes Go.ChangeAt Go.RowKit Go.Deep
theorem list_of {α : Type} {P : Nat -> α -> Prop} : ∀ n, (∀ i, i < n -> ∃ r, P i r) -> ∃ l : List α, l.length = n /\ ∀ i r, l[i]? = some r -> P i r := by
 intro n
 induction n with
 | zero => intro _; exact ⟨[], rfl, fun i r h => by simp at h⟩
 | succ n ih =>
  intro h
  obtain ⟨l, hl, hp⟩ := ih fun i hi => h i (by omega)
  obtain ⟨r, hr⟩ := h n (by omega)
  refine ⟨l ++ [r], by simp [hl], fun i x hx => ?_⟩
  rcases Nat.lt_or_ge i l.length with hi | hi
  ·rw [List.getElem?_append_left hi] at hx; exact hp i x hx
  ·rw [List.getElem?_append_right hi] at hx
   have e : i - l.length = 0 := by
    rcases Nat.eq_zero_or_pos (i - l.length) with e | e
    ·exact e
    ·rw [List.getElem?_eq_none (by simp; omega)] at hx; cases hx
   rw [e] at hx
   simp at hx
   subst hx
   have : i = n := by omega
   subst this; exact hr
theorem cS : Tryz.prog.cellsOf 9 = 1 := by kernel_rfl
theorem cI : Tryz.prog.cellsOf 2 = 1 := by kernel_rfl
section
variable {H : Type} {enc : TypeId × Value -> H} {w : World} {spare : Nat -> Bool} {held : Bool}
theorem cellsRule : Tryz.prog.cellsOf 123 = 9 := by kernel_rfl
theorem open_Rule {n : Nat} {cs : List Value} {x : DataW H × List MemPlace} (h : DataW.trod enc Tryz.prog w 0 spare held n 123 cs = some x) : ∃ r : RuleD, cs = r.cs /\ r.ok := by
 obtain ⟨xs, k, _, _, hl, hxl, hf⟩ := DataW.trod_struct Tryz.underlying123 h
 rw [cellsRule] at hl
 have hxl2 : xs.length = 9 := hxl
 clear hxl
 match xs, hxl2, cs, hl with
 | [y0, y1, y2, y3, y4, y5, y6, y7, y8], _, [c0, c1, c2, c3, c4, c5, c6, c7, c8], _ =>
  have g0 := hf 0 _ rfl
  have g1 := hf 1 _ rfl
  have g2 := hf 2 _ rfl
  have g3 := hf 3 _ rfl
  have g4 := hf 4 _ rfl
  have g5 := hf 5 _ rfl
  have g6 := hf 6 _ rfl
  have g7 := hf 7 _ rfl
  have g8 := hf 8 _ rfl
  simp [cS, cI] at g0 g1 g2 g3 g4 g5 g6 g7 g8
  obtain ⟨s0, e0, _, m0⟩ := DataW.trod_string Tryz.underlying9 g0
  obtain ⟨s1, e1, _, m1⟩ := DataW.trod_int Tryz.underlying2 g1
  obtain ⟨s2, e2, _, m2⟩ := DataW.trod_int Tryz.underlying2 g2
  obtain ⟨s3, e3, _, m3⟩ := DataW.trod_int Tryz.underlying2 g3
  obtain ⟨s4, e4, _, m4⟩ := DataW.trod_string Tryz.underlying9 g4
  obtain ⟨s5, e5, _, m5⟩ := DataW.trod_int Tryz.underlying2 g5
  obtain ⟨s6, e6, _, m6⟩ := DataW.trod_string Tryz.underlying9 g6
  obtain ⟨s7, e7, _, m7⟩ := DataW.trod_int Tryz.underlying2 g7
  obtain ⟨s8, e8, _, m8⟩ := DataW.trod_string Tryz.underlying9 g8
  simp at e0 e1 e2 e3 e4 e5 e6 e7 e8
  subst e0 e1 e2 e3 e4 e5 e6 e7 e8
  exact ⟨⟨s0, s1, s2, s3, s4, s5, s6, s7, s8⟩, rfl, ⟨m0, m4, m6, m8⟩⟩
theorem open_RuleS {n : Nat} {c : Value} {x : DataW H × List MemPlace} (h : DataW.trod enc Tryz.prog w 0 spare held n 22 [c] = some x) : ∃ (l : List RuleD) (a : Option Addr) (cap : Nat), c = .slice a l.length cap /\ Za w a 9 (l.map RuleD.cs) /\ l.length <= maxLen /\ ∀ r ∈ l, r.ok := by
 rcases open_slice Tryz.underlying22 h with ⟨hc, _⟩ | ⟨a, len, cap, m, k, D, Pl, hc, _, hl, hm, hmm, _, hx⟩
 ·simp at hc; subst hc
  exact ⟨[], none, 0, rfl, .inl rfl, Nat.zero_le _, fun r hr => by simp at hr⟩
 ·simp at hc; subst hc
  have hlm : len <= m := by rw [hmm]; split <;> omega
  obtain ⟨l, hll, hp⟩ := list_of (P := fun i (r : RuleD) => (∀ j v, r.cs[j]? = some v -> w.cell? (a.add (i * 9 + j)) = some v) /\ r.ok) len fun i hi => by
   obtain ⟨cs', h1, h2⟩ := hx i (by omega)
   rw [cellsRule] at h1
   obtain ⟨_, hlen, hcell⟩ := World.cells?_some h1
   obtain ⟨r, rfl, ok⟩ := open_Rule h2
   refine ⟨r, fun j v hj => ?_, ok⟩
   have := hcell j (by have := (List.getElem?_eq_some_iff.mp hj).1; omega)
   rw [add_add] at this
   rw [this, hj]
  refine ⟨l, some a, cap, by rw [hll], ?_, by omega, fun r hr => by obtain ⟨i, hi⟩ := List.getElem?_of_mem hr; exact (hp i r hi).2⟩
  cases hl0 : l with
  | nil => exact .inl rfl
  | cons r0 l' =>
   obtain ⟨b, off, spot⟩ := a
   have hspot : spot = none := by
    have := (hp 0 r0 (by rw [hl0]; rfl)).1 0 _ rfl
    simpa [Addr.add] using World.cell?_spot this
   subst hspot
   rw [<- hl0]
   refine .inr ⟨b, off, rfl, fun i j row v hi hj => ?_⟩
   rw [List.getElem?_map] at hi
   obtain ⟨r, hr, rfl⟩ := Option.map_eq_some_iff.mp hi
   have := (hp i r hr).1 j v hj
   rw [add_plain] at this
   rw [show off + i * 9 + j = off + (i * 9 + j) by omega]
   exact this
theorem cellsEra : Tryz.prog.cellsOf 187 = 6 := by kernel_rfl
theorem open_Era {n : Nat} {cs : List Value} {x : DataW H × List MemPlace} (h : DataW.trod enc Tryz.prog w 0 spare held n 187 cs = some x) : ∃ r : EraD, cs = r.cs /\ r.ok := by
 obtain ⟨xs, k, _, _, hl, hxl, hf⟩ := DataW.trod_struct Tryz.underlying187 h
 rw [cellsEra] at hl
 have hxl2 : xs.length = 6 := hxl
 clear hxl
 match xs, hxl2, cs, hl with
 | [y0, y1, y2, y3, y4, y5], _, [c0, c1, c2, c3, c4, c5], _ =>
  have g0 := hf 0 _ rfl
  have g1 := hf 1 _ rfl
  have g2 := hf 2 _ rfl
  have g3 := hf 3 _ rfl
  have g4 := hf 4 _ rfl
  have g5 := hf 5 _ rfl
  simp [cS, cI] at g0 g1 g2 g3 g4 g5
  obtain ⟨s0, e0, _, m0⟩ := DataW.trod_int Tryz.underlying2 g0
  obtain ⟨s1, e1, _, m1⟩ := DataW.trod_string Tryz.underlying9 g1
  obtain ⟨s2, e2, _, m2⟩ := DataW.trod_int Tryz.underlying2 g2
  obtain ⟨s3, e3, _, m3⟩ := DataW.trod_string Tryz.underlying9 g3
  obtain ⟨s4, e4, _, m4⟩ := DataW.trod_int Tryz.underlying2 g4
  obtain ⟨s5, e5, _, m5⟩ := DataW.trod_string Tryz.underlying9 g5
  simp at e0 e1 e2 e3 e4 e5
  subst e0 e1 e2 e3 e4 e5
  exact ⟨⟨s0, s1, s2, s3, s4, s5⟩, rfl, ⟨m1, m3, m5⟩⟩
theorem open_EraS {n : Nat} {c : Value} {x : DataW H × List MemPlace} (h : DataW.trod enc Tryz.prog w 0 spare held n 125 [c] = some x) : ∃ (l : List EraD) (a : Option Addr) (cap : Nat), c = .slice a l.length cap /\ Za w a 6 (l.map EraD.cs) /\ l.length <= maxLen /\ ∀ r ∈ l, r.ok := by
 rcases open_slice Tryz.underlying125 h with ⟨hc, _⟩ | ⟨a, len, cap, m, k, D, Pl, hc, _, hl, hm, hmm, _, hx⟩
 ·simp at hc; subst hc
  exact ⟨[], none, 0, rfl, .inl rfl, Nat.zero_le _, fun r hr => by simp at hr⟩
 ·simp at hc; subst hc
  have hlm : len <= m := by rw [hmm]; split <;> omega
  obtain ⟨l, hll, hp⟩ := list_of (P := fun i (r : EraD) => (∀ j v, r.cs[j]? = some v -> w.cell? (a.add (i * 6 + j)) = some v) /\ r.ok) len fun i hi => by
   obtain ⟨cs', h1, h2⟩ := hx i (by omega)
   rw [cellsEra] at h1
   obtain ⟨_, hlen, hcell⟩ := World.cells?_some h1
   obtain ⟨r, rfl, ok⟩ := open_Era h2
   refine ⟨r, fun j v hj => ?_, ok⟩
   have := hcell j (by have := (List.getElem?_eq_some_iff.mp hj).1; omega)
   rw [add_add] at this
   rw [this, hj]
  refine ⟨l, some a, cap, by rw [hll], ?_, by omega, fun r hr => by obtain ⟨i, hi⟩ := List.getElem?_of_mem hr; exact (hp i r hi).2⟩
  cases hl0 : l with
  | nil => exact .inl rfl
  | cons r0 l' =>
   obtain ⟨b, off, spot⟩ := a
   have hspot : spot = none := by
    have := (hp 0 r0 (by rw [hl0]; rfl)).1 0 _ rfl
    simpa [Addr.add] using World.cell?_spot this
   subst hspot
   rw [<- hl0]
   refine .inr ⟨b, off, rfl, fun i j row v hi hj => ?_⟩
   rw [List.getElem?_map] at hi
   obtain ⟨r, hr, rfl⟩ := Option.map_eq_some_iff.mp hi
   have := (hp i r hr).1 j v hj
   rw [add_plain] at this
   rw [show off + i * 6 + j = off + (i * 6 + j) by omega]
   exact this
theorem cellsLink : Tryz.prog.cellsOf 129 = 2 := by kernel_rfl
theorem open_Link {n : Nat} {cs : List Value} {x : DataW H × List MemPlace} (h : DataW.trod enc Tryz.prog w 0 spare held n 129 cs = some x) : ∃ r : LinkD, cs = r.cs /\ r.ok := by
 obtain ⟨xs, k, _, _, hl, hxl, hf⟩ := DataW.trod_struct Tryz.underlying129 h
 rw [cellsLink] at hl
 have hxl2 : xs.length = 2 := hxl
 clear hxl
 match xs, hxl2, cs, hl with
 | [y0, y1], _, [c0, c1], _ =>
  have g0 := hf 0 _ rfl
  have g1 := hf 1 _ rfl
  simp [cS] at g0 g1
  obtain ⟨s0, e0, _, m0⟩ := DataW.trod_string Tryz.underlying9 g0
  obtain ⟨s1, e1, _, m1⟩ := DataW.trod_string Tryz.underlying9 g1
  simp at e0 e1
  subst e0 e1
  exact ⟨⟨s0, s1⟩, rfl, ⟨m0, m1⟩⟩
theorem open_LinkS {n : Nat} {c : Value} {x : DataW H × List MemPlace} (h : DataW.trod enc Tryz.prog w 0 spare held n 24 [c] = some x) : ∃ (l : List LinkD) (a : Option Addr) (cap : Nat), c = .slice a l.length cap /\ Za w a 2 (l.map LinkD.cs) /\ l.length <= maxLen /\ ∀ r ∈ l, r.ok := by
 rcases open_slice Tryz.underlying24 h with ⟨hc, _⟩ | ⟨a, len, cap, m, k, D, Pl, hc, _, hl, hm, hmm, _, hx⟩
 ·simp at hc; subst hc
  exact ⟨[], none, 0, rfl, .inl rfl, Nat.zero_le _, fun r hr => by simp at hr⟩
 ·simp at hc; subst hc
  have hlm : len <= m := by rw [hmm]; split <;> omega
  obtain ⟨l, hll, hp⟩ := list_of (P := fun i (r : LinkD) => (∀ j v, r.cs[j]? = some v -> w.cell? (a.add (i * 2 + j)) = some v) /\ r.ok) len fun i hi => by
   obtain ⟨cs', h1, h2⟩ := hx i (by omega)
   rw [cellsLink] at h1
   obtain ⟨_, hlen, hcell⟩ := World.cells?_some h1
   obtain ⟨r, rfl, ok⟩ := open_Link h2
   refine ⟨r, fun j v hj => ?_, ok⟩
   have := hcell j (by have := (List.getElem?_eq_some_iff.mp hj).1; omega)
   rw [add_add] at this
   rw [this, hj]
  refine ⟨l, some a, cap, by rw [hll], ?_, by omega, fun r hr => by obtain ⟨i, hi⟩ := List.getElem?_of_mem hr; exact (hp i r hi).2⟩
  cases hl0 : l with
  | nil => exact .inl rfl
  | cons r0 l' =>
   obtain ⟨b, off, spot⟩ := a
   have hspot : spot = none := by
    have := (hp 0 r0 (by rw [hl0]; rfl)).1 0 _ rfl
    simpa [Addr.add] using World.cell?_spot this
   subst hspot
   rw [<- hl0]
   refine .inr ⟨b, off, rfl, fun i j row v hi hj => ?_⟩
   rw [List.getElem?_map] at hi
   obtain ⟨r, hr, rfl⟩ := Option.map_eq_some_iff.mp hi
   have := (hp i r hr).1 j v hj
   rw [add_plain] at this
   rw [show off + i * 2 + j = off + (i * 2 + j) by omega]
   exact this
theorem cellsZone : Tryz.prog.cellsOf 127 = 2 := by kernel_rfl
theorem cE : Tryz.prog.cellsOf 125 = 1 := by kernel_rfl
theorem open_Zone {n : Nat} {cs : List Value} {x : DataW H × List MemPlace} (h : DataW.trod enc Tryz.prog w 0 spare held n 127 cs = some x) : ∃ (z : ZoneD) (v : Value), cs = [.string z.name, v] /\ Jb w v z.eras /\ z.ok := by
 obtain ⟨xs, k, _, _, hl, hxl, hf⟩ := DataW.trod_struct Tryz.underlying127 h
 rw [cellsZone] at hl
 have hxl2 : xs.length = 2 := hxl
 clear hxl
 match xs, hxl2, cs, hl with
 | [y0, y1], _, [c0, c1], _ =>
  have g0 := hf 0 _ rfl
  have g1 := hf 1 _ rfl
  simp [cS, cE] at g0 g1
  obtain ⟨s0, e0, _, m0⟩ := DataW.trod_string Tryz.underlying9 g0
  simp at e0
  subst e0
  obtain ⟨l, a, cap, rfl, hs, hl, ok⟩ := open_EraS g1
  exact ⟨⟨s0, l⟩, _, rfl, ⟨a, cap, rfl, hs⟩, ⟨m0, hl, ok⟩⟩
theorem open_ZoneS {n : Nat} {c : Value} {x : DataW H × List MemPlace} (h : DataW.trod enc Tryz.prog w 0 spare held n 23 [c] = some x) : ∃ (l : List ZoneD) (a : Option Addr) (cap : Nat), c = .slice a l.length cap /\ Zj w a l /\ l.length <= maxLen /\ ∀ r ∈ l, r.ok := by
 rcases open_slice Tryz.underlying23 h with ⟨hc, _⟩ | ⟨a, len, cap, m, k, D, Pl, hc, _, hl, hm, hmm, _, hx⟩
 ·simp at hc; subst hc
  exact ⟨[], none, 0, rfl, .inl rfl, Nat.zero_le _, fun r hr => by simp at hr⟩
 ·simp at hc; subst hc
  have hlm : len <= m := by rw [hmm]; split <;> omega
  obtain ⟨l, hll, hp⟩ := list_of (P := fun i (z : ZoneD) => (w.cell? (a.add (i * 2)) = some (.string z.name) /\ ∃ v, w.cell? (a.add (i * 2 + 1)) = some v /\ Jb w v z.eras) /\ z.ok) len fun i hi => by
   obtain ⟨cs', h1, h2⟩ := hx i (by omega)
   rw [cellsZone] at h1
   obtain ⟨_, hlen, hcell⟩ := World.cells?_some h1
   obtain ⟨z, v, rfl, hv, ok⟩ := open_Zone h2
   have e0 := hcell 0 (by omega)
   have e1 := hcell 1 (by omega)
   rw [add_add] at e0 e1
   exact ⟨z, ⟨by simpa using e0, v, by simpa using e1, hv⟩, ok⟩
  refine ⟨l, some a, cap, by rw [hll], ?_, by omega, fun r hr => by obtain ⟨i, hi⟩ := List.getElem?_of_mem hr; exact (hp i r hi).2⟩
  cases hl0 : l with
  | nil => exact .inl rfl
  | cons r0 l' =>
   obtain ⟨b, off, spot⟩ := a
   have hspot : spot = none := by
    have := (hp 0 r0 (by rw [hl0]; rfl)).1.1
    simpa [Addr.add] using World.cell?_spot this
   subst hspot
   rw [<- hl0]
   refine .inr ⟨b, off, rfl, fun i z hz => ?_⟩
   obtain ⟨⟨c0, v, c1, hv⟩, _⟩ := hp i z hz
   rw [add_plain] at c0 c1
   exact ⟨c0, v, by rw [show off + i * 2 + 1 = off + (i * 2 + 1) by omega]; exact c1, hv⟩
end
end
section
open Go.RowKit
def StoreD.sz (s : StoreD) : Nat := s.now.sz + s.was.sz + (s.vs.length + vsz s.vs) + s.ix.length
structure StoreD.ok (s : StoreD) : Prop where
 now : s.now.ok
 was : s.was.ok
 vl : s.vs.length <= maxLen
 vs : ∀ v ∈ s.vs, v.ok
 xl : s.ix.length <= maxLen
theorem StoreD.ok.store {s : StoreD} (h : s.ok) (hs : s.sz <= 1048576) : Zu s := by
 unfold StoreD.sz at hs
 obtain ⟨sm, hon⟩ := rel_small (r := s.now) (by omega)
 obtain ⟨sm2, hon2⟩ := rel_small (r := s.was) (by omega)
 exact ⟨⟨h.now, sm, hon⟩, ⟨h.was, sm2, hon2⟩, h.vs, by omega, by omega⟩
theorem laws_szEntryS (m : Nat) (a : Option Addr) (cap : Nat) (n : Int) (w : World) (hl : m <= maxLen) (h0 : 0 <= n) (h1 : n <= 1048576) :
  Calls Tryz.prog 11 #[.slice a m cap, .int .i64 n] w fun e w' => e = .returned (.int .i64 (clip (n - m))) /\ Below w.heap.size w w' := by
 unfold maxLen at hl
 by_cases g : n < m
 ·have HR : Hid (clip (n - m) = -1) := jal (by omega)
  go_enter Tryz.func11, Tryz.ntmps11
  go_wp2
  go_ret
  exact ⟨ret_int HR.out.symm, Below.refl _ _⟩
 ·have HR : Hid (clip (n - m) = n - m) := ja7 (by omega)
  go_enter Tryz.func11, Tryz.ntmps11
  go_wp2
  go_ret
  exact ⟨ret_int HR.out.symm, Below.refl _ _⟩
theorem laws_szStore (s : StoreD) (v : Value) (n : Int) (w : World) (hv : Jh w v s) (hm : s.ok) (h0 : 0 <= n) (h1 : n <= 1048576) :
  Calls Tryz.prog 4 #[v, .int .i64 n] w fun e w' => e = .returned (.int .i64 (clip (n - s.sz))) /\ Below w.heap.size w w' := by
 obtain ⟨a, b, c, d, e, f, va, ia, ca, cb, cc, cd, ce, cf, cv, ci, rfl, hN, hW, hV, hX, _, _⟩ := hv.form
 obtain ⟨tx, now, was, cur, vs, ix⟩ := s
 obtain ⟨m1, m2, m3, m4, m5⟩ := hm
 simp only [StoreD.sz] at *
 have hB0 : Below w.heap.size w (w.alloc (.cells #[.int .i64 tx, .slice a now.rules.length ca, .slice b now.zones.length cb, .slice c now.links.length cc, .slice d was.rules.length cd, .slice e was.zones.length ce, .slice f was.links.length cf, .int .i64 cur, .slice va vs.length cv, .slice ia ix.length ci] 30)) := qal _ _
 have q1 := fun w (h : Zb w (.agg #[.slice a now.rules.length ca, .slice b now.zones.length cb, .slice c now.links.length cc]) now) => laws_szRelease now _ n w h m1 h0 h1
 obtain ⟨x4, x5, x6, x8, x9⟩ : (fun z : World => z.cell? ⟨w.heap.size, 4, none⟩ = some (.slice d was.rules.length cd) /\ z.cell? ⟨w.heap.size, 5, none⟩ = some (.slice e was.zones.length ce) /\ z.cell? ⟨w.heap.size, 6, none⟩ = some (.slice f was.links.length cf) /\ z.cell? ⟨w.heap.size, 8, none⟩ = some (.slice va vs.length cv) /\ z.cell? ⟨w.heap.size, 9, none⟩ = some (.slice ia ix.length ci)) (w.alloc (.cells #[.int .i64 tx, .slice a now.rules.length ca, .slice b now.zones.length cb, .slice c now.links.length cc, .slice d was.rules.length cd, .slice e was.zones.length ce, .slice f was.links.length cf, .int .i64 cur, .slice va vs.length cv, .slice ia ix.length ci] 30)) := by simp [go_sem]
 have q2 := fun n w (h : Zb w (.agg #[.slice d was.rules.length cd, .slice e was.zones.length ce, .slice f was.links.length cf]) was) => laws_szRelease was _ n w h m2
 have q3 := fun n w (h : Za w va 8 (vs.map VersionD.cs)) => laws_szVersionS vs va cv n w h m4 m3
 have q4 := fun n w => laws_szEntryS ix.length ia ci n w m5
 generalize now.sz = z1 at *
 generalize was.sz = z2 at *
 generalize vsz vs = z3 at *
 have HC : Hid (∀ y : Int, y = n - z1 - z2 - (vs.length + z3) - ix.length -> clip (n - ↑(z1 + z2 + (vs.length + z3) + ix.length)) = clip y) := fun y hy => by rw [hy]; congr 1; omega
 have HM : Hid (n - z1 < 0 \/ n - z1 - z2 < 0 \/ n - z1 - z2 - (vs.length + z3) < 0 -> clip (n - ↑(z1 + z2 + (vs.length + z3) + ix.length)) = -1) := fun h => jal (by omega)
 have HN := hid hV
 have HW := hid hW
 have hN0 := hN.below hB0
 clear hX hV hW hN m1 m2 m4 hv
 go_enter Tryz.func4, Tryz.ntmps4
 go_wp2_with fail
 refine (q1 _ hN0).mono ?_
 rintro e w1 ⟨rfl, hb1⟩
 have hB1 := qtr hB0 hb1
 have y4 := jaa hb1 x4
 have y5 := jaa hb1 x5
 have y6 := jaa hb1 x6
 have y8 := jaa hb1 x8
 have y9 := jaa hb1 x9
 clear q1 hb1 hN0 hB0 x4 x5 x6 x8 x9
 by_cases g1 : n - z1 < 0
 ·have HR := HM.out (.inl g1)
  rw [jal g1]
  clear HC HM
  go_wp2
  go_ret
  exact ⟨ret_int HR.symm, hB1⟩
 rw [ja7 (by omega)]
 go_wp2_with fail
 refine (q2 _ _ (HW.out.below hB1) (by omega) (by omega)).mono ?_
 rintro e w2 ⟨rfl, hb2⟩
 have hB2 := qtr hB1 hb2
 have x8 := jaa hb2 y8
 have x9 := jaa hb2 y9
 clear q2 hb2 hB1 y4 y5 y6 y8 y9
 by_cases g2 : n - z1 - z2 < 0
 ·have HR := HM.out (.inr (.inl g2))
  rw [jal g2]
  clear HC HM
  go_wp2
  go_ret
  exact ⟨ret_int HR.symm, hB2⟩
 rw [ja7 (by omega)]
 go_wp2_with fail
 refine (q3 _ _ (HN.out.below hB2) (by omega) (by omega)).mono ?_
 rintro e w3 ⟨rfl, hb3⟩
 have hB3 := qtr hB2 hb3
 have y9 := jaa hb3 x9
 clear q3 hb3 hB2 x8 x9
 by_cases g3 : n - z1 - z2 - (vs.length + z3) < 0
 ·have HR := HM.out (.inr (.inr g3))
  rw [jal g3]
  clear HC HM
  go_wp2
  go_ret
  exact ⟨ret_int HR.symm, hB3⟩
 rw [ja7 (by omega)]
 go_wp2_with fail
 refine (q4 _ _ (by omega) (by omega)).mono ?_
 rintro e w4 ⟨rfl, hb4⟩
 have hB4 := qtr hB3 hb4
 have HR := HC.out _ rfl
 clear q4 hb4 hB3 y9 HC HM
 by_cases g4 : n - z1 - z2 - (vs.length + z3) - ix.length < 0
 ·rw [jal g4] at HR ⊢
  go_wp2
  go_ret
  exact ⟨ret_int HR.symm, hB4⟩
 have h5 : clip (n - z1 - z2 - (vs.length + z3) - ix.length) = n - z1 - z2 - (vs.length + z3) - ix.length := ja7 (by omega)
 rw [h5] at HR ⊢
 go_wp2
 go_ret
 exact ⟨ret_int HR.symm, hB4⟩
end
section
open Go.ChangeShapes Go.WideShapes Go.ChangeAt Go.RowKit Go.Deep
theorem cBool : Tryz.prog.cellsOf 4 = 1 := by kernel_rfl
section
variable {H : Type} {enc : TypeId × Value -> H} {w : World} {spare : Nat -> Bool} {held : Bool}
theorem cellsEvent : Tryz.prog.cellsOf 71 = 6 := by kernel_rfl
theorem open_Event {n : Nat} {cs : List Value} {x : DataW H × List MemPlace} (h : DataW.trod enc Tryz.prog w 0 spare held n 71 cs = some x) : ∃ r : EventD, cs = r.cs /\ r.ok := by
 obtain ⟨xs, k, _, _, hl, hxl, hf⟩ := DataW.trod_struct Tryz.underlying71 h
 rw [cellsEvent] at hl
 have hxl2 : xs.length = 6 := hxl
 clear hxl
 match xs, hxl2, cs, hl with
 | [y0, y1, y2, y3, y4, y5], _, [c0, c1, c2, c3, c4, c5], _ =>
  have g0 := hf 0 _ rfl
  have g1 := hf 1 _ rfl
  have g2 := hf 2 _ rfl
  have g3 := hf 3 _ rfl
  have g4 := hf 4 _ rfl
  have g5 := hf 5 _ rfl
  simp [cS, cI, cBool] at g0 g1 g2 g3 g4 g5
  obtain ⟨s0, e0, _, m0⟩ := DataW.trod_int Tryz.underlying2 g0
  obtain ⟨s1, e1, _, m1⟩ := DataW.trod_string Tryz.underlying9 g1
  obtain ⟨s2, e2, _, m2⟩ := DataW.trod_string Tryz.underlying9 g2
  obtain ⟨s3, e3, _, m3⟩ := DataW.trod_int Tryz.underlying2 g3
  obtain ⟨s4, e4, _, m4⟩ := DataW.trod_int Tryz.underlying2 g4
  obtain ⟨s5, e5, _, m5⟩ := DataW.trod_int Tryz.underlying2 g5
  simp at e0 e1 e2 e3 e4 e5
  subst e0 e1 e2 e3 e4 e5
  exact ⟨⟨s0, s1, s2, s3, s4, s5⟩, rfl, ⟨m1, m2⟩⟩
theorem cellsVersion : Tryz.prog.cellsOf 73 = 8 := by kernel_rfl
theorem open_Version {n : Nat} {cs : List Value} {x : DataW H × List MemPlace} (h : DataW.trod enc Tryz.prog w 0 spare held n 73 cs = some x) : ∃ r : VersionD, cs = r.cs /\ r.ok := by
 obtain ⟨xs, k, _, _, hl, hxl, hf⟩ := DataW.trod_struct Tryz.underlying73 h
 rw [cellsVersion] at hl
 have hxl2 : xs.length = 3 := hxl
 clear hxl
 match xs, hxl2, cs, hl with
 | [y0, y1, y2], _, [c0, c1, c2, c3, c4, c5, c6, c7], _ =>
  have g0 := hf 0 _ rfl
  have g1 := hf 1 _ rfl
  have g2 := hf 2 _ rfl
  simp [cS, cI, cBool, cellsEvent] at g0 g1 g2
  obtain ⟨s0, e0, _, m0⟩ := DataW.trod_int Tryz.underlying2 g0
  obtain ⟨s1, e1, _⟩ := DataW.trod_bool Tryz.underlying4 g1
  obtain ⟨ev, ee, okE⟩ := open_Event g2
  simp at e0 e1
  subst e0 e1
  simp only [EventD.cs, List.cons.injEq, and_true] at ee
  obtain ⟨rfl, rfl, rfl, rfl, rfl, rfl⟩ := ee
  exact ⟨⟨s0, s1, ev.id, ev.name, ev.zone, ev.wall, ev.gap, ev.fold⟩, rfl, okE⟩
theorem cellsEntry : Tryz.prog.cellsOf 103 = 2 := by kernel_rfl
theorem open_Entry {n : Nat} {cs : List Value} {x : DataW H × List MemPlace} (h : DataW.trod enc Tryz.prog w 0 spare held n 103 cs = some x) : ∃ r : EntryD, cs = r.cs := by
 obtain ⟨xs, k, _, _, hl, hxl, hf⟩ := DataW.trod_struct Tryz.underlying103 h
 rw [cellsEntry] at hl
 have hxl2 : xs.length = 2 := hxl
 clear hxl
 match xs, hxl2, cs, hl with
 | [y0, y1], _, [c0, c1], _ =>
  have g0 := hf 0 _ rfl
  have g1 := hf 1 _ rfl
  simp [cS, cI, cBool] at g0 g1
  obtain ⟨s0, e0, _, m0⟩ := DataW.trod_int Tryz.underlying2 g0
  obtain ⟨s1, e1, _, m1⟩ := DataW.trod_int Tryz.underlying2 g1
  simp at e0 e1
  subst e0 e1
  exact ⟨⟨s0, s1⟩, rfl⟩
theorem open_VersionS {n : Nat} {c : Value} {x : DataW H × List MemPlace} (h : DataW.trod enc Tryz.prog w 0 spare held n 27 [c] = some x) : ∃ (l : List VersionD) (a : Option Addr) (cap : Nat), c = .slice a l.length cap /\ Za w a 8 (l.map VersionD.cs) /\ l.length <= maxLen /\ l.length <= cap /\ ∀ r ∈ l, r.ok := by
 rcases open_slice Tryz.underlying27 h with ⟨hc, _⟩ | ⟨a, len, cap, m, k, D, Pl, hc, _, hl, hm, hmm, _, hx⟩
 ·simp at hc; subst hc
  exact ⟨[], none, 0, rfl, .inl rfl, Nat.zero_le _, Nat.zero_le _, fun r hr => by simp at hr⟩
 ·simp at hc; subst hc
  have hlm : len <= m := by rw [hmm]; split <;> omega
  obtain ⟨l, hll, hp⟩ := list_of (P := fun i (r : VersionD) => (∀ j v, r.cs[j]? = some v -> w.cell? (a.add (i * 8 + j)) = some v) /\ r.ok) len fun i hi => by
   obtain ⟨cs', h1, h2⟩ := hx i (by omega)
   rw [cellsVersion] at h1
   obtain ⟨_, hlen, hcell⟩ := World.cells?_some h1
   obtain ⟨r, rfl, ok⟩ := open_Version h2
   refine ⟨r, fun j v hj => ?_, ok⟩
   have := hcell j (by have := (List.getElem?_eq_some_iff.mp hj).1; omega)
   rw [add_add] at this
   rw [this, hj]
  refine ⟨l, some a, cap, by rw [hll], ?_, by omega, by omega, fun r hr => by obtain ⟨i, hi⟩ := List.getElem?_of_mem hr; exact (hp i r hi).2⟩
  cases hl0 : l with
  | nil => exact .inl rfl
  | cons r0 l' =>
   obtain ⟨b, off, spot⟩ := a
   have hspot : spot = none := by
    have := (hp 0 r0 (by rw [hl0]; rfl)).1 0 _ rfl
    simpa [Addr.add] using World.cell?_spot this
   subst hspot
   rw [<- hl0]
   refine .inr ⟨b, off, rfl, fun i j row v hi hj => ?_⟩
   rw [List.getElem?_map] at hi
   obtain ⟨r, hr, rfl⟩ := Option.map_eq_some_iff.mp hi
   have := (hp i r hr).1 j v hj
   rw [add_plain] at this
   rw [show off + i * 8 + j = off + (i * 8 + j) by omega]
   exact this
theorem open_EntryS {n : Nat} {c : Value} {x : DataW H × List MemPlace} (h : DataW.trod enc Tryz.prog w 0 spare held n 28 [c] = some x) : ∃ (l : List EntryD) (a : Option Addr) (cap : Nat), c = .slice a l.length cap /\ Za w a 2 (l.map EntryD.cs) /\ l.length <= maxLen /\ l.length <= cap := by
 rcases open_slice Tryz.underlying28 h with ⟨hc, _⟩ | ⟨a, len, cap, m, k, D, Pl, hc, _, hl, hm, hmm, _, hx⟩
 ·simp at hc; subst hc
  exact ⟨[], none, 0, rfl, .inl rfl, Nat.zero_le _, Nat.zero_le _⟩
 ·simp at hc; subst hc
  have hlm : len <= m := by rw [hmm]; split <;> omega
  obtain ⟨l, hll, hp⟩ := list_of (P := fun i (r : EntryD) => (∀ j v, r.cs[j]? = some v -> w.cell? (a.add (i * 2 + j)) = some v) /\ True) len fun i hi => by
   obtain ⟨cs', h1, h2⟩ := hx i (by omega)
   rw [cellsEntry] at h1
   obtain ⟨_, hlen, hcell⟩ := World.cells?_some h1
   obtain ⟨r, rfl⟩ := open_Entry h2
   refine ⟨r, fun j v hj => ?_, trivial⟩
   have := hcell j (by have := (List.getElem?_eq_some_iff.mp hj).1; omega)
   rw [add_add] at this
   rw [this, hj]
  refine ⟨l, some a, cap, by rw [hll], ?_, by omega, by omega⟩
  cases hl0 : l with
  | nil => exact .inl rfl
  | cons r0 l' =>
   obtain ⟨b, off, spot⟩ := a
   have hspot : spot = none := by
    have := (hp 0 r0 (by rw [hl0]; rfl)).1 0 _ rfl
    simpa [Addr.add] using World.cell?_spot this
   subst hspot
   rw [<- hl0]
   refine .inr ⟨b, off, rfl, fun i j row v hi hj => ?_⟩
   rw [List.getElem?_map] at hi
   obtain ⟨r, hr, rfl⟩ := Option.map_eq_some_iff.mp hi
   have := (hp i r hr).1 j v hj
   rw [add_plain] at this
   rw [show off + i * 2 + j = off + (i * 2 + j) by omega]
   exact this
theorem cRuS : Tryz.prog.cellsOf 22 = 1 := by kernel_rfl
theorem cZoS : Tryz.prog.cellsOf 23 = 1 := by kernel_rfl
theorem cLiS : Tryz.prog.cellsOf 24 = 1 := by kernel_rfl
theorem cVeS : Tryz.prog.cellsOf 27 = 1 := by kernel_rfl
theorem cEnS : Tryz.prog.cellsOf 28 = 1 := by kernel_rfl
theorem cellsRel3 : Tryz.prog.cellsOf 26 = 3 := by kernel_rfl
theorem open_Rel3 {n : Nat} {cs : List Value} {x : DataW H × List MemPlace} (h : DataW.trod enc Tryz.prog w 0 spare held n 26 cs = some x) : ∃ (r : RelD) (a b c : Option Addr) (ca cb cc : Nat), cs = [.slice a r.rules.length ca, .slice b r.zones.length cb, .slice c r.links.length cc] /\ Zb w (.agg #[.slice a r.rules.length ca, .slice b r.zones.length cb, .slice c r.links.length cc]) r /\ r.ok := by
 obtain ⟨xs, k, _, _, hl, hxl, hf⟩ := DataW.trod_struct Tryz.underlying26 h
 rw [cellsRel3] at hl
 have hxl2 : xs.length = 3 := hxl
 clear hxl
 match xs, hxl2, cs, hl with
 | [y0, y1, y2], _, [c0, c1, c2], _ =>
  have g0 := hf 0 _ rfl
  have g1 := hf 1 _ rfl
  have g2 := hf 2 _ rfl
  simp [cS, cI, cBool, cRuS, cZoS, cLiS] at g0 g1 g2
  obtain ⟨l0, a0, k0, rfl, s0, m0, ok0⟩ := open_RuleS g0
  obtain ⟨l1, a1, k1, rfl, s1, m1, ok1⟩ := open_ZoneS g1
  obtain ⟨l2, a2, k2, rfl, s2, m2, ok2⟩ := open_LinkS g2
  exact ⟨⟨l0, l1, l2⟩, a0, a1, a2, k0, k1, k2, rfl, ⟨_, _, _, _, _, _, rfl, s0, s1, s2⟩, ⟨m0, ok0⟩, ⟨m1, ok1⟩, ⟨m2, ok2⟩⟩
theorem cellsStore : Tryz.prog.cellsOf 30 = 10 := by kernel_rfl
theorem open_Store {n : Nat} {cs : List Value} {x : DataW H × List MemPlace} (h : DataW.trod enc Tryz.prog w 0 spare held n 30 cs = some x) : ∃ s : StoreD, Jh w (.agg cs.toArray) s /\ s.ok := by
 obtain ⟨xs, k, _, _, hl, hxl, hf⟩ := DataW.trod_struct Tryz.underlying30 h
 rw [cellsStore] at hl
 have hxl2 : xs.length = 6 := hxl
 clear hxl
 match xs, hxl2, cs, hl with
 | [y0, y1, y2, y3, y4, y5], _, [c0, c1, c2, c3, c4, c5, c6, c7, c8, c9], _ =>
  have g0 := hf 0 _ rfl
  have g1 := hf 1 _ rfl
  have g2 := hf 2 _ rfl
  have g3 := hf 3 _ rfl
  have g4 := hf 4 _ rfl
  have g5 := hf 5 _ rfl
  simp [cS, cI, cBool, cellsRel3, cVeS, cEnS] at g0 g1 g2 g3 g4 g5
  obtain ⟨s0, e0, _, m0⟩ := DataW.trod_int Tryz.underlying2 g0
  obtain ⟨r1, a, b, c, ca, cb, cc, e1, h1, ok1⟩ := open_Rel3 g1
  obtain ⟨r2, d, e, f, cd, ce, cf, e2, h2, ok2⟩ := open_Rel3 g2
  obtain ⟨s3, e3, _, m3⟩ := DataW.trod_int Tryz.underlying2 g3
  obtain ⟨vs, va, cv, rfl, sv, mv, cvl, okv⟩ := open_VersionS g4
  obtain ⟨ix, ia, ci, rfl, sx, mx, cxl⟩ := open_EntryS g5
  simp at e0 e3
  subst e0 e3
  simp only [List.cons.injEq, and_true] at e1 e2
  obtain ⟨rfl, rfl, rfl⟩ := e1
  obtain ⟨rfl, rfl, rfl⟩ := e2
  exact ⟨⟨s0, r1, r2, s3, vs, ix⟩, ⟨a, b, c, d, e, f, va, ia, ca, cb, cc, cd, ce, cf, cv, ci, rfl, h1, h2, sv, sx, cvl, cxl⟩, ⟨ok1, ok2, mv, okv, mx⟩⟩
end
theorem open_store {H : Type} {enc : TypeId × Value -> H} {W : World} {base : Nat} {v : Value} {d : DataW H} {p : List MemPlace}
  (hv : Value.okWide Tryz.prog W .any base 30 v) (h : DataW.Trod enc Tryz.prog W 0 (fun _ => true) true 30 v d p) : ∃ s : StoreD, Jh W v s /\ s.ok := by
 obtain ⟨cs, rfl, _⟩ := okWide_struct Tryz.underlying30 hv
 obtain ⟨fuel, hf⟩ := h
 obtain ⟨s, h1, h2⟩ := open_Store (cs := cs.toList) (by simpa [Value.cells] using hf)
 exact ⟨s, by simpa using h1, h2⟩
end
section
open Go.RowKit
theorem Zv.from {w w' : World} {B B2 : Nat} {v : Value} {r : RelD} (h : Zv w B v r) (hf : Jk B2 w w') (hb : B2 <= B) : Zv w' B v r := by
 obtain ⟨a, b, c, hv, ⟨h1, h2, h3⟩, ⟨k1, k2⟩, ⟨k3, k4⟩, ⟨k5, k6⟩⟩ := h.form
 exact ⟨a, b, c, hv, ⟨h1, h2, h3⟩, ⟨k1.from hf (by omega), k2.from hf (by omega)⟩, ⟨k3.from hf (by omega), k4.from hf (by omega)⟩, ⟨k5.from hf (by omega), k6.from hf (by omega)⟩⟩
theorem Zv.mono {w : World} {B B2 : Nat} {v : Value} {r : RelD} (h : Zv w B v r) (hb : B2 <= B) : Zv w B2 v r := by
 obtain ⟨a, b, c, hv, ⟨h1, h2, h3⟩, k⟩ := h.form
 exact ⟨a, b, c, hv, ⟨by omega, by omega, by omega⟩, k⟩
structure OwnSt (w : World) (B : Nat) (v : Value) (s : StoreD) : Prop where
 form : ∃ a b c d e f va ia, v = .agg #[.int .i64 s.tx, .slice (some ⟨a, 0, none⟩) s.now.rules.length s.now.rules.length, .slice (some ⟨b, 0, none⟩) s.now.zones.length s.now.zones.length, .slice (some ⟨c, 0, none⟩) s.now.links.length s.now.links.length, .slice (some ⟨d, 0, none⟩) s.was.rules.length s.was.rules.length, .slice (some ⟨e, 0, none⟩) s.was.zones.length s.was.zones.length, .slice (some ⟨f, 0, none⟩) s.was.links.length s.was.links.length, .int .i64 s.cur, .slice (some ⟨va, 0, none⟩) s.vs.length s.vs.length, .slice (some ⟨ia, 0, none⟩) s.ix.length s.ix.length] /\ Zv w B (.agg #[.slice (some ⟨a, 0, none⟩) s.now.rules.length s.now.rules.length, .slice (some ⟨b, 0, none⟩) s.now.zones.length s.now.zones.length, .slice (some ⟨c, 0, none⟩) s.now.links.length s.now.links.length]) s.now /\ Zv w B (.agg #[.slice (some ⟨d, 0, none⟩) s.was.rules.length s.was.rules.length, .slice (some ⟨e, 0, none⟩) s.was.zones.length s.was.zones.length, .slice (some ⟨f, 0, none⟩) s.was.links.length s.was.links.length]) s.was /\ (B <= va /\ Za w (some ⟨va, 0, none⟩) 8 (s.vs.map VersionD.cs) /\ Zm w va (s.vs.length * 8)) /\ (B <= ia /\ Za w (some ⟨ia, 0, none⟩) 2 (s.ix.map EntryD.cs) /\ Zm w ia (s.ix.length * 2))
theorem OwnSt.st {w : World} {B : Nat} {v : Value} {s : StoreD} (h : OwnSt w B v s) : Jh w v s := by
 obtain ⟨a, b, c, d, e, f, va, ia, hv, h1, h2, ⟨_, h3, _⟩, ⟨_, h4, _⟩⟩ := h.form
 exact ⟨some ⟨a, 0, none⟩, some ⟨b, 0, none⟩, some ⟨c, 0, none⟩, some ⟨d, 0, none⟩, some ⟨e, 0, none⟩, some ⟨f, 0, none⟩, some ⟨va, 0, none⟩, some ⟨ia, 0, none⟩, _, _, _, _, _, _, _, _, hv, h1.rel, h2.rel, h3, h4, Nat.le_refl _, Nat.le_refl _⟩
def Zd (w : World) (b : Nat) (l : List Value) : Prop := ∀ (i : Nat) u, l[i]? = some u -> w.cell? ⟨b, i, none⟩ = some u /\ w.frozen? ⟨b, i, none⟩ = false
theorem Zd.below {w w' : World} {b : Nat} {l : List Value} (h : Zd w b l) (hb : Below w.heap.size w w') : Zd w' b l := fun i u hu => by
 obtain ⟨h1, h2⟩ := h i u hu
 exact ⟨jaa hb h1, (qfz hb h1 h2)⟩
theorem Zd.set {w : World} {b j : Nat} {l : List Value} (h : Zd w b l) (v : Value) : Zd (w.setCell ⟨b, j, none⟩ v) b (l.set j v) := fun i u hu => by
 rw [List.getElem?_set] at hu
 split at hu
 ·rename_i e
  subst e
  split at hu
  ·rename_i hl
   obtain rfl := Option.some.inj hu
   obtain ⟨x, hx⟩ := qgg hl
   obtain ⟨h1, h2⟩ := h j x hx
   exact ⟨World.cell?_setCell_same _ _ _ h1, by rw [World.frozen?_setCell]; exact h2⟩
  ·cases hu
 ·rename_i e
  obtain ⟨h1, h2⟩ := h i u hu
  exact ⟨by rw [World.cell?_setCell_other _ _ _ _ (by intro h; injection h with _ h; exact e h)]; exact h1, by rw [World.frozen?_setCell]; exact h2⟩
theorem Zd.other {w : World} {b b2 j : Nat} {l : List Value} (h : Zd w b l) (hne : b ≠ b2) (v : Value) : Zd (w.setCell ⟨b2, j, none⟩ v) b l := fun i u hu => by
 obtain ⟨h1, h2⟩ := h i u hu
 exact ⟨by rw [World.cell?_setCell_other _ _ _ _ (jcq (Ne.symm hne))]; exact h1, by rw [World.frozen?_setCell]; exact h2⟩
theorem Zd.new (w : World) (l : List Value) (t : TypeId) : Zd (w.alloc (.cells l.toArray t)) w.heap.size l := fun i u hu => by
 have h := jah w l t i u hu
 rw [addP, Nat.zero_add] at h
 have hh := heap_alloc_new w (.cells l.toArray t)
 exact ⟨h, by unfold World.frozen?; rw [hh]; simp⟩
theorem bst {n : Nat} {w w2 : World} (g i : Nat) (v : Value) (hg : n <= g) (h : Below n w w2) : Below n w (w2.setCell ⟨g, i, none⟩ v) := h.setCell hg v
theorem szs {w : World} {n : Nat} (a : Addr) (v : Value) (h : n <= w.heap.size) : n <= (w.setCell a v).heap.size := by rw [World.size_setCell]; exact h
theorem Zd.c {w : World} {b : Nat} {l : List Value} (h : Zd w b l) (i : Nat) {u : Value} (hu : l[i]? = some u) : w.cell? ⟨b, i, none⟩ = some u := (h i u hu).1
theorem Zd.f {w : World} {b : Nat} {l : List Value} (h : Zd w b l) (i : Nat) {u : Value} (hu : l[i]? = some u) : w.frozen? ⟨b, i, none⟩ = false := (h i u hu).2
end
section
open Go.RowKit
theorem laws_eqStore (s : StoreD) (v v2 : Value) (w : World) (hv : Jh w v s) (hv2 : Jh w v2 s) (hm : Zu s) :
  Calls Tryz.prog 8 #[v, v2] w fun e w' => e = .returned (.bool true) /\ Below w.heap.size w w' := by
 obtain ⟨a, b, c, d, e, f, va, ia, ca, cb, cc, cd, ce, cf, cv, ci, rfl, hN, hW, hV, hX, _, _⟩ := hv.form
 obtain ⟨a2, b2, c2, d2, e2, f2, va2, ia2, ca2, cb2, cc2, cd2, ce2, cf2, cv2, ci2, rfl, hN2, hW2, hV2, hX2, _, _⟩ := hv2.form
 obtain ⟨tx, now, was, cur, vs, ix⟩ := s
 obtain ⟨m1, m2, m3, m4, m5⟩ := hm
 simp only at *
 have hB0 : Below w.heap.size w ((w.alloc (.cells #[.int .i64 tx, .slice a now.rules.length ca, .slice b now.zones.length cb, .slice c now.links.length cc, .slice d was.rules.length cd, .slice e was.zones.length ce, .slice f was.links.length cf, .int .i64 cur, .slice va vs.length cv, .slice ia ix.length ci] 41)).alloc (.cells #[.int .i64 tx, .slice a2 now.rules.length ca2, .slice b2 now.zones.length cb2, .slice c2 now.links.length cc2, .slice d2 was.rules.length cd2, .slice e2 was.zones.length ce2, .slice f2 was.links.length cf2, .int .i64 cur, .slice va2 vs.length cv2, .slice ia2 ix.length ci2] 41)) := (qal _ _).alloc (by simp) _
 have A0 : Zd ((w.alloc (.cells #[.int .i64 tx, .slice a now.rules.length ca, .slice b now.zones.length cb, .slice c now.links.length cc, .slice d was.rules.length cd, .slice e was.zones.length ce, .slice f was.links.length cf, .int .i64 cur, .slice va vs.length cv, .slice ia ix.length ci] 41)).alloc (.cells #[.int .i64 tx, .slice a2 now.rules.length ca2, .slice b2 now.zones.length cb2, .slice c2 now.links.length cc2, .slice d2 was.rules.length cd2, .slice e2 was.zones.length ce2, .slice f2 was.links.length cf2, .int .i64 cur, .slice va2 vs.length cv2, .slice ia2 ix.length ci2] 41)) w.heap.size [.int .i64 tx, .slice a now.rules.length ca, .slice b now.zones.length cb, .slice c now.links.length cc, .slice d was.rules.length cd, .slice e was.zones.length ce, .slice f was.links.length cf, .int .i64 cur, .slice va vs.length cv, .slice ia ix.length ci] := (Zd.new w [.int .i64 tx, .slice a now.rules.length ca, .slice b now.zones.length cb, .slice c now.links.length cc, .slice d was.rules.length cd, .slice e was.zones.length ce, .slice f was.links.length cf, .int .i64 cur, .slice va vs.length cv, .slice ia ix.length ci] 41).below (qal _ _)
 have B0 : Zd ((w.alloc (.cells #[.int .i64 tx, .slice a now.rules.length ca, .slice b now.zones.length cb, .slice c now.links.length cc, .slice d was.rules.length cd, .slice e was.zones.length ce, .slice f was.links.length cf, .int .i64 cur, .slice va vs.length cv, .slice ia ix.length ci] 41)).alloc (.cells #[.int .i64 tx, .slice a2 now.rules.length ca2, .slice b2 now.zones.length cb2, .slice c2 now.links.length cc2, .slice d2 was.rules.length cd2, .slice e2 was.zones.length ce2, .slice f2 was.links.length cf2, .int .i64 cur, .slice va2 vs.length cv2, .slice ia2 ix.length ci2] 41)) (w.heap.size + 1) [.int .i64 tx, .slice a2 now.rules.length ca2, .slice b2 now.zones.length cb2, .slice c2 now.links.length cc2, .slice d2 was.rules.length cd2, .slice e2 was.zones.length ce2, .slice f2 was.links.length cf2, .int .i64 cur, .slice va2 vs.length cv2, .slice ia2 ix.length ci2] := by have h := Zd.new (w.alloc (.cells #[.int .i64 tx, .slice a now.rules.length ca, .slice b now.zones.length cb, .slice c now.links.length cc, .slice d was.rules.length cd, .slice e was.zones.length ce, .slice f was.links.length cf, .int .i64 cur, .slice va vs.length cv, .slice ia ix.length ci] 41)) [.int .i64 tx, .slice a2 now.rules.length ca2, .slice b2 now.zones.length cb2, .slice c2 now.links.length cc2, .slice d2 was.rules.length cd2, .slice e2 was.zones.length ce2, .slice f2 was.links.length cf2, .int .i64 cur, .slice va2 vs.length cv2, .slice ia2 ix.length ci2] 41; simpa using h
 have q1 := fun w (h : Zb w (.agg #[.slice a now.rules.length ca, .slice b now.zones.length cb, .slice c now.links.length cc]) now) (h2 : Zb w (.agg #[.slice a2 now.rules.length ca2, .slice b2 now.zones.length cb2, .slice c2 now.links.length cc2]) now) => laws_eqRelease now _ _ w h h2 m1.sm
 have q2 := fun w (h : Zb w (.agg #[.slice d was.rules.length cd, .slice e was.zones.length ce, .slice f was.links.length cf]) was) (h2 : Zb w (.agg #[.slice d2 was.rules.length cd2, .slice e2 was.zones.length ce2, .slice f2 was.links.length cf2]) was) => laws_eqRelease was _ _ w h h2 m2.sm
 have q3 := fun w (h : Za w va 8 (vs.map VersionD.cs)) (h2 : Za w va2 8 (vs.map VersionD.cs)) => laws_eqVersionS vs va va2 cv cv2 w h h2 m4
 have q4 := fun w (h : Za w ia 2 (ix.map EntryD.cs)) (h2 : Za w ia2 2 (ix.map EntryD.cs)) => laws_eqEntryS ix ia ia2 ci ci2 w h h2 m5
 have HN := hid hN
 have HW := hid hW
 have HV := hid hV
 have HX := hid hX
 have HN2 := hid hN2
 have HW2 := hid hW2
 have HV2 := hid hV2
 have HX2 := hid hX2
 clear hN hW hV hX hN2 hW2 hV2 hX2 hv hv2 m1 m2 m3 m4 m5
 have xa0 := A0.c 0 (u := .int .i64 tx) rfl
 have xa1 := A0.c 1 (u := .slice a now.rules.length ca) rfl
 have xa2 := A0.c 2 (u := .slice b now.zones.length cb) rfl
 have xa3 := A0.c 3 (u := .slice c now.links.length cc) rfl
 have xb0 := B0.c 0 (u := .int .i64 tx) rfl
 have xb1 := B0.c 1 (u := .slice a2 now.rules.length ca2) rfl
 have xb2 := B0.c 2 (u := .slice b2 now.zones.length cb2) rfl
 have xb3 := B0.c 3 (u := .slice c2 now.links.length cc2) rfl
 go_enter Tryz.func8, Tryz.ntmps8
 go_wp2_with fail
 refine (q1 _ (HN.out.below hB0) (HN2.out.below hB0)).mono ?_
 rintro e w1 ⟨rfl, hb1⟩
 have hB1 := qtr hB0 hb1
 have A1 := A0.below hb1
 have B1 := B0.below hb1
 clear xa0 xa1 xa2 xa3
 clear xb0 xb1 xb2 xb3
 clear A0 B0 hB0 hb1 q1
 have xa4 := A1.c 4 (u := .slice d was.rules.length cd) rfl
 have xa5 := A1.c 5 (u := .slice e was.zones.length ce) rfl
 have xa6 := A1.c 6 (u := .slice f was.links.length cf) rfl
 have xb4 := B1.c 4 (u := .slice d2 was.rules.length cd2) rfl
 have xb5 := B1.c 5 (u := .slice e2 was.zones.length ce2) rfl
 have xb6 := B1.c 6 (u := .slice f2 was.links.length cf2) rfl
 go_wp2_with fail
 refine (q2 _ (HW.out.below hB1) (HW2.out.below hB1)).mono ?_
 rintro e w2 ⟨rfl, hb2⟩
 have hB2 := qtr hB1 hb2
 have A2 := A1.below hb2
 have B2 := B1.below hb2
 clear xa4 xa5 xa6
 clear xb4 xb5 xb6
 clear A1 B1 hB1 hb2 q2
 have xa7 := A2.c 7 (u := .int .i64 cur) rfl
 have xa8 := A2.c 8 (u := .slice va vs.length cv) rfl
 have xb7 := B2.c 7 (u := .int .i64 cur) rfl
 have xb8 := B2.c 8 (u := .slice va2 vs.length cv2) rfl
 go_wp2_with fail
 refine (q3 _ (HV.out.below hB2) (HV2.out.below hB2)).mono ?_
 rintro e w3 ⟨rfl, hb3⟩
 have hB3 := qtr hB2 hb3
 have A3 := A2.below hb3
 have B3 := B2.below hb3
 clear xa7 xa8
 clear xb7 xb8
 clear A2 B2 hB2 hb3 q3
 have xa9 := A3.c 9 (u := .slice ia ix.length ci) rfl
 have xb9 := B3.c 9 (u := .slice ia2 ix.length ci2) rfl
 go_wp2_with fail
 refine (q4 _ (HX.out.below hB3) (HX2.out.below hB3)).mono ?_
 rintro e w4 ⟨rfl, hb4⟩
 have hB4 := qtr hB3 hb4
 clear A3 B3 hB3 hb4 q4 xa9 xb9
 go_wp2
 go_ret
 exact ⟨rfl, hB4⟩
end
section
open Go.RowKit
theorem laws_toStore (s : StoreD) (v : Value) (w : World) (hv : Jh w v s) (hm : Zu s) :
  Calls Tryz.prog 6 #[v] w fun e w' => ∃ v', e = .returned v' /\ OwnSt w' w.heap.size v' s /\ Below w.heap.size w w' := by
 obtain ⟨a, b, c, d, e, f, va, ia, ca, cb, cc, cd, ce, cf, cv, ci, rfl, hN, hW, hV, hX, _, _⟩ := hv.form
 obtain ⟨tx, now, was, cur, vs, ix⟩ := s
 obtain ⟨m1, m2, m3, m4, m5⟩ := hm
 simp only at *
 have hB0 : Below w.heap.size w (((w.alloc (.cells #[.int .i64 tx, .slice a now.rules.length ca, .slice b now.zones.length cb, .slice c now.links.length cc, .slice d was.rules.length cd, .slice e was.zones.length ce, .slice f was.links.length cf, .int .i64 cur, .slice va vs.length cv, .slice ia ix.length ci] 30)).alloc (.cells #[.int .i64 0, .slice none 0 0, .slice none 0 0, .slice none 0 0, .slice none 0 0, .slice none 0 0, .slice none 0 0, .int .i64 0, .slice none 0 0, .slice none 0 0] 41)).alloc (.cells #[.int .i64 tx, .slice none 0 0, .slice none 0 0, .slice none 0 0, .slice none 0 0, .slice none 0 0, .slice none 0 0, .int .i64 0, .slice none 0 0, .slice none 0 0] 41)) := jcu _ _ _ _
 have hz0 : (((w.alloc (.cells #[.int .i64 tx, .slice a now.rules.length ca, .slice b now.zones.length cb, .slice c now.links.length cc, .slice d was.rules.length cd, .slice e was.zones.length ce, .slice f was.links.length cf, .int .i64 cur, .slice va vs.length cv, .slice ia ix.length ci] 30)).alloc (.cells #[.int .i64 0, .slice none 0 0, .slice none 0 0, .slice none 0 0, .slice none 0 0, .slice none 0 0, .slice none 0 0, .int .i64 0, .slice none 0 0, .slice none 0 0] 41)).alloc (.cells #[.int .i64 tx, .slice none 0 0, .slice none 0 0, .slice none 0 0, .slice none 0 0, .slice none 0 0, .slice none 0 0, .int .i64 0, .slice none 0 0, .slice none 0 0] 41)).heap.size = w.heap.size + 1 + 1 + 1 := by simp
 have A0 : Zd (((w.alloc (.cells #[.int .i64 tx, .slice a now.rules.length ca, .slice b now.zones.length cb, .slice c now.links.length cc, .slice d was.rules.length cd, .slice e was.zones.length ce, .slice f was.links.length cf, .int .i64 cur, .slice va vs.length cv, .slice ia ix.length ci] 30)).alloc (.cells #[.int .i64 0, .slice none 0 0, .slice none 0 0, .slice none 0 0, .slice none 0 0, .slice none 0 0, .slice none 0 0, .int .i64 0, .slice none 0 0, .slice none 0 0] 41)).alloc (.cells #[.int .i64 tx, .slice none 0 0, .slice none 0 0, .slice none 0 0, .slice none 0 0, .slice none 0 0, .slice none 0 0, .int .i64 0, .slice none 0 0, .slice none 0 0] 41)) w.heap.size [.int .i64 tx, .slice a now.rules.length ca, .slice b now.zones.length cb, .slice c now.links.length cc, .slice d was.rules.length cd, .slice e was.zones.length ce, .slice f was.links.length cf, .int .i64 cur, .slice va vs.length cv, .slice ia ix.length ci] := (((Zd.new w [.int .i64 tx, .slice a now.rules.length ca, .slice b now.zones.length cb, .slice c now.links.length cc, .slice d was.rules.length cd, .slice e was.zones.length ce, .slice f was.links.length cf, .int .i64 cur, .slice va vs.length cv, .slice ia ix.length ci] 30).below (qal _ _))).below (qal _ _)
 have R0 : Zd (((w.alloc (.cells #[.int .i64 tx, .slice a now.rules.length ca, .slice b now.zones.length cb, .slice c now.links.length cc, .slice d was.rules.length cd, .slice e was.zones.length ce, .slice f was.links.length cf, .int .i64 cur, .slice va vs.length cv, .slice ia ix.length ci] 30)).alloc (.cells #[.int .i64 0, .slice none 0 0, .slice none 0 0, .slice none 0 0, .slice none 0 0, .slice none 0 0, .slice none 0 0, .int .i64 0, .slice none 0 0, .slice none 0 0] 41)).alloc (.cells #[.int .i64 tx, .slice none 0 0, .slice none 0 0, .slice none 0 0, .slice none 0 0, .slice none 0 0, .slice none 0 0, .int .i64 0, .slice none 0 0, .slice none 0 0] 41)) (w.heap.size + 1) [.int .i64 0, .slice none 0 0, .slice none 0 0, .slice none 0 0, .slice none 0 0, .slice none 0 0, .slice none 0 0, .int .i64 0, .slice none 0 0, .slice none 0 0] := by have h := (Zd.new (w.alloc (.cells #[.int .i64 tx, .slice a now.rules.length ca, .slice b now.zones.length cb, .slice c now.links.length cc, .slice d was.rules.length cd, .slice e was.zones.length ce, .slice f was.links.length cf, .int .i64 cur, .slice va vs.length cv, .slice ia ix.length ci] 30)) [.int .i64 0, .slice none 0 0, .slice none 0 0, .slice none 0 0, .slice none 0 0, .slice none 0 0, .slice none 0 0, .int .i64 0, .slice none 0 0, .slice none 0 0] 41).below (qal _ (.cells #[.int .i64 tx, .slice none 0 0, .slice none 0 0, .slice none 0 0, .slice none 0 0, .slice none 0 0, .slice none 0 0, .int .i64 0, .slice none 0 0, .slice none 0 0] 41)); simpa using h
 have O0 : Zd (((w.alloc (.cells #[.int .i64 tx, .slice a now.rules.length ca, .slice b now.zones.length cb, .slice c now.links.length cc, .slice d was.rules.length cd, .slice e was.zones.length ce, .slice f was.links.length cf, .int .i64 cur, .slice va vs.length cv, .slice ia ix.length ci] 30)).alloc (.cells #[.int .i64 0, .slice none 0 0, .slice none 0 0, .slice none 0 0, .slice none 0 0, .slice none 0 0, .slice none 0 0, .int .i64 0, .slice none 0 0, .slice none 0 0] 41)).alloc (.cells #[.int .i64 tx, .slice none 0 0, .slice none 0 0, .slice none 0 0, .slice none 0 0, .slice none 0 0, .slice none 0 0, .int .i64 0, .slice none 0 0, .slice none 0 0] 41)) (w.heap.size + 1 + 1) [.int .i64 tx, .slice none 0 0, .slice none 0 0, .slice none 0 0, .slice none 0 0, .slice none 0 0, .slice none 0 0, .int .i64 0, .slice none 0 0, .slice none 0 0] := by have h := Zd.new ((w.alloc (.cells #[.int .i64 tx, .slice a now.rules.length ca, .slice b now.zones.length cb, .slice c now.links.length cc, .slice d was.rules.length cd, .slice e was.zones.length ce, .slice f was.links.length cf, .int .i64 cur, .slice va vs.length cv, .slice ia ix.length ci] 30)).alloc (.cells #[.int .i64 0, .slice none 0 0, .slice none 0 0, .slice none 0 0, .slice none 0 0, .slice none 0 0, .slice none 0 0, .int .i64 0, .slice none 0 0, .slice none 0 0] 41)) [.int .i64 tx, .slice none 0 0, .slice none 0 0, .slice none 0 0, .slice none 0 0, .slice none 0 0, .slice none 0 0, .int .i64 0, .slice none 0 0, .slice none 0 0] 41; simpa using h
 have q1 := fun w (h : Zb w (.agg #[.slice a now.rules.length ca, .slice b now.zones.length cb, .slice c now.links.length cc]) now) => laws_toRelease now _ w h m1.sm
 have q2 := fun w (h : Zb w (.agg #[.slice d was.rules.length cd, .slice e was.zones.length ce, .slice f was.links.length cf]) was) => laws_toRelease was _ w h m2.sm
 have q3 := fun w (h : Za w va 8 (vs.map VersionD.cs)) => laws_toVersionS vs va cv w h m4
 have q4 := fun w (h : Za w ia 2 (ix.map EntryD.cs)) => laws_toEntryS ix ia ci w h m5
 clear m1 m2 m3 hv
 have HN := hid hN
 have HW := hid hW
 have HV := hid hV
 have HX := hid hX
 clear hN hW hV hX
 go_enter Tryz.func6, Tryz.ntmps6
 have hs0 : w.heap.size + 1 + 1 + 1 <= (((w.alloc (.cells #[.int .i64 tx, .slice a now.rules.length ca, .slice b now.zones.length cb, .slice c now.links.length cc, .slice d was.rules.length cd, .slice e was.zones.length ce, .slice f was.links.length cf, .int .i64 cur, .slice va vs.length cv, .slice ia ix.length ci] 30)).alloc (.cells #[.int .i64 0, .slice none 0 0, .slice none 0 0, .slice none 0 0, .slice none 0 0, .slice none 0 0, .slice none 0 0, .int .i64 0, .slice none 0 0, .slice none 0 0] 41)).alloc (.cells #[.int .i64 tx, .slice none 0 0, .slice none 0 0, .slice none 0 0, .slice none 0 0, .slice none 0 0, .slice none 0 0, .int .i64 0, .slice none 0 0, .slice none 0 0] 41)).heap.size := by rw [hz0]; omega
 go_wp2_with fail
 generalize (((w.alloc (.cells #[.int .i64 tx, .slice a now.rules.length ca, .slice b now.zones.length cb, .slice c now.links.length cc, .slice d was.rules.length cd, .slice e was.zones.length ce, .slice f was.links.length cf, .int .i64 cur, .slice va vs.length cv, .slice ia ix.length ci] 30)).alloc (.cells #[.int .i64 0, .slice none 0 0, .slice none 0 0, .slice none 0 0, .slice none 0 0, .slice none 0 0, .slice none 0 0, .int .i64 0, .slice none 0 0, .slice none 0 0] 41)).alloc (.cells #[.int .i64 tx, .slice none 0 0, .slice none 0 0, .slice none 0 0, .slice none 0 0, .slice none 0 0, .slice none 0 0, .int .i64 0, .slice none 0 0, .slice none 0 0] 41)) = wB at *
 clear hz0
 refine (q1 _ (HN.out.below hB0)).mono ?_
 rintro e w1 ⟨v1, rfl, own1, hb0⟩
 obtain ⟨ga, gb, gc, hv1, _⟩ := own1.form
 subst hv1
 have own1 := own1.mono hs0
 have hB1 := qtr hB0 hb0
 have A1 := A0.below hb0
 have R1 := R0.below hb0
 have O1 := O0.below hb0
 have hs1 : w.heap.size + 1 + 1 + 1 <= w1.heap.size := by have := hb0.size; omega
 clear A0 R0 O0 hB0 hs0 hb0
 have a4 := A1.c 4 (u := .slice d was.rules.length cd) rfl
 have a5 := A1.c 5 (u := .slice e was.zones.length ce) rfl
 have a6 := A1.c 6 (u := .slice f was.links.length cf) rfl
 have o1 := O1.c 1 (u := .slice none 0 0) rfl
 have of1 := O1.f 1 (u := .slice none 0 0) rfl
 have o2 := O1.c 2 (u := .slice none 0 0) rfl
 have of2 := O1.f 2 (u := .slice none 0 0) rfl
 have o3 := O1.c 3 (u := .slice none 0 0) rfl
 have of3 := O1.f 3 (u := .slice none 0 0) rfl
 go_wp2_with fail
 clear a4 a5 a6 o1 of1 o2 of2 o3 of3
 have O2 := (((O1.set (j := 1) (.slice (some ⟨ga, 0, none⟩) now.rules.length now.rules.length)).set (j := 2) (.slice (some ⟨gb, 0, none⟩) now.zones.length now.zones.length)).set (j := 3) (.slice (some ⟨gc, 0, none⟩) now.links.length now.links.length))
 have A2 := (((A1.other (b2 := w.heap.size + 1 + 1) (j := 1) (by omega) (.slice (some ⟨ga, 0, none⟩) now.rules.length now.rules.length)).other (b2 := w.heap.size + 1 + 1) (j := 2) (by omega) (.slice (some ⟨gb, 0, none⟩) now.zones.length now.zones.length)).other (b2 := w.heap.size + 1 + 1) (j := 3) (by omega) (.slice (some ⟨gc, 0, none⟩) now.links.length now.links.length))
 have R2 := (((R1.other (b2 := w.heap.size + 1 + 1) (j := 1) (by omega) (.slice (some ⟨ga, 0, none⟩) now.rules.length now.rules.length)).other (b2 := w.heap.size + 1 + 1) (j := 2) (by omega) (.slice (some ⟨gb, 0, none⟩) now.zones.length now.zones.length)).other (b2 := w.heap.size + 1 + 1) (j := 3) (by omega) (.slice (some ⟨gc, 0, none⟩) now.links.length now.links.length))
 have hB2 := (bst (w.heap.size + 1 + 1) 3 (.slice (some ⟨gc, 0, none⟩) now.links.length now.links.length) (by omega) (bst (w.heap.size + 1 + 1) 2 (.slice (some ⟨gb, 0, none⟩) now.zones.length now.zones.length) (by omega) (bst (w.heap.size + 1 + 1) 1 (.slice (some ⟨ga, 0, none⟩) now.rules.length now.rules.length) (by omega) hB1)))
 have hs2 := (szs ⟨w.heap.size + 1 + 1, 3, none⟩ (.slice (some ⟨gc, 0, none⟩) now.links.length now.links.length) (szs ⟨w.heap.size + 1 + 1, 2, none⟩ (.slice (some ⟨gb, 0, none⟩) now.zones.length now.zones.length) (szs ⟨w.heap.size + 1 + 1, 1, none⟩ (.slice (some ⟨ga, 0, none⟩) now.rules.length now.rules.length) hs1)))
 have F2 := ((((Jk.refl (w.heap.size + 1 + 1 + 1) w1).set (p := w.heap.size + 1 + 1) (i := 1) (by omega) (.slice (some ⟨ga, 0, none⟩) now.rules.length now.rules.length)).set (p := w.heap.size + 1 + 1) (i := 2) (by omega) (.slice (some ⟨gb, 0, none⟩) now.zones.length now.zones.length)).set (p := w.heap.size + 1 + 1) (i := 3) (by omega) (.slice (some ⟨gc, 0, none⟩) now.links.length now.links.length))
 have own1' := own1.from F2 (Nat.le_refl _)
 clear A1 R1 O1 hB1 hs1 F2 own1
 have own1 := own1'
 clear own1'
 generalize (((w1.setCell ⟨w.heap.size + 1 + 1, 1, none⟩ (.slice (some ⟨ga, 0, none⟩) now.rules.length now.rules.length)).setCell ⟨w.heap.size + 1 + 1, 2, none⟩ (.slice (some ⟨gb, 0, none⟩) now.zones.length now.zones.length)).setCell ⟨w.heap.size + 1 + 1, 3, none⟩ (.slice (some ⟨gc, 0, none⟩) now.links.length now.links.length)) = wC at *
 refine (q2 _ (HW.out.below hB2)).mono ?_
 rintro e w2 ⟨v2, rfl, own2, hb2⟩
 obtain ⟨gd, ge, gf, hv2, _⟩ := own2.form
 subst hv2
 have own2 := own2.mono hs2
 have hB3 := qtr hB2 hb2
 have A3 := A2.below hb2
 have R3 := R2.below hb2
 have O3 := O2.below hb2
 have hs3 : w.heap.size + 1 + 1 + 1 <= w2.heap.size := by have := hb2.size; omega
 have own1' := own1.below hb2
 clear own1
 have own1 := own1'
 clear own1'
 clear A2 R2 O2 hB2 hs2 hb2
 have a7 := A3.c 7 (u := .int .i64 cur) rfl
 have a8 := A3.c 8 (u := .slice va vs.length cv) rfl
 have o4 := O3.c 4 (u := .slice none 0 0) rfl
 have of4 := O3.f 4 (u := .slice none 0 0) rfl
 have o5 := O3.c 5 (u := .slice none 0 0) rfl
 have of5 := O3.f 5 (u := .slice none 0 0) rfl
 have o6 := O3.c 6 (u := .slice none 0 0) rfl
 have of6 := O3.f 6 (u := .slice none 0 0) rfl
 have o7 := O3.c 7 (u := .int .i64 0) rfl
 have of7 := O3.f 7 (u := .int .i64 0) rfl
 go_wp2_with fail
 clear a7 a8 o4 of4 o5 of5 o6 of6 o7 of7
 have O4 := ((((O3.set (j := 4) (.slice (some ⟨gd, 0, none⟩) was.rules.length was.rules.length)).set (j := 5) (.slice (some ⟨ge, 0, none⟩) was.zones.length was.zones.length)).set (j := 6) (.slice (some ⟨gf, 0, none⟩) was.links.length was.links.length)).set (j := 7) (.int .i64 cur))
 have A4 := ((((A3.other (b2 := w.heap.size + 1 + 1) (j := 4) (by omega) (.slice (some ⟨gd, 0, none⟩) was.rules.length was.rules.length)).other (b2 := w.heap.size + 1 + 1) (j := 5) (by omega) (.slice (some ⟨ge, 0, none⟩) was.zones.length was.zones.length)).other (b2 := w.heap.size + 1 + 1) (j := 6) (by omega) (.slice (some ⟨gf, 0, none⟩) was.links.length was.links.length)).other (b2 := w.heap.size + 1 + 1) (j := 7) (by omega) (.int .i64 cur))
 have R4 := ((((R3.other (b2 := w.heap.size + 1 + 1) (j := 4) (by omega) (.slice (some ⟨gd, 0, none⟩) was.rules.length was.rules.length)).other (b2 := w.heap.size + 1 + 1) (j := 5) (by omega) (.slice (some ⟨ge, 0, none⟩) was.zones.length was.zones.length)).other (b2 := w.heap.size + 1 + 1) (j := 6) (by omega) (.slice (some ⟨gf, 0, none⟩) was.links.length was.links.length)).other (b2 := w.heap.size + 1 + 1) (j := 7) (by omega) (.int .i64 cur))
 have hB4 := (bst (w.heap.size + 1 + 1) 7 (.int .i64 cur) (by omega) (bst (w.heap.size + 1 + 1) 6 (.slice (some ⟨gf, 0, none⟩) was.links.length was.links.length) (by omega) (bst (w.heap.size + 1 + 1) 5 (.slice (some ⟨ge, 0, none⟩) was.zones.length was.zones.length) (by omega) (bst (w.heap.size + 1 + 1) 4 (.slice (some ⟨gd, 0, none⟩) was.rules.length was.rules.length) (by omega) hB3))))
 have hs4 := (szs ⟨w.heap.size + 1 + 1, 7, none⟩ (.int .i64 cur) (szs ⟨w.heap.size + 1 + 1, 6, none⟩ (.slice (some ⟨gf, 0, none⟩) was.links.length was.links.length) (szs ⟨w.heap.size + 1 + 1, 5, none⟩ (.slice (some ⟨ge, 0, none⟩) was.zones.length was.zones.length) (szs ⟨w.heap.size + 1 + 1, 4, none⟩ (.slice (some ⟨gd, 0, none⟩) was.rules.length was.rules.length) hs3))))
 have F4 := (((((Jk.refl (w.heap.size + 1 + 1 + 1) w2).set (p := w.heap.size + 1 + 1) (i := 4) (by omega) (.slice (some ⟨gd, 0, none⟩) was.rules.length was.rules.length)).set (p := w.heap.size + 1 + 1) (i := 5) (by omega) (.slice (some ⟨ge, 0, none⟩) was.zones.length was.zones.length)).set (p := w.heap.size + 1 + 1) (i := 6) (by omega) (.slice (some ⟨gf, 0, none⟩) was.links.length was.links.length)).set (p := w.heap.size + 1 + 1) (i := 7) (by omega) (.int .i64 cur))
 have own1' := own1.from F4 (Nat.le_refl _)
 have own2' := own2.from F4 (Nat.le_refl _)
 clear A3 R3 O3 hB3 hs3 F4 own1 own2
 have own1 := own1'
 clear own1'
 have own2 := own2'
 clear own2'
 generalize ((((w2.setCell ⟨w.heap.size + 1 + 1, 4, none⟩ (.slice (some ⟨gd, 0, none⟩) was.rules.length was.rules.length)).setCell ⟨w.heap.size + 1 + 1, 5, none⟩ (.slice (some ⟨ge, 0, none⟩) was.zones.length was.zones.length)).setCell ⟨w.heap.size + 1 + 1, 6, none⟩ (.slice (some ⟨gf, 0, none⟩) was.links.length was.links.length)).setCell ⟨w.heap.size + 1 + 1, 7, none⟩ (.int .i64 cur)) = wD at *
 obtain ⟨gv, hgv⟩ : ∃ g, wD.heap.size = g := ⟨_, rfl⟩
 refine (q3 _ (HV.out.below hB4)).mono ?_
 rintro e w3 ⟨rfl, sv, rv, hb4⟩
 rw [hgv] at sv rv
 have gvl : w.heap.size + 1 + 1 + 1 <= gv := by omega
 simp only [hgv]
 have hB5 := qtr hB4 hb4
 have A5 := A4.below hb4
 have R5 := R4.below hb4
 have O5 := O4.below hb4
 have hs5 : w.heap.size + 1 + 1 + 1 <= w3.heap.size := by have := hb4.size; omega
 have own1' := own1.below hb4
 clear own1
 have own1 := own1'
 clear own1'
 have own2' := own2.below hb4
 clear own2
 have own2 := own2'
 clear own2'
 clear A4 R4 O4 hB4 hs4 hb4
 have a9 := A5.c 9 (u := .slice ia ix.length ci) rfl
 have o8 := O5.c 8 (u := .slice none 0 0) rfl
 have of8 := O5.f 8 (u := .slice none 0 0) rfl
 clear hgv
 go_wp2_with fail
 clear a9 o8 of8
 have O6 := (O5.set (j := 8) (.slice (some ⟨gv, 0, none⟩) vs.length vs.length))
 have A6 := (A5.other (b2 := w.heap.size + 1 + 1) (j := 8) (by omega) (.slice (some ⟨gv, 0, none⟩) vs.length vs.length))
 have R6 := (R5.other (b2 := w.heap.size + 1 + 1) (j := 8) (by omega) (.slice (some ⟨gv, 0, none⟩) vs.length vs.length))
 have hB6 := (bst (w.heap.size + 1 + 1) 8 (.slice (some ⟨gv, 0, none⟩) vs.length vs.length) (by omega) hB5)
 have hs6 := (szs ⟨w.heap.size + 1 + 1, 8, none⟩ (.slice (some ⟨gv, 0, none⟩) vs.length vs.length) hs5)
 have F6 := ((Jk.refl (w.heap.size + 1 + 1 + 1) w3).set (p := w.heap.size + 1 + 1) (i := 8) (by omega) (.slice (some ⟨gv, 0, none⟩) vs.length vs.length))
 have own1' := own1.from F6 (Nat.le_refl _)
 have own2' := own2.from F6 (Nat.le_refl _)
 have sv' := sv.from F6 (by omega)
 have rv' := rv.from F6 (by omega)
 clear A5 R5 O5 hB5 hs5 F6 own1 own2 sv rv
 have own1 := own1'
 clear own1'
 have own2 := own2'
 clear own2'
 have sv := sv'
 clear sv'
 have rv := rv'
 clear rv'
 generalize (w3.setCell ⟨w.heap.size + 1 + 1, 8, none⟩ (.slice (some ⟨gv, 0, none⟩) vs.length vs.length)) = wE at *
 obtain ⟨gx, hgx⟩ : ∃ g, wE.heap.size = g := ⟨_, rfl⟩
 refine (q4 _ (HX.out.below hB6)).mono ?_
 rintro e w4 ⟨rfl, sx, rx, hb6⟩
 rw [hgx] at sx rx
 have gxl : w.heap.size + 1 + 1 + 1 <= gx := by omega
 simp only [hgx]
 have hB7 := qtr hB6 hb6
 have A7 := A6.below hb6
 have R7 := R6.below hb6
 have O7 := O6.below hb6
 have hs7 : w.heap.size + 1 + 1 + 1 <= w4.heap.size := by have := hb6.size; omega
 have own1' := own1.below hb6
 clear own1
 have own1 := own1'
 clear own1'
 have own2' := own2.below hb6
 clear own2
 have own2 := own2'
 clear own2'
 have sv' := sv.below hb6
 clear sv
 have sv := sv'
 clear sv'
 have rv' := rv.below hb6
 clear rv
 have rv := rv'
 clear rv'
 clear A6 R6 O6 hB6 hs6 hb6
 have o9 := O7.c 9 (u := .slice none 0 0) rfl
 have of9 := O7.f 9 (u := .slice none 0 0) rfl
 clear hgx
 have OZ := O7.set (j := 9) (.slice (some ⟨gx, 0, none⟩) ix.length ix.length)
 have RZ := R7.other (b2 := w.heap.size + 1 + 1) (j := 9) (by omega) (.slice (some ⟨gx, 0, none⟩) ix.length ix.length)
 have z0 := OZ.c 0 (u := .int .i64 tx) rfl
 have y0 := RZ.c 0 (u := .int .i64 0) rfl
 have yf0 := RZ.f 0 (u := .int .i64 0) rfl
 have z1 := OZ.c 1 (u := .slice (some ⟨ga, 0, none⟩) now.rules.length now.rules.length) rfl
 have y1 := RZ.c 1 (u := .slice none 0 0) rfl
 have yf1 := RZ.f 1 (u := .slice none 0 0) rfl
 have z2 := OZ.c 2 (u := .slice (some ⟨gb, 0, none⟩) now.zones.length now.zones.length) rfl
 have y2 := RZ.c 2 (u := .slice none 0 0) rfl
 have yf2 := RZ.f 2 (u := .slice none 0 0) rfl
 have z3 := OZ.c 3 (u := .slice (some ⟨gc, 0, none⟩) now.links.length now.links.length) rfl
 have y3 := RZ.c 3 (u := .slice none 0 0) rfl
 have yf3 := RZ.f 3 (u := .slice none 0 0) rfl
 have z4 := OZ.c 4 (u := .slice (some ⟨gd, 0, none⟩) was.rules.length was.rules.length) rfl
 have y4 := RZ.c 4 (u := .slice none 0 0) rfl
 have yf4 := RZ.f 4 (u := .slice none 0 0) rfl
 have z5 := OZ.c 5 (u := .slice (some ⟨ge, 0, none⟩) was.zones.length was.zones.length) rfl
 have y5 := RZ.c 5 (u := .slice none 0 0) rfl
 have yf5 := RZ.f 5 (u := .slice none 0 0) rfl
 have z6 := OZ.c 6 (u := .slice (some ⟨gf, 0, none⟩) was.links.length was.links.length) rfl
 have y6 := RZ.c 6 (u := .slice none 0 0) rfl
 have yf6 := RZ.f 6 (u := .slice none 0 0) rfl
 have z7 := OZ.c 7 (u := .int .i64 cur) rfl
 have y7 := RZ.c 7 (u := .int .i64 0) rfl
 have yf7 := RZ.f 7 (u := .int .i64 0) rfl
 have z8 := OZ.c 8 (u := .slice (some ⟨gv, 0, none⟩) vs.length vs.length) rfl
 have y8 := RZ.c 8 (u := .slice none 0 0) rfl
 have yf8 := RZ.f 8 (u := .slice none 0 0) rfl
 have z9 := OZ.c 9 (u := .slice (some ⟨gx, 0, none⟩) ix.length ix.length) rfl
 have y9 := RZ.c 9 (u := .slice none 0 0) rfl
 have yf9 := RZ.f 9 (u := .slice none 0 0) rfl
 have RF := ((((((((((RZ.set (j := 0) (.int .i64 tx)).set (j := 1) (.slice (some ⟨ga, 0, none⟩) now.rules.length now.rules.length)).set (j := 2) (.slice (some ⟨gb, 0, none⟩) now.zones.length now.zones.length)).set (j := 3) (.slice (some ⟨gc, 0, none⟩) now.links.length now.links.length)).set (j := 4) (.slice (some ⟨gd, 0, none⟩) was.rules.length was.rules.length)).set (j := 5) (.slice (some ⟨ge, 0, none⟩) was.zones.length was.zones.length)).set (j := 6) (.slice (some ⟨gf, 0, none⟩) was.links.length was.links.length)).set (j := 7) (.int .i64 cur)).set (j := 8) (.slice (some ⟨gv, 0, none⟩) vs.length vs.length)).set (j := 9) (.slice (some ⟨gx, 0, none⟩) ix.length ix.length))
 have FZ := ((((((((((((Jk.refl (w.heap.size + 1 + 1 + 1) w4).set (p := w.heap.size + 1 + 1) (i := 9) (by omega) (.slice (some ⟨gx, 0, none⟩) ix.length ix.length)).set (p := w.heap.size + 1) (i := 0) (by omega) (.int .i64 tx)).set (p := w.heap.size + 1) (i := 1) (by omega) (.slice (some ⟨ga, 0, none⟩) now.rules.length now.rules.length)).set (p := w.heap.size + 1) (i := 2) (by omega) (.slice (some ⟨gb, 0, none⟩) now.zones.length now.zones.length)).set (p := w.heap.size + 1) (i := 3) (by omega) (.slice (some ⟨gc, 0, none⟩) now.links.length now.links.length)).set (p := w.heap.size + 1) (i := 4) (by omega) (.slice (some ⟨gd, 0, none⟩) was.rules.length was.rules.length)).set (p := w.heap.size + 1) (i := 5) (by omega) (.slice (some ⟨ge, 0, none⟩) was.zones.length was.zones.length)).set (p := w.heap.size + 1) (i := 6) (by omega) (.slice (some ⟨gf, 0, none⟩) was.links.length was.links.length)).set (p := w.heap.size + 1) (i := 7) (by omega) (.int .i64 cur)).set (p := w.heap.size + 1) (i := 8) (by omega) (.slice (some ⟨gv, 0, none⟩) vs.length vs.length)).set (p := w.heap.size + 1) (i := 9) (by omega) (.slice (some ⟨gx, 0, none⟩) ix.length ix.length))
 have HBF : Hid (Below w.heap.size w _) := (bst (w.heap.size + 1) 9 (.slice (some ⟨gx, 0, none⟩) ix.length ix.length) (by omega) (bst (w.heap.size + 1) 8 (.slice (some ⟨gv, 0, none⟩) vs.length vs.length) (by omega) (bst (w.heap.size + 1) 7 (.int .i64 cur) (by omega) (bst (w.heap.size + 1) 6 (.slice (some ⟨gf, 0, none⟩) was.links.length was.links.length) (by omega) (bst (w.heap.size + 1) 5 (.slice (some ⟨ge, 0, none⟩) was.zones.length was.zones.length) (by omega) (bst (w.heap.size + 1) 4 (.slice (some ⟨gd, 0, none⟩) was.rules.length was.rules.length) (by omega) (bst (w.heap.size + 1) 3 (.slice (some ⟨gc, 0, none⟩) now.links.length now.links.length) (by omega) (bst (w.heap.size + 1) 2 (.slice (some ⟨gb, 0, none⟩) now.zones.length now.zones.length) (by omega) (bst (w.heap.size + 1) 1 (.slice (some ⟨ga, 0, none⟩) now.rules.length now.rules.length) (by omega) (bst (w.heap.size + 1) 0 (.int .i64 tx) (by omega) (bst (w.heap.size + 1 + 1) 9 (.slice (some ⟨gx, 0, none⟩) ix.length ix.length) (by omega) hB7)))))))))))
 have HOF : Hid (OwnSt _ w.heap.size (.agg #[.int .i64 tx, .slice (some ⟨ga, 0, none⟩) now.rules.length now.rules.length, .slice (some ⟨gb, 0, none⟩) now.zones.length now.zones.length, .slice (some ⟨gc, 0, none⟩) now.links.length now.links.length, .slice (some ⟨gd, 0, none⟩) was.rules.length was.rules.length, .slice (some ⟨ge, 0, none⟩) was.zones.length was.zones.length, .slice (some ⟨gf, 0, none⟩) was.links.length was.links.length, .int .i64 cur, .slice (some ⟨gv, 0, none⟩) vs.length vs.length, .slice (some ⟨gx, 0, none⟩) ix.length ix.length]) ⟨tx, now, was, cur, vs, ix⟩) := ⟨ga, gb, gc, gd, ge, gf, gv, gx, rfl, (own1.from FZ (Nat.le_refl _)).mono (by omega), (own2.from FZ (Nat.le_refl _)).mono (by omega), ⟨by omega, sv.from FZ (by omega), rv.from FZ (by omega)⟩, ⟨by omega, sx.from FZ (by omega), rx.from FZ (by omega)⟩⟩
 have t0 := RF.c 0 (u := .int .i64 tx) rfl
 have t1 := RF.c 1 (u := .slice (some ⟨ga, 0, none⟩) now.rules.length now.rules.length) rfl
 have t2 := RF.c 2 (u := .slice (some ⟨gb, 0, none⟩) now.zones.length now.zones.length) rfl
 have t3 := RF.c 3 (u := .slice (some ⟨gc, 0, none⟩) now.links.length now.links.length) rfl
 have t4 := RF.c 4 (u := .slice (some ⟨gd, 0, none⟩) was.rules.length was.rules.length) rfl
 have t5 := RF.c 5 (u := .slice (some ⟨ge, 0, none⟩) was.zones.length was.zones.length) rfl
 have t6 := RF.c 6 (u := .slice (some ⟨gf, 0, none⟩) was.links.length was.links.length) rfl
 have t7 := RF.c 7 (u := .int .i64 cur) rfl
 have t8 := RF.c 8 (u := .slice (some ⟨gv, 0, none⟩) vs.length vs.length) rfl
 have t9 := RF.c 9 (u := .slice (some ⟨gx, 0, none⟩) ix.length ix.length) rfl
 clear FZ RF OZ RZ own1 own2 sv rv sx rx A7 R7 O7 hB7 hs7 gvl gxl
 go_wp2
 exact bodyPost_ret (v := .agg #[.int .i64 tx, .slice (some ⟨ga, 0, none⟩) now.rules.length now.rules.length, .slice (some ⟨gb, 0, none⟩) now.zones.length now.zones.length, .slice (some ⟨gc, 0, none⟩) now.links.length now.links.length, .slice (some ⟨gd, 0, none⟩) was.rules.length was.rules.length, .slice (some ⟨ge, 0, none⟩) was.zones.length was.zones.length, .slice (some ⟨gf, 0, none⟩) was.links.length was.links.length, .int .i64 cur, .slice (some ⟨gv, 0, none⟩) vs.length vs.length, .slice (some ⟨gx, 0, none⟩) ix.length ix.length]) (by simp [results, Tryz.results6, go_sem, t0, t1, t2, t3, t4, t5, t6, t7, t8, t9]) rfl ⟨_, rfl, HOF.out, HBF.out⟩
end
end Go.Proofs.YtpejeokacilebaaGreatDoor
