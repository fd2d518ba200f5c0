/- Packed. -/
import Derived.Test.YtpejeokacilebaaGreatDoorSFs
import Derived.Test.YtpejeokacilebaaGreatDoorFtMaths
import Derived.Test.YtpejeokacilebaaGreatDoorStrTs
import Derived.Test.YtpejeokacilebaaGreatDoorSEs
set_option maxHeartbeats 20000000
set_option linter.unusedSimpArgs false
namespace Go.Proofs.YtpejeokacilebaaGreatDoor
section
open Go.RowKit Go.ChangeMaps Go.MapKept Go.WideMaps
def momT (t : Int × List TurnD) (e : EventD) : Int × Bool := if t.1 = 0 then ((resD t.2 e.wall e.gap e.fold).1, decide ((resD t.2 e.wall e.gap e.fold).2 = 0)) else (0, false)
theorem momT_no {t : Int × List TurnD} {e : EventD} (h : t.1 ≠ 0) : momT t e = (0, false) := by unfold momT; rw [if_neg h]
theorem momT_yes {t : Int × List TurnD} {e : EventD} (h : t.1 = 0) : momT t e = ((resD t.2 e.wall e.gap e.fold).1, decide ((resD t.2 e.wall e.gap e.fold).2 = 0)) := by unfold momT; rw [if_pos h]
theorem tabD_sound {r : RelD} {nm : ByteArray} (h : (tabD r nm).1 = 0) : (∀ t ∈ (tabD r nm).2, t.ok) /\ (tabD r nm).2.length <= 1048576 := by
 have hb := (tabD_good h).2.2.2.right
 unfold tabB at hb
 simp only [Bool.and_eq_true, decide_eq_true_eq, List.all_eq_true] at hb
 obtain ⟨h1, h2, _⟩ := hb
 refine ⟨fun t ht => ?_, by omega⟩
 have h3 := h2 t ht
 unfold jb4 at h3
 simp only [Bool.and_eq_true, decide_eq_true_eq] at h3
 have := h3.2.2
 unfold TurnD.ok maxLen
 omega
structure MomP (r : RelD) (e : EventD) (mb mn : Nat) (w : World) (q : Ending) (w' : World) : Prop where
 ex : q = .returned (.agg #[.int .i64 (momT (tabD r (jam r e.zone).name) e).1, .bool (momT (tabD r (jam r e.zone).name) e).2])
 cache : Ze w' mb (mn + 1) r
 grown : w.grownBy w' (some mb)
end
section
open Go.RowKit
theorem inR_eras {r : RelD} {nm : ByteArray} (h : relB r = true) (hi : inR r nm = true) : (jam r nm).eras ≠ [] := by
 unfold inR at hi
 cases hx : jbd r.zones (ja6 r.links nm) with
 | none => rw [hx] at hi; cases hi
 | some i =>
  have hl : i < r.zones.length := by unfold jbd at hx; exact (List.findIdx?_eq_some_iff_getElem.mp hx).1
  rw [jcm h hx (List.getElem?_eq_getElem hl)]
  intro he
  have := (jc6 h (List.getElem_mem hl)).1
  rw [he] at this
  simp at this
theorem tab_mine {r : RelD} {nm : ByteArray} (h : relB r = true) (hi : inR r nm = true) (hz : nm.size <= 8000) : tabD r (jam r nm).name = tabD r nm := tab_own hz h (inR_eras h hi) (by have := zone_short (nm := nm) h; omega)
def momR (r : RelD) (e : EventD) : Int × Bool := momT (tabD r e.zone) e
def momS (s : StoreD) (e : EventD) : Int × Bool := if s.cur = 0 \/ e.id < s.cur then momR s.now e else momR s.was e
def entAdd (g : EventD -> Int × Bool) (L : List EntryD) (e : EventD) : List EntryD := if (g e).2 = true then insX L ⟨(g e).1, e.id⟩ else L
def entF (g : EventD -> Int × Bool) (l : List EventD) : List EntryD := l.foldl (entAdd g) []
theorem entF_take {g : EventD -> Int × Bool} {l : List EventD} {i : Nat} {e : EventD} (h : l[i]? = some e) : entF g (l.take (i + 1)) = entAdd g (entF g (l.take i)) e := by
 unfold entF
 rw [List.take_add_one, h, List.foldl_append]
 rfl
theorem entAdd_mem {g : EventD -> Int × Bool} {L : List EntryD} {e : EventD} {x : EntryD} : x ∈ entAdd g L e ↔ x ∈ L \/ ((g e).2 = true /\ x = ⟨(g e).1, e.id⟩) := by
 unfold entAdd
 split
 ·rename_i h
  rw [insX_mem]
  constructor
  ·rintro (h1 | h1)
   ·exact .inr ⟨h, h1⟩
   ·exact .inl h1
  ·rintro (h1 | h1)
   ·exact .inr h1
   ·exact .inl h1.2
 ·rename_i h
  exact ⟨.inl, fun h1 => h1.elim id fun h2 => absurd h2.1 h⟩
theorem fold_mem {g : EventD -> Int × Bool} {l : List EventD} {L : List EntryD} {x : EntryD} : x ∈ l.foldl (entAdd g) L ↔ x ∈ L \/ ∃ e ∈ l, (g e).2 = true /\ x = ⟨(g e).1, e.id⟩ := by
 induction l generalizing L with
 | nil => simp
 | cons a l ih =>
  rw [List.foldl_cons, ih, entAdd_mem]
  constructor
  ·rintro ((h | h) | ⟨e, he, h⟩)
   ·exact .inl h
   ·exact .inr ⟨a, by simp, h⟩
   ·exact .inr ⟨e, List.mem_cons_of_mem _ he, h⟩
  ·rintro (h | ⟨e, he, h⟩)
   ·exact .inl (.inl h)
   ·rcases List.mem_cons.mp he with rfl | he
    ·exact .inl (.inr h)
    ·exact .inr ⟨e, he, h⟩
theorem entF_mem {g : EventD -> Int × Bool} {l : List EventD} {x : EntryD} : x ∈ entF g l ↔ ∃ e ∈ l, (g e).2 = true /\ x = ⟨(g e).1, e.id⟩ := by
 unfold entF
 rw [fold_mem]
 simp
theorem fold_up {g : EventD -> Int × Bool} {l : List EventD} {L : List EntryD} (hl : l.Pairwise fun x y => x.id < y.id) (hL : Jl L) (hd : ∀ x ∈ L, ∀ e ∈ l, x.id ≠ e.id) : Jl (l.foldl (entAdd g) L) := by
 induction l generalizing L with
 | nil => exact hL
 | cons a l ih =>
  have h2 := List.pairwise_cons.mp hl
  rw [List.foldl_cons]
  refine ih h2.2 ?_ fun x hx e he => ?_
  ·unfold entAdd
   split
   ·exact insX_up hL fun hm => hd _ hm a (by simp) rfl
   ·exact hL
  ·rcases entAdd_mem.mp hx with h | h
   ·exact hd x h e (List.mem_cons_of_mem _ he)
   ·rw [h.2]
    have := h2.1 e he
    simp only
    omega
theorem entF_up {g : EventD -> Int × Bool} {l : List EventD} (hl : l.Pairwise fun x y => x.id < y.id) : Jl (entF g l) := fold_up hl (by unfold Jl; exact List.Pairwise.nil) (fun x hx => by simp at hx)
theorem fold_len {g : EventD -> Int × Bool} {l : List EventD} {L : List EntryD} : (l.foldl (entAdd g) L).length <= L.length + l.length := by
 induction l generalizing L with
 | nil => simp
 | cons a l ih =>
  rw [List.foldl_cons, List.length_cons]
  have h1 : (entAdd g L a).length <= L.length + 1 := by
   unfold entAdd
   split
   ·rw [jbb]; omega
   ·omega
  have := ih (L := entAdd g L a)
  omega
theorem entF_len (g : EventD -> Int × Bool) (l : List EventD) : (entF g l).length <= l.length := by
 have := fold_len (g := g) (l := l) (L := [])
 simpa [entF] using this
theorem entF_same {g h : EventD -> Int × Bool} {l : List EventD} (hs : ∀ e ∈ l, g e = h e) : entF g l = entF h l := by
 unfold entF
 suffices H : ∀ L, l.foldl (entAdd g) L = l.foldl (entAdd h) L from H []
 induction l with
 | nil => exact fun L => rfl
 | cons a l ih =>
  intro L
  rw [List.foldl_cons, List.foldl_cons, show entAdd g L a = entAdd h L a by unfold entAdd; rw [hs a (by simp)]]
  exact ih (fun e he => hs e (List.mem_cons_of_mem _ he)) _
theorem ent_sort {f : Int -> Option EventD} {g : EventD -> Int × Bool} {L : List EventD} {P : List EntryD} (hT : Tells f L) (hL : L.Pairwise fun x y => x.id < y.id) (hP : P.Nodup) (hm : ∀ x, x ∈ P ↔ ∃ e, f e.id = some e /\ (g e).2 = true /\ x = ⟨(g e).1, e.id⟩) : sortX P = entF g L :=
 upX_one (sortX_up hP) (entF_up hL) fun x => by
  rw [sortX_mem, hm, entF_mem]
  constructor
  ·rintro ⟨e, h1, h2⟩
   exact ⟨e, (hT.mem e).mpr h1, h2⟩
  ·rintro ⟨e, h1, h2⟩
   exact ⟨e, (hT.mem e).mp h1, h2⟩
end
section
open Go.RowKit Go.ChangeMaps Go.MapKept Go.WideMaps
set_option maxRecDepth 20000 in
theorem impl_moment (r : RelD) (a b c : Option Addr) (ca cb cc mb mn : Nat) (ev : EventD) (w : World) (hE : Zw w) (hv : Zb w (.agg #[.slice a r.rules.length ca, .slice b r.zones.length cb, .slice c r.links.length cc]) r) (ok : Jj r) (hr : relB r = true) (hC : Ze w mb mn r) (hmn : mn <= 1048576) :
  Calls Tryz.prog 117 #[.agg #[.slice a r.rules.length ca, .slice b r.zones.length cb, .slice c r.links.length cc, .map (some mb)], ev.v] w (MomP r ev mb mn w) := by
 obtain ⟨id, name, zone, wall, gap, fold⟩ := ev
 simp only [EventD.v]
 have hB1 : Below w.heap.size w (((w.alloc (.cells #[.slice a r.rules.length ca, .slice b r.zones.length cb, .slice c r.links.length cc, .map (some mb)] 112)).alloc (.cells #[.int .i64 id, .string name, .string zone, .int .i64 wall, .int .i64 gap, .int .i64 fold] 54)).alloc (.cells #[.int .i64 0, .bool false] 180)) := ((qal _ _).alloc (by simp) _).alloc (by simp; omega) _
 have hT := impl_table r a b c ca cb cc mb mn zone (((w.alloc (.cells #[.slice a r.rules.length ca, .slice b r.zones.length cb, .slice c r.links.length cc, .map (some mb)] 112)).alloc (.cells #[.int .i64 id, .string name, .string zone, .int .i64 wall, .int .i64 gap, .int .i64 fold] 54)).alloc (.cells #[.int .i64 0, .bool false] 180)) (hE.of_below hB1) (hv.below hB1) ok hr (hC.below hB1) hmn
 have hmb := hC.lt
 obtain ⟨x00, x01, x02, x03, x12, x13, x14, x15, x20, x21, f0, f1⟩ : (fun z : World => z.cell? ⟨w.heap.size, 0, none⟩ = some (.slice a r.rules.length ca) /\ z.cell? ⟨w.heap.size, 1, none⟩ = some (.slice b r.zones.length cb) /\ z.cell? ⟨w.heap.size, 2, none⟩ = some (.slice c r.links.length cc) /\ z.cell? ⟨w.heap.size, 3, none⟩ = some (.map (some mb)) /\ z.cell? ⟨w.heap.size + 1, 2, none⟩ = some (.string zone) /\ z.cell? ⟨w.heap.size + 1, 3, none⟩ = some (.int .i64 wall) /\ z.cell? ⟨w.heap.size + 1, 4, none⟩ = some (.int .i64 gap) /\ z.cell? ⟨w.heap.size + 1, 5, none⟩ = some (.int .i64 fold) /\ z.cell? ⟨w.heap.size + 1 + 1, 0, none⟩ = some (.int .i64 0) /\ z.cell? ⟨w.heap.size + 1 + 1, 1, none⟩ = some (.bool false) /\ z.frozen? ⟨w.heap.size + 1 + 1, 0, none⟩ = false /\ z.frozen? ⟨w.heap.size + 1 + 1, 1, none⟩ = false) (((w.alloc (.cells #[.slice a r.rules.length ca, .slice b r.zones.length cb, .slice c r.links.length cc, .map (some mb)] 112)).alloc (.cells #[.int .i64 id, .string name, .string zone, .int .i64 wall, .int .i64 gap, .int .i64 fold] 54)).alloc (.cells #[.int .i64 0, .bool false] 180)) := by simp [go_sem]
 have hh : (((w.alloc (.cells #[.slice a r.rules.length ca, .slice b r.zones.length cb, .slice c r.links.length cc, .map (some mb)] 112)).alloc (.cells #[.int .i64 id, .string name, .string zone, .int .i64 wall, .int .i64 gap, .int .i64 fold] 54)).alloc (.cells #[.int .i64 0, .bool false] 180)).heap[w.heap.size + 1 + 1]? = some (Obj.cells #[.int .i64 0, .bool false] 180) := by
  have h := heap_alloc_new ((w.alloc (.cells #[.slice a r.rules.length ca, .slice b r.zones.length cb, .slice c r.links.length cc, .map (some mb)] 112)).alloc (.cells #[.int .i64 id, .string name, .string zone, .int .i64 wall, .int .i64 gap, .int .i64 fold] 54)) (.cells #[.int .i64 0, .bool false] 180)
  have e : ((w.alloc (.cells #[.slice a r.rules.length ca, .slice b r.zones.length cb, .slice c r.links.length cc, .map (some mb)] 112)).alloc (.cells #[.int .i64 id, .string name, .string zone, .int .i64 wall, .int .i64 gap, .int .i64 fold] 54)).heap.size = w.heap.size + 1 + 1 := by simp
  rw [e] at h
  exact h
 have hg1 : w.grownBy (((w.alloc (.cells #[.slice a r.rules.length ca, .slice b r.zones.length cb, .slice c r.links.length cc, .map (some mb)] 112)).alloc (.cells #[.int .i64 id, .string name, .string zone, .int .i64 wall, .int .i64 gap, .int .i64 fold] 54)).alloc (.cells #[.int .i64 0, .bool false] 180)) (some mb) := (jan hB1).but _
 have HC := hid hC
 clear hv hE ok hr hC hmn
 go_enter Tryz.func117, Tryz.ntmps117
 go_wp2_with fail
 refine hT.mono ?_
 rintro q W2 hP
 obtain ⟨⟨ta, tn, tc, tk⟩, rfl, hTE⟩ := hP.ex
 have HC2 := hid hP.cache
 have hg2 := hP.grown
 clear hP hT
 simp only [TOut.v]
 have HT := hid hTE
 clear hTE
 have y12 := hg2.cell x12 (by simp; omega)
 have y13 := hg2.cell x13 (by simp; omega)
 have y14 := hg2.cell x14 (by simp; omega)
 have y15 := hg2.cell x15 (by simp; omega)
 have y20 := hg2.cell x20 (by simp; omega)
 have y21 := hg2.cell x21 (by simp; omega)
 have h0 : some (w.heap.size + 1 + 1) ≠ some mb := by simp; omega
 have g0 := (hg2.frozen_far ⟨w.heap.size + 1 + 1, 0, none⟩ (qbl x20) h0).trans f0
 have g1 := (hg2.frozen_far ⟨w.heap.size + 1 + 1, 1, none⟩ (qbl x21) h0).trans f1
 have hh2 := (hg2.block _ (qbl x20) h0).trans hh
 have HG : Hid (w.grownBy W2 (some mb)) := hg1.andThen hg2 (fun _ h => .inr h)
 have hlt := qbl y20
 dsimp only at hlt
 clear x00 x01 x02 x03 x12 x13 x14 x15 x20 x21 f0 f1 hh hg1 hg2 hB1
 have b3 := qal W2 (.cells #[.slice ta tn tc, .int .i64 tk] 140)
 by_cases hk : tk = 0
 ·subst hk
  have hd : (tabD r (jam r zone).name).1 = 0 := HT.out.code.symm
  have hs := tabD_sound hd
  have HM : Hid (momT (tabD r (jam r zone).name) ⟨id, name, zone, wall, gap, fold⟩ = ((resD (tabD r (jam r zone).name).2 wall gap fold).1, decide ((resD (tabD r (jam r zone).name).2 wall gap fold).2 = 0))) := momT_yes hd
  have hn := HT.out.n
  have hq := HT.out.seq.below b3
  dsimp only at hn hq
  obtain ⟨l, hl⟩ : ∃ x, (tabD r (jam r zone).name).2 = x := ⟨_, rfl⟩
  rw [hl] at hs hn hq
  have HL := hid hl
  clear hl hd
  have hR := impl_Resolve l (.agg #[.slice ta tn tc]) wall gap fold _ ⟨ta, tc, by rw [hn], hq⟩ hs.1 hs.2
  have HQ : Hid (momT (tabD r (jam r zone).name) ⟨id, name, zone, wall, gap, fold⟩ = ((resD l wall gap fold).1, decide ((resD l wall gap fold).2 = 0))) := by simp only [Hid]; rw [HM.out, HL.out]
  clear HM hn hq hs
  obtain ⟨⟨N, C⟩, hnc⟩ : ∃ x, resD l wall gap fold = x := ⟨_, rfl⟩
  rw [hnc] at hR HQ
  clear hnc
  simp only [outV] at hR
  have z13 := jaa b3 y13
  have z14 := jaa b3 y14
  have z15 := jaa b3 y15
  have z20 := jaa b3 y20
  have z21 := jaa b3 y21
  have k0 := qfz b3 y20 g0
  have k1 := qfz b3 y21 g1
  go_wp2_with fail
  refine hR.mono ?_
  rintro q W4 ⟨rfl, hb4⟩
  have b4 : Below W2.heap.size W2 W4 := qtr b3 hb4
  have v20 := jaa b4 y20
  have v21 := jaa b4 y21
  have m0 := qfz b4 y20 g0
  have m1 := qfz b4 y21 g1
  have hh4 := (b4.block _ (qbl y20)).trans hh2
  have hlt4 := qbl v20
  dsimp only at hlt4
  have HG4 : Hid (w.grownBy W4 (some mb)) := HG.out.andThen (jan b4) (fun _ h => by cases h)
  have HC4 : Hid (Ze W4 mb (mn + 1) r) := HC2.out.below b4
  clear z13 z14 z15 z20 z21 k0 k1 hb4 hR
  by_cases hc : C = 0
  ·subst hc
   have HE : Hid (momT (tabD r (jam r zone).name) ⟨id, name, zone, wall, gap, fold⟩ = (N, true)) := by simp only [Hid]; rw [HQ.out]; rfl
   have G7 := jbw W4 (w.heap.size + 1 + 1) (.int .i64 N) (.bool true)
   have G8 : W4.grownBy (((W4.setCell ⟨w.heap.size + 1 + 1, 0, none⟩ (.int .i64 N)).setCell ⟨w.heap.size + 1 + 1, 1, none⟩ (.bool true)).alloc (.cells #[.int .i64 N, .int .i64 0] 143)) (some (w.heap.size + 1 + 1)) := G7.andThen (World.grownBy_alloc _ _ none) (fun _ h => by cases h)
   have HP : Hid (MomP r ⟨id, name, zone, wall, gap, fold⟩ mb mn w (.returned (.agg #[.int .i64 N, .bool true])) (((W4.setCell ⟨w.heap.size + 1 + 1, 0, none⟩ (.int .i64 N)).setCell ⟨w.heap.size + 1 + 1, 1, none⟩ (.bool true)).alloc (.cells #[.int .i64 N, .int .i64 0] 143))) := ⟨by rw [HE.out], HC4.out.grown G8 (by omega) (fun cs h => by rw [hh4] at h; injection h with h; injection h with _ h _; exact absurd h (by decide)), HG4.out.andThen G8 (fun j h => by injection h with h; omega)⟩
   obtain ⟨t0, t1⟩ := jat (v0 := .int .i64 N) (v1 := .bool true) v20 v21
   have b5 := (Below.refl _ ((W4.setCell ⟨w.heap.size + 1 + 1, 0, none⟩ (.int .i64 N)).setCell ⟨w.heap.size + 1 + 1, 1, none⟩ (.bool true))).alloc (Nat.le_refl _) (.cells #[.int .i64 N, .int .i64 0] 143)
   have t0' := jaa b5 t0
   have t1' := jaa b5 t1
   clear G7 G8
   go_wp2
   exact bodyPost_ret (v := .agg #[.int .i64 N, .bool true]) (by simp [results, Tryz.results117, go_sem, t0', t1']) rfl HP.out
  ·have hc2 : (C == 0) = false := by simp [hc]
   have HE : Hid (momT (tabD r (jam r zone).name) ⟨id, name, zone, wall, gap, fold⟩ = (N, false)) := by simp only [Hid]; rw [HQ.out]; rw [decide_eq_false hc]
   have G7 := jbw W4 (w.heap.size + 1 + 1) (.int .i64 N) (.bool false)
   have G8 : W4.grownBy (((W4.setCell ⟨w.heap.size + 1 + 1, 0, none⟩ (.int .i64 N)).setCell ⟨w.heap.size + 1 + 1, 1, none⟩ (.bool false)).alloc (.cells #[.int .i64 N, .int .i64 C] 143)) (some (w.heap.size + 1 + 1)) := G7.andThen (World.grownBy_alloc _ _ none) (fun _ h => by cases h)
   have HP : Hid (MomP r ⟨id, name, zone, wall, gap, fold⟩ mb mn w (.returned (.agg #[.int .i64 N, .bool false])) (((W4.setCell ⟨w.heap.size + 1 + 1, 0, none⟩ (.int .i64 N)).setCell ⟨w.heap.size + 1 + 1, 1, none⟩ (.bool false)).alloc (.cells #[.int .i64 N, .int .i64 C] 143))) := ⟨by rw [HE.out], HC4.out.grown G8 (by omega) (fun cs h => by rw [hh4] at h; injection h with h; injection h with _ h _; exact absurd h (by decide)), HG4.out.andThen G8 (fun j h => by injection h with h; omega)⟩
   obtain ⟨t0, t1⟩ := jat (v0 := .int .i64 N) (v1 := .bool false) v20 v21
   have b5 := (Below.refl _ ((W4.setCell ⟨w.heap.size + 1 + 1, 0, none⟩ (.int .i64 N)).setCell ⟨w.heap.size + 1 + 1, 1, none⟩ (.bool false))).alloc (Nat.le_refl _) (.cells #[.int .i64 N, .int .i64 C] 143)
   have t0' := jaa b5 t0
   have t1' := jaa b5 t1
   clear G7 G8
   go_wp2
   exact bodyPost_ret (v := .agg #[.int .i64 N, .bool false]) (by simp [results, Tryz.results117, go_sem, t0', t1']) rfl HP.out
 ·have HM : Hid (momT (tabD r (jam r zone).name) ⟨id, name, zone, wall, gap, fold⟩ = (0, false)) := momT_no (by rw [<- HT.out.code]; exact hk)
  have hk2 : (tk == 0) = false := by simp [hk]
  have G7 := jbw W2 (w.heap.size + 1 + 1) (.int .i64 0) (.bool false)
  have G8 : W2.grownBy (((W2.setCell ⟨w.heap.size + 1 + 1, 0, none⟩ (.int .i64 0)).setCell ⟨w.heap.size + 1 + 1, 1, none⟩ (.bool false)).alloc (.cells #[.slice ta tn tc, .int .i64 tk] 140)) (some (w.heap.size + 1 + 1)) := G7.andThen (World.grownBy_alloc _ _ none) (fun _ h => by cases h)
  have HP : Hid (MomP r ⟨id, name, zone, wall, gap, fold⟩ mb mn w (.returned (.agg #[.int .i64 0, .bool false])) (((W2.setCell ⟨w.heap.size + 1 + 1, 0, none⟩ (.int .i64 0)).setCell ⟨w.heap.size + 1 + 1, 1, none⟩ (.bool false)).alloc (.cells #[.slice ta tn tc, .int .i64 tk] 140))) := ⟨by rw [HM.out], HC2.out.grown G8 (by omega) (fun cs h => by rw [hh2] at h; injection h with h; injection h with _ h _; exact absurd h (by decide)), HG.out.andThen G8 (fun j h => by injection h with h; omega)⟩
  obtain ⟨t0, t1⟩ := jat (v0 := .int .i64 0) (v1 := .bool false) y20 y21
  have b5 := (Below.refl _ ((W2.setCell ⟨w.heap.size + 1 + 1, 0, none⟩ (.int .i64 0)).setCell ⟨w.heap.size + 1 + 1, 1, none⟩ (.bool false))).alloc (Nat.le_refl _) (.cells #[.slice ta tn tc, .int .i64 tk] 140)
  have t0' := jaa b5 t0
  have t1' := jaa b5 t1
  clear G7 G8
  go_wp2
  exact bodyPost_ret (v := .agg #[.int .i64 0, .bool false]) (by simp [results, Tryz.results117, go_sem, t0', t1']) rfl HP.out
end
end Go.Proofs.YtpejeokacilebaaGreatDoor
