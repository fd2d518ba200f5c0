/- Packed. -/
import Derived.Test.YtgiieknbckhofaaGreatDoorOwn1u
import Derived.Deep.RegionLaw
import Derived.Deep.RegionHeld3
set_option maxHeartbeats 20000000
set_option linter.unusedSimpArgs false
namespace Go.Proofs.YtgiieknbckhofaaGreatDoor
section
open Go.RowKit Go.ChangeMaps Go.MapKept Go.WideMaps
theorem jhz {s t : ByteArray} (h : s.toList = t.toList) : s = t := by
 rw [ByteArray.toList_eq, ByteArray.toList_eq] at h
 cases s; cases t; congr; exact Array.toList_inj.mp h
def Jf (w : World) (base : Nat) (v : Value) (l : List RuleD) : Prop := w.ownsRow base 142 9 v l.length (l.map RuleD.cs).flatten
def jbu (l : List RuleD) (nm : ByteArray) : List RuleD := l.filter fun x => x.name.toList == nm.toList
theorem jpy (l : List RuleD) (x : RuleD) : jbu (l ++ [x]) x.name = jbu l x.name ++ [x] := by
 unfold jbu
 rw [List.filter_append]
 simp
theorem jgw {l : List RuleD} {x : RuleD} {nm : ByteArray} (h : nm ≠ x.name) : jbu (l ++ [x]) nm = jbu l nm := by
 unfold jbu
 rw [List.filter_append]
 have e : (x.name.toList == nm.toList) = false := by
  rw [beq_eq_false_iff_ne]
  exact fun e => h (jhz e).symm
 simp [e]
structure MapE (w : World) (base : Nat) (l : List RuleD) (es : List MapEntry) : Prop where
 each : ∀ x ∈ es, ∃ nm, x.key = .string nm /\ nm.size <= maxLen /\ Jf w base x.val (jbu l nm)
 none : ∀ nm, (∀ x ∈ es, x.key ≠ .string nm) -> jbu l nm = []
 apart : ∀ (i j : Nat) (x y : MapEntry), i ≠ j -> es[i]? = some x -> es[j]? = some y -> x.key ≠ y.key /\ (x.val.ownBlock = .none \/ x.val.ownBlock ≠ y.val.ownBlock)
def Jq (w : World) (base b : Nat) (l : List RuleD) : Prop := ∃ es bl, w.heap[b]? = some (.map es bl) /\ b < base /\ MapE w base l es.toList
theorem jv8 (w : World) : Jq (w.alloc (.map #[] 0)) (w.heap.size + 1) w.heap.size [] :=
 ⟨#[], 0, (MapKept.heap_alloc w _).1, Nat.lt_succ_self _, ⟨fun x hx => by simp at hx, fun _ _ => rfl, fun i j x y _ hx => by simp at hx⟩⟩
theorem Jq.lt {w : World} {base b : Nat} {l : List RuleD} (h : Jq w base b l) : b < w.heap.size := by
 obtain ⟨es, bl, hb, _⟩ := h
 exact (Array.getElem?_eq_some_iff.1 hb).1
theorem Jq.kept {w w' : World} {base b : Nat} {l : List RuleD} (h : Jq w base b l) (hg : w.grownBy w' none) : Jq w' base b l := by
 have hlt := h.lt
 obtain ⟨es, bl, hb, mw, hE⟩ := h
 refine ⟨es, bl, (hg.block b hlt (by simp)).trans hb, mw, ⟨fun x hx => ?_, hE.none, hE.apart⟩⟩
 obtain ⟨nm, h1, h2, h3⟩ := hE.each x hx
 exact ⟨nm, h1, h2, h3.kept hg (by cases x.val.ownBlock <;> simp)⟩
theorem Jq.below {w w' : World} {base b : Nat} {l : List RuleD} (h : Jq w base b l) (hb : Bw w w') : Jq w' base b l := h.kept ⟨hb.os, hb.tape, hb.output, hb.size, fun k hk _ => hb.block k hk⟩
theorem jrx {w w1 w2 : World} {base b : Nat} {l : List RuleD} {es sd : List MapEntry} {x : RuleD} {v v' : Value} {j : Nat} {e' : MapEntry} (hE : MapE w base l es) (mw : b < base)
  (hg : w.grownBy w1 v.ownBlock) (bU : w1.grownBy w2 (some b)) (hn : x.name.size <= maxLen) (oP : Jf w1 base v' (jbu l x.name ++ [x])) (dl : v'.ownBlock = v.ownBlock \/ ∃ g, v'.ownBlock = some g /\ w.heap.size <= g)
  (h1 : sd[j]? = some e') (hk : e'.key = .string x.name) (fq : e'.val = v') (h2 : ∀ i, i ≠ j -> sd[i]? = es[i]?) (h3 : ∀ i y, i ≠ j -> es[i]? = some y -> y.key ≠ .string x.name /\ (y.val.ownBlock = none \/ y.val.ownBlock ≠ v.ownBlock))
  (h4 : ∀ y, es[j]? = some y -> y.key = .string x.name) : MapE w2 base (l ++ [x]) sd := by
 have nb : ∀ {u : Value} {z : List RuleD}, Jf w1 base u z -> u.ownBlock = none \/ u.ownBlock ≠ some b := fun {u z} ho => by
  cases hu : u.ownBlock with
  | none => exact .inl rfl
  | some g =>
   refine .inr fun e => ?_
   have := (World.ownsRow.lt ho g hu).1
   cases e
   omega
 have Hg : ∀ i y, i ≠ j -> es[i]? = some y -> y.val.ownBlock = none \/ y.val.ownBlock ≠ v'.ownBlock := fun i y hi hy => by
  rcases dl with e | ⟨g, e, KO⟩
  ·rw [e]; exact (h3 i y hi hy).2
  ·cases hyb : y.val.ownBlock with
   | none => exact .inl rfl
   | some gy =>
    obtain ⟨nm, _, _, ho⟩ := hE.each y (lmg hy)
    have := (World.ownsRow.lt ho gy hyb).2
    refine .inr fun e1 => ?_
    rw [e] at e1
    cases e1
    omega
 refine ⟨fun y hy => ?_, fun nm GI => ?_, fun i k p q oJ hp hq => ?_⟩
 ·obtain ⟨i, hi⟩ := lgo hy
  by_cases gq : i = j
  ·subst gq
   rw [h1] at hi
   cases hi
   exact ⟨x.name, hk, hn, by rw [jpy, fq]; exact World.ownsRow.kept oP bU (nb oP)⟩
  ·rw [h2 i gq] at hi
   obtain ⟨nm, c1, c2, c3⟩ := hE.each y (lmg hi)
   obtain ⟨d1, d2⟩ := h3 i y gq hi
   have az : nm ≠ x.name := fun e => d1 (by rw [c1, e])
   have c4 : Jf w1 base y.val (jbu l nm) := World.ownsRow.kept c3 hg d2
   exact ⟨nm, c1, c2, by rw [jgw az]; exact World.ownsRow.kept c4 bU (nb c4)⟩
 ·have az : nm ≠ x.name := fun e => GI e' (lmg h1) (by rw [hk, e])
  rw [jgw az]
  refine hE.none nm fun y hy => ?_
  obtain ⟨i, hi⟩ := lgo hy
  by_cases gq : i = j
  ·subst gq
   rw [h4 y hi]
   exact fun e => az (by injection e with e; exact e.symm)
  ·exact GI y (lmg (by rw [h2 i gq]; exact hi))
 ·by_cases gq : i = j
  ·subst gq
   rw [h1] at hp
   cases hp
   rw [h2 k (Ne.symm oJ)] at hq
   obtain ⟨d1, _⟩ := h3 k q (Ne.symm oJ) hq
   refine ⟨by rw [hk]; exact Ne.symm d1, ?_⟩
   rw [fq]
   rcases Hg k q (Ne.symm oJ) hq with e | e
   ·rw [e]
    cases v'.ownBlock <;> simp
   ·exact .inr (Ne.symm e)
  ·rw [h2 i gq] at hp
   by_cases GA : k = j
   ·subst GA
    rw [h1] at hq
    cases hq
    exact ⟨by rw [hk]; exact (h3 i p gq hp).1, by rw [fq]; exact Hg i p gq hp⟩
   ·rw [h2 k GA] at hq
    exact hE.apart i k p q oJ hp hq
def BackR (P : Program) (T : TypeId) (w : World) (base b : Nat) (l : List RuleD) (nm : ByteArray) (v : Value) : Prop :=
 ∀ (w1 : World) (v' : Value) (x : RuleD), x.name = nm -> w.grownBy w1 v.ownBlock -> Jf w1 base v' (jbu l nm ++ [x]) -> (v'.ownBlock = v.ownBlock \/ ∃ g, v'.ownBlock = some g /\ w.heap.size <= g) ->
  ∃ w2, (Instr.mapUpdate T (.map (some b)) (.string nm) v').run P w1 = .ok () w2 /\ Jq w2 base b (l ++ [x]) /\ w1.grownBy w2 (some b)
theorem jv9 {P : Program} {T K E : TypeId} {w : World} {base b : Nat} {l : List RuleD} (h : Jq w base b l) (hT : P.underlying T = some (.map K E)) (hK : P.underlying K = some .string) (hz : ∀ W, (zeroValue E).run P W = .ok nS W) (nm : ByteArray) (hn : nm.size <= maxLen) :
  ∃ v, (∀ W : World, W.heap[b]? = w.heap[b]? -> (Instr.lookup T (.map (some b)) (.string nm) false).run P W = .ok v W) /\ Jf w base v (jbu l nm) /\ BackR P T w base b l nm v := by
 have KK := Maps.string_keyed hK
 have hlt := h.lt
 obtain ⟨es, bl, hb, mw, hE⟩ := h
 have bK := keyOf_string_mk hK hn
 have vj : ∀ e ∈ es.toList, ∃ l, keyOf P K e.key = some l := fun e he => by
  obtain ⟨s, h1, h2, _⟩ := hE.each e he
  exact ⟨_, by rw [h1]; exact keyOf_string_mk hK h2⟩
 have nr : ∀ {w1 : World} {sd : Array MapEntry} {c' : Nat}, w1.heap[b]? = some (.map es bl) -> w1.grownBy (setBlock w1 b (.map sd c')) (some b) := fun {w1 sd c'} hb1 => ⟨rfl, rfl, rfl, by simp [setBlock], fun i _ hi => heap_setBlock_other hb1 _ (fun e1 => hi (by rw [e1]))⟩
 rcases KK.find w bK es.toList vj with ⟨f1, f2⟩ | ⟨j, e0, f1, f2, f3⟩
 ·refine ⟨nS, fun W hW => ?_, by rw [hE.none nm f2]; exact World.ownsRow_nil _ _ _ _, ?_⟩
  ·have oz := hW.trans hb
   rcases KK.find W bK es.toList vj with ⟨g1, _⟩ | ⟨j, e0, _, g2, g3⟩
   ·simp [Instr.lookup, run_underlying hT, MapKept.run_getObj_map oz, KK.check W _ bK, g1, hz, Result.andThen]
   ·exact absurd g3 (f2 e0 (lmg g2))
  intro w1 v' x hx hg oP dl
  subst hx
  have hb1 : w1.heap[b]? = some (.map es bl) := (hg.block b hlt (by simp [Value.ownBlock])).trans hb
  rcases KK.find w1 bK es.toList vj with ⟨g1, _⟩ | ⟨j, e0, _, g2, g3⟩
  ·refine ⟨setBlock w1 b (.map (es.push ⟨.string x.name, v', bl⟩) (bl + 1)), by simp [Instr.mapUpdate, run_underlying hT, MapKept.run_getObj_map hb1, KK.check w1 false bK, g1, MapKept.run_setObj_map _ hb1, Result.andThen, setBlock], ⟨_, _, heap_setBlock_same hb1 _, mw, ?_⟩, nr hb1⟩
   refine jrx (j := es.toList.length) (e' := ⟨.string x.name, v', bl⟩) hE mw hg (nr hb1) hn oP dl ?_ rfl rfl (fun i hi => ?_) (fun i y _ hy => ⟨f2 y (lmg hy), ?_⟩) (fun y hy => ?_)
   ·rw [Array.toList_push, List.getElem?_append_right (nlr _)]; simp
   ·rw [Array.toList_push]
    by_cases hlt : i < es.toList.length
    ·rw [lgl hlt]
    ·rw [List.getElem?_eq_none (by simp at *; omega), List.getElem?_eq_none (by omega)]
   ·cases y.val.ownBlock <;> simp [Value.ownBlock]
   ·rw [List.getElem?_eq_none (nlr _)] at hy; cases hy
  ·exact absurd g3 (f2 e0 (lmg g2))
 ·obtain ⟨s0, k1, _, k3⟩ := hE.each e0 (lmg f2)
  have dK : s0 = nm := by rw [k1] at f3; injection f3
  subst dK
  have Lv : e0.val.ownBlock ≠ some b := fun e => by
   have := (World.ownsRow.lt k3 b e).1
   omega
  refine ⟨e0.val, fun W hW => ?_, k3, ?_⟩
  ·have oz := hW.trans hb
   rcases KK.find W bK es.toList vj with ⟨_, g2⟩ | ⟨j1, e1, g1, g2, g3⟩
   ·exact absurd f3 (g2 e0 (lmg f2))
   ·have hj : j1 = j := by
     by_cases az : j1 = j
     ·exact az
     ·exact absurd (g3.trans f3.symm) (hE.apart j1 j e1 e0 az g2 f2).1
    subst hj
    have he : e1 = e0 := by rw [g2] at f2; cases f2; rfl
    subst he
    simp [Instr.lookup, run_underlying hT, MapKept.run_getObj_map oz, KK.check W _ bK, g1, Result.andThen]
  intro w1 v' x hx hg oP dl
  subst hx
  have hb1 : w1.heap[b]? = some (.map es bl) := (hg.block b hlt (fun e => Lv e.symm)).trans hb
  rcases KK.find w1 bK es.toList vj with ⟨_, g2⟩ | ⟨j1, e1, g1, g2, g3⟩
  ·exact absurd f3 (g2 e0 (lmg f2))
  ·have hj : j1 = j := by
    by_cases az : j1 = j
    ·exact az
    ·exact absurd (g3.trans f3.symm) (hE.apart j1 j e1 e0 az g2 f2).1
   subst hj
   have he : e1 = e0 := by rw [g2] at f2; cases f2; rfl
   subst he
   have KT : es[j1]? = some e1 := by simpa using g2
   have vn : (es.modify j1 (fun e' => { e' with key := .string x.name, val := v' })).toList = es.toList.set j1 { e1 with key := .string x.name, val := v' } := by rw [Array.toList_modify, modify_eq_set _ _ _ _ g2]
   refine ⟨setBlock w1 b (.map (es.modify j1 (fun e' => { e' with key := .string x.name, val := v' })) bl), by simp [Instr.mapUpdate, run_underlying hT, MapKept.run_getObj_map hb1, KK.check w1 false bK, g1, KT, g3, KK.stays w1 bK, MapKept.run_setObj_map _ hb1, Result.andThen, setBlock], ⟨_, _, heap_setBlock_same hb1 _, mw, ?_⟩, nr hb1⟩
   rw [vn]
   have eT : j1 < es.toList.length := (List.getElem?_eq_some_iff.1 g2).1
   refine jrx (j := j1) (e' := { e1 with key := .string x.name, val := v' }) hE mw hg (nr hb1) hn oP dl ?_ rfl rfl (fun i hi => ?_) (fun i y hi hy => ⟨?_, ?_⟩) (fun y hy => ?_)
   ·rw [List.getElem?_set_self eT]
   ·rw [List.getElem?_set_ne (Ne.symm hi)]
   ·have := (hE.apart i j1 y e1 hi hy g2).1
    rw [g3] at this
    exact this
   ·exact (hE.apart i j1 y e1 hi hy g2).2
   ·rw [g2] at hy; cases hy; exact g3
end
section
open Go.RowKit
theorem j2j : (Tryz.prog.info? 142).map (fun i => (i.zero, i.size, i.bytes)) = some (some (.agg #[.string ⟨#[]⟩, iv 0, iv 0, iv 0, .string ⟨#[]⟩, iv 0, .string ⟨#[]⟩, iv 0, .string ⟨#[]⟩]), 9, 104) := by kernel_rfl
theorem jm0 (w : World) : (zeroValue 34).run Tryz.prog w = .ok nS w := by kernel_rfl
theorem Jf.add {w : World} {base : Nat} {v : Value} {l : List RuleD} {x : RuleD} (h : w.ownsRow base 142 9 v (l.length + 1) ((l.map RuleD.cs).flatten ++ x.cs)) : Jf w base v (l ++ [x]) := by
 unfold Jf
 rw [lla, lma, List.flatten_append]
 simpa using h
theorem juy {l : List RuleD} {k : Nat} {x : RuleD} (h : l[k]? = some x) : l.take (k + 1) = l.take k ++ [x] := by rw [List.take_add_one, h]; rfl
set_option maxRecDepth 20000 in
theorem jhf (l : List RuleD) (a : Option Addr) (ca : Nat) (w : World) (hA : Za w a 9 (l.map RuleD.cs)) (hl : l.length <= 40) (hn : ∀ x ∈ l, x.name.size <= maxLen) :
  Cl 251 #[.slice a l.length ca] w fun e W' => e = .returned (.map (some w.heap.size)) /\ Jq W' (w.heap.size + 1) w.heap.size l /\ Bw w W' := by
 obtain ⟨i0, hi, aH, aI, aG⟩ := info_parts j2j
 have HN := hid hn
 clear hn
 have dH : Hid (Jq (w.alloc (.map #[] 0)) (w.heap.size + 1) w.heap.size (l.take 0)) := jv8 w
 have ag : Bw w (w.alloc (.map #[] 0)) := qal w _
 have gw := @run_makeMap Tryz.prog
 go_enter Tryz.func251, Tryz.ntmps251
 go_wp2
 go_loopw [9] (fun s9 wr => ∃ k : Nat, s9 = iv k /\ k <= l.length /\ Hid (Jq wr (w.heap.size + 1) w.heap.size (l.take k)) /\ Bw w wr) (fun s9 _ => (l.length - intOf s9).toNat)
 case atStart => exact ⟨0, rfl, by omega, dH, ag⟩
 case round =>
  clear dH ag
  obtain ⟨k, rfl, hk, HM, aM⟩ := hrel
  have dB := aM.size
  have lJ : w.heap.size < wr.heap.size := HM.out.lt
  by_cases fe : k < l.length
  ·obtain ⟨x, hx⟩ := qgg fe
   have LB := HN.out x (lmg hx)
   obtain ⟨b9, o9, rfl, hc⟩ := (hA.below aM).at (i := k) (r := x.cs) (by rw [lgm, hx]; rfl)
   have c0 : wr.cell? (ad b9 (o9 + k * 9)) = some (.string x.name) := hc 0 _ rfl
   have c1 := hc 1 _ rfl
   have c2 := hc 2 _ rfl
   have c3 := hc 3 _ rfl
   have c4 := hc 4 _ rfl
   have c5 := hc 5 _ rfl
   have c6 := hc 6 _ rfl
   have c7 := hc 7 _ rfl
   have c8 := hc 8 _ rfl
   have HX : Hid (l.take (k + 1) = l.take k ++ [x]) := juy hx
   have Ci : (k : Int) < (l.length : Int) := by omega
   clear hc hx
   obtain ⟨L, hL⟩ := qeb (l.take k)
   have sj : L.length <= 40 := by rw [<- hL, List.length_take]; omega
   have Px : (jbu L x.name).length <= 40 := Nat.le_trans (List.length_filter_le _ _) sj
   rw [hL] at HX HM
   clear hL
   have jr := qal wr (.cells #[.string x.name, iv x.lo, iv x.hi, iv x.month, .string x.on, iv x.at_, .string x.of, iv x.save, .string x.letter] 142)
   have oX := HM.out.below jr
   obtain ⟨e0, e1, e2, e3, e4, e5, e6, e7, e8⟩ : (fun z : World => z.cell? (ad wr.heap.size 0) = some (.string x.name) /\ z.cell? (ad wr.heap.size 1) = some (iv x.lo) /\ z.cell? (ad wr.heap.size 2) = some (iv x.hi) /\ z.cell? (ad wr.heap.size 3) = some (iv x.month) /\ z.cell? (ad wr.heap.size 4) = some (.string x.on) /\ z.cell? (ad wr.heap.size 5) = some (iv x.at_) /\ z.cell? (ad wr.heap.size 6) = some (.string x.of) /\ z.cell? (ad wr.heap.size 7) = some (iv x.save) /\ z.cell? (ad wr.heap.size 8) = some (.string x.letter)) (wr.alloc (.cells #[.string x.name, iv x.lo, iv x.hi, iv x.month, .string x.on, iv x.at_, .string x.of, iv x.save, .string x.letter] 142)) := by simp [go_sem]
   have oz := aM.alloc dB (.cells #[.string x.name, iv x.lo, iv x.hi, iv x.month, .string x.on, iv x.at_, .string x.of, iv x.save, .string x.letter] 142)
   have kP : (wr.alloc (.cells #[.string x.name, iv x.lo, iv x.hi, iv x.month, .string x.on, iv x.at_, .string x.of, iv x.save, .string x.letter] 142)).heap.size = wr.heap.size + 1 := by simp
   obtain ⟨vl, gr, ol, oA⟩ := jv9 (P := Tryz.prog) (T := 301) HM.out Tryz.underlying301 Tryz.underlying9 jm0 x.name LB
   obtain ⟨al, ml, cl, rfl⟩ := jab ol
   have qK : some wr.heap.size ≠ (Value.slice al ml cl).ownBlock := fun e => by have := (World.ownsRow.lt ol _ e.symm).2; omega
   obtain ⟨wB, ja⟩ := qeb ((wr.alloc (.cells #[.string x.name, iv x.lo, iv x.hi, iv x.month, .string x.on, iv x.at_, .string x.of, iv x.save, .string x.letter] 142)))
   have gB : ∀ ro, wr.grownBy wB ro := fun ro => by rw [<- ja]; exact World.grownBy_alloc _ _ _
   have gD : ∀ ro, wr.grownBy wB.drew ro := fun ro => ⟨(gB ro).os, (gB ro).tape, (gB ro).output, (gB ro).size, (gB ro).block⟩
   have gA : ∀ ro, wr.grownBy (wB.drew.alloc (.cells #[.string x.name, iv x.lo, iv x.hi, iv x.month, .string x.on, iv x.at_, .string x.of, iv x.save, .string x.letter] 142)) ro := fun ro => (gD ro).trans (World.grownBy_alloc _ _ _)
   have FQ : Jf wB.drew (w.heap.size + 1) (.slice al ml cl) (jbu L x.name) := World.ownsRow.kept ol (gD none) (by cases (Value.slice al ml cl).ownBlock <;> simp)
   have LK := gr wB.drew ((gD none).block _ lJ (by simp))
   have LL := gr (wB.drew.alloc (.cells #[.string x.name, iv x.lo, iv x.hi, iv x.month, .string x.on, iv x.at_, .string x.of, iv x.save, .string x.letter] 142)) ((gA none).block _ lJ (by simp))
   have LM := gr (wB.alloc (.cells #[.string x.name, iv x.lo, iv x.hi, iv x.month, .string x.on, iv x.at_, .string x.of, iv x.save, .string x.letter] 142)).drew ((gA none).block _ lJ (by simp))
   have LN := gr wB ((gB none).block _ lJ (by simp))
   rw [ja] at e0 e1 e2 e3 e4 e5 e6 e7 e8 oz kP
   go_wp2_with fail
   have Gr := gA (Value.slice al ml cl).ownBlock
   have uK : ∀ j, (Value.slice al ml cl).ownBlock = some j -> w.heap.size + 1 <= j := fun j hj => (World.ownsRow.lt ol j hj).1
   obtain ⟨bx, eQ⟩ := qeb wr.heap.size
   rw [eQ] at kP lJ qK e0 e1 e2 e3 e4 e5 e6 e7 e8 ⊢
   have qt : ∀ (w1 : World) (v' : Value), wr.grownBy w1 (Value.slice al ml cl).ownBlock -> Jf w1 (w.heap.size + 1) v' (jbu L x.name ++ [x]) -> (v'.ownBlock = (Value.slice al ml cl).ownBlock \/ ∃ g, v'.ownBlock = some g /\ bx <= g) -> ∃ w2, (Instr.mapUpdate 301 (.map (some w.heap.size)) (.string x.name) v').run Tryz.prog w1 = .ok () w2 /\ Jq w2 (w.heap.size + 1) w.heap.size (L ++ [x]) /\ w1.grownBy w2 (some w.heap.size) := fun w1 v' g1 g2 g3 => oA w1 v' x rfl g1 g2 (by rw [eQ]; exact g3)
   have Ev := hid qt
   clear ja eQ jr aM dB c0 c1 c2 c3 c4 c5 c6 c7 c8 HM hA gr oA qt oX gA gD gB ol
   have Gp : ∀ j u, x.cs[j]? = some u -> (wB.drew.alloc (.cells #[.string x.name, iv x.lo, iv x.hi, iv x.month, .string x.on, iv x.at_, .string x.of, iv x.save, .string x.letter] 142)).cell? (((ad (bx + 1) 0) : Addr).add j) = some u := by
    have := jag wB.drew x.cs 142
    rw [show wB.drew.heap.size = bx + 1 from kP] at this
    exact this
   have Lb : w.heap.size < wB.heap.size := by omega
   go_region_law (refine step_append_lies _ (by rfl) (.tmp 19) (.tmp 21) 34 (by rfl) (w.heap.size + 1) 142 i0 (.agg #[.string ⟨#[]⟩, iv 0, iv 0, iv 0, .string ⟨#[]⟩, iv 0, .string ⟨#[]⟩, iv 0, .string ⟨#[]⟩]) 9 104 Tryz.underlying34 hi aH aI aG rfl (by omega) (.slice al ml cl) (jbu L x.name).length ((jbu L x.name).map RuleD.cs).flatten (by rfl) (woa (w := wB.drew) FQ _) (ad (bx + 1) 0) 1 1 x.cs (by rfl) rfl Gp (by intro u hu; simp [RuleD.cs] at hu; rcases hu with rfl | rfl | rfl | rfl | rfl | rfl | rfl | rfl | rfl <;> rfl) (by omega) (by unfold maxLen; omega) (by omega) (by simp; omega) _ rfl ?_; intro g1 aE w1 aw af bF hlt1; have r1 := af.cell (a := (ad bx 0)) (jaa (qal wB.drew _) e0) qK; have ak := Gr.trans af; obtain ⟨w2, jC, ej, bU⟩ := Ev.out w1 (so g1 ((jbu L x.name).length + 1) aE) ak (Jf.add aw) (bF.imp (fun h => h.symm) (fun h => ⟨g1, rfl, by rw [h]; simp; omega⟩)))
   all_goals
    have aj : Bw w w1 := ((oz.trans ((jac wB).mono oz.size)).alloc oz.size _).grown af (by simp; omega) (fun j hj => by have := uK j hj; omega)
    have ao : Bw w w2 := aj.grown bU aj.size (fun j hj => by injection hj with hj; omega)
    have yJ : Hid (Jq w2 (w.heap.size + 1) w.heap.size (l.take (k + 1))) := by rw [HX.out]; exact ej
    clear ej bU jC ak af bF hlt1 aw Ev FQ Gr uK LK LL LM LN Gp HX r1
    go_wp2
    go_roundw
    case rel => exact ⟨k + 1, by go_num, by omega, yJ, ao⟩
    case measure => simp [intOf]; omega
  ·have kJ : k = l.length := by omega
   have Ir : Hid (Jq wr (w.heap.size + 1) w.heap.size l) := by rw [kJ, List.take_length] at HM; exact HM
   have Ci : ¬ (k : Int) < (l.length : Int) := by omega
   clear HM kJ
   go_wp2
   go_ret
   exact ⟨rfl, Ir.out, aM⟩
end
end Go.Proofs.YtgiieknbckhofaaGreatDoor
