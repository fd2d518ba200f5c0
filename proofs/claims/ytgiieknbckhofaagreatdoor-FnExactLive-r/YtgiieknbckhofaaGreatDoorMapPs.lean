/- Packed. -/
import Derived.Test.YtgiieknbckhofaaGreatDoorOwn1s
import Derived.Deep.RegionLaw
import Derived.Deep.RegionHeld3
set_option maxHeartbeats 20000000
set_option linter.unusedSimpArgs false
namespace Go.Proofs.YtgiieknbckhofaaGreatDoor
section
open Go.RowKit Go.ChangeMaps Go.MapKept Go.WideMaps
theorem jh5 {s t : ByteArray} (h : s.toList = t.toList) : s = t := by
 rw [ByteArray.toList_eq, ByteArray.toList_eq] at h
 cases s; cases t; congr; exact Array.toList_inj.mp h
def Jf (w : World) (base : Nat) (v : Value) (l : List RuleD) : Prop := w.ownsRow base 142 9 v l.length (l.map RuleD.cs).flatten
def jbt (l : List RuleD) (nm : ByteArray) : List RuleD := l.filter fun x => x.name.toList == nm.toList
theorem jp6 (l : List RuleD) (x : RuleD) : jbt (l ++ [x]) x.name = jbt l x.name ++ [x] := by
 unfold jbt
 rw [List.filter_append]
 simp
theorem jgz {l : List RuleD} {x : RuleD} {nm : ByteArray} (h : nm ≠ x.name) : jbt (l ++ [x]) nm = jbt l nm := by
 unfold jbt
 rw [List.filter_append]
 have e : (x.name.toList == nm.toList) = false := by
  rw [beq_eq_false_iff_ne]
  exact fun e => h (jh5 e).symm
 simp [e]
structure MapE (w : World) (base : Nat) (l : List RuleD) (es : List MapEntry) : Prop where
 each : ∀ x ∈ es, ∃ nm, x.key = .string nm /\ nm.size <= maxLen /\ Jf w base x.val (jbt l nm)
 none : ∀ nm, (∀ x ∈ es, x.key ≠ .string nm) -> jbt l nm = []
 apart : ∀ (i j : Nat) (x y : MapEntry), i ≠ j -> es[i]? = some x -> es[j]? = some y -> x.key ≠ y.key /\ (x.val.ownBlock = .none \/ x.val.ownBlock ≠ y.val.ownBlock)
def Jr (w : World) (base b : Nat) (l : List RuleD) : Prop := ∃ es br, w.heap[b]? = some (.map es br) /\ b < base /\ MapE w base l es.toList
theorem jwd (w : World) : Jr (w.alloc (.map #[] 0)) (w.heap.size + 1) w.heap.size [] :=
 ⟨#[], 0, (MapKept.heap_alloc w _).1, Nat.lt_succ_self _, ⟨fun x hx => by simp at hx, fun _ _ => rfl, fun i j x y _ hx => by simp at hx⟩⟩
theorem Jr.lt {w : World} {base b : Nat} {l : List RuleD} (h : Jr w base b l) : b < w.heap.size := by
 obtain ⟨es, br, hb, _⟩ := h
 exact (Array.getElem?_eq_some_iff.1 hb).1
theorem Jr.kept {w w' : World} {base b : Nat} {l : List RuleD} (h : Jr w base b l) (hg : w.grownBy w' none) : Jr w' base b l := by
 have hlt := h.lt
 obtain ⟨es, br, hb, pj, hE⟩ := h
 refine ⟨es, br, (hg.block b hlt (by simp)).trans hb, pj, ⟨fun x hx => ?_, hE.none, hE.apart⟩⟩
 obtain ⟨nm, h1, h2, h3⟩ := hE.each x hx
 exact ⟨nm, h1, h2, h3.kept hg (by cases x.val.ownBlock <;> simp)⟩
theorem Jr.below {w w' : World} {base b : Nat} {l : List RuleD} (h : Jr w base b l) (hb : Bw w w') : Jr w' base b l := h.kept ⟨hb.os, hb.tape, hb.output, hb.size, fun k hk _ => hb.block k hk⟩
theorem jr5 {w w1 w2 : World} {base b : Nat} {l : List RuleD} {es sM : List MapEntry} {x : RuleD} {v v' : Value} {j : Nat} {e' : MapEntry} (hE : MapE w base l es) (pj : b < base)
  (hg : w.grownBy w1 v.ownBlock) (bU : w1.grownBy w2 (some b)) (hn : x.name.size <= maxLen) (pI : Jf w1 base v' (jbt l x.name ++ [x])) (dp : v'.ownBlock = v.ownBlock \/ ∃ g, v'.ownBlock = some g /\ w.heap.size <= g)
  (h1 : sM[j]? = some e') (hk : e'.key = .string x.name) (dG : e'.val = v') (h2 : ∀ i, i ≠ j -> sM[i]? = es[i]?) (h3 : ∀ i y, i ≠ j -> es[i]? = some y -> y.key ≠ .string x.name /\ (y.val.ownBlock = none \/ y.val.ownBlock ≠ v.ownBlock))
  (h4 : ∀ y, es[j]? = some y -> y.key = .string x.name) : MapE w2 base (l ++ [x]) sM := by
 have nb : ∀ {u : Value} {z : List RuleD}, Jf w1 base u z -> u.ownBlock = none \/ u.ownBlock ≠ some b := fun {u z} ho => by
  cases hu : u.ownBlock with
  | none => exact .inl rfl
  | some g =>
   refine .inr fun e => ?_
   have := (World.ownsRow.lt ho g hu).1
   cases e
   omega
 have Hs : ∀ i y, i ≠ j -> es[i]? = some y -> y.val.ownBlock = none \/ y.val.ownBlock ≠ v'.ownBlock := fun i y hi hy => by
  rcases dp with e | ⟨g, e, Lr⟩
  ·rw [e]; exact (h3 i y hi hy).2
  ·cases hyb : y.val.ownBlock with
   | none => exact .inl rfl
   | some gy =>
    obtain ⟨nm, _, _, ho⟩ := hE.each y (lmg hy)
    have := (World.ownsRow.lt ho gy hyb).2
    refine .inr fun e1 => ?_
    rw [e] at e1
    cases e1
    omega
 refine ⟨fun y hy => ?_, fun nm GX => ?_, fun i k p q pC hp hq => ?_⟩
 ·obtain ⟨i, hi⟩ := lgo hy
  by_cases gJ : i = j
  ·subst gJ
   rw [h1] at hi
   cases hi
   exact ⟨x.name, hk, hn, by rw [jp6, dG]; exact World.ownsRow.kept pI bU (nb pI)⟩
  ·rw [h2 i gJ] at hi
   obtain ⟨nm, c1, c2, c3⟩ := hE.each y (lmg hi)
   obtain ⟨d1, d2⟩ := h3 i y gJ hi
   have aC : nm ≠ x.name := fun e => d1 (by rw [c1, e])
   have c4 : Jf w1 base y.val (jbt l nm) := World.ownsRow.kept c3 hg d2
   exact ⟨nm, c1, c2, by rw [jgz aC]; exact World.ownsRow.kept c4 bU (nb c4)⟩
 ·have aC : nm ≠ x.name := fun e => GX e' (lmg h1) (by rw [hk, e])
  rw [jgz aC]
  refine hE.none nm fun y hy => ?_
  obtain ⟨i, hi⟩ := lgo hy
  by_cases gJ : i = j
  ·subst gJ
   rw [h4 y hi]
   exact fun e => aC (by injection e with e; exact e.symm)
  ·exact GX y (lmg (by rw [h2 i gJ]; exact hi))
 ·by_cases gJ : i = j
  ·subst gJ
   rw [h1] at hp
   cases hp
   rw [h2 k (Ne.symm pC)] at hq
   obtain ⟨d1, _⟩ := h3 k q (Ne.symm pC) hq
   refine ⟨by rw [hk]; exact Ne.symm d1, ?_⟩
   rw [dG]
   rcases Hs k q (Ne.symm pC) hq with e | e
   ·rw [e]
    cases v'.ownBlock <;> simp
   ·exact .inr (Ne.symm e)
  ·rw [h2 i gJ] at hp
   by_cases GP : k = j
   ·subst GP
    rw [h1] at hq
    cases hq
    exact ⟨by rw [hk]; exact (h3 i p gJ hp).1, by rw [dG]; exact Hs i p gJ hp⟩
   ·rw [h2 k GP] at hq
    exact hE.apart i k p q pC hp hq
def BackR (P : Program) (T : TypeId) (w : World) (base b : Nat) (l : List RuleD) (nm : ByteArray) (v : Value) : Prop :=
 ∀ (w1 : World) (v' : Value) (x : RuleD), x.name = nm -> w.grownBy w1 v.ownBlock -> Jf w1 base v' (jbt l nm ++ [x]) -> (v'.ownBlock = v.ownBlock \/ ∃ g, v'.ownBlock = some g /\ w.heap.size <= g) ->
  ∃ w2, (Instr.mapUpdate T (.map (some b)) (.string nm) v').run P w1 = .ok () w2 /\ Jr w2 base b (l ++ [x]) /\ w1.grownBy w2 (some b)
theorem jwe {P : Program} {T K E : TypeId} {w : World} {base b : Nat} {l : List RuleD} (h : Jr w base b l) (hT : P.underlying T = some (.map K E)) (hK : P.underlying K = some .string) (hz : ∀ W, (zeroValue E).run P W = .ok nS W) (nm : ByteArray) (hn : nm.size <= maxLen) :
  ∃ v, (∀ W : World, W.heap[b]? = w.heap[b]? -> (Instr.lookup T (.map (some b)) (.string nm) false).run P W = .ok v W) /\ Jf w base v (jbt l nm) /\ BackR P T w base b l nm v := by
 have KK := Maps.string_keyed hK
 have hlt := h.lt
 obtain ⟨es, br, hb, pj, hE⟩ := h
 have bL := keyOf_string_mk hK hn
 have wi : ∀ e ∈ es.toList, ∃ l, keyOf P K e.key = some l := fun e he => by
  obtain ⟨s, h1, h2, _⟩ := hE.each e he
  exact ⟨_, by rw [h1]; exact keyOf_string_mk hK h2⟩
 have nZ : ∀ {w1 : World} {sM : Array MapEntry} {c' : Nat}, w1.heap[b]? = some (.map es br) -> w1.grownBy (setBlock w1 b (.map sM c')) (some b) := fun {w1 sM c'} hb1 => ⟨rfl, rfl, rfl, by simp [setBlock], fun i _ hi => heap_setBlock_other hb1 _ (fun e1 => hi (by rw [e1]))⟩
 rcases KK.find w bL es.toList wi with ⟨f1, f2⟩ | ⟨j, e0, f1, f2, f3⟩
 ·refine ⟨nS, fun W hW => ?_, by rw [hE.none nm f2]; exact World.ownsRow_nil _ _ _ _, ?_⟩
  ·have pg := hW.trans hb
   rcases KK.find W bL es.toList wi with ⟨g1, _⟩ | ⟨j, e0, _, g2, g3⟩
   ·simp [Instr.lookup, run_underlying hT, MapKept.run_getObj_map pg, KK.check W _ bL, g1, hz, Result.andThen]
   ·exact absurd g3 (f2 e0 (lmg g2))
  intro w1 v' x hx hg pI dp
  subst hx
  have hb1 : w1.heap[b]? = some (.map es br) := (hg.block b hlt (by simp [Value.ownBlock])).trans hb
  rcases KK.find w1 bL es.toList wi with ⟨g1, _⟩ | ⟨j, e0, _, g2, g3⟩
  ·refine ⟨setBlock w1 b (.map (es.push ⟨.string x.name, v', br⟩) (br + 1)), by simp [Instr.mapUpdate, run_underlying hT, MapKept.run_getObj_map hb1, KK.check w1 false bL, g1, MapKept.run_setObj_map _ hb1, Result.andThen, setBlock], ⟨_, _, heap_setBlock_same hb1 _, pj, ?_⟩, nZ hb1⟩
   refine jr5 (j := es.toList.length) (e' := ⟨.string x.name, v', br⟩) hE pj hg (nZ hb1) hn pI dp ?_ rfl rfl (fun i hi => ?_) (fun i y _ hy => ⟨f2 y (lmg hy), ?_⟩) (fun y hy => ?_)
   ·rw [Array.toList_push, List.getElem?_append_right (nlr _)]; simp
   ·rw [Array.toList_push]
    by_cases hlt : i < es.toList.length
    ·rw [lgl hlt]
    ·rw [List.getElem?_eq_none (by simp at *; omega), List.getElem?_eq_none (by omega)]
   ·cases y.val.ownBlock <;> simp [Value.ownBlock]
   ·rw [List.getElem?_eq_none (nlr _)] at hy; cases hy
  ·exact absurd g3 (f2 e0 (lmg g2))
 ·obtain ⟨s0, k1, _, k3⟩ := hE.each e0 (lmg f2)
  have dN : s0 = nm := by rw [k1] at f3; injection f3
  subst dN
  have M4 : e0.val.ownBlock ≠ some b := fun e => by
   have := (World.ownsRow.lt k3 b e).1
   omega
  refine ⟨e0.val, fun W hW => ?_, k3, ?_⟩
  ·have pg := hW.trans hb
   rcases KK.find W bL es.toList wi with ⟨_, g2⟩ | ⟨j1, e1, g1, g2, g3⟩
   ·exact absurd f3 (g2 e0 (lmg f2))
   ·have hj : j1 = j := by
     by_cases aC : j1 = j
     ·exact aC
     ·exact absurd (g3.trans f3.symm) (hE.apart j1 j e1 e0 aC g2 f2).1
    subst hj
    have he : e1 = e0 := by rw [g2] at f2; cases f2; rfl
    subst he
    simp [Instr.lookup, run_underlying hT, MapKept.run_getObj_map pg, KK.check W _ bL, g1, Result.andThen]
  intro w1 v' x hx hg pI dp
  subst hx
  have hb1 : w1.heap[b]? = some (.map es br) := (hg.block b hlt (fun e => M4 e.symm)).trans hb
  rcases KK.find w1 bL es.toList wi with ⟨_, g2⟩ | ⟨j1, e1, g1, g2, g3⟩
  ·exact absurd f3 (g2 e0 (lmg f2))
  ·have hj : j1 = j := by
    by_cases aC : j1 = j
    ·exact aC
    ·exact absurd (g3.trans f3.symm) (hE.apart j1 j e1 e0 aC g2 f2).1
   subst hj
   have he : e1 = e0 := by rw [g2] at f2; cases f2; rfl
   subst he
   have Lw : es[j1]? = some e1 := by simpa using g2
   have wl : (es.modify j1 (fun e' => { e' with key := .string x.name, val := v' })).toList = es.toList.set j1 { e1 with key := .string x.name, val := v' } := by rw [Array.toList_modify, modify_eq_set _ _ _ _ g2]
   refine ⟨setBlock w1 b (.map (es.modify j1 (fun e' => { e' with key := .string x.name, val := v' })) br), by simp [Instr.mapUpdate, run_underlying hT, MapKept.run_getObj_map hb1, KK.check w1 false bL, g1, Lw, g3, KK.stays w1 bL, MapKept.run_setObj_map _ hb1, Result.andThen, setBlock], ⟨_, _, heap_setBlock_same hb1 _, pj, ?_⟩, nZ hb1⟩
   rw [wl]
   have eY : j1 < es.toList.length := (List.getElem?_eq_some_iff.1 g2).1
   refine jr5 (j := j1) (e' := { e1 with key := .string x.name, val := v' }) hE pj hg (nZ hb1) hn pI dp ?_ rfl rfl (fun i hi => ?_) (fun i y hi hy => ⟨?_, ?_⟩) (fun y hy => ?_)
   ·rw [List.getElem?_set_self eY]
   ·rw [List.getElem?_set_ne (Ne.symm hi)]
   ·have := (hE.apart i j1 y e1 hi hy g2).1
    rw [g3] at this
    exact this
   ·exact (hE.apart i j1 y e1 hi hy g2).2
   ·rw [g2] at hy; cases hy; exact g3
end
section
open Go.RowKit
theorem j2i : (Tryz.prog.info? 142).map (fun i => (i.zero, i.size, i.bytes)) = some (some (.agg #[.string ⟨#[]⟩, iv 0, iv 0, iv 0, .string ⟨#[]⟩, iv 0, .string ⟨#[]⟩, iv 0, .string ⟨#[]⟩]), 9, 104) := by kernel_rfl
theorem jm5 (w : World) : (zeroValue 34).run Tryz.prog w = .ok nS w := by kernel_rfl
theorem Jf.add {w : World} {base : Nat} {v : Value} {l : List RuleD} {x : RuleD} (h : w.ownsRow base 142 9 v (l.length + 1) ((l.map RuleD.cs).flatten ++ x.cs)) : Jf w base v (l ++ [x]) := by
 unfold Jf
 rw [lla, lma, List.flatten_append]
 simpa using h
theorem ju2 {l : List RuleD} {k : Nat} {x : RuleD} (h : l[k]? = some x) : l.take (k + 1) = l.take k ++ [x] := by rw [List.take_add_one, h]; rfl
set_option maxRecDepth 20000 in
theorem jhl (l : List RuleD) (a : Option Addr) (ca : Nat) (w : World) (hA : Za w a 9 (l.map RuleD.cs)) (hl : l.length <= 40) (hn : ∀ x ∈ l, x.name.size <= maxLen) :
  Cl 251 #[.slice a l.length ca] w fun e W' => e = .returned (.map (some w.heap.size)) /\ Jr W' (w.heap.size + 1) w.heap.size l /\ Bw w W' := by
 obtain ⟨i0, hi, aG, aI, aF⟩ := info_parts j2i
 have HN := hid hn
 clear hn
 have dL : Hid (Jr (w.alloc (.map #[] 0)) (w.heap.size + 1) w.heap.size (l.take 0)) := jwd w
 have ag : Bw w (w.alloc (.map #[] 0)) := qal w _
 have gN := @run_makeMap Tryz.prog
 go_enter Tryz.func251, Tryz.ntmps251
 go_wp2
 go_loopw [9] (fun s9 wr => ∃ k : Nat, s9 = iv k /\ k <= l.length /\ Hid (Jr wr (w.heap.size + 1) w.heap.size (l.take k)) /\ Bw w wr) (fun s9 _ => (l.length - intOf s9).toNat)
 case atStart => exact ⟨0, rfl, by omega, dL, ag⟩
 case round =>
  clear dL ag
  obtain ⟨k, rfl, hk, HM, aH⟩ := hrel
  have dX := aH.size
  have rr : w.heap.size < wr.heap.size := HM.out.lt
  by_cases fi : k < l.length
  ·obtain ⟨x, hx⟩ := qgg fi
   have Md := HN.out x (lmg hx)
   obtain ⟨b9, o9, rfl, hc⟩ := (hA.below aH).at (i := k) (r := x.cs) (by rw [lgm, hx]; rfl)
   have c0 : wr.cell? (ad b9 (o9 + k * 9)) = some (.string x.name) := hc 0 _ rfl
   have c1 := hc 1 _ rfl
   have c2 := hc 2 _ rfl
   have c3 := hc 3 _ rfl
   have c4 := hc 4 _ rfl
   have c5 := hc 5 _ rfl
   have c6 := hc 6 _ rfl
   have c7 := hc 7 _ rfl
   have c8 := hc 8 _ rfl
   have HX : Hid (l.take (k + 1) = l.take k ++ [x]) := ju2 hx
   have D6 : (k : Int) < (l.length : Int) := by omega
   clear hc hx
   obtain ⟨L, hL⟩ := qeb (l.take k)
   have sS : L.length <= 40 := by rw [<- hL, List.length_take]; omega
   have Pj : (jbt L x.name).length <= 40 := Nat.le_trans (List.length_filter_le _ _) sS
   rw [hL] at HX HM
   clear hL
   have jE := qal wr (.cells #[.string x.name, iv x.lo, iv x.hi, iv x.month, .string x.on, iv x.at_, .string x.of, iv x.save, .string x.letter] 142)
   have pQ := HM.out.below jE
   obtain ⟨e0, e1, e2, e3, e4, e5, e6, e7, e8⟩ : (fun z : World => z.cell? (ad wr.heap.size 0) = some (.string x.name) /\ z.cell? (ad wr.heap.size 1) = some (iv x.lo) /\ z.cell? (ad wr.heap.size 2) = some (iv x.hi) /\ z.cell? (ad wr.heap.size 3) = some (iv x.month) /\ z.cell? (ad wr.heap.size 4) = some (.string x.on) /\ z.cell? (ad wr.heap.size 5) = some (iv x.at_) /\ z.cell? (ad wr.heap.size 6) = some (.string x.of) /\ z.cell? (ad wr.heap.size 7) = some (iv x.save) /\ z.cell? (ad wr.heap.size 8) = some (.string x.letter)) (wr.alloc (.cells #[.string x.name, iv x.lo, iv x.hi, iv x.month, .string x.on, iv x.at_, .string x.of, iv x.save, .string x.letter] 142)) := by simp [go_sem]
   have pg := aH.alloc dX (.cells #[.string x.name, iv x.lo, iv x.hi, iv x.month, .string x.on, iv x.at_, .string x.of, iv x.save, .string x.letter] 142)
   have lD : (wr.alloc (.cells #[.string x.name, iv x.lo, iv x.hi, iv x.month, .string x.on, iv x.at_, .string x.of, iv x.save, .string x.letter] 142)).heap.size = wr.heap.size + 1 := by simp
   obtain ⟨vl, gK, oS, pi⟩ := jwe (P := Tryz.prog) (T := 301) HM.out Tryz.underlying301 Tryz.underlying9 jm5 x.name Md
   obtain ⟨al, ml, cl, rfl⟩ := jac oS
   have rp : some wr.heap.size ≠ (Value.slice al ml cl).ownBlock := fun e => by have := (World.ownsRow.lt oS _ e.symm).2; omega
   obtain ⟨wB, jn⟩ := qeb ((wr.alloc (.cells #[.string x.name, iv x.lo, iv x.hi, iv x.month, .string x.on, iv x.at_, .string x.of, iv x.save, .string x.letter] 142)))
   have gB : ∀ ro, wr.grownBy wB ro := fun ro => by rw [<- jn]; exact World.grownBy_alloc _ _ _
   have gD : ∀ ro, wr.grownBy wB.drew ro := fun ro => ⟨(gB ro).os, (gB ro).tape, (gB ro).output, (gB ro).size, (gB ro).block⟩
   have gA : ∀ ro, wr.grownBy (wB.drew.alloc (.cells #[.string x.name, iv x.lo, iv x.hi, iv x.month, .string x.on, iv x.at_, .string x.of, iv x.save, .string x.letter] 142)) ro := fun ro => (gD ro).trans (World.grownBy_alloc _ _ _)
   have Gd : Jf wB.drew (w.heap.size + 1) (.slice al ml cl) (jbt L x.name) := World.ownsRow.kept oS (gD none) (by cases (Value.slice al ml cl).ownBlock <;> simp)
   have Mn := gK wB.drew ((gD none).block _ rr (by simp))
   have Mo := gK (wB.drew.alloc (.cells #[.string x.name, iv x.lo, iv x.hi, iv x.month, .string x.on, iv x.at_, .string x.of, iv x.save, .string x.letter] 142)) ((gA none).block _ rr (by simp))
   have Mp := gK (wB.alloc (.cells #[.string x.name, iv x.lo, iv x.hi, iv x.month, .string x.on, iv x.at_, .string x.of, iv x.save, .string x.letter] 142)).drew ((gA none).block _ rr (by simp))
   have Mq := gK wB ((gB none).block _ rr (by simp))
   rw [jn] at e0 e1 e2 e3 e4 e5 e6 e7 e8 pg lD
   go_wp2_with fail
   have GH := gA (Value.slice al ml cl).ownBlock
   have vH : ∀ j, (Value.slice al ml cl).ownBlock = some j -> w.heap.size + 1 <= j := fun j hj => (World.ownsRow.lt oS j hj).1
   obtain ⟨bx, gF⟩ := qeb wr.heap.size
   rw [gF] at lD rr rp e0 e1 e2 e3 e4 e5 e6 e7 e8 ⊢
   have qV : ∀ (w1 : World) (v' : Value), wr.grownBy w1 (Value.slice al ml cl).ownBlock -> Jf w1 (w.heap.size + 1) v' (jbt L x.name ++ [x]) -> (v'.ownBlock = (Value.slice al ml cl).ownBlock \/ ∃ g, v'.ownBlock = some g /\ bx <= g) -> ∃ w2, (Instr.mapUpdate 301 (.map (some w.heap.size)) (.string x.name) v').run Tryz.prog w1 = .ok () w2 /\ Jr w2 (w.heap.size + 1) w.heap.size (L ++ [x]) /\ w1.grownBy w2 (some w.heap.size) := fun w1 v' g1 g2 g3 => pi w1 v' x rfl g1 g2 (by rw [gF]; exact g3)
   have Fc := hid qV
   clear jn gF jE aH dX c0 c1 c2 c3 c4 c5 c6 c7 c8 HM hA gK pi qV pQ gA gD gB oS
   have GE : ∀ j u, x.cs[j]? = some u -> (wB.drew.alloc (.cells #[.string x.name, iv x.lo, iv x.hi, iv x.month, .string x.on, iv x.at_, .string x.of, iv x.save, .string x.letter] 142)).cell? (((ad (bx + 1) 0) : Addr).add j) = some u := by
    have := jaf wB.drew x.cs 142
    rw [show wB.drew.heap.size = bx + 1 from lD] at this
    exact this
   have LM : w.heap.size < wB.heap.size := by omega
   go_region_law (refine step_append_lies _ (by rfl) (.tmp 19) (.tmp 21) 34 (by rfl) (w.heap.size + 1) 142 i0 (.agg #[.string ⟨#[]⟩, iv 0, iv 0, iv 0, .string ⟨#[]⟩, iv 0, .string ⟨#[]⟩, iv 0, .string ⟨#[]⟩]) 9 104 Tryz.underlying34 hi aG aI aF rfl (by omega) (.slice al ml cl) (jbt L x.name).length ((jbt L x.name).map RuleD.cs).flatten (by rfl) (woa (w := wB.drew) Gd _) (ad (bx + 1) 0) 1 1 x.cs (by rfl) rfl GE (by intro u hu; simp [RuleD.cs] at hu; rcases hu with rfl | rfl | rfl | rfl | rfl | rfl | rfl | rfl | rfl <;> rfl) (by omega) (by unfold maxLen; omega) (by omega) (by simp; omega) _ rfl ?_; intro g1 aD w1 aw af bI hlt1; have r1 := af.cell (a := (ad bx 0)) (jaa (qal wB.drew _) e0) rp; have ak := GH.trans af; obtain ⟨w2, jP, eB, bU⟩ := Fc.out w1 (.slice (some (ad g1 0)) ((jbt L x.name).length + 1) aD) ak (Jf.add aw) (bI.imp (fun h => h.symm) (fun h => ⟨g1, rfl, by rw [h]; simp; omega⟩)))
   all_goals
    have aj : Bw w w1 := ((pg.trans ((jab wB).mono pg.size)).alloc pg.size _).grown af (by simp; omega) (fun j hj => by have := vH j hj; omega)
    have an : Bw w w2 := aj.grown bU aj.size (fun j hj => by injection hj with hj; omega)
    have zO : Hid (Jr w2 (w.heap.size + 1) w.heap.size (l.take (k + 1))) := by rw [HX.out]; exact eB
    clear eB bU jP ak af bI hlt1 aw Fc Gd GH vH Mn Mo Mp Mq GE HX r1
    go_wp2
    go_roundw
    case rel => exact ⟨k + 1, by go_num, by omega, zO, an⟩
    case measure => simp [intOf]; omega
  ·have li : k = l.length := by omega
   have IQ : Hid (Jr wr (w.heap.size + 1) w.heap.size l) := by rw [li, List.take_length] at HM; exact HM
   have D6 : ¬ (k : Int) < (l.length : Int) := by omega
   clear HM li
   go_wp2
   go_ret
   exact ⟨rfl, IQ.out, aH⟩
end
end Go.Proofs.YtgiieknbckhofaaGreatDoor
