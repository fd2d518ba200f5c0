/- Packed. -/
import Derived.Test.YtgiieknbckhofaaGreatDoorRightWu
set_option maxHeartbeats 20000000
set_option linter.unusedSimpArgs false
namespace Go.Proofs.YtgiieknbckhofaaGreatDoor
section
open Go.RowKit
def relB (r : RelD) : Bool := decide (r.rules.length <= 40 /\ r.zones.length <= 12 /\ r.links.length <= 20) && (r.rules.all jav && (r.zones.all jbi && (r.links.all jep && (jes r && ((r.zones.all fun z => z.eras.all (jb1 r.rules)) && (r.links.all fun x => hasZ r.zones x.to_))))))
theorem rel_no0 {r : RelD} (h : ¬ (r.rules.length <= 40 /\ r.zones.length <= 12 /\ r.links.length <= 20)) : relB r = false := by unfold relB; rw [dfe h]; rfl
theorem rel_no1 {r : RelD} (h : r.rules.all jav = false) : relB r = false := by unfold relB; rw [h]; simp
theorem rel_no2 {r : RelD} (h : r.zones.all jbi = false) : relB r = false := by unfold relB; rw [h]; simp
theorem rel_no3 {r : RelD} (h : r.links.all jep = false) : relB r = false := by unfold relB; rw [h]; simp
theorem rel_no4 {r : RelD} (h : jes r = false) : relB r = false := by unfold relB; rw [h]; simp
theorem rel_no5 {r : RelD} (h : (r.zones.all fun z => z.eras.all (jb1 r.rules)) = false) : relB r = false := by unfold relB; rw [h]; simp
theorem rel_no6 {r : RelD} (h : (r.links.all fun x => hasZ r.zones x.to_) = false) : relB r = false := by unfold relB; rw [h]; simp
theorem rel_yes {r : RelD} (h0 : r.rules.length <= 40 /\ r.zones.length <= 12 /\ r.links.length <= 20) (h1 : r.rules.all jav = true) (h2 : r.zones.all jbi = true) (h3 : r.links.all jep = true) (h4 : jes r = true) (h5 : (r.zones.all fun z => z.eras.all (jb1 r.rules)) = true) (h6 : (r.links.all fun x => hasZ r.zones x.to_) = true) : relB r = true := by unfold relB; rw [dte h0, h1, h2, h3, h4, h5, h6]; rfl
theorem jbs (r : RelD) (v : Value) (w : World) (hE : Zy w) (hv : Zd w v r) (ok : r.ok) (sm : r.small) (dn : ∀ x ∈ r.rules, x.on.size <= 1048576) :
  Cl 95 #[v] w fun e w' => e = .returned (.bool (relB r)) /\ Bw w w' := by
 obtain ⟨a, b, c, ca, cb, cc, jT, fW, iJ, ku⟩ := hv.form
 obtain ⟨⟨p1, p2⟩, ⟨q1, q2⟩, ⟨s1, s2⟩⟩ := ok
 obtain ⟨m1, m2, m3, m4⟩ := sm
 have ag := qal w (.cells #[.slice a r.rules.length ca, .slice b r.zones.length cb, .slice c r.links.length cc] 38)
 have hR := fun w hE (h : Za w a 9 (r.rules.map RuleD.cs)) => jot r.rules a ca w hE h p2 dn m1
 have hZ := fun w (h : Zo w b r.zones) => jor r.zones b cb w h q2 m2
 have hK := fun w (h : Za w c 2 (r.links.map LinkD.cs)) => jou r.links c cc w h s2 m3
 have hU := fun w (h : Zd w v r) => jhg r v w h m2 m3
 have hT := fun w (h : Zd w v r) => ji7 r v w h m1 m2 q2
 have hY := fun w (h : Zd w v r) => ji2 r v w h m2 m3
 subst jT
 have N0 := @rel_no0 r
 have N1 := @rel_no1 r
 have N2 := @rel_no2 r
 have N3 := @rel_no3 r
 have N4 := @rel_no4 r
 have N5 := @rel_no5 r
 have N6 := @rel_no6 r
 have YY := @rel_yes r
 generalize relB r = rb at *
 by_cases JW : 40 < r.rules.length
 ·have HR : Hid (rb = false) := N0 (by omega)
  clear N0 N1 N2 N3 N4 N5 N6 YY
  go_enter Tryz.func95, Tryz.ntmps95
  go_wp2
  go_ret
  exact ⟨ret_bool HR.out.symm, ag⟩
 by_cases JT : 12 < r.zones.length
 ·have HR : Hid (rb = false) := N0 (by omega)
  clear N0 N1 N2 N3 N4 N5 N6 YY
  go_enter Tryz.func95, Tryz.ntmps95
  go_wp2
  go_ret
  exact ⟨ret_bool HR.out.symm, ag⟩
 by_cases JU : 20 < r.links.length
 ·have HR : Hid (rb = false) := N0 (by omega)
  clear N0 N1 N2 N3 N4 N5 N6 YY
  go_enter Tryz.func95, Tryz.ntmps95
  go_wp2
  go_ret
  exact ⟨ret_bool HR.out.symm, ag⟩
 obtain ⟨x0, y0, z0⟩ : (fun z : World => z.cell? (ad w.heap.size 0) = some (.slice a r.rules.length ca) /\ z.cell? (ad w.heap.size 1) = some (.slice b r.zones.length cb) /\ z.cell? (ad w.heap.size 2) = some (.slice c r.links.length cc)) (w.alloc (.cells #[.slice a r.rules.length ca, .slice b r.zones.length cb, .slice c r.links.length cc] 38)) := by simp [go_sem]
 cases k1 : r.rules.all jav
 ·have HR : Hid (rb = false) := N1 k1
  rw [k1] at hR
  clear N0 N1 N2 N3 N4 N5 N6 YY
  clear k1
  go_enter Tryz.func95, Tryz.ntmps95
  go_wp2_with fail
  refine (hR _ (hE.of_below ag) (fW.below ag)).mono ?_
  rintro e w1 ⟨rfl, hb1⟩
  have aj := qtr ag hb1
  go_wp2
  go_ret
  exact ⟨ret_bool HR.out.symm, aj⟩
 rw [k1] at hR
 cases k2 : r.zones.all jbi
 ·have HR : Hid (rb = false) := N2 k2
  rw [k2] at hZ
  clear N0 N1 N2 N3 N4 N5 N6 YY
  clear k1 k2
  go_enter Tryz.func95, Tryz.ntmps95
  go_wp2_with fail
  refine (hR _ (hE.of_below ag) (fW.below ag)).mono ?_
  rintro e w1 ⟨rfl, hb1⟩
  have aj := qtr ag hb1
  have x1 := qce hb1 x0 x0
  have y1 := qce hb1 y0 y0
  have z1 := qce hb1 z0 z0
  go_wp2_with fail
  refine (hZ _ (iJ.below aj)).mono ?_
  rintro e w2 ⟨rfl, ac⟩
  have ao := qtr aj ac
  go_wp2
  go_ret
  exact ⟨ret_bool HR.out.symm, ao⟩
 rw [k2] at hZ
 cases k3 : r.links.all jep
 ·have HR : Hid (rb = false) := N3 k3
  rw [k3] at hK
  clear N0 N1 N2 N3 N4 N5 N6 YY
  clear k1 k2 k3
  go_enter Tryz.func95, Tryz.ntmps95
  go_wp2_with fail
  refine (hR _ (hE.of_below ag) (fW.below ag)).mono ?_
  rintro e w1 ⟨rfl, hb1⟩
  have aj := qtr ag hb1
  have x1 := qce hb1 x0 x0
  have y1 := qce hb1 y0 y0
  have z1 := qce hb1 z0 z0
  go_wp2_with fail
  refine (hZ _ (iJ.below aj)).mono ?_
  rintro e w2 ⟨rfl, ac⟩
  have ao := qtr aj ac
  have x2 := qce ac x1 x1
  have y2 := qce ac y1 y1
  have z2 := qce ac z1 z1
  go_wp2_with fail
  refine (hK _ (ku.below ao)).mono ?_
  rintro e w3 ⟨rfl, av⟩
  have ay := qtr ao av
  go_wp2
  go_ret
  exact ⟨ret_bool HR.out.symm, ay⟩
 rw [k3] at hK
 cases k4 : jes r
 ·have HR : Hid (rb = false) := N4 k4
  rw [k4] at hU
  clear N0 N1 N2 N3 N4 N5 N6 YY
  clear k1 k2 k3 k4
  go_enter Tryz.func95, Tryz.ntmps95
  go_wp2_with fail
  refine (hR _ (hE.of_below ag) (fW.below ag)).mono ?_
  rintro e w1 ⟨rfl, hb1⟩
  have aj := qtr ag hb1
  have x1 := qce hb1 x0 x0
  have y1 := qce hb1 y0 y0
  have z1 := qce hb1 z0 z0
  go_wp2_with fail
  refine (hZ _ (iJ.below aj)).mono ?_
  rintro e w2 ⟨rfl, ac⟩
  have ao := qtr aj ac
  have x2 := qce ac x1 x1
  have y2 := qce ac y1 y1
  have z2 := qce ac z1 z1
  go_wp2_with fail
  refine (hK _ (ku.below ao)).mono ?_
  rintro e w3 ⟨rfl, av⟩
  have ay := qtr ao av
  have x3 := qce av x2 x2
  have y3 := qce av y2 y2
  have z3 := qce av z2 z2
  go_wp2_with fail
  refine (hU _ (hv.below ay)).mono ?_
  rintro e w4 ⟨rfl, aD⟩
  have aS := qtr ay aD
  go_wp2
  go_ret
  exact ⟨ret_bool HR.out.symm, aS⟩
 rw [k4] at hU
 cases k5 : (r.zones.all fun z => z.eras.all (jb1 r.rules))
 ·have HR : Hid (rb = false) := N5 k5
  rw [k5] at hT
  clear N0 N1 N2 N3 N4 N5 N6 YY
  clear k1 k2 k3 k4 k5
  go_enter Tryz.func95, Tryz.ntmps95
  go_wp2_with fail
  refine (hR _ (hE.of_below ag) (fW.below ag)).mono ?_
  rintro e w1 ⟨rfl, hb1⟩
  have aj := qtr ag hb1
  have x1 := qce hb1 x0 x0
  have y1 := qce hb1 y0 y0
  have z1 := qce hb1 z0 z0
  go_wp2_with fail
  refine (hZ _ (iJ.below aj)).mono ?_
  rintro e w2 ⟨rfl, ac⟩
  have ao := qtr aj ac
  have x2 := qce ac x1 x1
  have y2 := qce ac y1 y1
  have z2 := qce ac z1 z1
  go_wp2_with fail
  refine (hK _ (ku.below ao)).mono ?_
  rintro e w3 ⟨rfl, av⟩
  have ay := qtr ao av
  have x3 := qce av x2 x2
  have y3 := qce av y2 y2
  have z3 := qce av z2 z2
  go_wp2_with fail
  refine (hU _ (hv.below ay)).mono ?_
  rintro e w4 ⟨rfl, aD⟩
  have aS := qtr ay aD
  have x4 := qce aD x3 x3
  have y4 := qce aD y3 y3
  have z4 := qce aD z3 z3
  go_wp2_with fail
  refine (hT _ (hv.below aS)).mono ?_
  rintro e w5 ⟨rfl, aW⟩
  have bQ := qtr aS aW
  go_wp2
  go_ret
  exact ⟨ret_bool HR.out.symm, bQ⟩
 rw [k5] at hT
 cases k6 : (r.links.all fun x => hasZ r.zones x.to_)
 ·have HR : Hid (rb = false) := N6 k6
  rw [k6] at hY
  clear N0 N1 N2 N3 N4 N5 N6 YY
  clear k1 k2 k3 k4 k5 k6
  go_enter Tryz.func95, Tryz.ntmps95
  go_wp2_with fail
  refine (hR _ (hE.of_below ag) (fW.below ag)).mono ?_
  rintro e w1 ⟨rfl, hb1⟩
  have aj := qtr ag hb1
  have x1 := qce hb1 x0 x0
  have y1 := qce hb1 y0 y0
  have z1 := qce hb1 z0 z0
  go_wp2_with fail
  refine (hZ _ (iJ.below aj)).mono ?_
  rintro e w2 ⟨rfl, ac⟩
  have ao := qtr aj ac
  have x2 := qce ac x1 x1
  have y2 := qce ac y1 y1
  have z2 := qce ac z1 z1
  go_wp2_with fail
  refine (hK _ (ku.below ao)).mono ?_
  rintro e w3 ⟨rfl, av⟩
  have ay := qtr ao av
  have x3 := qce av x2 x2
  have y3 := qce av y2 y2
  have z3 := qce av z2 z2
  go_wp2_with fail
  refine (hU _ (hv.below ay)).mono ?_
  rintro e w4 ⟨rfl, aD⟩
  have aS := qtr ay aD
  have x4 := qce aD x3 x3
  have y4 := qce aD y3 y3
  have z4 := qce aD z3 z3
  go_wp2_with fail
  refine (hT _ (hv.below aS)).mono ?_
  rintro e w5 ⟨rfl, aW⟩
  have bQ := qtr aS aW
  have x5 := qce aW x4 x4
  have y5 := qce aW y4 y4
  have z5 := qce aW z4 z4
  go_wp2_with fail
  refine (hY _ (hv.below bQ)).mono ?_
  rintro e w6 ⟨rfl, hb6⟩
  have cG := qtr bQ hb6
  go_wp2
  go_ret
  exact ⟨ret_bool HR.out.symm, cG⟩
 rw [k6] at hY
 have HR : Hid (rb = true) := YY (by omega) k1 k2 k3 k4 k5 k6
 clear N0 N1 N2 N3 N4 N5 N6 YY k1 k2 k3 k4 k5 k6
 go_enter Tryz.func95, Tryz.ntmps95
 go_wp2_with fail
 refine (hR _ (hE.of_below ag) (fW.below ag)).mono ?_
 rintro e w1 ⟨rfl, hb1⟩
 have aj := qtr ag hb1
 have x1 := qce hb1 x0 x0
 have y1 := qce hb1 y0 y0
 have z1 := qce hb1 z0 z0
 go_wp2_with fail
 refine (hZ _ (iJ.below aj)).mono ?_
 rintro e w2 ⟨rfl, ac⟩
 have ao := qtr aj ac
 have x2 := qce ac x1 x1
 have y2 := qce ac y1 y1
 have z2 := qce ac z1 z1
 go_wp2_with fail
 refine (hK _ (ku.below ao)).mono ?_
 rintro e w3 ⟨rfl, av⟩
 have ay := qtr ao av
 have x3 := qce av x2 x2
 have y3 := qce av y2 y2
 have z3 := qce av z2 z2
 go_wp2_with fail
 refine (hU _ (hv.below ay)).mono ?_
 rintro e w4 ⟨rfl, aD⟩
 have aS := qtr ay aD
 have x4 := qce aD x3 x3
 have y4 := qce aD y3 y3
 have z4 := qce aD z3 z3
 go_wp2_with fail
 refine (hT _ (hv.below aS)).mono ?_
 rintro e w5 ⟨rfl, aW⟩
 have bQ := qtr aS aW
 have x5 := qce aW x4 x4
 have y5 := qce aW y4 y4
 have z5 := qce aW z4 z4
 go_wp2_with fail
 refine (hY _ (hv.below bQ)).mono ?_
 rintro e w6 ⟨rfl, hb6⟩
 have cG := qtr bQ hb6
 go_wp2
 go_ret
 exact ⟨ret_bool HR.out.symm, cG⟩
end
section
open Go.RowKit
theorem jky {l : List Nat} {x : Nat} (h : x ∈ l) : x <= l.sum := by
 induction l with
 | nil => cases h
 | cons a l ih =>
  rw [List.sum_cons]
  rcases List.mem_cons.mp h with rfl | h
  ·omega
  ·have := ih h; omega
theorem jnk {r : RelD} (h : r.sz <= 1048576) : r.small /\ ∀ x ∈ r.rules, x.on.size <= 1048576 := by
 unfold RelD.sz at h
 refine ⟨⟨by omega, by omega, by omega, fun z hz => ?_⟩, fun x hx => ?_⟩
 ·have h1 : z.sz <= zsz r.zones := jky (List.mem_map.mpr ⟨z, hz, rfl⟩)
  have h2 : z.eras.length <= z.sz := by unfold ZoneD.sz; omega
  omega
 ·have h1 : x.sz <= rsz r.rules := jky (List.mem_map.mpr ⟨x, hx, rfl⟩)
  have h2 : x.on.size <= x.sz := by unfold RuleD.sz; omega
  omega
end
section
open Go.RowKit
theorem jf2 {w w' : World} {base : Nat} {e : TypeId} {size : Nat} {v : Value} {n : Nat} {xs : List Value} (h : w.ownsRow base e size v n xs) (hb : Bw w w') : w'.ownsRow base e size v n xs := by
 refine ⟨h.1, ?_⟩
 rcases h.2 with h2 | ⟨g, cap, cur, hv, hg, hh, rest⟩
 ·exact .inl h2
 ·refine .inr ⟨g, cap, cur, hv, hg, ?_, rest⟩
  rw [hb.block g (by
   rcases Nat.lt_or_ge g w.heap.size with h' | h'
   ·exact h'
   ·rw [Array.getElem?_eq_none h'] at hh; cases hh)]
  exact hh
theorem jnm {w : World} {base : Nat} {e : TypeId} {size : Nat} {v : Value} {n : Nat} {xs : List Value} (h : w.ownsRow base e size v n xs) (hn : 0 < n) : ∃ g cap, v = so g n cap := by
 rcases h.2 with ⟨_, h0⟩ | ⟨g, cap, _, hv, _⟩
 ·omega
 ·exact ⟨g, cap, hv⟩
theorem jvr {w : World} {base : Nat} {e : TypeId} {g cap n : Nat} {ss : List ByteArray} (h : w.ownsRow base e 1 (so g n cap) n (ss.map Value.string)) : Jm w (some (ad g 0)) ss /\ n <= cap /\ ss.length = n := by
 have hl : ss.length = n := by simpa using h.1
 rcases h.2 with ⟨h0, _⟩ | ⟨g', fO, cur, hv, hg, hh, hc, hm, hs, ht⟩
 ·cases h0
 ·injection hv with h1 _ h3
  injection h1 with h1
  injection h1 with h1
  subst h1 h3
  refine ⟨.inr ⟨g, 0, rfl, fun i s hi => ?_⟩, hc, hl⟩
  have im := (lgs hi).1
  have e1 : (cur.toList.take (n * 1))[i]? = (ss.map Value.string)[i]? := by rw [ht]
  rw [List.getElem?_take, if_pos (by omega), Array.getElem?_toList, lgm, hi] at e1
  simp only [World.cell?, hh, Nat.zero_add]
  simp only [Option.isSome_none, Bool.false_eq_true, if_false]
  exact e1
theorem jwr {ss : List ByteArray} {t : ByteArray} : inB ss t = true ↔ t.data.toList ∈ jhc ss := by
 unfold inB jhc
 rw [List.any_eq_true, List.mem_map]
 constructor
 ·rintro ⟨x, hx, he⟩
  exact ⟨x, hx, by rw [beq_iff_eq, ByteArray.toList_eq, ByteArray.toList_eq] at he; exact he⟩
 ·rintro ⟨x, hx, he⟩
  exact ⟨x, hx, by rw [beq_iff_eq, ByteArray.toList_eq, ByteArray.toList_eq]; exact he⟩
theorem jsa {zs : List ZoneD} {t : ByteArray} : inB (zs.map ZoneD.name) t = hasZ zs t := by
 unfold inB hasZ
 rw [List.any_map]
 rfl
structure RelT (r : RelD) : Prop where
 lens : r.rules.length <= 40 /\ r.zones.length <= 12 /\ r.links.length <= 20
 rules : r.rules.all jav = true
 zones : r.zones.all jbi = true
 links : r.links.all jep = true
 names : jes r = true
 there : (r.zones.all fun z => z.eras.all (jb1 r.rules)) = true
 has : (r.links.all fun x => hasZ r.zones x.to_) = true
theorem j06 {r : RelD} (h : relB r = true) : RelT r := by
 unfold relB at h
 simp only [bat, decide_eq_true_eq] at h
 obtain ⟨h0, h1, h2, h3, h4, h5, h6⟩ := h
 exact ⟨h0, h1, h2, h3, h4, h5, h6⟩
theorem jie {r : RelD} (h : RelT r -> False) : relB r = false := by
 cases hb : relB r
 ·rfl
 ·exact (h (j06 hb)).elim
theorem jy3 {r : RelD} {k : Nat} {x : RuleD} (hk : r.rules[k]? = some x) (h : jav x = false) : relB r = false := rel_no1 (jg5 hk h)
theorem jy2 {r : RelD} {k : Nat} {z : ZoneD} (hk : r.zones[k]? = some z) (h : jb8 r.rules z = false) : relB r = false := jie fun t => by
 have := (jkl t.rules).mp ⟨t.zones, t.there⟩ z (lmg hk)
 rw [jmy this] at h; cases h
theorem jy4 {r : RelD} {k : Nat} {x : LinkD} (hk : r.links[k]? = some x) (h : jay x.name = false \/ inB (r.zones.map ZoneD.name) x.to_ = false) : relB r = false := jie fun t => by
 have h1 := List.all_eq_true.mp t.links x (lmg hk)
 have h2 := List.all_eq_true.mp t.has x (lmg hk)
 unfold jep at h1
 simp only [bat] at h1
 rcases h with h | h
 ·rw [h1.2] at h; cases h
 ·rw [jsa, h2] at h; cases h
theorem jkz (l : List ByteArray) (k : Nat) : jhc (l.take k) = (jhc l).take k := by unfold jhc; rw [List.map_take]
theorem j13 {r : RelD} {k : Nat} {x : ByteArray} (hk : (jgx r)[k]? = some x) (h : inB ((jgx r).take k) x = true) : relB r = false := jie fun t => by
 have hn : (jhc (jgx r)).Nodup := by have := t.names; unfold jes at this; exact odt this
 rw [jwr, jkz] at h
 exact (jij _).mpr hn k x.data.toList (by unfold jhc; rw [lgm, hk]; rfl) h
theorem j14 {r : RelD} (h0 : r.rules.length <= 40 /\ r.zones.length <= 12 /\ r.links.length <= 20) (h1 : ∀ (k : Nat) x, r.rules[k]? = some x -> jav x = true) (h2 : ∀ (k : Nat) z, r.zones[k]? = some z -> jb8 r.rules z = true)
  (h3 : ∀ (k : Nat) x, r.links[k]? = some x -> jay x.name = true /\ inB (r.zones.map ZoneD.name) x.to_ = true) (h4 : ∀ (k : Nat) x, (jgx r)[k]? = some x -> inB ((jgx r).take k) x = false) : relB r = true := by
 have k1 : r.rules.all jav = true := jeb fun j _ x hx => h1 j x hx
 have kz : ∀ z ∈ r.zones, ZoneM r.rules z := fun z hz => by
  obtain ⟨k, hk⟩ := lgo hz
  exact zoneMB_iff.mp (h2 k z hk)
 obtain ⟨k2, k5⟩ := (jkl k1).mpr kz
 obtain ⟨k3, k6⟩ := (jtn (ls := r.links) fun z hz => (kz z hz).name).mpr fun x hx => by
  obtain ⟨k, hk⟩ := lgo hx
  have := h3 k x hk
  rw [jsa] at this
  exact this
 refine rel_yes h0 k1 k2 k3 ?_ k5 k6
 unfold jes
 refine dte ((jij _).mp fun k x hk hm => ?_)
 unfold jhc at hk
 rw [lgm] at hk
 obtain ⟨y, hy, rfl⟩ := Option.map_eq_some_iff.mp hk
 have := h4 k y hy
 rw [<- jkz, <- jwr] at hm
 rw [this] at hm; cases hm
end
section
open Go.RowKit Go.Sort
set_option maxRecDepth 100000 in
theorem jdb (r : RelD) (v : Value) (w : World) (hv : Zd w v r) (ok : r.ok) (sm : r.small) (dn : ∀ x ∈ r.rules, x.on.size <= 1048576) :
  Cl 49 #[v] w fun e w' => e = .returned (.bool (relB r)) /\ Bw w w' := by
 obtain ⟨a, b, c, ca, cb, cc, jT, fW, iJ, ku⟩ := hv.form
 obtain ⟨⟨p1, p2⟩, ⟨q1, q2⟩, ⟨s1, s2⟩⟩ := ok
 obtain ⟨m1, m2, m3, m4⟩ := sm
 obtain ⟨i0, hi, aH, aI, aG⟩ := jwm
 have ag := qal w (.cells #[.slice a r.rules.length ca, .slice b r.zones.length cb, .slice c r.links.length cc] 38)
 have N0 := @rel_no0 r
 have rP : Hid (∀ (k : Nat) (x : RuleD), r.rules[k]? = some x -> jav x = false -> relB r = false) := fun k x h1 h2 => jy3 h1 h2
 have gS : Hid (∀ (k : Nat) (z : ZoneD), r.zones[k]? = some z -> jb8 r.rules z = false -> relB r = false) := fun k x h1 h2 => jy2 h1 h2
 have jK : Hid (∀ (k : Nat) (x : LinkD), r.links[k]? = some x -> (jay x.name = false \/ inB (r.zones.map ZoneD.name) x.to_ = false) -> relB r = false) := fun k x h1 h2 => jy4 h1 h2
 have nK : Hid (∀ (k : Nat) (x : ByteArray), (r.zones.map ZoneD.name ++ r.links.map LinkD.name)[k]? = some x -> inB ((r.zones.map ZoneD.name ++ r.links.map LinkD.name).take k) x = true -> relB r = false) := fun k x h1 h2 => j13 h1 h2
 have HY : Hid ((r.rules.length <= 40 /\ r.zones.length <= 12 /\ r.links.length <= 20) -> (∀ (k : Nat) x, r.rules[k]? = some x -> jav x = true) -> (∀ (k : Nat) z, r.zones[k]? = some z -> jb8 r.rules z = true) ->
  (∀ (k : Nat) x, r.links[k]? = some x -> jay x.name = true /\ inB (r.zones.map ZoneD.name) x.to_ = true) -> (∀ (k : Nat) x, (r.zones.map ZoneD.name ++ r.links.map LinkD.name)[k]? = some x -> inB ((r.zones.map ZoneD.name ++ r.links.map LinkD.name).take k) x = false) -> relB r = true) := fun h0 h1 h2 h3 h4 => j14 h0 h1 h2 h3 h4
 generalize relB r = rb at *
 subst jT
 by_cases JW : 40 < r.rules.length
 ·have HR : Hid (rb = false) := N0 (by omega)
  clear N0 rP gS jK nK HY
  go_enter Tryz.func49, Tryz.ntmps49
  go_wp2
  go_ret
  exact ⟨ret_bool HR.out.symm, ag⟩
 by_cases JT : 12 < r.zones.length
 ·have HR : Hid (rb = false) := N0 (by omega)
  clear N0 rP gS jK nK HY
  go_enter Tryz.func49, Tryz.ntmps49
  go_wp2
  go_ret
  exact ⟨ret_bool HR.out.symm, ag⟩
 by_cases JU : 20 < r.links.length
 ·have HR : Hid (rb = false) := N0 (by omega)
  clear N0 rP gS jK nK HY
  go_enter Tryz.func49, Tryz.ntmps49
  go_wp2
  go_ret
  exact ⟨ret_bool HR.out.symm, ag⟩
 clear N0
 obtain ⟨x0, y0, z0⟩ : (fun z : World => z.cell? (ad w.heap.size 0) = some (.slice a r.rules.length ca) /\ z.cell? (ad w.heap.size 1) = some (.slice b r.zones.length cb) /\ z.cell? (ad w.heap.size 2) = some (.slice c r.links.length cc)) (w.alloc (.cells #[.slice a r.rules.length ca, .slice b r.zones.length cb, .slice c r.links.length cc] 38)) := by simp [go_sem]
 have HL : Hid (r.rules.length <= 40 /\ r.zones.length <= 12 /\ r.links.length <= 20) := by simp only [Hid]; omega
 have oj := jta (w.alloc (.cells #[.slice a r.rules.length ca, .slice b r.zones.length cb, .slice c r.links.length cc] 38)) 9
 have BR := (brf (w.alloc (.cells #[.slice a r.rules.length ca, .slice b r.zones.length cb, .slice c r.links.length cc] 38)).heap.size (w.alloc (.cells #[.slice a r.rules.length ca, .slice b r.zones.length cb, .slice c r.links.length cc] 38))).alloc (nlr _) (.cells #[] 9)
 have AU := fW.below ag
 have AV := iJ.below ag
 have AT := ku.below ag
 have dC := hv.below ag
 clear fW iJ ku hv
 have jm : Hid ((w.alloc (.cells #[.slice a r.rules.length ca, .slice b r.zones.length cb, .slice c r.links.length cc] 38)).heap.size = w.heap.size + 1) := by simp [Hid]
 go_enter Tryz.func49, Tryz.ntmps49
 go_wp2
 generalize hW : (w.alloc (.cells #[.slice a r.rules.length ca, .slice b r.zones.length cb, .slice c r.links.length cc] 38)) = W at *
 generalize jn : W.alloc (.cells #[] 9) = W1 at *
 go_loopw [4] (fun i wr => ∃ k : Nat, k <= r.rules.length /\ i = iv k /\ Hid (∀ j, j < k -> ∀ x, r.rules[j]? = some x -> jav x = true) /\ Bw W1 wr) (fun i _ => r.rules.length - (intOf i).toNat)
 case atStart => exact ⟨0, by omega, rfl, fun j hj => by omega, by subst jn; exact brf _ _⟩
 case round =>
  obtain ⟨k, hk, rfl, ak, aj⟩ := hrel
  have hB := qtr BR aj
  have dS := qtr ag hB
  have x1 := qce hB x0 x0
  have y1 := qce hB y0 y0
  have z1 := qce hB z0 z0
  by_cases hlt : k < r.rules.length
  ·obtain ⟨x, hx⟩ := qgg hlt
   obtain ⟨b', o, rfl, hc⟩ := (AU.below hB).at (i := k) (r := x.cs) (by rw [lgm, hx]; rfl)
   have hS := fun w => jne x w (p2 x (lmg hx)) (dn x (lmg hx))
   have c0 : wr.cell? (ad b' (o + k * 9)) = some (.string x.name) := hc 0 _ rfl
   have c1 := hc 1 _ rfl
   have c2 := hc 2 _ rfl
   have c3 := hc 3 _ rfl
   have c4 := hc 4 _ rfl
   have c5 := hc 5 _ rfl
   have c6 := hc 6 _ rfl
   have c7 := hc 7 _ rfl
   have c8 := hc 8 _ rfl
   clear hc
   unfold RuleD.v at hS
   cases hb : jav x
   ·have HR : Hid (rb = false) := rP.out k x hx hb
    rw [hb] at hS
    clear hb rP gS jK nK HY
    go_wp2_with fail
    refine (hS _).mono ?_
    rintro e w2 ⟨rfl, ac⟩
    go_wp2
    go_ret
    exact ⟨ret_bool HR.out.symm, (qtr dS ac)⟩
   ·have HR : Hid (∀ j, j < k + 1 -> ∀ x, r.rules[j]? = some x -> jav x = true) := fun j hj y hy => by
     by_cases e : j = k
     ·subst e; rw [hx] at hy; obtain rfl := osi hy; exact hb
     ·exact ak.out j (by omega) y hy
    rw [hb] at hS
    clear hb
    go_wp2_with fail
    refine (hS _).mono ?_
    rintro e w2 ⟨rfl, ac⟩
    go_wp2
    go_roundw
    case rel => exact ⟨k + 1, by omega, by go_num, HR, (qtr aj ac)⟩
    case measure => simp [intOf]; omega
  ·have e : k = r.rules.length := by omega
   subst e
   have H1 : Hid (∀ (k : Nat) x, r.rules[k]? = some x -> jav x = true) := fun j x hx => ak.out j (lgs hx).1 x hx
   have gZ := jf2 oj aj
   clear ak rP
   go_wp2
   obtain ⟨wo, rfl⟩ := qea wr
   go_loopw [3, 5] (fun s i wr => ∃ k : Nat, k <= r.zones.length /\ i = iv k /\ (∃ g cap, s = so g k cap) /\ wr.ownsRow W.heap.size 9 1 s k (((r.zones.map ZoneD.name).take k).map Value.string) /\ Hid (∀ j, j < k -> ∀ x, r.zones[j]? = some x -> jb8 r.rules x = true) /\ Bw W wr) (fun _ i _ => r.zones.length - (intOf i).toNat)
   case atStart => exact ⟨0, by omega, rfl, ⟨_, _, rfl⟩, by rw [<- jm.out]; exact gZ, fun j hj => by omega, hB⟩
   case round =>
    clear gZ oj hB dS x1 y1 z1 aj
    obtain ⟨k, hk, rfl, kI, hO, ak, hB⟩ := hrel
    have dS := qtr ag hB
    have x1 := qce hB x0 x0
    have y1 := qce hB y0 y0
    have z1 := qce hB z0 z0
    by_cases hlt : k < r.zones.length
    ·obtain ⟨x, hx⟩ := qgg hlt
     obtain ⟨b', o, rfl, c0, u, c1, hu⟩ := (AV.below hB).at hx
     have vV := q2 x (lmg hx)
     have cE : ∀ dd os, Cl 84 #[.agg #[.slice a r.rules.length ca, .slice (some (ad b' o)) r.zones.length cb, .slice c r.links.length cc], .agg #[.string x.name, u]] (grow (redrawn wr dd) os) fun e cr => e = .returned (.bool (jb8 r.rules x)) /\ ∃ p : Regrown, cr = grow (redrawn wr p.d) p.os := fun dd os => Calls.regrown_of (jnd r _ x u _ ((dC.below hB).below (below_regrown wr dd os)) (hu.below (below_regrown wr dd os)) vV m1)
     obtain ⟨ae, ce, rfl, _⟩ := hu
     have kx := cell_regrown x1
     have ky := cell_regrown y1
     have kz := cell_regrown z1
     have oR := cell_regrown c0
     have lM := cell_regrown c1
     cases hb : jb8 r.rules x
     ·have HR : Hid (rb = false) := gS.out k x hx hb
      rw [hb] at cE
      clear hb gS jK nK HY kI hO
      go_wp2_with fail
      refine wp_region_quiet_below (by kernel_rfl) (by kernel_rfl) ?_
      repeat (quiet_step ((go_at_call 84; exact cE _ _)))
      refine wpQuiet_nil ?_
      intro _ bL
      obtain ⟨⟨dq, aQ⟩, aP⟩ := bL
      subst aP
      have ac := below_regrown wr dq aQ
      go_wp2
      go_ret
      exact ⟨ret_bool HR.out.symm, (qtr dS ac)⟩
     ·have HR : Hid (∀ j, j < k + 1 -> ∀ x, r.zones[j]? = some x -> jb8 r.rules x = true) := fun j hj y hy => by
       by_cases e : j = k
       ·subst e; rw [hx] at hy; obtain rfl := osi hy; exact hb
       ·exact ak.out j (by omega) y hy
      rw [hb] at cE
      have hs := jef (l := r.zones.map ZoneD.name) (k := k) (x := x.name) (by rw [lgm, hx]; rfl)
      have HS := hid hs
      clear hs hb kI
      go_wp2_with fail
      refine wp_region_quiet_below (by kernel_rfl) (by kernel_rfl) ?_
      repeat (quiet_step ((go_at_call 84; exact cE _ _)))
      refine wpQuiet_nil ?_
      intro V bL
      obtain ⟨⟨dq, aQ⟩, aP⟩ := bL
      have ac : Bw wr V := aP ▸ below_regrown wr dq aQ
      clear aP kx ky kz oR lM cE
      have ao := qtr hB ac
      have br := jf2 hO ac
      have x2 := qce ac x1 x1
      have y2 := qce ac y1 y1
      have d0 := qce ac c0 c0
      have hsz := ao.size
      clear ac hO x1 y1 z1 c0 c1
      generalize ((r.zones.map ZoneD.name).take k).map Value.string = xs at *
      go_wp2_with (first
       | (at_builtin; refine wpList_append_own _ rfl _ _ 140 rfl W.heap.size 9 i0 (.string ⟨#[]⟩) 1 16 Tryz.underlying140 hi aH aI aG rfl (by decide) _ _ _ rfl (br.alloc _) ⟨V.heap.size, 0, none⟩ 1 1 [.string x.name] rfl rfl ?c1 ?c2 ?c3 ?c4 ?c5 ?_)
       | fail)
      all_goals try go_simp
      case c2 => rfl
      case c3 => unfold maxLen; omega
      case c4 => omega
      case c5 => omega
      ·intro v' w3 ar af _
       have ay : Bw W w3 := (ao.alloc hsz _).grown af (by simp; omega) (jhq br)
       clear af br
       go_wp2
       go_roundw
       case rel => exact ⟨k + 1, by omega, by go_num, jnm ar (by omega), by rw [HS.out]; exact ar, HR, ay⟩
       case measure => simp [intOf]; omega
    ·have e : k = r.zones.length := by omega
     subst e
     have H2 : Hid (∀ (k : Nat) x, r.zones[k]? = some x -> jb8 r.rules x = true) := fun j x hx => ak.out j (lgs hx).1 x hx
     obtain ⟨g0, J2, rfl⟩ := kI
     rw [List.take_of_length_le (by simp)] at hO
     clear ak gS
     go_wp2
     obtain ⟨QA, rfl⟩ := qea wr
     go_loopw [3, 7] (fun s i wr => ∃ k : Nat, k <= r.links.length /\ i = iv k /\ (∃ g cap, s = so g (r.zones.length + k) cap) /\ wr.ownsRow W.heap.size 9 1 s (r.zones.length + k) ((r.zones.map ZoneD.name ++ (r.links.map LinkD.name).take k).map Value.string) /\ Hid (∀ j, j < k -> ∀ x, r.links[j]? = some x -> jay x.name = true /\ inB (r.zones.map ZoneD.name) x.to_ = true) /\ Bw W wr) (fun _ i _ => r.links.length - (intOf i).toNat)
     case atStart => exact ⟨0, by omega, rfl, ⟨_, _, rfl⟩, by simpa using hO, fun j hj => by omega, hB⟩
     case round =>
      clear hO hB dS x1 y1 z1
      obtain ⟨k, hk, rfl, ⟨g, cap, rfl⟩, hO, ak, hB⟩ := hrel
      have dS := qtr ag hB
      have x1 := qce hB x0 x0
      have y1 := qce hB y0 y0
      have z1 := qce hB z0 z0
      obtain ⟨xN, eS, au⟩ := jvr hO
      have mr := xN.take r.zones.length
      rw [List.take_append_of_le_length (by simp), List.take_of_length_le (by simp)] at mr
      by_cases hlt : k < r.links.length
      ·obtain ⟨x, hx⟩ := qgg hlt
       obtain ⟨b', o, rfl, hc⟩ := (AT.below hB).at (i := k) (r := x.cs) (by rw [lgm, hx]; rfl)
       have c0 : wr.cell? (ad b' (o + k * 2)) = some (.string x.to_) := hc 0 _ rfl
       have c1 := hc 1 _ rfl
       clear hc
       have vV := s2 x (lmg hx)
       have hN := fun w => jbv x.name w vV.2
       have hI := fun n => jkw (r.zones.map ZoneD.name) (some (ad g 0)) cap x.to_ (wr.drewN n) (mr.below (below_drewN (brf _ _) n)) (by simp; omega)
       rw [llm] at hI
       have j0 : (0 : Int) <= (r.zones.length : Int) := by omega
       have j1 : (r.zones.length : Int) <= (cap : Int) := by omega
       cases hb1 : jay x.name
       ·have HR : Hid (rb = false) := jK.out k x hx (.inl hb1)
        rw [hb1] at hN
        clear hb1 jK nK HY
        go_wp2_with fail
        go_quiet ((first | (go_at_call 85; exact Calls.quiet_of_same (hN _)) | (go_at_call 86; exact Calls.quiet_of_same (hI _))))
        go_wp2
        go_ret
        exact ⟨ret_bool HR.out.symm, below_drewN dS _⟩
       ·rw [hb1] at hN
        cases ac : inB (r.zones.map ZoneD.name) x.to_
        ·have HR : Hid (rb = false) := jK.out k x hx (.inr ac)
         rw [ac] at hI
         clear hb1 ac jK nK HY
         go_wp2_with fail
         go_quiet ((first | (go_at_call 85; exact Calls.quiet_of_same (hN _)) | (go_at_call 86; exact Calls.quiet_of_same (hI _))))
         go_wp2
         go_ret
         exact ⟨ret_bool HR.out.symm, below_drewN dS _⟩
        ·have HR : Hid (∀ j, j < k + 1 -> ∀ x, r.links[j]? = some x -> jay x.name = true /\ inB (r.zones.map ZoneD.name) x.to_ = true) := fun j hj y hy => by
          by_cases e : j = k
          ·subst e; rw [hx] at hy; obtain rfl := osi hy; exact ⟨hb1, ac⟩
          ·exact ak.out j (by omega) y hy
         rw [ac] at hI
         clear hb1 ac
         go_wp2_with fail
         go_quiet ((first | (go_at_call 85; exact Calls.quiet_of_same (hN _)) | (go_at_call 86; exact Calls.quiet_of_same (hI _))))
         obtain ⟨V, hV⟩ : ∃ V, V = wr.drewN nq := ⟨_, rfl⟩
         rw [<- hV]
         have ac : Bw wr V := hV ▸ below_drewN (brf _ _) _
         clear hV hI hN xN mr
         have ao := qtr hB ac
         have br := jf2 hO ac
         have z2 := qce ac z1 z1
         have d1 := qce ac c1 c1
         have hsz := ao.size
         have hs := jef (l := r.links.map LinkD.name) (k := k) (x := x.name) (by rw [lgm, hx]; rfl)
         have HS : Hid ((r.zones.map ZoneD.name ++ (r.links.map LinkD.name).take (k + 1)).map Value.string = (r.zones.map ZoneD.name ++ (r.links.map LinkD.name).take k).map Value.string ++ [.string x.name]) := by
          simp only [Hid]; rw [lma, hs, <- List.append_assoc, <- lma]
         clear hs ac hO x1 y1 z1 c0 c1 au
         generalize (r.zones.map ZoneD.name ++ (r.links.map LinkD.name).take k).map Value.string = xs at *
         obtain ⟨n, hn⟩ : ∃ n, n = r.zones.length + k := ⟨_, rfl⟩
         have EM : Hid (r.zones.length + (k + 1) = n + 1) := by simp only [Hid]; omega
         have gO : n <= 2097152 := by omega
         rw [<- hn] at br ⊢
         clear hn
         go_wp2_with (first
          | (at_builtin; refine wpList_append_own _ rfl _ _ 140 rfl W.heap.size 9 i0 (.string ⟨#[]⟩) 1 16 Tryz.underlying140 hi aH aI aG rfl (by decide) _ _ _ rfl (br.alloc _) ⟨V.heap.size, 0, none⟩ 1 1 [.string x.name] rfl rfl ?d1 ?d2 ?d3 ?d4 ?d5 ?_)
          | fail)
         all_goals try go_simp
         case d2 => rfl
         case d3 => unfold maxLen; omega
         case d4 => omega
         case d5 => omega
         ·intro v' w3 ar af _
          have ay : Bw W w3 := (ao.alloc hsz _).grown af (by simp; omega) (jhq br)
          clear af br
          go_wp2
          go_roundw
          case rel => exact ⟨k + 1, by omega, by go_num, by rw [EM.out]; exact jnm ar (by omega), by rw [HS.out, EM.out]; exact ar, HR, ay⟩
          case measure => simp [intOf]; omega
      ·have e : k = r.links.length := by omega
       subst e
       have H3 : Hid (∀ (k : Nat) x, r.links[k]? = some x -> jay x.name = true /\ inB (r.zones.map ZoneD.name) x.to_ = true) := fun j x hx => ak.out j (lgs hx).1 x hx
       have IR : Hid ((∀ (k : Nat) x, (r.zones.map ZoneD.name ++ r.links.map LinkD.name)[k]? = some x -> inB ((r.zones.map ZoneD.name ++ r.links.map LinkD.name).take k) x = false) -> rb = true) := fun h4 => HY.out HL.out H1.out H2.out H3.out h4
       rw [List.take_of_length_le (by simp)] at xN au
       clear ak jK HY HL H1 H2 H3 mr hO jm jn
       generalize r.zones.map ZoneD.name ++ r.links.map LinkD.name = ns at *
       have gO : ns.length <= 1048576 := by omega
       rw [<- au]
       rw [<- au] at eS
       clear au
       go_wp2
       obtain ⟨Nr, rfl⟩ := qea wr
       go_loopw [8] (fun i wr => ∃ k : Nat, k <= ns.length /\ i = iv k /\ Hid (∀ j, j < k -> ∀ x, ns[j]? = some x -> inB (ns.take j) x = false) /\ Bw Nr wr) (fun i _ => ns.length - (intOf i).toNat)
       case atStart => exact ⟨0, by omega, rfl, fun j hj => by omega, brf _ _⟩
       case round =>
        obtain ⟨k, hk, rfl, ak, aS⟩ := hrel
        have dF := xN.below aS
        have Fx := qtr dS aS
        by_cases hlt : k < ns.length
        ·obtain ⟨x, hx⟩ := qgg hlt
         obtain ⟨b', o', he, c0⟩ := dF.at hx
         injection he with he
         injection he with u1 u2
         subst u1 u2
         rw [Nat.zero_add] at c0
         have hI := fun n => jkw (ns.take k) (some (ad g 0)) cap x (wr.drewN n) ((dF.take k).below (below_drewN (brf _ _) n)) (by rw [List.length_take]; omega)
         rw [List.length_take, Nat.min_eq_left (by omega)] at hI
         have j0 : (0 : Int) <= (k : Int) := by omega
         have j1 : (k : Int) <= (cap : Int) := by omega
         have j2 : (k : Int) < (ns.length : Int) := by omega
         cases hb : inB (ns.take k) x
         ·have HR : Hid (∀ j, j < k + 1 -> ∀ x, ns[j]? = some x -> inB (ns.take j) x = false) := fun j hj y hy => by
           by_cases e : j = k
           ·subst e; rw [hx] at hy; obtain rfl := osi hy; exact hb
           ·exact ak.out j (by omega) y hy
          rw [hb] at hI
          clear hb
          go_wp2_with fail
          go_quiet ((go_at_call 86; exact Calls.quiet_of_same (hI _)))
          go_wp2
          go_roundw
          case rel => exact ⟨k + 1, by omega, by go_num, HR, below_drewN aS _⟩
          case measure => simp [intOf]; omega
         ·have HR : Hid (rb = false) := nK.out k x hx hb
          rw [hb] at hI
          clear hb
          go_wp2_with fail
          go_quiet ((go_at_call 86; exact Calls.quiet_of_same (hI _)))
          go_wp2
          go_ret
          exact ⟨ret_bool HR.out.symm, below_drewN Fx _⟩
        ·have e : k = ns.length := by omega
         subst e
         have HR : Hid (rb = true) := IR.out fun j x hx => ak.out j (lgs hx).1 x hx
         go_wp2
         go_ret
         exact ⟨ret_bool HR.out.symm, Fx⟩
end
end Go.Proofs.YtgiieknbckhofaaGreatDoor
