/- Packed. -/
import Derived.Test.YtpejeokacilebaaGreatDoorRightWs
import Derived.Test.YtpejeokacilebaaGreatDoorRelPs
set_option maxHeartbeats 20000000
set_option linter.unusedSimpArgs false
namespace Go.Proofs.YtpejeokacilebaaGreatDoor
section
open Go.RowKit
def relB (r : RelD) : Bool := decide (r.rules.length <= 40 /\ r.zones.length <= 12 /\ r.links.length <= 20) && (r.rules.all jau && (r.zones.all jbf && (r.links.all linkB && (namesB r && ((r.zones.all fun z => z.eras.all (jbx r.rules)) && (r.links.all fun x => hasZ r.zones x.to_))))))
theorem rel_no0 {r : RelD} (h : ¬ (r.rules.length <= 40 /\ r.zones.length <= 12 /\ r.links.length <= 20)) : relB r = false := by unfold relB; rw [decide_eq_false h]; rfl
theorem rel_no1 {r : RelD} (h : r.rules.all jau = false) : relB r = false := by unfold relB; rw [h]; simp
theorem rel_no2 {r : RelD} (h : r.zones.all jbf = false) : relB r = false := by unfold relB; rw [h]; simp
theorem rel_no3 {r : RelD} (h : r.links.all linkB = false) : relB r = false := by unfold relB; rw [h]; simp
theorem rel_no4 {r : RelD} (h : namesB r = false) : relB r = false := by unfold relB; rw [h]; simp
theorem rel_no5 {r : RelD} (h : (r.zones.all fun z => z.eras.all (jbx r.rules)) = false) : relB r = false := by unfold relB; rw [h]; simp
theorem rel_no6 {r : RelD} (h : (r.links.all fun x => hasZ r.zones x.to_) = false) : relB r = false := by unfold relB; rw [h]; simp
theorem rel_yes {r : RelD} (h0 : r.rules.length <= 40 /\ r.zones.length <= 12 /\ r.links.length <= 20) (h1 : r.rules.all jau = true) (h2 : r.zones.all jbf = true) (h3 : r.links.all linkB = true) (h4 : namesB r = true) (h5 : (r.zones.all fun z => z.eras.all (jbx r.rules)) = true) (h6 : (r.links.all fun x => hasZ r.zones x.to_) = true) : relB r = true := by unfold relB; rw [decide_eq_true h0, h1, h2, h3, h4, h5, h6]; rfl
theorem jbo (r : RelD) (v : Value) (w : World) (hE : Zw w) (hv : Zb w v r) (ok : r.ok) (sm : r.small) (hon : ∀ x ∈ r.rules, x.on.size <= 1048576) :
  Calls Tryz.prog 76 #[v] w fun e w' => e = .returned (.bool (relB r)) /\ Below w.heap.size w w' := by
 obtain ⟨a, b, c, ca, cb, cc, hvv, hAr, hAz, hAl⟩ := hv.form
 obtain ⟨⟨p1, p2⟩, ⟨q1, q2⟩, ⟨s1, s2⟩⟩ := ok
 obtain ⟨m1, m2, m3, m4⟩ := sm
 have hB0 := qal w (.cells #[.slice a r.rules.length ca, .slice b r.zones.length cb, .slice c r.links.length cc] 37)
 have hR := fun w hE (h : Za w a 9 (r.rules.map RuleD.cs)) => impl_allRule r.rules a ca w hE h p2 hon m1
 have hZ := fun w (h : Zj w b r.zones) => impl_allZone r.zones b cb w h q2 m2
 have hK := fun w (h : Za w c 2 (r.links.map LinkD.cs)) => impl_allLink r.links c cc w h s2 m3
 have hU := fun w (h : Zb w v r) => impl_namesUnlike r v w h m2 m3
 have hT := fun w (h : Zb w v r) => impl_rulesThere r v w h m1 m2 q2
 have hY := fun w (h : Zb w v r) => impl_zonesThere r v w h m2 m3
 subst hvv
 have N0 := @rel_no0 r
 have N1 := @rel_no1 r
 have N2 := @rel_no2 r
 have N3 := @rel_no3 r
 have N4 := @rel_no4 r
 have N5 := @rel_no5 r
 have N6 := @rel_no6 r
 have YY := @rel_yes r
 generalize relB r = rb at *
 by_cases g40 : 40 < r.rules.length
 ·have HR : Hid (rb = false) := N0 (by omega)
  clear N0 N1 N2 N3 N4 N5 N6 YY
  go_enter Tryz.func76, Tryz.ntmps76
  go_wp2
  go_ret
  exact ⟨ret_bool HR.out.symm, hB0⟩
 by_cases g12 : 12 < r.zones.length
 ·have HR : Hid (rb = false) := N0 (by omega)
  clear N0 N1 N2 N3 N4 N5 N6 YY
  go_enter Tryz.func76, Tryz.ntmps76
  go_wp2
  go_ret
  exact ⟨ret_bool HR.out.symm, hB0⟩
 by_cases g20 : 20 < r.links.length
 ·have HR : Hid (rb = false) := N0 (by omega)
  clear N0 N1 N2 N3 N4 N5 N6 YY
  go_enter Tryz.func76, Tryz.ntmps76
  go_wp2
  go_ret
  exact ⟨ret_bool HR.out.symm, hB0⟩
 obtain ⟨x0, y0, z0⟩ : (fun z : World => z.cell? ⟨w.heap.size, 0, none⟩ = some (.slice a r.rules.length ca) /\ z.cell? ⟨w.heap.size, 1, none⟩ = some (.slice b r.zones.length cb) /\ z.cell? ⟨w.heap.size, 2, none⟩ = some (.slice c r.links.length cc)) (w.alloc (.cells #[.slice a r.rules.length ca, .slice b r.zones.length cb, .slice c r.links.length cc] 37)) := by simp [go_sem]
 cases k1 : r.rules.all jau
 ·have HR : Hid (rb = false) := N1 k1
  rw [k1] at hR
  clear N0 N1 N2 N3 N4 N5 N6 YY
  clear k1
  go_enter Tryz.func76, Tryz.ntmps76
  go_wp2_with fail
  refine (hR _ (hE.of_below hB0) (hAr.below hB0)).mono ?_
  rintro e w1 ⟨rfl, hb1⟩
  have hB1 := qtr hB0 hb1
  go_wp2
  go_ret
  exact ⟨ret_bool HR.out.symm, hB1⟩
 rw [k1] at hR
 cases k2 : r.zones.all jbf
 ·have HR : Hid (rb = false) := N2 k2
  rw [k2] at hZ
  clear N0 N1 N2 N3 N4 N5 N6 YY
  clear k1 k2
  go_enter Tryz.func76, Tryz.ntmps76
  go_wp2_with fail
  refine (hR _ (hE.of_below hB0) (hAr.below hB0)).mono ?_
  rintro e w1 ⟨rfl, hb1⟩
  have hB1 := qtr hB0 hb1
  have x1 := qce hb1 x0 x0
  have y1 := qce hb1 y0 y0
  have z1 := qce hb1 z0 z0
  go_wp2_with fail
  refine (hZ _ (hAz.below hB1)).mono ?_
  rintro e w2 ⟨rfl, hb2⟩
  have hB2 := qtr hB1 hb2
  go_wp2
  go_ret
  exact ⟨ret_bool HR.out.symm, hB2⟩
 rw [k2] at hZ
 cases k3 : r.links.all linkB
 ·have HR : Hid (rb = false) := N3 k3
  rw [k3] at hK
  clear N0 N1 N2 N3 N4 N5 N6 YY
  clear k1 k2 k3
  go_enter Tryz.func76, Tryz.ntmps76
  go_wp2_with fail
  refine (hR _ (hE.of_below hB0) (hAr.below hB0)).mono ?_
  rintro e w1 ⟨rfl, hb1⟩
  have hB1 := qtr hB0 hb1
  have x1 := qce hb1 x0 x0
  have y1 := qce hb1 y0 y0
  have z1 := qce hb1 z0 z0
  go_wp2_with fail
  refine (hZ _ (hAz.below hB1)).mono ?_
  rintro e w2 ⟨rfl, hb2⟩
  have hB2 := qtr hB1 hb2
  have x2 := qce hb2 x1 x1
  have y2 := qce hb2 y1 y1
  have z2 := qce hb2 z1 z1
  go_wp2_with fail
  refine (hK _ (hAl.below hB2)).mono ?_
  rintro e w3 ⟨rfl, hb3⟩
  have hB3 := qtr hB2 hb3
  go_wp2
  go_ret
  exact ⟨ret_bool HR.out.symm, hB3⟩
 rw [k3] at hK
 cases k4 : namesB r
 ·have HR : Hid (rb = false) := N4 k4
  rw [k4] at hU
  clear N0 N1 N2 N3 N4 N5 N6 YY
  clear k1 k2 k3 k4
  go_enter Tryz.func76, Tryz.ntmps76
  go_wp2_with fail
  refine (hR _ (hE.of_below hB0) (hAr.below hB0)).mono ?_
  rintro e w1 ⟨rfl, hb1⟩
  have hB1 := qtr hB0 hb1
  have x1 := qce hb1 x0 x0
  have y1 := qce hb1 y0 y0
  have z1 := qce hb1 z0 z0
  go_wp2_with fail
  refine (hZ _ (hAz.below hB1)).mono ?_
  rintro e w2 ⟨rfl, hb2⟩
  have hB2 := qtr hB1 hb2
  have x2 := qce hb2 x1 x1
  have y2 := qce hb2 y1 y1
  have z2 := qce hb2 z1 z1
  go_wp2_with fail
  refine (hK _ (hAl.below hB2)).mono ?_
  rintro e w3 ⟨rfl, hb3⟩
  have hB3 := qtr hB2 hb3
  have x3 := qce hb3 x2 x2
  have y3 := qce hb3 y2 y2
  have z3 := qce hb3 z2 z2
  go_wp2_with fail
  refine (hU _ (hv.below hB3)).mono ?_
  rintro e w4 ⟨rfl, hb4⟩
  have hB4 := qtr hB3 hb4
  go_wp2
  go_ret
  exact ⟨ret_bool HR.out.symm, hB4⟩
 rw [k4] at hU
 cases k5 : (r.zones.all fun z => z.eras.all (jbx r.rules))
 ·have HR : Hid (rb = false) := N5 k5
  rw [k5] at hT
  clear N0 N1 N2 N3 N4 N5 N6 YY
  clear k1 k2 k3 k4 k5
  go_enter Tryz.func76, Tryz.ntmps76
  go_wp2_with fail
  refine (hR _ (hE.of_below hB0) (hAr.below hB0)).mono ?_
  rintro e w1 ⟨rfl, hb1⟩
  have hB1 := qtr hB0 hb1
  have x1 := qce hb1 x0 x0
  have y1 := qce hb1 y0 y0
  have z1 := qce hb1 z0 z0
  go_wp2_with fail
  refine (hZ _ (hAz.below hB1)).mono ?_
  rintro e w2 ⟨rfl, hb2⟩
  have hB2 := qtr hB1 hb2
  have x2 := qce hb2 x1 x1
  have y2 := qce hb2 y1 y1
  have z2 := qce hb2 z1 z1
  go_wp2_with fail
  refine (hK _ (hAl.below hB2)).mono ?_
  rintro e w3 ⟨rfl, hb3⟩
  have hB3 := qtr hB2 hb3
  have x3 := qce hb3 x2 x2
  have y3 := qce hb3 y2 y2
  have z3 := qce hb3 z2 z2
  go_wp2_with fail
  refine (hU _ (hv.below hB3)).mono ?_
  rintro e w4 ⟨rfl, hb4⟩
  have hB4 := qtr hB3 hb4
  have x4 := qce hb4 x3 x3
  have y4 := qce hb4 y3 y3
  have z4 := qce hb4 z3 z3
  go_wp2_with fail
  refine (hT _ (hv.below hB4)).mono ?_
  rintro e w5 ⟨rfl, hb5⟩
  have hB5 := qtr hB4 hb5
  go_wp2
  go_ret
  exact ⟨ret_bool HR.out.symm, hB5⟩
 rw [k5] at hT
 cases k6 : (r.links.all fun x => hasZ r.zones x.to_)
 ·have HR : Hid (rb = false) := N6 k6
  rw [k6] at hY
  clear N0 N1 N2 N3 N4 N5 N6 YY
  clear k1 k2 k3 k4 k5 k6
  go_enter Tryz.func76, Tryz.ntmps76
  go_wp2_with fail
  refine (hR _ (hE.of_below hB0) (hAr.below hB0)).mono ?_
  rintro e w1 ⟨rfl, hb1⟩
  have hB1 := qtr hB0 hb1
  have x1 := qce hb1 x0 x0
  have y1 := qce hb1 y0 y0
  have z1 := qce hb1 z0 z0
  go_wp2_with fail
  refine (hZ _ (hAz.below hB1)).mono ?_
  rintro e w2 ⟨rfl, hb2⟩
  have hB2 := qtr hB1 hb2
  have x2 := qce hb2 x1 x1
  have y2 := qce hb2 y1 y1
  have z2 := qce hb2 z1 z1
  go_wp2_with fail
  refine (hK _ (hAl.below hB2)).mono ?_
  rintro e w3 ⟨rfl, hb3⟩
  have hB3 := qtr hB2 hb3
  have x3 := qce hb3 x2 x2
  have y3 := qce hb3 y2 y2
  have z3 := qce hb3 z2 z2
  go_wp2_with fail
  refine (hU _ (hv.below hB3)).mono ?_
  rintro e w4 ⟨rfl, hb4⟩
  have hB4 := qtr hB3 hb4
  have x4 := qce hb4 x3 x3
  have y4 := qce hb4 y3 y3
  have z4 := qce hb4 z3 z3
  go_wp2_with fail
  refine (hT _ (hv.below hB4)).mono ?_
  rintro e w5 ⟨rfl, hb5⟩
  have hB5 := qtr hB4 hb5
  have x5 := qce hb5 x4 x4
  have y5 := qce hb5 y4 y4
  have z5 := qce hb5 z4 z4
  go_wp2_with fail
  refine (hY _ (hv.below hB5)).mono ?_
  rintro e w6 ⟨rfl, hb6⟩
  have hB6 := qtr hB5 hb6
  go_wp2
  go_ret
  exact ⟨ret_bool HR.out.symm, hB6⟩
 rw [k6] at hY
 have HR : Hid (rb = true) := YY (by omega) k1 k2 k3 k4 k5 k6
 clear N0 N1 N2 N3 N4 N5 N6 YY k1 k2 k3 k4 k5 k6
 go_enter Tryz.func76, Tryz.ntmps76
 go_wp2_with fail
 refine (hR _ (hE.of_below hB0) (hAr.below hB0)).mono ?_
 rintro e w1 ⟨rfl, hb1⟩
 have hB1 := qtr hB0 hb1
 have x1 := qce hb1 x0 x0
 have y1 := qce hb1 y0 y0
 have z1 := qce hb1 z0 z0
 go_wp2_with fail
 refine (hZ _ (hAz.below hB1)).mono ?_
 rintro e w2 ⟨rfl, hb2⟩
 have hB2 := qtr hB1 hb2
 have x2 := qce hb2 x1 x1
 have y2 := qce hb2 y1 y1
 have z2 := qce hb2 z1 z1
 go_wp2_with fail
 refine (hK _ (hAl.below hB2)).mono ?_
 rintro e w3 ⟨rfl, hb3⟩
 have hB3 := qtr hB2 hb3
 have x3 := qce hb3 x2 x2
 have y3 := qce hb3 y2 y2
 have z3 := qce hb3 z2 z2
 go_wp2_with fail
 refine (hU _ (hv.below hB3)).mono ?_
 rintro e w4 ⟨rfl, hb4⟩
 have hB4 := qtr hB3 hb4
 have x4 := qce hb4 x3 x3
 have y4 := qce hb4 y3 y3
 have z4 := qce hb4 z3 z3
 go_wp2_with fail
 refine (hT _ (hv.below hB4)).mono ?_
 rintro e w5 ⟨rfl, hb5⟩
 have hB5 := qtr hB4 hb5
 have x5 := qce hb5 x4 x4
 have y5 := qce hb5 y4 y4
 have z5 := qce hb5 z4 z4
 go_wp2_with fail
 refine (hY _ (hv.below hB5)).mono ?_
 rintro e w6 ⟨rfl, hb6⟩
 have hB6 := qtr hB5 hb6
 go_wp2
 go_ret
 exact ⟨ret_bool HR.out.symm, hB6⟩
end
section
open Go.RowKit
theorem mem_le_sum {l : List Nat} {x : Nat} (h : x ∈ l) : x <= l.sum := by
 induction l with
 | nil => cases h
 | cons a l ih =>
  rw [List.sum_cons]
  rcases List.mem_cons.mp h with rfl | h
  ·omega
  ·have := ih h; omega
theorem rel_small {r : RelD} (h : r.sz <= 1048576) : r.small /\ ∀ x ∈ r.rules, x.on.size <= 1048576 := by
 unfold RelD.sz at h
 refine ⟨⟨by omega, by omega, by omega, fun z hz => ?_⟩, fun x hx => ?_⟩
 ·have h1 : z.sz <= zsz r.zones := mem_le_sum (List.mem_map.mpr ⟨z, hz, rfl⟩)
  have h2 : z.eras.length <= z.sz := by unfold ZoneD.sz; omega
  omega
 ·have h1 : x.sz <= rsz r.rules := mem_le_sum (List.mem_map.mpr ⟨x, hx, rfl⟩)
  have h2 : x.on.size <= x.sz := by unfold RuleD.sz; omega
  omega
end
section
open Go.RowKit
theorem ownR_below {w w' : World} {base : Nat} {e : TypeId} {size : Nat} {v : Value} {n : Nat} {xs : List Value} (h : w.ownsRow base e size v n xs) (hb : Below w.heap.size w w') : w'.ownsRow base e size v n xs := by
 refine ⟨h.1, ?_⟩
 rcases h.2 with h2 | ⟨g, cap, cur, hv, hg, hh, rest⟩
 ·exact .inl h2
 ·refine .inr ⟨g, cap, cur, hv, hg, ?_, rest⟩
  rw [hb.block g (by
   rcases Nat.lt_or_ge g w.heap.size with h' | h'
   ·exact h'
   ·rw [Array.getElem?_eq_none h'] at hh; cases hh)]
  exact hh
theorem ownR_some {w : World} {base : Nat} {e : TypeId} {size : Nat} {v : Value} {n : Nat} {xs : List Value} (h : w.ownsRow base e size v n xs) (hn : 0 < n) : ∃ g cap, v = .slice (some ⟨g, 0, none⟩) n cap := by
 rcases h.2 with ⟨_, h0⟩ | ⟨g, cap, _, hv, _⟩
 ·omega
 ·exact ⟨g, cap, hv⟩
theorem ownR_strs {w : World} {base : Nat} {e : TypeId} {g cap n : Nat} {ss : List ByteArray} (h : w.ownsRow base e 1 (.slice (some ⟨g, 0, none⟩) n cap) n (ss.map Value.string)) : Jf w (some ⟨g, 0, none⟩) ss /\ n <= cap /\ ss.length = n := by
 have hl : ss.length = n := by simpa using h.1
 rcases h.2 with ⟨h0, _⟩ | ⟨g', cap', cur, hv, hg, hh, hc, hm, hs, ht⟩
 ·cases h0
 ·injection hv with h1 _ h3
  injection h1 with h1
  injection h1 with h1
  subst h1 h3
  refine ⟨.inr ⟨g, 0, rfl, fun i s hi => ?_⟩, hc, hl⟩
  have hil := (List.getElem?_eq_some_iff.mp hi).1
  have e1 : (cur.toList.take (n * 1))[i]? = (ss.map Value.string)[i]? := by rw [ht]
  rw [List.getElem?_take, if_pos (by omega), Array.getElem?_toList, List.getElem?_map, hi] at e1
  simp only [World.cell?, hh, Nat.zero_add]
  simp only [Option.isSome_none, Bool.false_eq_true, if_false]
  exact e1
theorem inB_iff {ss : List ByteArray} {t : ByteArray} : inB ss t = true ↔ t.data.toList ∈ keysL ss := by
 unfold inB keysL
 rw [List.any_eq_true, List.mem_map]
 constructor
 ·rintro ⟨x, hx, he⟩
  exact ⟨x, hx, by rw [beq_iff_eq, ByteArray.toList_eq, ByteArray.toList_eq] at he; exact he⟩
 ·rintro ⟨x, hx, he⟩
  exact ⟨x, hx, by rw [beq_iff_eq, ByteArray.toList_eq, ByteArray.toList_eq]; exact he⟩
theorem inB_hasZ {zs : List ZoneD} {t : ByteArray} : inB (zs.map ZoneD.name) t = hasZ zs t := by
 unfold inB hasZ
 rw [List.any_map]
 rfl
structure RelT (r : RelD) : Prop where
 lens : r.rules.length <= 40 /\ r.zones.length <= 12 /\ r.links.length <= 20
 rules : r.rules.all jau = true
 zones : r.zones.all jbf = true
 links : r.links.all linkB = true
 names : namesB r = true
 there : (r.zones.all fun z => z.eras.all (jbx r.rules)) = true
 has : (r.links.all fun x => hasZ r.zones x.to_) = true
theorem rel_of {r : RelD} (h : relB r = true) : RelT r := by
 unfold relB at h
 simp only [Bool.and_eq_true, decide_eq_true_eq] at h
 obtain ⟨h0, h1, h2, h3, h4, h5, h6⟩ := h
 exact ⟨h0, h1, h2, h3, h4, h5, h6⟩
theorem rel_false {r : RelD} (h : RelT r -> False) : relB r = false := by
 cases hb : relB r
 ·rfl
 ·exact (h (rel_of hb)).elim
theorem rel_rule {r : RelD} {k : Nat} {x : RuleD} (hk : r.rules[k]? = some x) (h : jau x = false) : relB r = false := rel_no1 (all_no hk h)
theorem rel_zone {r : RelD} {k : Nat} {z : ZoneD} (hk : r.zones[k]? = some z) (h : jb3 r.rules z = false) : relB r = false := rel_false fun t => by
 have := (zones_same t.rules).mp ⟨t.zones, t.there⟩ z (List.mem_of_getElem? hk)
 rw [zoneM_yes this] at h; cases h
theorem rel_link {r : RelD} {k : Nat} {x : LinkD} (hk : r.links[k]? = some x) (h : jay x.name = false \/ inB (r.zones.map ZoneD.name) x.to_ = false) : relB r = false := rel_false fun t => by
 have h1 := List.all_eq_true.mp t.links x (List.mem_of_getElem? hk)
 have h2 := List.all_eq_true.mp t.has x (List.mem_of_getElem? hk)
 unfold linkB at h1
 simp only [Bool.and_eq_true] at h1
 rcases h with h | h
 ·rw [h1.2] at h; cases h
 ·rw [inB_hasZ, h2] at h; cases h
theorem keysL_take (l : List ByteArray) (k : Nat) : keysL (l.take k) = (keysL l).take k := by unfold keysL; rw [List.map_take]
theorem rel_dup {r : RelD} {k : Nat} {x : ByteArray} (hk : (namesL r)[k]? = some x) (h : inB ((namesL r).take k) x = true) : relB r = false := rel_false fun t => by
 have hn : (keysL (namesL r)).Nodup := by have := t.names; unfold namesB at this; exact of_decide_eq_true this
 rw [inB_iff, keysL_take] at h
 exact (nodup_ahead _).mpr hn k x.data.toList (by unfold keysL; rw [List.getElem?_map, hk]; rfl) h
theorem rel_all {r : RelD} (h0 : r.rules.length <= 40 /\ r.zones.length <= 12 /\ r.links.length <= 20) (h1 : ∀ (k : Nat) x, r.rules[k]? = some x -> jau x = true) (h2 : ∀ (k : Nat) z, r.zones[k]? = some z -> jb3 r.rules z = true)
  (h3 : ∀ (k : Nat) x, r.links[k]? = some x -> jay x.name = true /\ inB (r.zones.map ZoneD.name) x.to_ = true) (h4 : ∀ (k : Nat) x, (namesL r)[k]? = some x -> inB ((namesL r).take k) x = false) : relB r = true := by
 have k1 : r.rules.all jau = true := all_yes fun j _ x hx => h1 j x hx
 have kz : ∀ z ∈ r.zones, ZoneM r.rules z := fun z hz => by
  obtain ⟨k, hk⟩ := List.getElem?_of_mem hz
  exact zoneMB_iff.mp (h2 k z hk)
 obtain ⟨k2, k5⟩ := (zones_same k1).mpr kz
 obtain ⟨k3, k6⟩ := (links_same (ls := r.links) fun z hz => (kz z hz).name).mpr fun x hx => by
  obtain ⟨k, hk⟩ := List.getElem?_of_mem hx
  have := h3 k x hk
  rw [inB_hasZ] at this
  exact this
 refine rel_yes h0 k1 k2 k3 ?_ k5 k6
 unfold namesB
 refine decide_eq_true ((nodup_ahead _).mp fun k x hk hm => ?_)
 unfold keysL at hk
 rw [List.getElem?_map] at hk
 obtain ⟨y, hy, rfl⟩ := Option.map_eq_some_iff.mp hk
 have := h4 k y hy
 rw [<- keysL_take, <- inB_iff] at hm
 rw [this] at hm; cases hm
end
section
open Go.RowKit Go.Sort
set_option maxRecDepth 100000 in
theorem jc4 (r : RelD) (v : Value) (w : World) (hv : Zb w v r) (ok : r.ok) (sm : r.small) (hon : ∀ x ∈ r.rules, x.on.size <= 1048576) :
  Calls Tryz.prog 12 #[v] w fun e w' => e = .returned (.bool (relB r)) /\ Below w.heap.size w w' := by
 obtain ⟨a, b, c, ca, cb, cc, hvv, hAr, hAz, hAl⟩ := hv.form
 obtain ⟨⟨p1, p2⟩, ⟨q1, q2⟩, ⟨s1, s2⟩⟩ := ok
 obtain ⟨m1, m2, m3, m4⟩ := sm
 obtain ⟨i0, hi, hz0, hz1, hz2⟩ := infoStr
 have hB0 := qal w (.cells #[.slice a r.rules.length ca, .slice b r.zones.length cb, .slice c r.links.length cc] 37)
 have N0 := @rel_no0 r
 have HN1 : Hid (∀ (k : Nat) (x : RuleD), r.rules[k]? = some x -> jau x = false -> relB r = false) := fun k x h1 h2 => rel_rule h1 h2
 have HN2 : Hid (∀ (k : Nat) (z : ZoneD), r.zones[k]? = some z -> jb3 r.rules z = false -> relB r = false) := fun k x h1 h2 => rel_zone h1 h2
 have HN3 : Hid (∀ (k : Nat) (x : LinkD), r.links[k]? = some x -> (jay x.name = false \/ inB (r.zones.map ZoneD.name) x.to_ = false) -> relB r = false) := fun k x h1 h2 => rel_link h1 h2
 have HN4 : Hid (∀ (k : Nat) (x : ByteArray), (r.zones.map ZoneD.name ++ r.links.map LinkD.name)[k]? = some x -> inB ((r.zones.map ZoneD.name ++ r.links.map LinkD.name).take k) x = true -> relB r = false) := fun k x h1 h2 => rel_dup h1 h2
 have HY : Hid ((r.rules.length <= 40 /\ r.zones.length <= 12 /\ r.links.length <= 20) -> (∀ (k : Nat) x, r.rules[k]? = some x -> jau x = true) -> (∀ (k : Nat) z, r.zones[k]? = some z -> jb3 r.rules z = true) ->
  (∀ (k : Nat) x, r.links[k]? = some x -> jay x.name = true /\ inB (r.zones.map ZoneD.name) x.to_ = true) -> (∀ (k : Nat) x, (r.zones.map ZoneD.name ++ r.links.map LinkD.name)[k]? = some x -> inB ((r.zones.map ZoneD.name ++ r.links.map LinkD.name).take k) x = false) -> relB r = true) := fun h0 h1 h2 h3 h4 => rel_all h0 h1 h2 h3 h4
 generalize relB r = rb at *
 subst hvv
 by_cases g40 : 40 < r.rules.length
 ·have HR : Hid (rb = false) := N0 (by omega)
  clear N0 HN1 HN2 HN3 HN4 HY
  go_enter Tryz.func12, Tryz.ntmps12
  go_wp2
  go_ret
  exact ⟨ret_bool HR.out.symm, hB0⟩
 by_cases g12 : 12 < r.zones.length
 ·have HR : Hid (rb = false) := N0 (by omega)
  clear N0 HN1 HN2 HN3 HN4 HY
  go_enter Tryz.func12, Tryz.ntmps12
  go_wp2
  go_ret
  exact ⟨ret_bool HR.out.symm, hB0⟩
 by_cases g20 : 20 < r.links.length
 ·have HR : Hid (rb = false) := N0 (by omega)
  clear N0 HN1 HN2 HN3 HN4 HY
  go_enter Tryz.func12, Tryz.ntmps12
  go_wp2
  go_ret
  exact ⟨ret_bool HR.out.symm, hB0⟩
 clear N0
 obtain ⟨x0, y0, z0⟩ : (fun z : World => z.cell? ⟨w.heap.size, 0, none⟩ = some (.slice a r.rules.length ca) /\ z.cell? ⟨w.heap.size, 1, none⟩ = some (.slice b r.zones.length cb) /\ z.cell? ⟨w.heap.size, 2, none⟩ = some (.slice c r.links.length cc)) (w.alloc (.cells #[.slice a r.rules.length ca, .slice b r.zones.length cb, .slice c r.links.length cc] 37)) := by simp [go_sem]
 have HL : Hid (r.rules.length <= 40 /\ r.zones.length <= 12 /\ r.links.length <= 20) := by simp only [Hid]; omega
 have hO0 := ownR_empty (w.alloc (.cells #[.slice a r.rules.length ca, .slice b r.zones.length cb, .slice c r.links.length cc] 37)) 9
 have hb00 := (Below.refl (w.alloc (.cells #[.slice a r.rules.length ca, .slice b r.zones.length cb, .slice c r.links.length cc] 37)).heap.size (w.alloc (.cells #[.slice a r.rules.length ca, .slice b r.zones.length cb, .slice c r.links.length cc] 37))).alloc (Nat.le_refl _) (.cells #[] 9)
 have hAr1 := hAr.below hB0
 have hAz1 := hAz.below hB0
 have hAl1 := hAl.below hB0
 have hv1 := hv.below hB0
 clear hAr hAz hAl hv
 have hW0 : Hid ((w.alloc (.cells #[.slice a r.rules.length ca, .slice b r.zones.length cb, .slice c r.links.length cc] 37)).heap.size = w.heap.size + 1) := by simp [Hid]
 go_enter Tryz.func12, Tryz.ntmps12
 go_wp2
 generalize hW : (w.alloc (.cells #[.slice a r.rules.length ca, .slice b r.zones.length cb, .slice c r.links.length cc] 37)) = W at *
 generalize hW1 : W.alloc (.cells #[] 9) = W1 at *
 go_loopw [4] (fun i wr => ∃ k : Nat, k <= r.rules.length /\ i = .int .i64 k /\ Hid (∀ j, j < k -> ∀ x, r.rules[j]? = some x -> jau x = true) /\ Below W1.heap.size W1 wr) (fun i _ => r.rules.length - (intOf i).toNat)
 case atStart => exact ⟨0, by omega, rfl, fun j hj => by omega, by subst hW1; exact Below.refl _ _⟩
 case round =>
  obtain ⟨k, hk, rfl, hall, hB1⟩ := hrel
  have hB := qtr hb00 hB1
  have hBB := qtr hB0 hB
  have x1 := qce hB x0 x0
  have y1 := qce hB y0 y0
  have z1 := qce hB z0 z0
  by_cases hlt : k < r.rules.length
  ·obtain ⟨x, hx⟩ := qgg hlt
   obtain ⟨b', o, rfl, hc⟩ := (hAr1.below hB).at (i := k) (r := x.cs) (by rw [List.getElem?_map, hx]; rfl)
   have hS := fun w => spec_l02Rule x w (p2 x (List.mem_of_getElem? hx)) (hon x (List.mem_of_getElem? hx))
   have c0 : wr.cell? ⟨b', o + k * 9, none⟩ = some (.string x.name) := hc 0 _ rfl
   have c1 := hc 1 _ rfl
   have c2 := hc 2 _ rfl
   have c3 := hc 3 _ rfl
   have c4 := hc 4 _ rfl
   have c5 := hc 5 _ rfl
   have c6 := hc 6 _ rfl
   have c7 := hc 7 _ rfl
   have c8 := hc 8 _ rfl
   clear hc
   unfold RuleD.v at hS
   cases hb : jau x
   ·have HR : Hid (rb = false) := HN1.out k x hx hb
    rw [hb] at hS
    clear hb HN1 HN2 HN3 HN4 HY
    go_wp2_with fail
    refine (hS _).mono ?_
    rintro e w2 ⟨rfl, hb2⟩
    go_wp2
    go_ret
    exact ⟨ret_bool HR.out.symm, (qtr hBB hb2)⟩
   ·have HR : Hid (∀ j, j < k + 1 -> ∀ x, r.rules[j]? = some x -> jau x = true) := fun j hj y hy => by
     by_cases e : j = k
     ·subst e; rw [hx] at hy; obtain rfl := Option.some.inj hy; exact hb
     ·exact hall.out j (by omega) y hy
    rw [hb] at hS
    clear hb
    go_wp2_with fail
    refine (hS _).mono ?_
    rintro e w2 ⟨rfl, hb2⟩
    go_wp2
    go_roundw
    case rel => exact ⟨k + 1, by omega, by go_num, HR, (qtr hB1 hb2)⟩
    case measure => simp [intOf]; omega
  ·have e : k = r.rules.length := by omega
   subst e
   have H1 : Hid (∀ (k : Nat) x, r.rules[k]? = some x -> jau x = true) := fun j x hx => hall.out j (List.getElem?_eq_some_iff.mp hx).1 x hx
   have hO1 := ownR_below hO0 hB1
   clear hall HN1
   go_wp2
   obtain ⟨wo, rfl⟩ : ∃ wo : World, wo = wr := ⟨_, rfl⟩
   go_loopw [3, 5] (fun s i wr => ∃ k : Nat, k <= r.zones.length /\ i = .int .i64 k /\ (∃ g cap, s = .slice (some ⟨g, 0, none⟩) k cap) /\ wr.ownsRow W.heap.size 9 1 s k (((r.zones.map ZoneD.name).take k).map Value.string) /\ Hid (∀ j, j < k -> ∀ x, r.zones[j]? = some x -> jb3 r.rules x = true) /\ Below W.heap.size W wr) (fun _ i _ => r.zones.length - (intOf i).toNat)
   case atStart => exact ⟨0, by omega, rfl, ⟨_, _, rfl⟩, by rw [<- hW0.out]; exact hO1, fun j hj => by omega, hB⟩
   case round =>
    clear hO1 hO0 hB hBB x1 y1 z1 hB1
    obtain ⟨k, hk, rfl, hform, hO, hall, hB⟩ := hrel
    have hBB := qtr hB0 hB
    have x1 := qce hB x0 x0
    have y1 := qce hB y0 y0
    have z1 := qce hB z0 z0
    by_cases hlt : k < r.zones.length
    ·obtain ⟨x, hx⟩ := qgg hlt
     obtain ⟨b', o, rfl, c0, u, c1, hu⟩ := (hAz1.below hB).at hx
     have okx := q2 x (List.mem_of_getElem? hx)
     have cE : ∀ dd os, Calls Tryz.prog 31 #[.agg #[.slice a r.rules.length ca, .slice (some ⟨b', o, none⟩) r.zones.length cb, .slice c r.links.length cc], .agg #[.string x.name, u]] (grow (redrawn wr dd) os) fun e w'' => e = .returned (.bool (jb3 r.rules x)) /\ ∃ p : Regrown, w'' = grow (redrawn wr p.d) p.os := fun dd os => Calls.regrown_of (spec_l02Zone r _ x u _ ((hv1.below hB).below (below_regrown wr dd os)) (hu.below (below_regrown wr dd os)) okx m1)
     obtain ⟨ae, ce, rfl, _⟩ := hu
     have kx := cell_regrown x1
     have ky := cell_regrown y1
     have kz := cell_regrown z1
     have kc0 := cell_regrown c0
     have kc1 := cell_regrown c1
     cases hb : jb3 r.rules x
     ·have HR : Hid (rb = false) := HN2.out k x hx hb
      rw [hb] at cE
      clear hb HN2 HN3 HN4 HY hform hO
      go_wp2_with fail
      refine wp_region_quiet_below (by kernel_rfl) (by kernel_rfl) ?_
      repeat (quiet_step ((go_at_call 31; exact cE _ _)))
      refine wpQuiet_nil ?_
      intro _ hw'
      obtain ⟨⟨dq, osq⟩, hw''⟩ := hw'
      subst hw''
      have hb2 := below_regrown wr dq osq
      go_wp2
      go_ret
      exact ⟨ret_bool HR.out.symm, (qtr hBB hb2)⟩
     ·have HR : Hid (∀ j, j < k + 1 -> ∀ x, r.zones[j]? = some x -> jb3 r.rules x = true) := fun j hj y hy => by
       by_cases e : j = k
       ·subst e; rw [hx] at hy; obtain rfl := Option.some.inj hy; exact hb
       ·exact hall.out j (by omega) y hy
      rw [hb] at cE
      have hs := takeN_succ (l := r.zones.map ZoneD.name) (k := k) (x := x.name) (by rw [List.getElem?_map, hx]; rfl)
      have HS := hid hs
      clear hs hb hform
      go_wp2_with fail
      refine wp_region_quiet_below (by kernel_rfl) (by kernel_rfl) ?_
      repeat (quiet_step ((go_at_call 31; exact cE _ _)))
      refine wpQuiet_nil ?_
      intro V hw'
      obtain ⟨⟨dq, osq⟩, hw''⟩ := hw'
      have hb2 : Below wr.heap.size wr V := hw'' ▸ below_regrown wr dq osq
      clear hw'' kx ky kz kc0 kc1 cE
      have hB2 := qtr hB hb2
      have hO2 := ownR_below hO hb2
      have x2 := qce hb2 x1 x1
      have y2 := qce hb2 y1 y1
      have d0 := qce hb2 c0 c0
      have hsz := hB2.size
      clear hb2 hO x1 y1 z1 c0 c1
      generalize ((r.zones.map ZoneD.name).take k).map Value.string = xs at *
      go_wp2_with (first
       | (at_builtin; refine wpList_append_own _ rfl _ _ 74 rfl W.heap.size 9 i0 (.string ⟨#[]⟩) 1 16 Tryz.underlying74 hi hz0 hz1 hz2 rfl (by decide) _ _ _ rfl (hO2.alloc _) ⟨V.heap.size, 0, none⟩ 1 1 [.string x.name] rfl rfl ?c1 ?c2 ?c3 ?c4 ?c5 ?_)
       | fail)
      all_goals try go_simp
      case c2 => rfl
      case c3 => unfold maxLen; omega
      case c4 => omega
      case c5 => omega
      ·intro v' w3 hown' hgrow _
       have hB3 : Below W.heap.size W w3 := (hB2.alloc hsz _).grown hgrow (by simp; omega) (ownR_blk hO2)
       clear hgrow hO2
       go_wp2
       go_roundw
       case rel => exact ⟨k + 1, by omega, by go_num, ownR_some hown' (by omega), by rw [HS.out]; exact hown', HR, hB3⟩
       case measure => simp [intOf]; omega
    ·have e : k = r.zones.length := by omega
     subst e
     have H2 : Hid (∀ (k : Nat) x, r.zones[k]? = some x -> jb3 r.rules x = true) := fun j x hx => hall.out j (List.getElem?_eq_some_iff.mp hx).1 x hx
     obtain ⟨g0, cap0, rfl⟩ := hform
     rw [List.take_of_length_le (by simp)] at hO
     clear hall HN2
     go_wp2
     obtain ⟨wo2, rfl⟩ : ∃ wo : World, wo = wr := ⟨_, rfl⟩
     go_loopw [3, 7] (fun s i wr => ∃ k : Nat, k <= r.links.length /\ i = .int .i64 k /\ (∃ g cap, s = .slice (some ⟨g, 0, none⟩) (r.zones.length + k) cap) /\ wr.ownsRow W.heap.size 9 1 s (r.zones.length + k) ((r.zones.map ZoneD.name ++ (r.links.map LinkD.name).take k).map Value.string) /\ Hid (∀ j, j < k -> ∀ x, r.links[j]? = some x -> jay x.name = true /\ inB (r.zones.map ZoneD.name) x.to_ = true) /\ Below W.heap.size W wr) (fun _ i _ => r.links.length - (intOf i).toNat)
     case atStart => exact ⟨0, by omega, rfl, ⟨_, _, rfl⟩, by simpa using hO, fun j hj => by omega, hB⟩
     case round =>
      clear hO hB hBB x1 y1 z1
      obtain ⟨k, hk, rfl, ⟨g, cap, rfl⟩, hO, hall, hB⟩ := hrel
      have hBB := qtr hB0 hB
      have x1 := qce hB x0 x0
      have y1 := qce hB y0 y0
      have z1 := qce hB z0 z0
      obtain ⟨hSt, hcap, hlen⟩ := ownR_strs hO
      have hStz := hSt.take r.zones.length
      rw [List.take_append_of_le_length (by simp), List.take_of_length_le (by simp)] at hStz
      by_cases hlt : k < r.links.length
      ·obtain ⟨x, hx⟩ := qgg hlt
       obtain ⟨b', o, rfl, hc⟩ := (hAl1.below hB).at (i := k) (r := x.cs) (by rw [List.getElem?_map, hx]; rfl)
       have c0 : wr.cell? ⟨b', o + k * 2, none⟩ = some (.string x.to_) := hc 0 _ rfl
       have c1 := hc 1 _ rfl
       clear hc
       have okx := s2 x (List.mem_of_getElem? hx)
       have hN := fun w => jbr x.name w okx.2
       have hI := fun n => spec_l02In (r.zones.map ZoneD.name) (some ⟨g, 0, none⟩) cap x.to_ (wr.drewN n) (hStz.below (below_drewN (Below.refl _ _) n)) (by simp; omega)
       rw [List.length_map] at hI
       have j0 : (0 : Int) <= (r.zones.length : Int) := by omega
       have j1 : (r.zones.length : Int) <= (cap : Int) := by omega
       cases hb1 : jay x.name
       ·have HR : Hid (rb = false) := HN3.out k x hx (.inl hb1)
        rw [hb1] at hN
        clear hb1 HN3 HN4 HY
        go_wp2_with fail
        go_quiet ((first | (go_at_call 32; exact Calls.quiet_of_same (hN _)) | (go_at_call 33; exact Calls.quiet_of_same (hI _))))
        go_wp2
        go_ret
        exact ⟨ret_bool HR.out.symm, below_drewN hBB _⟩
       ·rw [hb1] at hN
        cases hb2 : inB (r.zones.map ZoneD.name) x.to_
        ·have HR : Hid (rb = false) := HN3.out k x hx (.inr hb2)
         rw [hb2] at hI
         clear hb1 hb2 HN3 HN4 HY
         go_wp2_with fail
         go_quiet ((first | (go_at_call 32; exact Calls.quiet_of_same (hN _)) | (go_at_call 33; exact Calls.quiet_of_same (hI _))))
         go_wp2
         go_ret
         exact ⟨ret_bool HR.out.symm, below_drewN hBB _⟩
        ·have HR : Hid (∀ j, j < k + 1 -> ∀ x, r.links[j]? = some x -> jay x.name = true /\ inB (r.zones.map ZoneD.name) x.to_ = true) := fun j hj y hy => by
          by_cases e : j = k
          ·subst e; rw [hx] at hy; obtain rfl := Option.some.inj hy; exact ⟨hb1, hb2⟩
          ·exact hall.out j (by omega) y hy
         rw [hb2] at hI
         clear hb1 hb2
         go_wp2_with fail
         go_quiet ((first | (go_at_call 32; exact Calls.quiet_of_same (hN _)) | (go_at_call 33; exact Calls.quiet_of_same (hI _))))
         obtain ⟨V, hV⟩ : ∃ V, V = wr.drewN nq := ⟨_, rfl⟩
         rw [<- hV]
         have hb2 : Below wr.heap.size wr V := hV ▸ below_drewN (Below.refl _ _) _
         clear hV hI hN hSt hStz
         have hB2 := qtr hB hb2
         have hO2 := ownR_below hO hb2
         have z2 := qce hb2 z1 z1
         have d1 := qce hb2 c1 c1
         have hsz := hB2.size
         have hs := takeN_succ (l := r.links.map LinkD.name) (k := k) (x := x.name) (by rw [List.getElem?_map, hx]; rfl)
         have HS : Hid ((r.zones.map ZoneD.name ++ (r.links.map LinkD.name).take (k + 1)).map Value.string = (r.zones.map ZoneD.name ++ (r.links.map LinkD.name).take k).map Value.string ++ [.string x.name]) := by
          simp only [Hid]; rw [List.map_append, hs, <- List.append_assoc, <- List.map_append]
         clear hs hb2 hO x1 y1 z1 c0 c1 hlen
         generalize (r.zones.map ZoneD.name ++ (r.links.map LinkD.name).take k).map Value.string = xs at *
         obtain ⟨n, hn⟩ : ∃ n, n = r.zones.length + k := ⟨_, rfl⟩
         have HNN : Hid (r.zones.length + (k + 1) = n + 1) := by simp only [Hid]; omega
         have hn2 : n <= 2097152 := by omega
         rw [<- hn] at hO2 ⊢
         clear hn
         go_wp2_with (first
          | (at_builtin; refine wpList_append_own _ rfl _ _ 74 rfl W.heap.size 9 i0 (.string ⟨#[]⟩) 1 16 Tryz.underlying74 hi hz0 hz1 hz2 rfl (by decide) _ _ _ rfl (hO2.alloc _) ⟨V.heap.size, 0, none⟩ 1 1 [.string x.name] rfl rfl ?d1 ?d2 ?d3 ?d4 ?d5 ?_)
          | fail)
         all_goals try go_simp
         case d2 => rfl
         case d3 => unfold maxLen; omega
         case d4 => omega
         case d5 => omega
         ·intro v' w3 hown' hgrow _
          have hB3 : Below W.heap.size W w3 := (hB2.alloc hsz _).grown hgrow (by simp; omega) (ownR_blk hO2)
          clear hgrow hO2
          go_wp2
          go_roundw
          case rel => exact ⟨k + 1, by omega, by go_num, by rw [HNN.out]; exact ownR_some hown' (by omega), by rw [HS.out, HNN.out]; exact hown', HR, hB3⟩
          case measure => simp [intOf]; omega
      ·have e : k = r.links.length := by omega
       subst e
       have H3 : Hid (∀ (k : Nat) x, r.links[k]? = some x -> jay x.name = true /\ inB (r.zones.map ZoneD.name) x.to_ = true) := fun j x hx => hall.out j (List.getElem?_eq_some_iff.mp hx).1 x hx
       have HYY : Hid ((∀ (k : Nat) x, (r.zones.map ZoneD.name ++ r.links.map LinkD.name)[k]? = some x -> inB ((r.zones.map ZoneD.name ++ r.links.map LinkD.name).take k) x = false) -> rb = true) := fun h4 => HY.out HL.out H1.out H2.out H3.out h4
       rw [List.take_of_length_le (by simp)] at hSt hlen
       clear hall HN3 HY HL H1 H2 H3 hStz hO hW0 hW1
       generalize r.zones.map ZoneD.name ++ r.links.map LinkD.name = ns at *
       have hn2 : ns.length <= 1048576 := by omega
       rw [<- hlen]
       rw [<- hlen] at hcap
       clear hlen
       go_wp2
       obtain ⟨wo3, rfl⟩ : ∃ wo : World, wo = wr := ⟨_, rfl⟩
       go_loopw [8] (fun i wr => ∃ k : Nat, k <= ns.length /\ i = .int .i64 k /\ Hid (∀ j, j < k -> ∀ x, ns[j]? = some x -> inB (ns.take j) x = false) /\ Below wo3.heap.size wo3 wr) (fun i _ => ns.length - (intOf i).toNat)
       case atStart => exact ⟨0, by omega, rfl, fun j hj => by omega, Below.refl _ _⟩
       case round =>
        obtain ⟨k, hk, rfl, hall, hB4⟩ := hrel
        have hSw := hSt.below hB4
        have hBE := qtr hBB hB4
        by_cases hlt : k < ns.length
        ·obtain ⟨x, hx⟩ := qgg hlt
         obtain ⟨b', o', he, c0⟩ := hSw.at hx
         injection he with he
         injection he with u1 u2
         subst u1 u2
         rw [Nat.zero_add] at c0
         have hI := fun n => spec_l02In (ns.take k) (some ⟨g, 0, none⟩) cap x (wr.drewN n) ((hSw.take k).below (below_drewN (Below.refl _ _) n)) (by rw [List.length_take]; omega)
         rw [List.length_take, Nat.min_eq_left (by omega)] at hI
         have j0 : (0 : Int) <= (k : Int) := by omega
         have j1 : (k : Int) <= (cap : Int) := by omega
         have j2 : (k : Int) < (ns.length : Int) := by omega
         cases hb : inB (ns.take k) x
         ·have HR : Hid (∀ j, j < k + 1 -> ∀ x, ns[j]? = some x -> inB (ns.take j) x = false) := fun j hj y hy => by
           by_cases e : j = k
           ·subst e; rw [hx] at hy; obtain rfl := Option.some.inj hy; exact hb
           ·exact hall.out j (by omega) y hy
          rw [hb] at hI
          clear hb
          go_wp2_with fail
          go_quiet ((go_at_call 33; exact Calls.quiet_of_same (hI _)))
          go_wp2
          go_roundw
          case rel => exact ⟨k + 1, by omega, by go_num, HR, below_drewN hB4 _⟩
          case measure => simp [intOf]; omega
         ·have HR : Hid (rb = false) := HN4.out k x hx hb
          rw [hb] at hI
          clear hb
          go_wp2_with fail
          go_quiet ((go_at_call 33; exact Calls.quiet_of_same (hI _)))
          go_wp2
          go_ret
          exact ⟨ret_bool HR.out.symm, below_drewN hBE _⟩
        ·have e : k = ns.length := by omega
         subst e
         have HR : Hid (rb = true) := HYY.out fun j x hx => hall.out j (List.getElem?_eq_some_iff.mp hx).1 x hx
         go_wp2
         go_ret
         exact ⟨ret_bool HR.out.symm, hBE⟩
end
end Go.Proofs.YtpejeokacilebaaGreatDoor
