/- Is a release right: the program's. -/
import Derived.Test.YtjdokmllidhapaaGreatDoorRight18
import Derived.Test.YtjdokmllidhapaaGreatDoorRelRel2
namespace Go.Proofs.YtjdokmllidhapaaGreatDoor
open Go.RowKit

def relB (r : RelD) : Bool := decide (r.rules.length ≤ 40 ∧ r.zones.length ≤ 12 ∧ r.links.length ≤ 20) && (r.rules.all ruleB && (r.zones.all zoneP && (r.links.all linkB && (namesB r && ((r.zones.all fun z => z.eras.all (thereB r.rules)) && (r.links.all fun x => hasZ r.zones x.to_))))))
theorem rel_no0 {r : RelD} (h : ¬ (r.rules.length ≤ 40 ∧ r.zones.length ≤ 12 ∧ r.links.length ≤ 20)) : relB r = false := by unfold relB; rw [decide_eq_false h]; rfl
theorem rel_no1 {r : RelD} (h : r.rules.all ruleB = false) : relB r = false := by unfold relB; rw [h]; simp
theorem rel_no2 {r : RelD} (h : r.zones.all zoneP = false) : relB r = false := by unfold relB; rw [h]; simp
theorem rel_no3 {r : RelD} (h : r.links.all linkB = false) : relB r = false := by unfold relB; rw [h]; simp
theorem rel_no4 {r : RelD} (h : namesB r = false) : relB r = false := by unfold relB; rw [h]; simp
theorem rel_no5 {r : RelD} (h : (r.zones.all fun z => z.eras.all (thereB r.rules)) = false) : relB r = false := by unfold relB; rw [h]; simp
theorem rel_no6 {r : RelD} (h : (r.links.all fun x => hasZ r.zones x.to_) = false) : relB r = false := by unfold relB; rw [h]; simp
theorem rel_yes {r : RelD} (h0 : r.rules.length ≤ 40 ∧ r.zones.length ≤ 12 ∧ r.links.length ≤ 20) (h1 : r.rules.all ruleB = true) (h2 : r.zones.all zoneP = true) (h3 : r.links.all linkB = true) (h4 : namesB r = true) (h5 : (r.zones.all fun z => z.eras.all (thereB r.rules)) = true) (h6 : (r.links.all fun x => hasZ r.zones x.to_) = true) : relB r = true := by unfold relB; rw [decide_eq_true h0, h1, h2, h3, h4, h5, h6]; rfl
set_option maxHeartbeats 4000000 in
theorem impl_ReleaseRight (r : RelD) (v : Value) (w : World) (hE : EnvZ w) (hv : RelAt w v r) (ok : r.ok) (sm : r.small) (hon : ∀ x ∈ r.rules, x.on.size ≤ 1048576) :
    Calls Tryz.prog 26 #[v] w fun e w' => e = .returned (.bool (relB r)) ∧ Below w.heap.size w w' := by
  obtain ⟨a, b, c, ca, cb, cc, hvv, hAr, hAz, hAl⟩ := hv.form
  obtain ⟨⟨p1, p2⟩, ⟨q1, q2⟩, ⟨s1, s2⟩⟩ := ok
  obtain ⟨m1, m2, m3, m4⟩ := sm
  have hB0 := (Below.refl w.heap.size w).alloc (Nat.le_refl _) (.cells #[.slice a r.rules.length ca, .slice b r.zones.length cb, .slice c r.links.length cc] 27)
  have hR := fun w hE (h : SeqAt w a 9 (r.rules.map RuleD.cs)) => impl_allRule r.rules a ca w hE h p2 hon m1
  have hZ := fun w (h : ZonesAt w b r.zones) => impl_allZone r.zones b cb w h q2 m2
  have hK := fun w (h : SeqAt w c 2 (r.links.map LinkD.cs)) => impl_allLink r.links c cc w h s2 m3
  have hU := fun w (h : RelAt w v r) => impl_namesUnlike r v w h m2 m3
  have hT := fun w (h : RelAt w v r) => impl_rulesThere r v w h m1 m2 q2
  have hY := fun w (h : RelAt w v r) => impl_zonesThere r v w h m2 m3
  subst hvv
  have N0 := @rel_no0 r
  have N1 := @rel_no1 r
  have N2 := @rel_no2 r
  have N3 := @rel_no3 r
  have N4 := @rel_no4 r
  have N5 := @rel_no5 r
  have N6 := @rel_no6 r
  have YY := @rel_yes r
  generalize relB r = rb at *
  by_cases g40 : 40 < r.rules.length
  · have HR : Hid (rb = false) := N0 (by omega)
    clear N0 N1 N2 N3 N4 N5 N6 YY
    go_enter Tryz.func26, Tryz.ntmps26
    go_wp2
    go_ret
    exact ⟨ret_bool HR.out.symm, hB0⟩
  by_cases g12 : 12 < r.zones.length
  · have HR : Hid (rb = false) := N0 (by omega)
    clear N0 N1 N2 N3 N4 N5 N6 YY
    go_enter Tryz.func26, Tryz.ntmps26
    go_wp2
    go_ret
    exact ⟨ret_bool HR.out.symm, hB0⟩
  by_cases g20 : 20 < r.links.length
  · have HR : Hid (rb = false) := N0 (by omega)
    clear N0 N1 N2 N3 N4 N5 N6 YY
    go_enter Tryz.func26, Tryz.ntmps26
    go_wp2
    go_ret
    exact ⟨ret_bool HR.out.symm, hB0⟩
  have x0 : (w.alloc (.cells #[.slice a r.rules.length ca, .slice b r.zones.length cb, .slice c r.links.length cc] 27)).cell? ⟨w.heap.size, 0, none⟩ = some (.slice a r.rules.length ca) := by simp [go_sem]
  have y0 : (w.alloc (.cells #[.slice a r.rules.length ca, .slice b r.zones.length cb, .slice c r.links.length cc] 27)).cell? ⟨w.heap.size, 1, none⟩ = some (.slice b r.zones.length cb) := by simp [go_sem]
  have z0 : (w.alloc (.cells #[.slice a r.rules.length ca, .slice b r.zones.length cb, .slice c r.links.length cc] 27)).cell? ⟨w.heap.size, 2, none⟩ = some (.slice c r.links.length cc) := by simp [go_sem]
  cases k1 : r.rules.all ruleB
  · have HR : Hid (rb = false) := N1 k1
    rw [k1] at hR
    clear N0 N1 N2 N3 N4 N5 N6 YY
    clear k1
    go_enter Tryz.func26, Tryz.ntmps26
    go_wp2_with fail
    refine (hR _ (hE.of_below hB0) (hAr.below hB0)).mono ?_
    rintro e w1 ⟨rfl, hb1⟩
    have hB1 := hB0.trans (hb1.mono hB0.size)
    go_wp2
    go_ret
    exact ⟨ret_bool HR.out.symm, hB1⟩
  rw [k1] at hR
  cases k2 : r.zones.all zoneP
  · have HR : Hid (rb = false) := N2 k2
    rw [k2] at hZ
    clear N0 N1 N2 N3 N4 N5 N6 YY
    clear k1 k2
    go_enter Tryz.func26, Tryz.ntmps26
    go_wp2_with fail
    refine (hR _ (hE.of_below hB0) (hAr.below hB0)).mono ?_
    rintro e w1 ⟨rfl, hb1⟩
    have hB1 := hB0.trans (hb1.mono hB0.size)
    have x1 := ((bcell hb1).1 _ _ (World.block_lt_of_cell? _ _ x0)).trans x0
    have y1 := ((bcell hb1).1 _ _ (World.block_lt_of_cell? _ _ y0)).trans y0
    have z1 := ((bcell hb1).1 _ _ (World.block_lt_of_cell? _ _ z0)).trans z0
    go_wp2_with fail
    refine (hZ _ (hAz.below hB1)).mono ?_
    rintro e w2 ⟨rfl, hb2⟩
    have hB2 := hB1.trans (hb2.mono hB1.size)
    go_wp2
    go_ret
    exact ⟨ret_bool HR.out.symm, hB2⟩
  rw [k2] at hZ
  cases k3 : r.links.all linkB
  · have HR : Hid (rb = false) := N3 k3
    rw [k3] at hK
    clear N0 N1 N2 N3 N4 N5 N6 YY
    clear k1 k2 k3
    go_enter Tryz.func26, Tryz.ntmps26
    go_wp2_with fail
    refine (hR _ (hE.of_below hB0) (hAr.below hB0)).mono ?_
    rintro e w1 ⟨rfl, hb1⟩
    have hB1 := hB0.trans (hb1.mono hB0.size)
    have x1 := ((bcell hb1).1 _ _ (World.block_lt_of_cell? _ _ x0)).trans x0
    have y1 := ((bcell hb1).1 _ _ (World.block_lt_of_cell? _ _ y0)).trans y0
    have z1 := ((bcell hb1).1 _ _ (World.block_lt_of_cell? _ _ z0)).trans z0
    go_wp2_with fail
    refine (hZ _ (hAz.below hB1)).mono ?_
    rintro e w2 ⟨rfl, hb2⟩
    have hB2 := hB1.trans (hb2.mono hB1.size)
    have x2 := ((bcell hb2).1 _ _ (World.block_lt_of_cell? _ _ x1)).trans x1
    have y2 := ((bcell hb2).1 _ _ (World.block_lt_of_cell? _ _ y1)).trans y1
    have z2 := ((bcell hb2).1 _ _ (World.block_lt_of_cell? _ _ z1)).trans z1
    go_wp2_with fail
    refine (hK _ (hAl.below hB2)).mono ?_
    rintro e w3 ⟨rfl, hb3⟩
    have hB3 := hB2.trans (hb3.mono hB2.size)
    go_wp2
    go_ret
    exact ⟨ret_bool HR.out.symm, hB3⟩
  rw [k3] at hK
  cases k4 : namesB r
  · have HR : Hid (rb = false) := N4 k4
    rw [k4] at hU
    clear N0 N1 N2 N3 N4 N5 N6 YY
    clear k1 k2 k3 k4
    go_enter Tryz.func26, Tryz.ntmps26
    go_wp2_with fail
    refine (hR _ (hE.of_below hB0) (hAr.below hB0)).mono ?_
    rintro e w1 ⟨rfl, hb1⟩
    have hB1 := hB0.trans (hb1.mono hB0.size)
    have x1 := ((bcell hb1).1 _ _ (World.block_lt_of_cell? _ _ x0)).trans x0
    have y1 := ((bcell hb1).1 _ _ (World.block_lt_of_cell? _ _ y0)).trans y0
    have z1 := ((bcell hb1).1 _ _ (World.block_lt_of_cell? _ _ z0)).trans z0
    go_wp2_with fail
    refine (hZ _ (hAz.below hB1)).mono ?_
    rintro e w2 ⟨rfl, hb2⟩
    have hB2 := hB1.trans (hb2.mono hB1.size)
    have x2 := ((bcell hb2).1 _ _ (World.block_lt_of_cell? _ _ x1)).trans x1
    have y2 := ((bcell hb2).1 _ _ (World.block_lt_of_cell? _ _ y1)).trans y1
    have z2 := ((bcell hb2).1 _ _ (World.block_lt_of_cell? _ _ z1)).trans z1
    go_wp2_with fail
    refine (hK _ (hAl.below hB2)).mono ?_
    rintro e w3 ⟨rfl, hb3⟩
    have hB3 := hB2.trans (hb3.mono hB2.size)
    have x3 := ((bcell hb3).1 _ _ (World.block_lt_of_cell? _ _ x2)).trans x2
    have y3 := ((bcell hb3).1 _ _ (World.block_lt_of_cell? _ _ y2)).trans y2
    have z3 := ((bcell hb3).1 _ _ (World.block_lt_of_cell? _ _ z2)).trans z2
    go_wp2_with fail
    refine (hU _ (hv.below hB3)).mono ?_
    rintro e w4 ⟨rfl, hb4⟩
    have hB4 := hB3.trans (hb4.mono hB3.size)
    go_wp2
    go_ret
    exact ⟨ret_bool HR.out.symm, hB4⟩
  rw [k4] at hU
  cases k5 : (r.zones.all fun z => z.eras.all (thereB r.rules))
  · have HR : Hid (rb = false) := N5 k5
    rw [k5] at hT
    clear N0 N1 N2 N3 N4 N5 N6 YY
    clear k1 k2 k3 k4 k5
    go_enter Tryz.func26, Tryz.ntmps26
    go_wp2_with fail
    refine (hR _ (hE.of_below hB0) (hAr.below hB0)).mono ?_
    rintro e w1 ⟨rfl, hb1⟩
    have hB1 := hB0.trans (hb1.mono hB0.size)
    have x1 := ((bcell hb1).1 _ _ (World.block_lt_of_cell? _ _ x0)).trans x0
    have y1 := ((bcell hb1).1 _ _ (World.block_lt_of_cell? _ _ y0)).trans y0
    have z1 := ((bcell hb1).1 _ _ (World.block_lt_of_cell? _ _ z0)).trans z0
    go_wp2_with fail
    refine (hZ _ (hAz.below hB1)).mono ?_
    rintro e w2 ⟨rfl, hb2⟩
    have hB2 := hB1.trans (hb2.mono hB1.size)
    have x2 := ((bcell hb2).1 _ _ (World.block_lt_of_cell? _ _ x1)).trans x1
    have y2 := ((bcell hb2).1 _ _ (World.block_lt_of_cell? _ _ y1)).trans y1
    have z2 := ((bcell hb2).1 _ _ (World.block_lt_of_cell? _ _ z1)).trans z1
    go_wp2_with fail
    refine (hK _ (hAl.below hB2)).mono ?_
    rintro e w3 ⟨rfl, hb3⟩
    have hB3 := hB2.trans (hb3.mono hB2.size)
    have x3 := ((bcell hb3).1 _ _ (World.block_lt_of_cell? _ _ x2)).trans x2
    have y3 := ((bcell hb3).1 _ _ (World.block_lt_of_cell? _ _ y2)).trans y2
    have z3 := ((bcell hb3).1 _ _ (World.block_lt_of_cell? _ _ z2)).trans z2
    go_wp2_with fail
    refine (hU _ (hv.below hB3)).mono ?_
    rintro e w4 ⟨rfl, hb4⟩
    have hB4 := hB3.trans (hb4.mono hB3.size)
    have x4 := ((bcell hb4).1 _ _ (World.block_lt_of_cell? _ _ x3)).trans x3
    have y4 := ((bcell hb4).1 _ _ (World.block_lt_of_cell? _ _ y3)).trans y3
    have z4 := ((bcell hb4).1 _ _ (World.block_lt_of_cell? _ _ z3)).trans z3
    go_wp2_with fail
    refine (hT _ (hv.below hB4)).mono ?_
    rintro e w5 ⟨rfl, hb5⟩
    have hB5 := hB4.trans (hb5.mono hB4.size)
    go_wp2
    go_ret
    exact ⟨ret_bool HR.out.symm, hB5⟩
  rw [k5] at hT
  cases k6 : (r.links.all fun x => hasZ r.zones x.to_)
  · have HR : Hid (rb = false) := N6 k6
    rw [k6] at hY
    clear N0 N1 N2 N3 N4 N5 N6 YY
    clear k1 k2 k3 k4 k5 k6
    go_enter Tryz.func26, Tryz.ntmps26
    go_wp2_with fail
    refine (hR _ (hE.of_below hB0) (hAr.below hB0)).mono ?_
    rintro e w1 ⟨rfl, hb1⟩
    have hB1 := hB0.trans (hb1.mono hB0.size)
    have x1 := ((bcell hb1).1 _ _ (World.block_lt_of_cell? _ _ x0)).trans x0
    have y1 := ((bcell hb1).1 _ _ (World.block_lt_of_cell? _ _ y0)).trans y0
    have z1 := ((bcell hb1).1 _ _ (World.block_lt_of_cell? _ _ z0)).trans z0
    go_wp2_with fail
    refine (hZ _ (hAz.below hB1)).mono ?_
    rintro e w2 ⟨rfl, hb2⟩
    have hB2 := hB1.trans (hb2.mono hB1.size)
    have x2 := ((bcell hb2).1 _ _ (World.block_lt_of_cell? _ _ x1)).trans x1
    have y2 := ((bcell hb2).1 _ _ (World.block_lt_of_cell? _ _ y1)).trans y1
    have z2 := ((bcell hb2).1 _ _ (World.block_lt_of_cell? _ _ z1)).trans z1
    go_wp2_with fail
    refine (hK _ (hAl.below hB2)).mono ?_
    rintro e w3 ⟨rfl, hb3⟩
    have hB3 := hB2.trans (hb3.mono hB2.size)
    have x3 := ((bcell hb3).1 _ _ (World.block_lt_of_cell? _ _ x2)).trans x2
    have y3 := ((bcell hb3).1 _ _ (World.block_lt_of_cell? _ _ y2)).trans y2
    have z3 := ((bcell hb3).1 _ _ (World.block_lt_of_cell? _ _ z2)).trans z2
    go_wp2_with fail
    refine (hU _ (hv.below hB3)).mono ?_
    rintro e w4 ⟨rfl, hb4⟩
    have hB4 := hB3.trans (hb4.mono hB3.size)
    have x4 := ((bcell hb4).1 _ _ (World.block_lt_of_cell? _ _ x3)).trans x3
    have y4 := ((bcell hb4).1 _ _ (World.block_lt_of_cell? _ _ y3)).trans y3
    have z4 := ((bcell hb4).1 _ _ (World.block_lt_of_cell? _ _ z3)).trans z3
    go_wp2_with fail
    refine (hT _ (hv.below hB4)).mono ?_
    rintro e w5 ⟨rfl, hb5⟩
    have hB5 := hB4.trans (hb5.mono hB4.size)
    have x5 := ((bcell hb5).1 _ _ (World.block_lt_of_cell? _ _ x4)).trans x4
    have y5 := ((bcell hb5).1 _ _ (World.block_lt_of_cell? _ _ y4)).trans y4
    have z5 := ((bcell hb5).1 _ _ (World.block_lt_of_cell? _ _ z4)).trans z4
    go_wp2_with fail
    refine (hY _ (hv.below hB5)).mono ?_
    rintro e w6 ⟨rfl, hb6⟩
    have hB6 := hB5.trans (hb6.mono hB5.size)
    go_wp2
    go_ret
    exact ⟨ret_bool HR.out.symm, hB6⟩
  rw [k6] at hY
  have HR : Hid (rb = true) := YY (by omega) k1 k2 k3 k4 k5 k6
  clear N0 N1 N2 N3 N4 N5 N6 YY k1 k2 k3 k4 k5 k6
  go_enter Tryz.func26, Tryz.ntmps26
  go_wp2_with fail
  refine (hR _ (hE.of_below hB0) (hAr.below hB0)).mono ?_
  rintro e w1 ⟨rfl, hb1⟩
  have hB1 := hB0.trans (hb1.mono hB0.size)
  have x1 := ((bcell hb1).1 _ _ (World.block_lt_of_cell? _ _ x0)).trans x0
  have y1 := ((bcell hb1).1 _ _ (World.block_lt_of_cell? _ _ y0)).trans y0
  have z1 := ((bcell hb1).1 _ _ (World.block_lt_of_cell? _ _ z0)).trans z0
  go_wp2_with fail
  refine (hZ _ (hAz.below hB1)).mono ?_
  rintro e w2 ⟨rfl, hb2⟩
  have hB2 := hB1.trans (hb2.mono hB1.size)
  have x2 := ((bcell hb2).1 _ _ (World.block_lt_of_cell? _ _ x1)).trans x1
  have y2 := ((bcell hb2).1 _ _ (World.block_lt_of_cell? _ _ y1)).trans y1
  have z2 := ((bcell hb2).1 _ _ (World.block_lt_of_cell? _ _ z1)).trans z1
  go_wp2_with fail
  refine (hK _ (hAl.below hB2)).mono ?_
  rintro e w3 ⟨rfl, hb3⟩
  have hB3 := hB2.trans (hb3.mono hB2.size)
  have x3 := ((bcell hb3).1 _ _ (World.block_lt_of_cell? _ _ x2)).trans x2
  have y3 := ((bcell hb3).1 _ _ (World.block_lt_of_cell? _ _ y2)).trans y2
  have z3 := ((bcell hb3).1 _ _ (World.block_lt_of_cell? _ _ z2)).trans z2
  go_wp2_with fail
  refine (hU _ (hv.below hB3)).mono ?_
  rintro e w4 ⟨rfl, hb4⟩
  have hB4 := hB3.trans (hb4.mono hB3.size)
  have x4 := ((bcell hb4).1 _ _ (World.block_lt_of_cell? _ _ x3)).trans x3
  have y4 := ((bcell hb4).1 _ _ (World.block_lt_of_cell? _ _ y3)).trans y3
  have z4 := ((bcell hb4).1 _ _ (World.block_lt_of_cell? _ _ z3)).trans z3
  go_wp2_with fail
  refine (hT _ (hv.below hB4)).mono ?_
  rintro e w5 ⟨rfl, hb5⟩
  have hB5 := hB4.trans (hb5.mono hB4.size)
  have x5 := ((bcell hb5).1 _ _ (World.block_lt_of_cell? _ _ x4)).trans x4
  have y5 := ((bcell hb5).1 _ _ (World.block_lt_of_cell? _ _ y4)).trans y4
  have z5 := ((bcell hb5).1 _ _ (World.block_lt_of_cell? _ _ z4)).trans z4
  go_wp2_with fail
  refine (hY _ (hv.below hB5)).mono ?_
  rintro e w6 ⟨rfl, hb6⟩
  have hB6 := hB5.trans (hb6.mono hB5.size)
  go_wp2
  go_ret
  exact ⟨ret_bool HR.out.symm, hB6⟩
end Go.Proofs.YtjdokmllidhapaaGreatDoor
namespace Go.Proofs.YtjdokmllidhapaaGreatDoor
open Go.RowKit

theorem mem_le_sum {l : List Nat} {x : Nat} (h : x ∈ l) : x ≤ l.sum := by
  induction l with
  | nil => cases h
  | cons a l ih =>
    rw [List.sum_cons]
    rcases List.mem_cons.mp h with rfl | h
    · omega
    · have := ih h; omega
theorem rel_small {r : RelD} (h : r.sz ≤ 1048576) : r.small ∧ ∀ x ∈ r.rules, x.on.size ≤ 1048576 := by
  unfold RelD.sz at h
  refine ⟨⟨by omega, by omega, by omega, fun z hz => ?_⟩, fun x hx => ?_⟩
  · have h1 : z.sz ≤ zsz r.zones := mem_le_sum (List.mem_map.mpr ⟨z, hz, rfl⟩)
    have h2 : z.eras.length ≤ z.sz := by unfold ZoneD.sz; omega
    omega
  · have h1 : x.sz ≤ rsz r.rules := mem_le_sum (List.mem_map.mpr ⟨x, hx, rfl⟩)
    have h2 : x.on.size ≤ x.sz := by unfold RuleD.sz; omega
    omega
end Go.Proofs.YtjdokmllidhapaaGreatDoor
namespace Go.Proofs.YtjdokmllidhapaaGreatDoor
open Go.RowKit

theorem ownR_below {w w' : World} {base : Nat} {e : TypeId} {size : Nat} {v : Value} {n : Nat} {xs : List Value} (h : w.ownsRow base e size v n xs) (hb : Below w.heap.size w w') : w'.ownsRow base e size v n xs := by
  refine ⟨h.1, ?_⟩
  rcases h.2 with h2 | ⟨g, cap, cur, hv, hg, hh, rest⟩
  · exact .inl h2
  · refine .inr ⟨g, cap, cur, hv, hg, ?_, rest⟩
    rw [hb.block g (by
      rcases Nat.lt_or_ge g w.heap.size with h' | h'
      · exact h'
      · rw [Array.getElem?_eq_none h'] at hh; cases hh)]
    exact hh
theorem ownR_some {w : World} {base : Nat} {e : TypeId} {size : Nat} {v : Value} {n : Nat} {xs : List Value} (h : w.ownsRow base e size v n xs) (hn : 0 < n) : ∃ g cap, v = .slice (some ⟨g, 0, none⟩) n cap := by
  rcases h.2 with ⟨_, h0⟩ | ⟨g, cap, _, hv, _⟩
  · omega
  · exact ⟨g, cap, hv⟩
theorem ownR_strs {w : World} {base : Nat} {e : TypeId} {g cap n : Nat} {ss : List ByteArray} (h : w.ownsRow base e 1 (.slice (some ⟨g, 0, none⟩) n cap) n (ss.map Value.string)) : StrsAt w (some ⟨g, 0, none⟩) ss ∧ n ≤ cap ∧ ss.length = n := by
  have hl : ss.length = n := by simpa using h.1
  rcases h.2 with ⟨h0, _⟩ | ⟨g', cap', cur, hv, hg, hh, hc, hm, hs, ht⟩
  · cases h0
  · injection hv with h1 _ h3
    injection h1 with h1
    injection h1 with h1
    subst h1 h3
    refine ⟨.inr ⟨g, 0, rfl, fun i s hi => ?_⟩, hc, hl⟩
    have hil := (List.getElem?_eq_some_iff.mp hi).1
    have e1 : (cur.toList.take (n * 1))[i]? = (ss.map Value.string)[i]? := by rw [ht]
    rw [List.getElem?_take, if_pos (by omega), Array.getElem?_toList, List.getElem?_map, hi] at e1
    simp only [World.cell?, hh, Nat.zero_add]
    simp only [Option.isSome_none, Bool.false_eq_true, if_false]
    exact e1
theorem inB_iff {ss : List ByteArray} {t : ByteArray} : inB ss t = true ↔ t.data.toList ∈ keysL ss := by
  unfold inB keysL
  rw [List.any_eq_true, List.mem_map]
  constructor
  · rintro ⟨x, hx, he⟩
    exact ⟨x, hx, by rw [beq_iff_eq, ByteArray.toList_eq, ByteArray.toList_eq] at he; exact he⟩
  · rintro ⟨x, hx, he⟩
    exact ⟨x, hx, by rw [beq_iff_eq, ByteArray.toList_eq, ByteArray.toList_eq]; exact he⟩
theorem inB_hasZ {zs : List ZoneD} {t : ByteArray} : inB (zs.map ZoneD.name) t = hasZ zs t := by
  unfold inB hasZ
  rw [List.any_map]
  rfl
structure RelT (r : RelD) : Prop where
  lens : r.rules.length ≤ 40 ∧ r.zones.length ≤ 12 ∧ r.links.length ≤ 20
  rules : r.rules.all ruleB = true
  zones : r.zones.all zoneP = true
  links : r.links.all linkB = true
  names : namesB r = true
  there : (r.zones.all fun z => z.eras.all (thereB r.rules)) = true
  has : (r.links.all fun x => hasZ r.zones x.to_) = true
theorem rel_of {r : RelD} (h : relB r = true) : RelT r := by
  unfold relB at h
  simp only [Bool.and_eq_true, decide_eq_true_eq] at h
  obtain ⟨h0, h1, h2, h3, h4, h5, h6⟩ := h
  exact ⟨h0, h1, h2, h3, h4, h5, h6⟩
theorem rel_false {r : RelD} (h : RelT r → False) : relB r = false := by
  cases hb : relB r
  · rfl
  · exact (h (rel_of hb)).elim
theorem rel_rule {r : RelD} {k : Nat} {x : RuleD} (hk : r.rules[k]? = some x) (h : ruleB x = false) : relB r = false := rel_no1 (all_no hk h)
theorem rel_zone {r : RelD} {k : Nat} {z : ZoneD} (hk : r.zones[k]? = some z) (h : zoneMB r.rules z = false) : relB r = false := rel_false fun t => by
  have := (zones_same t.rules).mp ⟨t.zones, t.there⟩ z (List.mem_of_getElem? hk)
  rw [zoneM_yes this] at h; cases h
theorem rel_link {r : RelD} {k : Nat} {x : LinkD} (hk : r.links[k]? = some x) (h : nameB x.name = false ∨ inB (r.zones.map ZoneD.name) x.to_ = false) : relB r = false := rel_false fun t => by
  have h1 := List.all_eq_true.mp t.links x (List.mem_of_getElem? hk)
  have h2 := List.all_eq_true.mp t.has x (List.mem_of_getElem? hk)
  unfold linkB at h1
  simp only [Bool.and_eq_true] at h1
  rcases h with h | h
  · rw [h1.2] at h; cases h
  · rw [inB_hasZ, h2] at h; cases h
theorem keysL_take (l : List ByteArray) (k : Nat) : keysL (l.take k) = (keysL l).take k := by unfold keysL; rw [List.map_take]
theorem rel_dup {r : RelD} {k : Nat} {x : ByteArray} (hk : (namesL r)[k]? = some x) (h : inB ((namesL r).take k) x = true) : relB r = false := rel_false fun t => by
  have hn : (keysL (namesL r)).Nodup := by have := t.names; unfold namesB at this; exact of_decide_eq_true this
  rw [inB_iff, keysL_take] at h
  exact (nodup_ahead _).mpr hn k x.data.toList (by unfold keysL; rw [List.getElem?_map, hk]; rfl) h
theorem rel_all {r : RelD} (h0 : r.rules.length ≤ 40 ∧ r.zones.length ≤ 12 ∧ r.links.length ≤ 20) (h1 : ∀ (k : Nat) x, r.rules[k]? = some x → ruleB x = true) (h2 : ∀ (k : Nat) z, r.zones[k]? = some z → zoneMB r.rules z = true)
    (h3 : ∀ (k : Nat) x, r.links[k]? = some x → nameB x.name = true ∧ inB (r.zones.map ZoneD.name) x.to_ = true) (h4 : ∀ (k : Nat) x, (namesL r)[k]? = some x → inB ((namesL r).take k) x = false) : relB r = true := by
  have k1 : r.rules.all ruleB = true := all_yes fun j _ x hx => h1 j x hx
  have kz : ∀ z ∈ r.zones, ZoneM r.rules z := fun z hz => by
    obtain ⟨k, hk⟩ := List.getElem?_of_mem hz
    exact zoneMB_iff.mp (h2 k z hk)
  obtain ⟨k2, k5⟩ := (zones_same k1).mpr kz
  obtain ⟨k3, k6⟩ := (links_same (ls := r.links) fun z hz => (kz z hz).name).mpr fun x hx => by
    obtain ⟨k, hk⟩ := List.getElem?_of_mem hx
    have := h3 k x hk
    rw [inB_hasZ] at this
    exact this
  refine rel_yes h0 k1 k2 k3 ?_ k5 k6
  unfold namesB
  refine decide_eq_true ((nodup_ahead _).mp fun k x hk hm => ?_)
  unfold keysL at hk
  rw [List.getElem?_map] at hk
  obtain ⟨y, hy, rfl⟩ := Option.map_eq_some_iff.mp hk
  have := h4 k y hy
  rw [← keysL_take, ← inB_iff] at hm
  rw [this] at hm; cases hm
end Go.Proofs.YtjdokmllidhapaaGreatDoor
