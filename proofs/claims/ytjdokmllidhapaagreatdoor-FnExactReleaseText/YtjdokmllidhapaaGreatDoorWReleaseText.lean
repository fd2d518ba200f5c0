/- The walk of the law FnExactReleaseText. -/
import Derived.Test.YtjdokmllidhapaaGreatDoorTxtB
import Derived.Deep.RegionHeld3
namespace Go.Proofs.YtjdokmllidhapaaGreatDoor.releaseText
open Go.RowKit

set_option maxRecDepth 20000 in
set_option maxHeartbeats 2000000 in
theorem walk (r : RelD) (v : Value) (w : World) (hv : RelAt w v r) (ok : r.ok) (hT : Tab w) (hMx : Mx w) (hP : Pow w) :
    Calls Tryz.prog 6 #[v] w fun e w' => e = .returned (.bool true) ∧ Below w.heap.size w w' := by
  have hEnv : EnvZ w := ⟨hT, hMx⟩
  obtain ⟨a, b, c, ca, cb, cc, hvv, _, _, _⟩ := hv.form
  subst hvv
  have hB0 := (Below.refl w.heap.size w).alloc (Nat.le_refl _) (.cells #[.slice a r.rules.length ca, .slice b r.zones.length cb, .slice c r.links.length cc] 61)
  have hZ := fun w (h : RelAt w (.agg #[.slice a r.rules.length ca, .slice b r.zones.length cb, .slice c r.links.length cc]) r) => laws_szRelease r _ 1048576 w h ok (by omega) (by omega)
  by_cases g : 1048576 - (r.sz : Int) < 0
  · rw [clip_n g] at hZ
    go_enter Tryz.func6, Tryz.ntmps6
    go_wp2_with fail
    refine (hZ _ (hv.below hB0)).mono ?_
    rintro e w1 ⟨rfl, hb1⟩
    go_wp2
    go_ret
    exact ⟨rfl, hB0.trans (hb1.mono (by simp))⟩
  rw [clip_p (by omega)] at hZ
  obtain ⟨sm, hon⟩ := rel_small (r := r) (by omega)
  have hT := fun w (h : RelAt w (.agg #[.slice a r.rules.length ca, .slice b r.zones.length cb, .slice c r.links.length cc]) r) => laws_toRelease r _ w h sm
  have hI := fun v w B hE hP (h : OwnRel w B v r) => impl_ReleaseText r v w B hE hP h ok sm hon
  have hS := fun v w B (h : OwnRel w B v r) => spec_ReleaseText r v w B h ok sm hon
  have hE := fun v v2 w (h : RelAt w v r) (h2 : RelAt w v2 r) => laws_eqRelease r v v2 w h h2 sm
  generalize relT r = RT at *
  have x00 : (w.alloc (.cells #[.slice a r.rules.length ca, .slice b r.zones.length cb, .slice c r.links.length cc] 61)).cell? ⟨w.heap.size, 0, none⟩ = some (.slice a r.rules.length ca) := by simp [go_sem]
  have x10 : (w.alloc (.cells #[.slice a r.rules.length ca, .slice b r.zones.length cb, .slice c r.links.length cc] 61)).cell? ⟨w.heap.size, 1, none⟩ = some (.slice b r.zones.length cb) := by simp [go_sem]
  have x20 : (w.alloc (.cells #[.slice a r.rules.length ca, .slice b r.zones.length cb, .slice c r.links.length cc] 61)).cell? ⟨w.heap.size, 2, none⟩ = some (.slice c r.links.length cc) := by simp [go_sem]
  have g' : ¬ (1048576 - (r.sz : Int) < 0) := g
  go_enter Tryz.func6, Tryz.ntmps6
  go_wp2_with fail
  refine (hZ _ (hv.below hB0)).mono ?_
  rintro e w1 ⟨rfl, hb1⟩
  have hB1 := hB0.trans (hb1.mono (by simp))
  have x01 := ((bcell hb1).1 _ _ (World.block_lt_of_cell? _ _ x00)).trans x00
  have x11 := ((bcell hb1).1 _ _ (World.block_lt_of_cell? _ _ x10)).trans x10
  have x21 := ((bcell hb1).1 _ _ (World.block_lt_of_cell? _ _ x20)).trans x20
  generalize (r.sz : Int) = sz at *
  clear hb1
  go_wp2_with fail
  refine (hT _ (hv.below hB1)).mono ?_
  rintro e w2 ⟨v2, rfl, hO2, hb2⟩
  have hB2 := hB1.trans (hb2.mono hB1.size)
  have x02 := ((bcell hb2).1 _ _ (World.block_lt_of_cell? _ _ x01)).trans x01
  have x12 := ((bcell hb2).1 _ _ (World.block_lt_of_cell? _ _ x11)).trans x11
  have x22 := ((bcell hb2).1 _ _ (World.block_lt_of_cell? _ _ x21)).trans x21
  clear hb2
  go_wp2_with fail
  refine (hS v2 _ _ hO2).mono ?_
  rintro e w3 ⟨rfl, hb3⟩
  have hB3 := hB2.trans (hb3.mono hB2.size)
  have x03 := ((bcell hb3).1 _ _ (World.block_lt_of_cell? _ _ x02)).trans x02
  have x13 := ((bcell hb3).1 _ _ (World.block_lt_of_cell? _ _ x12)).trans x12
  have x23 := ((bcell hb3).1 _ _ (World.block_lt_of_cell? _ _ x22)).trans x22
  clear hb3 hO2
  go_wp2_with fail
  refine (hT _ (hv.below hB3)).mono ?_
  rintro e w4 ⟨v4, rfl, hO4, hb4⟩
  have hB4 := hB3.trans (hb4.mono hB3.size)
  have x04 := ((bcell hb4).1 _ _ (World.block_lt_of_cell? _ _ x03)).trans x03
  have x14 := ((bcell hb4).1 _ _ (World.block_lt_of_cell? _ _ x13)).trans x13
  have x24 := ((bcell hb4).1 _ _ (World.block_lt_of_cell? _ _ x23)).trans x23
  have hA4 := hO4.rel
  obtain ⟨g4, k4, l4, hv4, _, _, _, _⟩ := hO4.form
  subst hv4
  clear hb4
  have hb5 : Below w4.heap.size w4 (w4.alloc (.cells #[.slice (some ⟨g4, 0, none⟩) r.rules.length r.rules.length, .slice (some ⟨k4, 0, none⟩) r.zones.length r.zones.length, .slice (some ⟨l4, 0, none⟩) r.links.length r.links.length] 27)) := (Below.refl w4.heap.size w4).alloc (Nat.le_refl _) _
  have hB5 := hB4.trans (hb5.mono hB4.size)
  have hA5 := hA4.below hb5
  have hO5 := hO4.below hb5
  have x05 := ((bcell hb5).1 _ _ (World.block_lt_of_cell? _ _ x04)).trans x04
  have x15 := ((bcell hb5).1 _ _ (World.block_lt_of_cell? _ _ x14)).trans x14
  have x25 := ((bcell hb5).1 _ _ (World.block_lt_of_cell? _ _ x24)).trans x24
  have y05 : (w4.alloc (.cells #[.slice (some ⟨g4, 0, none⟩) r.rules.length r.rules.length, .slice (some ⟨k4, 0, none⟩) r.zones.length r.zones.length, .slice (some ⟨l4, 0, none⟩) r.links.length r.links.length] 27)).cell? ⟨w4.heap.size, 0, none⟩ = some (.slice (some ⟨g4, 0, none⟩) r.rules.length r.rules.length) := by simp [go_sem]
  have y15 : (w4.alloc (.cells #[.slice (some ⟨g4, 0, none⟩) r.rules.length r.rules.length, .slice (some ⟨k4, 0, none⟩) r.zones.length r.zones.length, .slice (some ⟨l4, 0, none⟩) r.links.length r.links.length] 27)).cell? ⟨w4.heap.size, 1, none⟩ = some (.slice (some ⟨k4, 0, none⟩) r.zones.length r.zones.length) := by simp [go_sem]
  have y25 : (w4.alloc (.cells #[.slice (some ⟨g4, 0, none⟩) r.rules.length r.rules.length, .slice (some ⟨k4, 0, none⟩) r.zones.length r.zones.length, .slice (some ⟨l4, 0, none⟩) r.links.length r.links.length] 27)).cell? ⟨w4.heap.size, 2, none⟩ = some (.slice (some ⟨l4, 0, none⟩) r.links.length r.links.length) := by simp [go_sem]
  go_wp2_with fail
  refine (hI _ _ _ (hEnv.of_below hB5) (hP.of_below hB5) hO5).mono ?_
  rintro e w6 ⟨rfl, hb6⟩
  have hB6 := hB5.trans (hb6.mono hB5.size)
  have x06 := ((bcell hb6).1 _ _ (World.block_lt_of_cell? _ _ x05)).trans x05
  have x16 := ((bcell hb6).1 _ _ (World.block_lt_of_cell? _ _ x15)).trans x15
  have x26 := ((bcell hb6).1 _ _ (World.block_lt_of_cell? _ _ x25)).trans x25
  have y06 := ((bcell hb6).1 _ _ (World.block_lt_of_cell? _ _ y05)).trans y05
  have y16 := ((bcell hb6).1 _ _ (World.block_lt_of_cell? _ _ y15)).trans y15
  have y26 := ((bcell hb6).1 _ _ (World.block_lt_of_cell? _ _ y25)).trans y25
  have hA6 := hA5.below hb6
  clear hb6 hA5 hA4 hb5 hO4 hO5 x00 x01 x02 x03 x04 x05 x10 x11 x12 x13 x14 x15 x20 x21 x22 x23 x24 x25 y05 y15 y25
  generalize w4.heap.size = b4 at *
  have hD : Below w6.heap.size w6 w6.drew := ⟨rfl, rfl, rfl, Nat.le_refl _, fun _ _ => rfl⟩
  have hBD : Below w.heap.size w w6.drew := hB6.trans (hD.mono hB6.size)
  have hAD := hA6.below hD
  have xD0 : w6.drew.cell? ⟨w.heap.size, 0, none⟩ = some (.slice a r.rules.length ca) := x06
  have xD1 : w6.drew.cell? ⟨w.heap.size, 1, none⟩ = some (.slice b r.zones.length cb) := x16
  have xD2 : w6.drew.cell? ⟨w.heap.size, 2, none⟩ = some (.slice c r.links.length cc) := x26
  have yD0 : w6.drew.cell? ⟨b4, 0, none⟩ = some (.slice (some ⟨g4, 0, none⟩) r.rules.length r.rules.length) := y06
  have yD1 : w6.drew.cell? ⟨b4, 1, none⟩ = some (.slice (some ⟨k4, 0, none⟩) r.zones.length r.zones.length) := y16
  have yD2 : w6.drew.cell? ⟨b4, 2, none⟩ = some (.slice (some ⟨l4, 0, none⟩) r.links.length r.links.length) := y26
  have hvD := hv.below hBD
  clear hI hS hZ hB1 hB2 hB3 hB4 hB5 hB6 hD hA6
  go_wp2_with fail
  go_region_held3 (fun w' => w'.cell? ⟨b4, 0, none⟩ = some (.slice (some ⟨g4, 0, none⟩) r.rules.length r.rules.length) ∧ w'.cell? ⟨b4, 1, none⟩ = some (.slice (some ⟨k4, 0, none⟩) r.zones.length r.zones.length) ∧ w'.cell? ⟨b4, 2, none⟩ = some (.slice (some ⟨l4, 0, none⟩) r.links.length r.links.length) ∧ w'.cell? ⟨w.heap.size, 0, none⟩ = some (.slice a r.rules.length ca) ∧ w'.cell? ⟨w.heap.size, 1, none⟩ = some (.slice b r.zones.length cb) ∧ w'.cell? ⟨w.heap.size, 2, none⟩ = some (.slice c r.links.length cc)) (go_keep) (first | (go_at_call 25; refine (hT _ hvD).mono ?_; rintro e w7 ⟨v7, rfl, hO7, hb7⟩; have p0 := ((bcell hb7).1 _ _ (World.block_lt_of_cell? _ _ xD0)).trans xD0; have p1 := ((bcell hb7).1 _ _ (World.block_lt_of_cell? _ _ xD1)).trans xD1; have p2 := ((bcell hb7).1 _ _ (World.block_lt_of_cell? _ _ xD2)).trans xD2; have q0 := ((bcell hb7).1 _ _ (World.block_lt_of_cell? _ _ yD0)).trans yD0; have q1 := ((bcell hb7).1 _ _ (World.block_lt_of_cell? _ _ yD1)).trans yD1; have q2 := ((bcell hb7).1 _ _ (World.block_lt_of_cell? _ _ yD2)).trans yD2; have hA7 := hAD.below hb7; have hT7 := hO7.rel) | (go_at_call 27; refine (hE _ _ _ hA7 hT7).mono ?_; rintro e w8 ⟨rfl, hb8⟩; have P0 := ((bcell hb8).1 _ _ (World.block_lt_of_cell? _ _ p0)).trans p0; have P1 := ((bcell hb8).1 _ _ (World.block_lt_of_cell? _ _ p1)).trans p1; have P2 := ((bcell hb8).1 _ _ (World.block_lt_of_cell? _ _ p2)).trans p2; have Q0 := ((bcell hb8).1 _ _ (World.block_lt_of_cell? _ _ q0)).trans q0; have Q1 := ((bcell hb8).1 _ _ (World.block_lt_of_cell? _ _ q1)).trans q1; have Q2 := ((bcell hb8).1 _ _ (World.block_lt_of_cell? _ _ q2)).trans q2; have hEnd := hb7.trans (hb8.mono hb7.size)))
  go_wp2
  go_ret
  exact ⟨rfl, hBD.trans (hEnd.mono hBD.size)⟩
end Go.Proofs.YtjdokmllidhapaaGreatDoor.releaseText
