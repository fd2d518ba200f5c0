/- The walk of the law FnExactZoneOf. -/
import Derived.Test.YtjdokmllidhapaaGreatDoorZones
import Derived.Deep.RegionHeld3
namespace Go.Proofs.YtjdokmllidhapaaGreatDoor.zoneOf
open Go.RowKit

set_option maxRecDepth 20000 in
set_option maxHeartbeats 8000000 in
theorem walk (r : RelD) (v : Value) (nm : ByteArray) (w : World) (hv : RelAt w v r) (ok : r.ok) (hnm : nm.size ≤ maxLen) (hT : Tab w) (hMx : Mx w) :
    Calls Tryz.prog 7 #[v, .string nm] w fun e w' => e = .returned (.bool true) ∧ Below w.heap.size w w' := by
  have hEnv : EnvZ w := ⟨hT, hMx⟩
  unfold maxLen at hnm
  obtain ⟨a, b, c, ca, cb, cc, hvv, _, _, _⟩ := hv.form
  subst hvv
  have hB0 := (Below.refl w.heap.size w).alloc (Nat.le_refl _) (.cells #[.slice a r.rules.length ca, .slice b r.zones.length cb, .slice c r.links.length cc] 61)
  by_cases hlong : 1048576 < nm.size
  · go_enter Tryz.func7, Tryz.ntmps7
    go_wp2
    go_ret
    exact ⟨rfl, hB0⟩
  have hZ := fun w (h : RelAt w (.agg #[.slice a r.rules.length ca, .slice b r.zones.length cb, .slice c r.links.length cc]) r) => laws_szRelease r _ 1048576 w h ok (by omega) (by omega)
  by_cases g : 1048576 - (r.sz : Int) < 0
  · rw [clip_n g] at hZ
    go_enter Tryz.func7, Tryz.ntmps7
    go_wp2_with fail
    refine (hZ _ (hv.below hB0)).mono ?_
    rintro e w1 ⟨rfl, hb1⟩
    go_wp2
    go_ret
    exact ⟨rfl, hB0.trans (hb1.mono (by simp))⟩
  rw [clip_p (by omega)] at hZ
  have hsz : r.sz ≤ 1048576 := by omega
  obtain ⟨sm, hon⟩ := rel_small (r := r) hsz
  have hT := fun w (h : RelAt w (.agg #[.slice a r.rules.length ca, .slice b r.zones.length cb, .slice c r.links.length cc]) r) => laws_toRelease r _ w h sm
  have hI := fun v w hE (h : RelAt w v r) => impl_ZoneOf r v nm w hE h ok sm hon
  have hS := fun v w (h : RelAt w v r) => spec_ZoneOf r v nm w h ok sm hon (by omega)
  have hE := fun v v2 w (h : RelAt w v r) (h2 : RelAt w v2 r) => laws_eqRelease r v v2 w h h2 sm
  have hMk := fun v B U w (h : OwnRelU w B U v r) hU => laws_markRelease r v B U w h hU hsz
  have hel : (zoneD r nm).eras.length ≤ 1048576 := by
    unfold zoneD
    split
    · split
      · split
        · rename_i z hz
          exact sm.2.2.2 z (List.mem_of_getElem? hz)
        · simp [zeroZ]
      · simp [zeroZ]
    · simp [zeroZ]
  generalize zoneD r nm = z at *
  obtain ⟨zn, es⟩ := z
  simp only at hI hS hel
  have hQ := fun v v2 w (h : EraSl w v es) (h2 : EraSl w v2 es) => laws_eqZone ⟨zn, es⟩ v v2 w h h2 hel
  simp only at hQ
  have hMz := fun a cap B U w (h : OwnEraU w B U (.slice a es.length cap) es) => laws_markZone zn es a cap B U w h hel
  have hHz := fun a cap w (h : MarkedZ w (.slice a es.length cap) es.length) => laws_heldZone zn es.length a cap w h hel
  obtain ⟨m, hm⟩ : ∃ m, m = 1 + 6 * es.length := ⟨_, rfl⟩
  rw [← hm] at hMz hHz
  clear hm
  have x0_0 : (w.alloc (.cells #[.slice a r.rules.length ca, .slice b r.zones.length cb, .slice c r.links.length cc] 61)).cell? ⟨w.heap.size, 0, none⟩ = some (.slice a r.rules.length ca) := by simp [go_sem]
  have x1_0 : (w.alloc (.cells #[.slice a r.rules.length ca, .slice b r.zones.length cb, .slice c r.links.length cc] 61)).cell? ⟨w.heap.size, 1, none⟩ = some (.slice b r.zones.length cb) := by simp [go_sem]
  have x2_0 : (w.alloc (.cells #[.slice a r.rules.length ca, .slice b r.zones.length cb, .slice c r.links.length cc] 61)).cell? ⟨w.heap.size, 2, none⟩ = some (.slice c r.links.length cc) := by simp [go_sem]
  have g' : ¬ (1048576 - (r.sz : Int) < 0) := g
  go_enter Tryz.func7, Tryz.ntmps7
  go_wp2_with fail
  refine (hZ _ (hv.below hB0)).mono ?_
  rintro e w1 ⟨rfl, hb1⟩
  have hB1 := hB0.trans (hb1.mono (by simp))
  have x0_1 := ((bcell hb1).1 _ _ (World.block_lt_of_cell? _ _ x0_0)).trans x0_0
  have x1_1 := ((bcell hb1).1 _ _ (World.block_lt_of_cell? _ _ x1_0)).trans x1_0
  have x2_1 := ((bcell hb1).1 _ _ (World.block_lt_of_cell? _ _ x2_0)).trans x2_0
  generalize (r.sz : Int) = sz at *
  clear hb1 hZ
  clear x0_0 x1_0 x2_0
  go_wp2_with fail
  refine (hT _ (hv.below hB1)).mono ?_
  rintro e w2 ⟨v2, rfl, hO2, hb2⟩
  have hB2 := hB1.trans (hb2.mono hB1.size)
  have x0_2 := ((bcell hb2).1 _ _ (World.block_lt_of_cell? _ _ x0_1)).trans x0_1
  have x1_2 := ((bcell hb2).1 _ _ (World.block_lt_of_cell? _ _ x1_1)).trans x1_1
  have x2_2 := ((bcell hb2).1 _ _ (World.block_lt_of_cell? _ _ x2_1)).trans x2_1
  have hA2 := hO2.rel
  clear hb2 hO2
  clear x0_1 x1_1 x2_1
  go_wp2_with fail
  refine (hS v2 _ hA2).mono ?_
  rintro e w3 ⟨vw, rfl, hOw, hb3⟩
  have hB3 := hB2.trans (hb3.mono hB2.size)
  have x0_3 := ((bcell hb3).1 _ _ (World.block_lt_of_cell? _ _ x0_2)).trans x0_2
  have x1_3 := ((bcell hb3).1 _ _ (World.block_lt_of_cell? _ _ x1_2)).trans x1_2
  have x2_3 := ((bcell hb3).1 _ _ (World.block_lt_of_cell? _ _ x2_2)).trans x2_2
  clear hb3 hA2 hS
  clear x0_2 x1_2 x2_2
  have hOw3 := hOw.upto
  obtain ⟨aw, cw, rfl, _⟩ := hOw.sl
  clear hOw
  have hb4 : Below w3.heap.size w3 (w3.alloc (.cells #[.string zn, .slice aw es.length cw] 49)) := (Below.refl w3.heap.size w3).alloc (Nat.le_refl _) _
  have hB4 := hB3.trans (hb4.mono hB3.size)
  have x0_4 := ((bcell hb4).1 _ _ (World.block_lt_of_cell? _ _ x0_3)).trans x0_3
  have x1_4 := ((bcell hb4).1 _ _ (World.block_lt_of_cell? _ _ x1_3)).trans x1_3
  have x2_4 := ((bcell hb4).1 _ _ (World.block_lt_of_cell? _ _ x2_3)).trans x2_3
  have p0_4 : (w3.alloc (.cells #[.string zn, .slice aw es.length cw] 49)).cell? ⟨w3.heap.size, 0, none⟩ = some (.string zn) := by simp [go_sem]
  have p1_4 : (w3.alloc (.cells #[.string zn, .slice aw es.length cw] 49)).cell? ⟨w3.heap.size, 1, none⟩ = some (.slice aw es.length cw) := by simp [go_sem]
  have hOw4 := hOw3.below hb4
  clear hb4 hOw3
  have hz4 : (w3.alloc (.cells #[.string zn, .slice aw es.length cw] 49)).heap.size = w3.heap.size + 1 := by simp
  have hwx : w.heap.size < w3.heap.size := World.block_lt_of_cell? _ _ x0_3
  clear x0_3 x1_3 x2_3
  go_wp2_with fail
  refine (hT _ (hv.below hB4)).mono ?_
  rintro e w5 ⟨v5, rfl, hO5, hb5⟩
  have hB5 := hB4.trans (hb5.mono hB4.size)
  have x0_5 := ((bcell hb5).1 _ _ (World.block_lt_of_cell? _ _ x0_4)).trans x0_4
  have x1_5 := ((bcell hb5).1 _ _ (World.block_lt_of_cell? _ _ x1_4)).trans x1_4
  have x2_5 := ((bcell hb5).1 _ _ (World.block_lt_of_cell? _ _ x2_4)).trans x2_4
  have p0_5 := ((bcell hb5).1 _ _ (World.block_lt_of_cell? _ _ p0_4)).trans p0_4
  have p1_5 := ((bcell hb5).1 _ _ (World.block_lt_of_cell? _ _ p1_4)).trans p1_4
  have hOw5 := hOw4.below hb5
  have hz5 : w3.heap.size + 1 ≤ w5.heap.size := by have := hb5.size; rw [hz4] at this; exact this
  have hA5 := hO5.rel
  rw [hz4] at hO5
  obtain ⟨g4, k4, l4, hv5, _, _, _, _⟩ := hO5.form
  subst hv5
  clear hb5 hOw4 hz4
  clear x0_4 x1_4 x2_4 p0_4 p1_4
  have hb6 : Below w5.heap.size w5 (w5.alloc (.cells #[.slice (some ⟨g4, 0, none⟩) r.rules.length r.rules.length, .slice (some ⟨k4, 0, none⟩) r.zones.length r.zones.length, .slice (some ⟨l4, 0, none⟩) r.links.length r.links.length] 27)) := (Below.refl w5.heap.size w5).alloc (Nat.le_refl _) _
  have hB6 := hB5.trans (hb6.mono hB5.size)
  have x0_6 := ((bcell hb6).1 _ _ (World.block_lt_of_cell? _ _ x0_5)).trans x0_5
  have x1_6 := ((bcell hb6).1 _ _ (World.block_lt_of_cell? _ _ x1_5)).trans x1_5
  have x2_6 := ((bcell hb6).1 _ _ (World.block_lt_of_cell? _ _ x2_5)).trans x2_5
  have p0_6 := ((bcell hb6).1 _ _ (World.block_lt_of_cell? _ _ p0_5)).trans p0_5
  have p1_6 := ((bcell hb6).1 _ _ (World.block_lt_of_cell? _ _ p1_5)).trans p1_5
  have q0_6 : (w5.alloc (.cells #[.slice (some ⟨g4, 0, none⟩) r.rules.length r.rules.length, .slice (some ⟨k4, 0, none⟩) r.zones.length r.zones.length, .slice (some ⟨l4, 0, none⟩) r.links.length r.links.length] 27)).cell? ⟨w5.heap.size, 0, none⟩ = some (.slice (some ⟨g4, 0, none⟩) r.rules.length r.rules.length) := by simp [go_sem]
  have q1_6 : (w5.alloc (.cells #[.slice (some ⟨g4, 0, none⟩) r.rules.length r.rules.length, .slice (some ⟨k4, 0, none⟩) r.zones.length r.zones.length, .slice (some ⟨l4, 0, none⟩) r.links.length r.links.length] 27)).cell? ⟨w5.heap.size, 1, none⟩ = some (.slice (some ⟨k4, 0, none⟩) r.zones.length r.zones.length) := by simp [go_sem]
  have q2_6 : (w5.alloc (.cells #[.slice (some ⟨g4, 0, none⟩) r.rules.length r.rules.length, .slice (some ⟨k4, 0, none⟩) r.zones.length r.zones.length, .slice (some ⟨l4, 0, none⟩) r.links.length r.links.length] 27)).cell? ⟨w5.heap.size, 2, none⟩ = some (.slice (some ⟨l4, 0, none⟩) r.links.length r.links.length) := by simp [go_sem]
  have hX6 := hO5.upto hb6
  have hA6 := hA5.below hb6
  have hOw6 := hOw5.below hb6
  have hz6 : (w5.alloc (.cells #[.slice (some ⟨g4, 0, none⟩) r.rules.length r.rules.length, .slice (some ⟨k4, 0, none⟩) r.zones.length r.zones.length, .slice (some ⟨l4, 0, none⟩) r.links.length r.links.length] 27)).heap.size = w5.heap.size + 1 := by simp
  clear hb6 hA5 hO5 hOw5
  clear x0_5 x1_5 x2_5 p0_5 p1_5
  go_wp2_with fail
  refine (hI _ _ (hEnv.of_below hB6) hA6).mono ?_
  rintro e w7 ⟨vg, rfl, hOg, hb7⟩
  have hB7 := hB6.trans (hb7.mono hB6.size)
  have x0_7 := ((bcell hb7).1 _ _ (World.block_lt_of_cell? _ _ x0_6)).trans x0_6
  have x1_7 := ((bcell hb7).1 _ _ (World.block_lt_of_cell? _ _ x1_6)).trans x1_6
  have x2_7 := ((bcell hb7).1 _ _ (World.block_lt_of_cell? _ _ x2_6)).trans x2_6
  have p0_7 := ((bcell hb7).1 _ _ (World.block_lt_of_cell? _ _ p0_6)).trans p0_6
  have p1_7 := ((bcell hb7).1 _ _ (World.block_lt_of_cell? _ _ p1_6)).trans p1_6
  have q0_7 := ((bcell hb7).1 _ _ (World.block_lt_of_cell? _ _ q0_6)).trans q0_6
  have q1_7 := ((bcell hb7).1 _ _ (World.block_lt_of_cell? _ _ q1_6)).trans q1_6
  have q2_7 := ((bcell hb7).1 _ _ (World.block_lt_of_cell? _ _ q2_6)).trans q2_6
  rw [hz6] at hOg
  have hz7 : w5.heap.size + 1 ≤ w7.heap.size := by have := hb7.size; rw [hz6] at this; exact this
  have hX7 := hX6.below hb7
  have hA7 := hA6.below hb7
  have hOw7 := hOw6.below hb7
  have hOg7 := hOg.upto
  obtain ⟨ag, cg, rfl, _⟩ := hOg.sl
  clear hb7 hX6 hA6 hOw6 hOg hz6
  clear x0_6 x1_6 x2_6 p0_6 p1_6 q0_6 q1_6 q2_6
  have hb8 : Below w7.heap.size w7 (w7.alloc (.cells #[.string zn, .slice ag es.length cg] 49)) := (Below.refl w7.heap.size w7).alloc (Nat.le_refl _) _
  have hB8 := hB7.trans (hb8.mono hB7.size)
  have x0_8 := ((bcell hb8).1 _ _ (World.block_lt_of_cell? _ _ x0_7)).trans x0_7
  have x1_8 := ((bcell hb8).1 _ _ (World.block_lt_of_cell? _ _ x1_7)).trans x1_7
  have x2_8 := ((bcell hb8).1 _ _ (World.block_lt_of_cell? _ _ x2_7)).trans x2_7
  have p0_8 := ((bcell hb8).1 _ _ (World.block_lt_of_cell? _ _ p0_7)).trans p0_7
  have p1_8 := ((bcell hb8).1 _ _ (World.block_lt_of_cell? _ _ p1_7)).trans p1_7
  have q0_8 := ((bcell hb8).1 _ _ (World.block_lt_of_cell? _ _ q0_7)).trans q0_7
  have q1_8 := ((bcell hb8).1 _ _ (World.block_lt_of_cell? _ _ q1_7)).trans q1_7
  have q2_8 := ((bcell hb8).1 _ _ (World.block_lt_of_cell? _ _ q2_7)).trans q2_7
  have g0_8 : (w7.alloc (.cells #[.string zn, .slice ag es.length cg] 49)).cell? ⟨w7.heap.size, 0, none⟩ = some (.string zn) := by simp [go_sem]
  have g1_8 : (w7.alloc (.cells #[.string zn, .slice ag es.length cg] 49)).cell? ⟨w7.heap.size, 1, none⟩ = some (.slice ag es.length cg) := by simp [go_sem]
  have hX8 := hX7.below hb8
  have hA8 := hA7.below hb8
  have hOw8 := hOw7.below hb8
  have hOg8 := hOg7.below hb8
  have hz8 : w7.heap.size < (w7.alloc (.cells #[.string zn, .slice ag es.length cg] 49)).heap.size := by simp
  clear hb8 hX7 hA7 hOw7 hOg7 x0_7 x1_7 x2_7 p0_7 p1_7 q0_7 q1_7 q2_7
  go_wp2_with fail
  refine (hQ _ _ _ hOg8.sl hOw8.sl).mono ?_
  rintro e w9 ⟨rfl, hb9⟩
  have hB9 := hB8.trans (hb9.mono hB8.size)
  have x0_9 := ((bcell hb9).1 _ _ (World.block_lt_of_cell? _ _ x0_8)).trans x0_8
  have x1_9 := ((bcell hb9).1 _ _ (World.block_lt_of_cell? _ _ x1_8)).trans x1_8
  have x2_9 := ((bcell hb9).1 _ _ (World.block_lt_of_cell? _ _ x2_8)).trans x2_8
  have p0_9 := ((bcell hb9).1 _ _ (World.block_lt_of_cell? _ _ p0_8)).trans p0_8
  have p1_9 := ((bcell hb9).1 _ _ (World.block_lt_of_cell? _ _ p1_8)).trans p1_8
  have q0_9 := ((bcell hb9).1 _ _ (World.block_lt_of_cell? _ _ q0_8)).trans q0_8
  have q1_9 := ((bcell hb9).1 _ _ (World.block_lt_of_cell? _ _ q1_8)).trans q1_8
  have q2_9 := ((bcell hb9).1 _ _ (World.block_lt_of_cell? _ _ q2_8)).trans q2_8
  have g0_9 := ((bcell hb9).1 _ _ (World.block_lt_of_cell? _ _ g0_8)).trans g0_8
  have g1_9 := ((bcell hb9).1 _ _ (World.block_lt_of_cell? _ _ g1_8)).trans g1_8
  have hX9 := hX8.below hb9
  have hA9 := hA8.below hb9
  have hOw9 := hOw8.below hb9
  have hOg9 := hOg8.below hb9
  have hz9 : w7.heap.size < w9.heap.size := Nat.lt_of_lt_of_le hz8 hb9.size
  clear hb9 hX8 hA8 hOw8 hOg8 hz8
  clear x0_8 x1_8 x2_8 p0_8 p1_8 q0_8 q1_8 q2_8 g0_8 g1_8
  generalize hn7 : w7.heap.size = n7 at *
  generalize hn5 : w5.heap.size = n5 at *
  generalize hn3 : w3.heap.size = n3 at *
  have hD : Below w9.heap.size w9 w9.drew := ⟨rfl, rfl, rfl, Nat.le_refl _, fun _ _ => rfl⟩
  have hBD := hB9.trans (hD.mono hB9.size)
  have hX10 := hX9.below hD
  have hA10 := hA9.below hD
  have hOw10 := hOw9.below hD
  have hOg10 := hOg9.below hD
  have x0_10 := ((bcell hD).1 _ _ (World.block_lt_of_cell? _ _ x0_9)).trans x0_9
  have x1_10 := ((bcell hD).1 _ _ (World.block_lt_of_cell? _ _ x1_9)).trans x1_9
  have x2_10 := ((bcell hD).1 _ _ (World.block_lt_of_cell? _ _ x2_9)).trans x2_9
  have p0_10 := ((bcell hD).1 _ _ (World.block_lt_of_cell? _ _ p0_9)).trans p0_9
  have p1_10 := ((bcell hD).1 _ _ (World.block_lt_of_cell? _ _ p1_9)).trans p1_9
  have q0_10 := ((bcell hD).1 _ _ (World.block_lt_of_cell? _ _ q0_9)).trans q0_9
  have q1_10 := ((bcell hD).1 _ _ (World.block_lt_of_cell? _ _ q1_9)).trans q1_9
  have q2_10 := ((bcell hD).1 _ _ (World.block_lt_of_cell? _ _ q2_9)).trans q2_9
  have g0_10 := ((bcell hD).1 _ _ (World.block_lt_of_cell? _ _ g0_9)).trans g0_9
  have g1_10 := ((bcell hD).1 _ _ (World.block_lt_of_cell? _ _ g1_9)).trans g1_9
  have hvD := hv.below hBD
  clear hX9 hA9 hOw9 hOg9
  go_wp2_with fail
  go_region_held3 (fun w' => w'.cell? ⟨n5, 0, none⟩ = some (.slice (some ⟨g4, 0, none⟩) r.rules.length r.rules.length) ∧ w'.cell? ⟨n5, 1, none⟩ = some (.slice (some ⟨k4, 0, none⟩) r.zones.length r.zones.length) ∧ w'.cell? ⟨n5, 2, none⟩ = some (.slice (some ⟨l4, 0, none⟩) r.links.length r.links.length) ∧ w'.cell? ⟨w.heap.size, 0, none⟩ = some (.slice a r.rules.length ca) ∧ w'.cell? ⟨w.heap.size, 1, none⟩ = some (.slice b r.zones.length cb) ∧ w'.cell? ⟨w.heap.size, 2, none⟩ = some (.slice c r.links.length cc)) (go_keep) (first | (go_at_call 25; refine (hT _ hvD).mono ?_; rintro e w11 ⟨v11, rfl, hO11, hb11⟩; have x0_11 := ((bcell hb11).1 _ _ (World.block_lt_of_cell? _ _ x0_10)).trans x0_10; have x1_11 := ((bcell hb11).1 _ _ (World.block_lt_of_cell? _ _ x1_10)).trans x1_10; have x2_11 := ((bcell hb11).1 _ _ (World.block_lt_of_cell? _ _ x2_10)).trans x2_10; have p0_11 := ((bcell hb11).1 _ _ (World.block_lt_of_cell? _ _ p0_10)).trans p0_10; have p1_11 := ((bcell hb11).1 _ _ (World.block_lt_of_cell? _ _ p1_10)).trans p1_10; have q0_11 := ((bcell hb11).1 _ _ (World.block_lt_of_cell? _ _ q0_10)).trans q0_10; have q1_11 := ((bcell hb11).1 _ _ (World.block_lt_of_cell? _ _ q1_10)).trans q1_10; have q2_11 := ((bcell hb11).1 _ _ (World.block_lt_of_cell? _ _ q2_10)).trans q2_10; have g0_11 := ((bcell hb11).1 _ _ (World.block_lt_of_cell? _ _ g0_10)).trans g0_10; have g1_11 := ((bcell hb11).1 _ _ (World.block_lt_of_cell? _ _ g1_10)).trans g1_10; have hA11 := hA10.below hb11; have hT11 := hO11.rel) | (go_at_call 27; refine (hE _ _ _ hA11 hT11).mono ?_; rintro e w12 ⟨rfl, hb12⟩; have x0_12 := ((bcell hb12).1 _ _ (World.block_lt_of_cell? _ _ x0_11)).trans x0_11; have x1_12 := ((bcell hb12).1 _ _ (World.block_lt_of_cell? _ _ x1_11)).trans x1_11; have x2_12 := ((bcell hb12).1 _ _ (World.block_lt_of_cell? _ _ x2_11)).trans x2_11; have p0_12 := ((bcell hb12).1 _ _ (World.block_lt_of_cell? _ _ p0_11)).trans p0_11; have p1_12 := ((bcell hb12).1 _ _ (World.block_lt_of_cell? _ _ p1_11)).trans p1_11; have q0_12 := ((bcell hb12).1 _ _ (World.block_lt_of_cell? _ _ q0_11)).trans q0_11; have q1_12 := ((bcell hb12).1 _ _ (World.block_lt_of_cell? _ _ q1_11)).trans q1_11; have q2_12 := ((bcell hb12).1 _ _ (World.block_lt_of_cell? _ _ q2_11)).trans q2_11; have g0_12 := ((bcell hb12).1 _ _ (World.block_lt_of_cell? _ _ g0_11)).trans g0_11; have g1_12 := ((bcell hb12).1 _ _ (World.block_lt_of_cell? _ _ g1_11)).trans g1_11; have hbE := hb11.trans (hb12.mono hb11.size)))
  have hB12 := hBD.trans (hbE.mono hBD.size)
  have hX12 := hX10.below hbE
  have hOw12 := hOw10.below hbE
  have hOg12 := hOg10.below hbE
  have hz12 : n7 < w12.heap.size := Nat.lt_of_lt_of_le hz9 (Nat.le_trans hD.size hbE.size)
  clear hbE hb11 hb12 hD hBD hvD hX10 hA10 hOw10 hOg10 hA11 hT11 hO11 hz9 hE
  clear x0_9 x1_9 x2_9 p0_9 p1_9 q0_9 q1_9 q2_9 g0_9 g1_9
  clear x0_10 x1_10 x2_10 p0_10 p1_10 q0_10 q1_10 q2_10 g0_10 g1_10
  clear x0_11 x1_11 x2_11 p0_11 p1_11 q0_11 q1_11 q2_11 g0_11 g1_11
  go_wp2_with fail
  refine (hMk _ _ _ _ hX12 (by omega)).mono ?_
  rintro e w13 ⟨⟨K, rfl⟩, t13⟩
  have hB13 := t13.below (fun x hx => by have : n3 + 1 ≤ x ∧ x < n5 := hx; omega) hB12.size hB12
  have x0_13 := t13.cell (show ¬ (n3 + 1 ≤ w.heap.size ∧ w.heap.size < n5) by omega) x0_12
  have x1_13 := t13.cell (show ¬ (n3 + 1 ≤ w.heap.size ∧ w.heap.size < n5) by omega) x1_12
  have x2_13 := t13.cell (show ¬ (n3 + 1 ≤ w.heap.size ∧ w.heap.size < n5) by omega) x2_12
  have p0_13 := t13.cell (show ¬ (n3 + 1 ≤ n3 ∧ n3 < n5) by omega) p0_12
  have p1_13 := t13.cell (show ¬ (n3 + 1 ≤ n3 ∧ n3 < n5) by omega) p1_12
  have q0_13 := t13.cell (show ¬ (n3 + 1 ≤ n5 ∧ n5 < n5) by omega) q0_12
  have q1_13 := t13.cell (show ¬ (n3 + 1 ≤ n5 ∧ n5 < n5) by omega) q1_12
  have q2_13 := t13.cell (show ¬ (n3 + 1 ≤ n5 ∧ n5 < n5) by omega) q2_12
  have g0_13 := t13.cell (show ¬ (n3 + 1 ≤ n7 ∧ n7 < n5) by omega) g0_12
  have g1_13 := t13.cell (show ¬ (n3 + 1 ≤ n7 ∧ n7 < n5) by omega) g1_12
  have hOw13 := hOw12.touch t13 (fun x h1 h2 => by show ¬ (n3 + 1 ≤ x ∧ x < n5); omega)
  have hOg13 := hOg12.touch t13 (fun x h1 h2 => by show ¬ (n3 + 1 ≤ x ∧ x < n5); omega)
  have hz13 := Nat.lt_of_lt_of_le hz12 t13.size
  clear t13 hX12 hOw12 hOg12 hMk hz12
  clear x0_12 x1_12 x2_12 p0_12 p1_12 q0_12 q1_12 q2_12 g0_12 g1_12
  go_wp2_with fail
  refine (hQ _ _ _ hOg13.sl hOw13.sl).mono ?_
  rintro e w14 ⟨rfl, hb14⟩
  have hB14 := hB13.trans (hb14.mono hB13.size)
  have x0_14 := ((bcell hb14).1 _ _ (World.block_lt_of_cell? _ _ x0_13)).trans x0_13
  have x1_14 := ((bcell hb14).1 _ _ (World.block_lt_of_cell? _ _ x1_13)).trans x1_13
  have x2_14 := ((bcell hb14).1 _ _ (World.block_lt_of_cell? _ _ x2_13)).trans x2_13
  have p0_14 := ((bcell hb14).1 _ _ (World.block_lt_of_cell? _ _ p0_13)).trans p0_13
  have p1_14 := ((bcell hb14).1 _ _ (World.block_lt_of_cell? _ _ p1_13)).trans p1_13
  have q0_14 := ((bcell hb14).1 _ _ (World.block_lt_of_cell? _ _ q0_13)).trans q0_13
  have q1_14 := ((bcell hb14).1 _ _ (World.block_lt_of_cell? _ _ q1_13)).trans q1_13
  have q2_14 := ((bcell hb14).1 _ _ (World.block_lt_of_cell? _ _ q2_13)).trans q2_13
  have g0_14 := ((bcell hb14).1 _ _ (World.block_lt_of_cell? _ _ g0_13)).trans g0_13
  have g1_14 := ((bcell hb14).1 _ _ (World.block_lt_of_cell? _ _ g1_13)).trans g1_13
  have hOw14 := hOw13.below hb14
  have hOg14 := hOg13.below hb14
  have hz14 := Nat.lt_of_lt_of_le hz13 hb14.size
  clear hb14 hOw13 hOg13 hz13
  clear x0_13 x1_13 x2_13 p0_13 p1_13 q0_13 q1_13 q2_13 g0_13 g1_13
  go_wp2_with fail
  refine (hMz _ _ _ _ _ hOg14).mono ?_
  rintro e w15 ⟨rfl, hM15, t15⟩
  have hB15 := t15.below (fun x hx => by have : n5 + 1 ≤ x ∧ x < n7 := hx; omega) hB14.size hB14
  have x0_15 := t15.cell (show ¬ (n5 + 1 ≤ w.heap.size ∧ w.heap.size < n7) by omega) x0_14
  have x1_15 := t15.cell (show ¬ (n5 + 1 ≤ w.heap.size ∧ w.heap.size < n7) by omega) x1_14
  have x2_15 := t15.cell (show ¬ (n5 + 1 ≤ w.heap.size ∧ w.heap.size < n7) by omega) x2_14
  have p0_15 := t15.cell (show ¬ (n5 + 1 ≤ n3 ∧ n3 < n7) by omega) p0_14
  have p1_15 := t15.cell (show ¬ (n5 + 1 ≤ n3 ∧ n3 < n7) by omega) p1_14
  have q0_15 := t15.cell (show ¬ (n5 + 1 ≤ n5 ∧ n5 < n7) by omega) q0_14
  have q1_15 := t15.cell (show ¬ (n5 + 1 ≤ n5 ∧ n5 < n7) by omega) q1_14
  have q2_15 := t15.cell (show ¬ (n5 + 1 ≤ n5 ∧ n5 < n7) by omega) q2_14
  have g0_15 := t15.cell (show ¬ (n5 + 1 ≤ n7 ∧ n7 < n7) by omega) g0_14
  have g1_15 := t15.cell (show ¬ (n5 + 1 ≤ n7 ∧ n7 < n7) by omega) g1_14
  have hOw15 := hOw14.touch t15 (fun x h1 h2 => by show ¬ (n5 + 1 ≤ x ∧ x < n7); omega)
  clear t15 hOw14 hOg14 hMz
  clear x0_14 x1_14 x2_14 p0_14 p1_14 q0_14 q1_14 q2_14 g0_14 g1_14
  go_wp2_with fail
  refine (hHz _ _ _ hM15).mono ?_
  rintro e w16 ⟨rfl, hb16⟩
  have hB16 := hB15.trans (hb16.mono hB15.size)
  have x0_16 := ((bcell hb16).1 _ _ (World.block_lt_of_cell? _ _ x0_15)).trans x0_15
  have x1_16 := ((bcell hb16).1 _ _ (World.block_lt_of_cell? _ _ x1_15)).trans x1_15
  have x2_16 := ((bcell hb16).1 _ _ (World.block_lt_of_cell? _ _ x2_15)).trans x2_15
  have p0_16 := ((bcell hb16).1 _ _ (World.block_lt_of_cell? _ _ p0_15)).trans p0_15
  have p1_16 := ((bcell hb16).1 _ _ (World.block_lt_of_cell? _ _ p1_15)).trans p1_15
  have q0_16 := ((bcell hb16).1 _ _ (World.block_lt_of_cell? _ _ q0_15)).trans q0_15
  have q1_16 := ((bcell hb16).1 _ _ (World.block_lt_of_cell? _ _ q1_15)).trans q1_15
  have q2_16 := ((bcell hb16).1 _ _ (World.block_lt_of_cell? _ _ q2_15)).trans q2_15
  have g0_16 := ((bcell hb16).1 _ _ (World.block_lt_of_cell? _ _ g0_15)).trans g0_15
  have g1_16 := ((bcell hb16).1 _ _ (World.block_lt_of_cell? _ _ g1_15)).trans g1_15
  have hM16 := hM15.below hb16
  have hOw16 := hOw15.below hb16
  clear hb16 hM15 hOw15
  clear x0_15 x1_15 x2_15 p0_15 p1_15 q0_15 q1_15 q2_15 g0_15 g1_15
  go_wp2_with fail
  refine (hT _ (hv.below hB16)).mono ?_
  rintro e w17 ⟨v17, rfl, hO17, hb17⟩
  have hB17 := hB16.trans (hb17.mono hB16.size)
  have x0_17 := ((bcell hb17).1 _ _ (World.block_lt_of_cell? _ _ x0_16)).trans x0_16
  have x1_17 := ((bcell hb17).1 _ _ (World.block_lt_of_cell? _ _ x1_16)).trans x1_16
  have x2_17 := ((bcell hb17).1 _ _ (World.block_lt_of_cell? _ _ x2_16)).trans x2_16
  have p0_17 := ((bcell hb17).1 _ _ (World.block_lt_of_cell? _ _ p0_16)).trans p0_16
  have p1_17 := ((bcell hb17).1 _ _ (World.block_lt_of_cell? _ _ p1_16)).trans p1_16
  have q0_17 := ((bcell hb17).1 _ _ (World.block_lt_of_cell? _ _ q0_16)).trans q0_16
  have q1_17 := ((bcell hb17).1 _ _ (World.block_lt_of_cell? _ _ q1_16)).trans q1_16
  have q2_17 := ((bcell hb17).1 _ _ (World.block_lt_of_cell? _ _ q2_16)).trans q2_16
  have g0_17 := ((bcell hb17).1 _ _ (World.block_lt_of_cell? _ _ g0_16)).trans g0_16
  have g1_17 := ((bcell hb17).1 _ _ (World.block_lt_of_cell? _ _ g1_16)).trans g1_16
  have hA17 := hO17.rel
  have hM17 := hM16.below hb17
  have hOw17 := hOw16.below hb17
  clear hb17 hO17 hM16 hOw16
  clear x0_16 x1_16 x2_16 p0_16 p1_16 q0_16 q1_16 q2_16 g0_16 g1_16
  go_wp2_with fail
  refine (hI _ _ (hEnv.of_below hB17) hA17).mono ?_
  rintro e w18 ⟨vh, rfl, hOh, hb18⟩
  have hB18 := hB17.trans (hb18.mono hB17.size)
  have x0_18 := ((bcell hb18).1 _ _ (World.block_lt_of_cell? _ _ x0_17)).trans x0_17
  have x1_18 := ((bcell hb18).1 _ _ (World.block_lt_of_cell? _ _ x1_17)).trans x1_17
  have x2_18 := ((bcell hb18).1 _ _ (World.block_lt_of_cell? _ _ x2_17)).trans x2_17
  have p0_18 := ((bcell hb18).1 _ _ (World.block_lt_of_cell? _ _ p0_17)).trans p0_17
  have p1_18 := ((bcell hb18).1 _ _ (World.block_lt_of_cell? _ _ p1_17)).trans p1_17
  have q0_18 := ((bcell hb18).1 _ _ (World.block_lt_of_cell? _ _ q0_17)).trans q0_17
  have q1_18 := ((bcell hb18).1 _ _ (World.block_lt_of_cell? _ _ q1_17)).trans q1_17
  have q2_18 := ((bcell hb18).1 _ _ (World.block_lt_of_cell? _ _ q2_17)).trans q2_17
  have g0_18 := ((bcell hb18).1 _ _ (World.block_lt_of_cell? _ _ g0_17)).trans g0_17
  have g1_18 := ((bcell hb18).1 _ _ (World.block_lt_of_cell? _ _ g1_17)).trans g1_17
  have hM18 := hM17.below hb18
  have hOw18 := hOw17.below hb18
  obtain ⟨ah, ch, rfl, _⟩ := hOh.sl
  have hOh18 := hOh.upto
  clear hb18 hM17 hOw17 hA17 hOh
  clear x0_17 x1_17 x2_17 p0_17 p1_17 q0_17 q1_17 q2_17 g0_17 g1_17
  have hb19 : Below w18.heap.size w18 (w18.alloc (.cells #[.string zn, .slice ah es.length ch] 49)) := (Below.refl w18.heap.size w18).alloc (Nat.le_refl _) _
  have hB19 := hB18.trans (hb19.mono hB18.size)
  have x0_19 := ((bcell hb19).1 _ _ (World.block_lt_of_cell? _ _ x0_18)).trans x0_18
  have x1_19 := ((bcell hb19).1 _ _ (World.block_lt_of_cell? _ _ x1_18)).trans x1_18
  have x2_19 := ((bcell hb19).1 _ _ (World.block_lt_of_cell? _ _ x2_18)).trans x2_18
  have p0_19 := ((bcell hb19).1 _ _ (World.block_lt_of_cell? _ _ p0_18)).trans p0_18
  have p1_19 := ((bcell hb19).1 _ _ (World.block_lt_of_cell? _ _ p1_18)).trans p1_18
  have q0_19 := ((bcell hb19).1 _ _ (World.block_lt_of_cell? _ _ q0_18)).trans q0_18
  have q1_19 := ((bcell hb19).1 _ _ (World.block_lt_of_cell? _ _ q1_18)).trans q1_18
  have q2_19 := ((bcell hb19).1 _ _ (World.block_lt_of_cell? _ _ q2_18)).trans q2_18
  have g0_19 := ((bcell hb19).1 _ _ (World.block_lt_of_cell? _ _ g0_18)).trans g0_18
  have g1_19 := ((bcell hb19).1 _ _ (World.block_lt_of_cell? _ _ g1_18)).trans g1_18
  have h0_19 : (w18.alloc (.cells #[.string zn, .slice ah es.length ch] 49)).cell? ⟨w18.heap.size, 0, none⟩ = some (.string zn) := by simp [go_sem]
  have h1_19 : (w18.alloc (.cells #[.string zn, .slice ah es.length ch] 49)).cell? ⟨w18.heap.size, 1, none⟩ = some (.slice ah es.length ch) := by simp [go_sem]
  have hM19 := hM18.below hb19
  have hOw19 := hOw18.below hb19
  have hOh19 := hOh18.below hb19
  clear hb19 hM18 hOw18 hOh18 x0_18 x1_18 x2_18 p0_18 p1_18 q0_18 q1_18 q2_18 g0_18 g1_18
  go_wp2_with fail
  refine (hQ _ _ _ hOh19.sl hOw19.sl).mono ?_
  rintro e w20 ⟨rfl, hb20⟩
  have hB20 := hB19.trans (hb20.mono hB19.size)
  have x0_20 := ((bcell hb20).1 _ _ (World.block_lt_of_cell? _ _ x0_19)).trans x0_19
  have x1_20 := ((bcell hb20).1 _ _ (World.block_lt_of_cell? _ _ x1_19)).trans x1_19
  have x2_20 := ((bcell hb20).1 _ _ (World.block_lt_of_cell? _ _ x2_19)).trans x2_19
  have p0_20 := ((bcell hb20).1 _ _ (World.block_lt_of_cell? _ _ p0_19)).trans p0_19
  have p1_20 := ((bcell hb20).1 _ _ (World.block_lt_of_cell? _ _ p1_19)).trans p1_19
  have q0_20 := ((bcell hb20).1 _ _ (World.block_lt_of_cell? _ _ q0_19)).trans q0_19
  have q1_20 := ((bcell hb20).1 _ _ (World.block_lt_of_cell? _ _ q1_19)).trans q1_19
  have q2_20 := ((bcell hb20).1 _ _ (World.block_lt_of_cell? _ _ q2_19)).trans q2_19
  have g0_20 := ((bcell hb20).1 _ _ (World.block_lt_of_cell? _ _ g0_19)).trans g0_19
  have g1_20 := ((bcell hb20).1 _ _ (World.block_lt_of_cell? _ _ g1_19)).trans g1_19
  have h0_20 := ((bcell hb20).1 _ _ (World.block_lt_of_cell? _ _ h0_19)).trans h0_19
  have h1_20 := ((bcell hb20).1 _ _ (World.block_lt_of_cell? _ _ h1_19)).trans h1_19
  have hM20 := hM19.below hb20
  clear hb20 hM19 hOw19 hOh19
  clear x0_19 x1_19 x2_19 p0_19 p1_19 q0_19 q1_19 q2_19 g0_19 g1_19 h0_19 h1_19
  go_wp2_with fail
  refine (hHz _ _ _ hM20).mono ?_
  rintro e w21 ⟨rfl, hb21⟩
  have hB21 := hB20.trans (hb21.mono hB20.size)
  have x0_21 := ((bcell hb21).1 _ _ (World.block_lt_of_cell? _ _ x0_20)).trans x0_20
  have x1_21 := ((bcell hb21).1 _ _ (World.block_lt_of_cell? _ _ x1_20)).trans x1_20
  have x2_21 := ((bcell hb21).1 _ _ (World.block_lt_of_cell? _ _ x2_20)).trans x2_20
  have p0_21 := ((bcell hb21).1 _ _ (World.block_lt_of_cell? _ _ p0_20)).trans p0_20
  have p1_21 := ((bcell hb21).1 _ _ (World.block_lt_of_cell? _ _ p1_20)).trans p1_20
  have q0_21 := ((bcell hb21).1 _ _ (World.block_lt_of_cell? _ _ q0_20)).trans q0_20
  have q1_21 := ((bcell hb21).1 _ _ (World.block_lt_of_cell? _ _ q1_20)).trans q1_20
  have q2_21 := ((bcell hb21).1 _ _ (World.block_lt_of_cell? _ _ q2_20)).trans q2_20
  have g0_21 := ((bcell hb21).1 _ _ (World.block_lt_of_cell? _ _ g0_20)).trans g0_20
  have g1_21 := ((bcell hb21).1 _ _ (World.block_lt_of_cell? _ _ g1_20)).trans g1_20
  have h0_21 := ((bcell hb21).1 _ _ (World.block_lt_of_cell? _ _ h0_20)).trans h0_20
  have h1_21 := ((bcell hb21).1 _ _ (World.block_lt_of_cell? _ _ h1_20)).trans h1_20
  go_wp2
  go_ret
  exact ⟨rfl, hB21⟩
end Go.Proofs.YtjdokmllidhapaaGreatDoor.zoneOf
