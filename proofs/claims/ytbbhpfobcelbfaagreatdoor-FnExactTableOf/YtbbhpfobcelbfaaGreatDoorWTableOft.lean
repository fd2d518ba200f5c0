/- The walk of the law FnExactTableOf. -/
import Derived.Test.YtbbhpfobcelbfaaGreatDoorTs10t
import Derived.Deep.RegionHeld3
namespace Go.Proofs.YtbbhpfobcelbfaaGreatDoor.tableOf
open Go.RowKit

set_option maxRecDepth 20000 in
set_option maxHeartbeats 8000000 in
theorem walk (r : RelD) (v : Value) (nm : ByteArray) (w : World) (hv : RelAt w v r) (ok : r.ok) (hnm : nm.size ≤ maxLen) (hT : Tab w) (hMx : Mx w) :
    Calls Tryz.prog 6 #[v, .string nm] w fun e w' => e = .returned (.bool true) ∧ Below w.heap.size w w' := by
  have hEnv : EnvZ w := ⟨hT, hMx⟩
  have hnm0 := hnm
  unfold maxLen at hnm
  obtain ⟨a, b, c, ca, cb, cc, hvv, _, _, _⟩ := hv.form
  subst hvv
  have hB0 := (Below.refl w.heap.size w).alloc (Nat.le_refl _) (.cells #[.slice a r.rules.length ca, .slice b r.zones.length cb, .slice c r.links.length cc] 61)
  by_cases hlong : 1048576 < nm.size
  · go_enter Tryz.func6, Tryz.ntmps6
    go_wp2
    go_ret
    exact ⟨rfl, hB0⟩
  have hZ := fun w (h : RelAt w (.agg #[.slice a r.rules.length ca, .slice b r.zones.length cb, .slice c r.links.length cc]) r) => laws_szRelease r _ 1048576 w h ok (by omega) (by omega)
  by_cases g : 1048576 - (r.sz : Int) < 0
  · rw [clip_n g] at hZ
    go_enter Tryz.func6, Tryz.ntmps6
    go_wp2_with fail
    refine (hZ _ (hv.below hB0)).mono ?_
    rintro e w1 ⟨rfl, hb1⟩
    go_wp2
    go_ret
    exact ⟨rfl, hB0.trans (hb1.mono (by simp))⟩
  rw [clip_p (by omega)] at hZ
  have hsz : r.sz ≤ 1048576 := by omega
  obtain ⟨sm, hon⟩ := rel_small (r := r) hsz
  have hT := fun w (h : RelAt w (.agg #[.slice a r.rules.length ca, .slice b r.zones.length cb, .slice c r.links.length cc]) r) => laws_toRelease r _ w h sm
  obtain ⟨⟨cd, T⟩, hcd⟩ : ∃ x, tabD r nm = x := ⟨_, rfl⟩
  have hTl : T.length ≤ 600 := by have := tabD_len r nm; rw [hcd] at this; exact this
  have hS : ∀ v w, RelAt w v r → Calls Tryz.prog 15 #[v, .string nm] w fun e W' => ∃ v', e = .returned (.agg #[v', .int .i64 cd]) ∧ OwnsT W' w.heap.size v' T ∧ Below w.heap.size w W' := fun v w h => (spec_TableOf tabC r v nm w h ok sm hon hnm0).mono fun q W' hP => by have := hP.ex; rw [hcd] at this; exact this
  have hI : ∀ v w, EnvZ w → RelAt w v r → Calls Tryz.prog 14 #[v, .string nm] w fun e W' => ∃ v', e = .returned (.agg #[v', .int .i64 cd]) ∧ OwnsT W' w.heap.size v' T ∧ Below w.heap.size w W' := fun v w hE h => (impl_TableOf r v nm w hE h ok sm hon hnm0).mono fun q W' hP => by have := hP.ex; rw [hcd] at this; exact this
  have hE := fun v v2 w (h : RelAt w v r) (h2 : RelAt w v2 r) => laws_eqRelease r v v2 w h h2 sm
  have hMk := fun v B U w (h : OwnRelU w B U v r) hU => laws_markRelease r v B U w h hU hsz
  have hQ := fun a a2 c c2 w (h : SeqAt w a 4 (T.map TurnD.cs)) (h2 : SeqAt w a2 4 (T.map TurnD.cs)) => laws_eqTableOut T a a2 c c2 cd w h h2 (by omega)
  clear hcd
  have x0_0 : (w.alloc (.cells #[.slice a r.rules.length ca, .slice b r.zones.length cb, .slice c r.links.length cc] 61)).cell? ⟨w.heap.size, 0, none⟩ = some (.slice a r.rules.length ca) := by simp [go_sem]
  have x1_0 : (w.alloc (.cells #[.slice a r.rules.length ca, .slice b r.zones.length cb, .slice c r.links.length cc] 61)).cell? ⟨w.heap.size, 1, none⟩ = some (.slice b r.zones.length cb) := by simp [go_sem]
  have x2_0 : (w.alloc (.cells #[.slice a r.rules.length ca, .slice b r.zones.length cb, .slice c r.links.length cc] 61)).cell? ⟨w.heap.size, 2, none⟩ = some (.slice c r.links.length cc) := by simp [go_sem]
  have g' : ¬ (1048576 - (r.sz : Int) < 0) := g
  go_enter Tryz.func6, Tryz.ntmps6
  go_wp2_with fail
  refine (hZ _ (hv.below hB0)).mono ?_
  rintro e w1 ⟨rfl, hb1⟩
  have hB1 := hB0.trans (hb1.mono (by simp))
  have x0_1 := keepC hb1 x0_0
  have x1_1 := keepC hb1 x1_0
  have x2_1 := keepC hb1 x2_0
  generalize (r.sz : Int) = sz at *
  clear hb1 hZ
  clear x0_0 x1_0 x2_0
  go_wp2_with fail
  refine (hT _ (hv.below hB1)).mono ?_
  rintro e w2 ⟨v2, rfl, hO2, hb2⟩
  have hB2 := hB1.trans (hb2.mono hB1.size)
  have x0_2 := keepC hb2 x0_1
  have x1_2 := keepC hb2 x1_1
  have x2_2 := keepC hb2 x2_1
  have hA2 := hO2.rel
  clear hb2 hO2
  clear x0_1 x1_1 x2_1
  go_wp2_with fail
  refine (hS v2 _ hA2).mono ?_
  rintro e w3 ⟨vw, rfl, hOw, hb3⟩
  have hB3 := hB2.trans (hb3.mono hB2.size)
  have x0_3 := keepC hb3 x0_2
  have x1_3 := keepC hb3 x1_2
  have x2_3 := keepC hb3 x2_2
  obtain ⟨aw, cw, rfl, sw3⟩ := OwnsT.seq hOw
  have lw : ∀ g, (Value.slice aw T.length cw).ownBlock = some g → g < w3.heap.size := fun g hg => (World.ownsRow.lt hOw g hg).2
  have hwx : w.heap.size < w3.heap.size := World.block_lt_of_cell? _ _ x0_3
  clear hb3 hA2 hS hOw
  clear x0_2 x1_2 x2_2
  have hb4 : Below w3.heap.size w3 (w3.alloc (.cells #[.slice aw T.length cw, .int .i64 cd] 44)) := (Below.refl w3.heap.size w3).alloc (Nat.le_refl _) _
  have hB4 := hB3.trans (hb4.mono hB3.size)
  have x0_4 := keepC hb4 x0_3
  have x1_4 := keepC hb4 x1_3
  have x2_4 := keepC hb4 x2_3
  have p0_4 : (w3.alloc (.cells #[.slice aw T.length cw, .int .i64 cd] 44)).cell? ⟨w3.heap.size, 0, none⟩ = some (.slice aw T.length cw) := by simp [go_sem]
  have p1_4 : (w3.alloc (.cells #[.slice aw T.length cw, .int .i64 cd] 44)).cell? ⟨w3.heap.size, 1, none⟩ = some (.int .i64 cd) := by simp [go_sem]
  have hz4 : (w3.alloc (.cells #[.slice aw T.length cw, .int .i64 cd] 44)).heap.size = w3.heap.size + 1 := by simp
  clear x0_3 x1_3 x2_3
  have sw4 := sw3.below hb4
  clear hb4 sw3
  go_wp2_with fail
  refine (hT _ (hv.below hB4)).mono ?_
  rintro e w5 ⟨v5, rfl, hO5, hb5⟩
  have hB5 := hB4.trans (hb5.mono hB4.size)
  have x0_5 := keepC hb5 x0_4
  have x1_5 := keepC hb5 x1_4
  have x2_5 := keepC hb5 x2_4
  have p0_5 := keepC hb5 p0_4
  have p1_5 := keepC hb5 p1_4
  have sw5 := sw4.below hb5
  have hz5 : w3.heap.size + 1 ≤ w5.heap.size := by have := hb5.size; rw [hz4] at this; exact this
  have hA5 := hO5.rel
  rw [hz4] at hO5
  obtain ⟨g4, k4, l4, hv5, _, _, _, _⟩ := hO5.form
  subst hv5
  clear hb5 sw4 hz4
  clear x0_4 x1_4 x2_4 p0_4 p1_4
  have hb6 : Below w5.heap.size w5 (w5.alloc (.cells #[.slice (some ⟨g4, 0, none⟩) r.rules.length r.rules.length, .slice (some ⟨k4, 0, none⟩) r.zones.length r.zones.length, .slice (some ⟨l4, 0, none⟩) r.links.length r.links.length] 27)) := (Below.refl w5.heap.size w5).alloc (Nat.le_refl _) _
  have hB6 := hB5.trans (hb6.mono hB5.size)
  have x0_6 := keepC hb6 x0_5
  have x1_6 := keepC hb6 x1_5
  have x2_6 := keepC hb6 x2_5
  have p0_6 := keepC hb6 p0_5
  have p1_6 := keepC hb6 p1_5
  have q0_6 : (w5.alloc (.cells #[.slice (some ⟨g4, 0, none⟩) r.rules.length r.rules.length, .slice (some ⟨k4, 0, none⟩) r.zones.length r.zones.length, .slice (some ⟨l4, 0, none⟩) r.links.length r.links.length] 27)).cell? ⟨w5.heap.size, 0, none⟩ = some (.slice (some ⟨g4, 0, none⟩) r.rules.length r.rules.length) := by simp [go_sem]
  have q1_6 : (w5.alloc (.cells #[.slice (some ⟨g4, 0, none⟩) r.rules.length r.rules.length, .slice (some ⟨k4, 0, none⟩) r.zones.length r.zones.length, .slice (some ⟨l4, 0, none⟩) r.links.length r.links.length] 27)).cell? ⟨w5.heap.size, 1, none⟩ = some (.slice (some ⟨k4, 0, none⟩) r.zones.length r.zones.length) := by simp [go_sem]
  have q2_6 : (w5.alloc (.cells #[.slice (some ⟨g4, 0, none⟩) r.rules.length r.rules.length, .slice (some ⟨k4, 0, none⟩) r.zones.length r.zones.length, .slice (some ⟨l4, 0, none⟩) r.links.length r.links.length] 27)).cell? ⟨w5.heap.size, 2, none⟩ = some (.slice (some ⟨l4, 0, none⟩) r.links.length r.links.length) := by simp [go_sem]
  have hz6 : (w5.alloc (.cells #[.slice (some ⟨g4, 0, none⟩) r.rules.length r.rules.length, .slice (some ⟨k4, 0, none⟩) r.zones.length r.zones.length, .slice (some ⟨l4, 0, none⟩) r.links.length r.links.length] 27)).heap.size = w5.heap.size + 1 := by simp
  clear x0_5 x1_5 x2_5 p0_5 p1_5
  have hX6 := hO5.upto hb6
  have hA6 := hA5.below hb6
  have sw6 := sw5.below hb6
  clear hb6 hA5 hO5 sw5
  go_wp2_with fail
  refine (hI _ _ (hEnv.of_below hB6) hA6).mono ?_
  rintro e w7 ⟨vg, rfl, hG7, hb7⟩
  have hB7 := hB6.trans (hb7.mono hB6.size)
  have x0_7 := keepC hb7 x0_6
  have x1_7 := keepC hb7 x1_6
  have x2_7 := keepC hb7 x2_6
  have p0_7 := keepC hb7 p0_6
  have p1_7 := keepC hb7 p1_6
  have q0_7 := keepC hb7 q0_6
  have q1_7 := keepC hb7 q1_6
  have q2_7 := keepC hb7 q2_6
  rw [hz6] at hG7
  have hX7 := hX6.belowH hb7
  have hA7 := hA6.below hb7
  have sw7 := sw6.below hb7
  have hz7 : w5.heap.size < w7.heap.size := by have := hb7.size; rw [hz6] at this; omega
  obtain ⟨ag, cg, rfl, _⟩ := OwnsT.seq hG7
  have lg : ∀ g, (Value.slice ag T.length cg).ownBlock = some g → w5.heap.size + 1 ≤ g ∧ g < w7.heap.size := fun g hg => World.ownsRow.lt hG7 g hg
  clear hb7 hX6 hA6 sw6 hz6
  clear x0_6 x1_6 x2_6 p0_6 p1_6 q0_6 q1_6 q2_6
  have hb8 : Below w7.heap.size w7 (w7.alloc (.cells #[.slice ag T.length cg, .int .i64 cd] 44)) := (Below.refl w7.heap.size w7).alloc (Nat.le_refl _) _
  have hB8 := hB7.trans (hb8.mono hB7.size)
  have x0_8 := keepC hb8 x0_7
  have x1_8 := keepC hb8 x1_7
  have x2_8 := keepC hb8 x2_7
  have p0_8 := keepC hb8 p0_7
  have p1_8 := keepC hb8 p1_7
  have q0_8 := keepC hb8 q0_7
  have q1_8 := keepC hb8 q1_7
  have q2_8 := keepC hb8 q2_7
  have g0_8 : (w7.alloc (.cells #[.slice ag T.length cg, .int .i64 cd] 44)).cell? ⟨w7.heap.size, 0, none⟩ = some (.slice ag T.length cg) := by simp [go_sem]
  have g1_8 : (w7.alloc (.cells #[.slice ag T.length cg, .int .i64 cd] 44)).cell? ⟨w7.heap.size, 1, none⟩ = some (.int .i64 cd) := by simp [go_sem]
  have hz8 : (w7.alloc (.cells #[.slice ag T.length cg, .int .i64 cd] 44)).heap.size = w7.heap.size + 1 := by simp
  clear x0_7 x1_7 x2_7 p0_7 p1_7 q0_7 q1_7 q2_7
  have hX8 := hX7.belowH hb8
  have hA8 := hA7.below hb8
  have sw8 := sw7.below hb8
  have hG8 := owns_below hG7 hb8
  clear hb8 hX7 hA7 sw7 hG7
  obtain ⟨ag1, cg1, eg0, sg8⟩ := OwnsT.seq hG8
  injection eg0 with eg1 eg2 eg3
  subst eg1 eg3
  go_wp2_with fail
  refine (hQ _ _ _ _ _ sg8 sw8).mono ?_
  rintro e w9 ⟨rfl, hb9⟩
  have hB9 := hB8.trans (hb9.mono hB8.size)
  have x0_9 := keepC hb9 x0_8
  have x1_9 := keepC hb9 x1_8
  have x2_9 := keepC hb9 x2_8
  have p0_9 := keepC hb9 p0_8
  have p1_9 := keepC hb9 p1_8
  have q0_9 := keepC hb9 q0_8
  have q1_9 := keepC hb9 q1_8
  have q2_9 := keepC hb9 q2_8
  have g0_9 := keepC hb9 g0_8
  have g1_9 := keepC hb9 g1_8
  have hX9 := hX8.belowH hb9
  have hA9 := hA8.below hb9
  have sw9 := sw8.below hb9
  have hG9 := owns_below hG8 hb9
  have hz9 : w7.heap.size < w9.heap.size := by have := hb9.size; rw [hz8] at this; omega
  clear hb9 hX8 hA8 sw8 hG8 sg8 hz8
  clear x0_8 x1_8 x2_8 p0_8 p1_8 q0_8 q1_8 q2_8 g0_8 g1_8
  generalize hn7 : w7.heap.size = n7 at *
  generalize hn5 : w5.heap.size = n5 at *
  generalize hn3 : w3.heap.size = n3 at *
  have hD : Below w9.heap.size w9 w9.drew := ⟨rfl, rfl, rfl, Nat.le_refl _, fun _ _ => rfl⟩
  have hBD := hB9.trans (hD.mono hB9.size)
  have hX10 := hX9.belowH hD
  have hA10 := hA9.below hD
  have sw10 := sw9.below hD
  have hG10 := owns_below hG9 hD
  have x0_10 := keepC hD x0_9
  have x1_10 := keepC hD x1_9
  have x2_10 := keepC hD x2_9
  have p0_10 := keepC hD p0_9
  have p1_10 := keepC hD p1_9
  have q0_10 := keepC hD q0_9
  have q1_10 := keepC hD q1_9
  have q2_10 := keepC hD q2_9
  have g0_10 := keepC hD g0_9
  have g1_10 := keepC hD g1_9
  have hvD := hv.below hBD
  clear hX9 hA9 sw9 hG9
  go_wp2_with fail
  go_region_held3 (fun w' => w'.cell? ⟨n5, 0, none⟩ = some (.slice (some ⟨g4, 0, none⟩) r.rules.length r.rules.length) ∧ w'.cell? ⟨n5, 1, none⟩ = some (.slice (some ⟨k4, 0, none⟩) r.zones.length r.zones.length) ∧ w'.cell? ⟨n5, 2, none⟩ = some (.slice (some ⟨l4, 0, none⟩) r.links.length r.links.length) ∧ w'.cell? ⟨w.heap.size, 0, none⟩ = some (.slice a r.rules.length ca) ∧ w'.cell? ⟨w.heap.size, 1, none⟩ = some (.slice b r.zones.length cb) ∧ w'.cell? ⟨w.heap.size, 2, none⟩ = some (.slice c r.links.length cc)) (go_keep) (first | (go_at_call 21; refine (hT _ hvD).mono ?_; rintro e w11 ⟨v11, rfl, hO11, hb11⟩; have x0_11 := keepC hb11 x0_10; have x1_11 := keepC hb11 x1_10; have x2_11 := keepC hb11 x2_10; have p0_11 := keepC hb11 p0_10; have p1_11 := keepC hb11 p1_10; have q0_11 := keepC hb11 q0_10; have q1_11 := keepC hb11 q1_10; have q2_11 := keepC hb11 q2_10; have g0_11 := keepC hb11 g0_10; have g1_11 := keepC hb11 g1_10; have hA11 := hA10.below hb11; have hT11 := hO11.rel) | (go_at_call 23; refine (hE _ _ _ hA11 hT11).mono ?_; rintro e w12 ⟨rfl, hb12⟩; have x0_12 := keepC hb12 x0_11; have x1_12 := keepC hb12 x1_11; have x2_12 := keepC hb12 x2_11; have p0_12 := keepC hb12 p0_11; have p1_12 := keepC hb12 p1_11; have q0_12 := keepC hb12 q0_11; have q1_12 := keepC hb12 q1_11; have q2_12 := keepC hb12 q2_11; have g0_12 := keepC hb12 g0_11; have g1_12 := keepC hb12 g1_11; have hbE := hb11.trans (hb12.mono hb11.size)))
  have hB12 := hBD.trans (hbE.mono hBD.size)
  have hX12 := hX10.belowH hbE
  have sw12 := sw10.below hbE
  have hG12 := owns_below hG10 hbE
  have hz12 : n7 < w12.heap.size := Nat.lt_of_lt_of_le hz9 (Nat.le_trans hD.size hbE.size)
  clear hbE hb11 hb12 hD hBD hvD hX10 hA10 sw10 hG10 hA11 hT11 hO11 hz9 hE
  clear x0_9 x1_9 x2_9 p0_9 p1_9 q0_9 q1_9 q2_9 g0_9 g1_9
  clear x0_10 x1_10 x2_10 p0_10 p1_10 q0_10 q1_10 q2_10 g0_10 g1_10
  clear x0_11 x1_11 x2_11 p0_11 p1_11 q0_11 q1_11 q2_11 g0_11 g1_11
  go_wp2_with fail
  refine (hMk _ _ _ _ hX12 (by omega)).mono ?_
  rintro e w13 ⟨⟨K, rfl⟩, t13⟩
  have hB13 := t13.below (fun x hx => by have : n3 + 1 ≤ x ∧ x < n5 := hx; omega) hB12.size hB12
  have x0_13 := t13.cell (show ¬ (n3 + 1 ≤ w.heap.size ∧ w.heap.size < n5) by omega) x0_12
  have x1_13 := t13.cell (show ¬ (n3 + 1 ≤ w.heap.size ∧ w.heap.size < n5) by omega) x1_12
  have x2_13 := t13.cell (show ¬ (n3 + 1 ≤ w.heap.size ∧ w.heap.size < n5) by omega) x2_12
  have p0_13 := t13.cell (show ¬ (n3 + 1 ≤ n3 ∧ n3 < n5) by omega) p0_12
  have p1_13 := t13.cell (show ¬ (n3 + 1 ≤ n3 ∧ n3 < n5) by omega) p1_12
  have q0_13 := t13.cell (show ¬ (n3 + 1 ≤ n5 ∧ n5 < n5) by omega) q0_12
  have q1_13 := t13.cell (show ¬ (n3 + 1 ≤ n5 ∧ n5 < n5) by omega) q1_12
  have q2_13 := t13.cell (show ¬ (n3 + 1 ≤ n5 ∧ n5 < n5) by omega) q2_12
  have g0_13 := t13.cell (show ¬ (n3 + 1 ≤ n7 ∧ n7 < n5) by omega) g0_12
  have g1_13 := t13.cell (show ¬ (n3 + 1 ≤ n7 ∧ n7 < n5) by omega) g1_12
  have sw13 := sw12.touchH (n := T.length) (cap := cw) t13 (fun x hx => by show ¬ (n3 + 1 ≤ x ∧ x < n5); have := lw x hx; omega)
  have hG13 := owns_touch hG12 t13 (fun x hx => by show ¬ (n3 + 1 ≤ x ∧ x < n5); have := lg x hx; omega)
  clear t13 hX12 sw12 hG12 hMk hz12
  clear x0_12 x1_12 x2_12 p0_12 p1_12 q0_12 q1_12 q2_12 g0_12 g1_12
  obtain ⟨ag', cg', eg, sg13⟩ := OwnsT.seq hG13
  injection eg with eg1 eg2 eg3
  subst eg1 eg3
  go_wp2_with fail
  refine (hQ _ _ _ _ _ sg13 sw13).mono ?_
  rintro e w14 ⟨rfl, hb14⟩
  have hB14 := hB13.trans (hb14.mono hB13.size)
  have x0_14 := keepC hb14 x0_13
  have x1_14 := keepC hb14 x1_13
  have x2_14 := keepC hb14 x2_13
  have p0_14 := keepC hb14 p0_13
  have p1_14 := keepC hb14 p1_13
  have q0_14 := keepC hb14 q0_13
  have q1_14 := keepC hb14 q1_13
  have q2_14 := keepC hb14 q2_13
  have g0_14 := keepC hb14 g0_13
  have g1_14 := keepC hb14 g1_13
  have sw14 := sw13.below hb14
  have hG14 := owns_below hG13 hb14
  clear hb14 sw13 hG13 sg13
  clear x0_13 x1_13 x2_13 p0_13 p1_13 q0_13 q1_13 q2_13 g0_13 g1_13
  have hK := laws_markTableOut T _ cd _ 1 w14 hG14 (by omega) (by omega)
  have hHd := fun w h => laws_heldTableOut T.length cg 1 cd ag w h (by omega) (by omega)
  have hd3 : (0 : Int) ≤ ((1 + 4 * T.length : Nat) : Int) := by omega
  generalize hd4 : 1 + 4 * T.length = d3 at *
  clear hd4
  go_wp2_with fail
  refine hK.mono ?_
  rintro e w15 ⟨rfl, hsm, t15⟩
  obtain ⟨am, cm, em, sm15⟩ := hsm
  injection em with em1 em2 em3
  subst em1 em3
  have hB15 : Below w.heap.size w w15 := t15.below (fun b hb => by have := lg b hb; omega) hB14.size hB14
  have sw15 := sw14.touchH (n := T.length) (cap := cw) t15 (fun b hb hs => by have := lw b hb; have := lg b hs; omega)
  have x0_15 := t15.cell (fun hs => by have := lg _ hs; omega) x0_14
  have x1_15 := t15.cell (fun hs => by have := lg _ hs; omega) x1_14
  have x2_15 := t15.cell (fun hs => by have := lg _ hs; omega) x2_14
  have p0_15 := t15.cell (fun hs => by have := lg _ hs; omega) p0_14
  have p1_15 := t15.cell (fun hs => by have := lg _ hs; omega) p1_14
  have q0_15 := t15.cell (fun hs => by have := lg _ hs; omega) q0_14
  have q1_15 := t15.cell (fun hs => by have := lg _ hs; omega) q1_14
  have q2_15 := t15.cell (fun hs => by have := lg _ hs; omega) q2_14
  have g0_15 := t15.cell (fun hs => by have := lg _ hs; omega) g0_14
  have g1_15 := t15.cell (fun hs => by have := lg _ hs; omega) g1_14
  clear t15 sw14 hG14 hK
  clear x0_14 x1_14 x2_14 p0_14 p1_14 q0_14 q1_14 q2_14 g0_14 g1_14
  go_wp2_with fail
  refine (hHd _ sm15).mono ?_
  rintro e w16 ⟨rfl, hb16⟩
  have hB16 := hB15.trans (hb16.mono hB15.size)
  have x0_16 := keepC hb16 x0_15
  have x1_16 := keepC hb16 x1_15
  have x2_16 := keepC hb16 x2_15
  have p0_16 := keepC hb16 p0_15
  have p1_16 := keepC hb16 p1_15
  have q0_16 := keepC hb16 q0_15
  have q1_16 := keepC hb16 q1_15
  have q2_16 := keepC hb16 q2_15
  have g0_16 := keepC hb16 g0_15
  have g1_16 := keepC hb16 g1_15
  have sw16 := sw15.below hb16
  have sm16 := sm15.below hb16
  clear hb16 sw15 sm15
  clear x0_15 x1_15 x2_15 p0_15 p1_15 q0_15 q1_15 q2_15 g0_15 g1_15
  go_wp2_with fail
  refine (hT _ (hv.below hB16)).mono ?_
  rintro e w17 ⟨v17, rfl, hO17, hb17⟩
  have hB17 := hB16.trans (hb17.mono hB16.size)
  have x0_17 := keepC hb17 x0_16
  have x1_17 := keepC hb17 x1_16
  have x2_17 := keepC hb17 x2_16
  have p0_17 := keepC hb17 p0_16
  have p1_17 := keepC hb17 p1_16
  have q0_17 := keepC hb17 q0_16
  have q1_17 := keepC hb17 q1_16
  have q2_17 := keepC hb17 q2_16
  have g0_17 := keepC hb17 g0_16
  have g1_17 := keepC hb17 g1_16
  have hA17 := hO17.rel
  have sw17 := sw16.below hb17
  have sm17 := sm16.below hb17
  clear hb17 hO17 sw16 sm16
  clear x0_16 x1_16 x2_16 p0_16 p1_16 q0_16 q1_16 q2_16 g0_16 g1_16
  go_wp2_with fail
  refine (hI _ _ (hEnv.of_below hB17) hA17).mono ?_
  rintro e w18 ⟨vh, rfl, hH18, hb18⟩
  have hB18 := hB17.trans (hb18.mono hB17.size)
  have x0_18 := keepC hb18 x0_17
  have x1_18 := keepC hb18 x1_17
  have x2_18 := keepC hb18 x2_17
  have p0_18 := keepC hb18 p0_17
  have p1_18 := keepC hb18 p1_17
  have q0_18 := keepC hb18 q0_17
  have q1_18 := keepC hb18 q1_17
  have q2_18 := keepC hb18 q2_17
  have g0_18 := keepC hb18 g0_17
  have g1_18 := keepC hb18 g1_17
  have sw18 := sw17.below hb18
  have sm18 := sm17.below hb18
  obtain ⟨ah, ch, rfl, sh18⟩ := OwnsT.seq hH18
  clear hb18 sw17 sm17 hA17 hH18
  clear x0_17 x1_17 x2_17 p0_17 p1_17 q0_17 q1_17 q2_17 g0_17 g1_17
  have hb19 : Below w18.heap.size w18 (w18.alloc (.cells #[.slice ah T.length ch, .int .i64 cd] 44)) := (Below.refl w18.heap.size w18).alloc (Nat.le_refl _) _
  have hB19 := hB18.trans (hb19.mono hB18.size)
  have x0_19 := keepC hb19 x0_18
  have x1_19 := keepC hb19 x1_18
  have x2_19 := keepC hb19 x2_18
  have p0_19 := keepC hb19 p0_18
  have p1_19 := keepC hb19 p1_18
  have q0_19 := keepC hb19 q0_18
  have q1_19 := keepC hb19 q1_18
  have q2_19 := keepC hb19 q2_18
  have g0_19 := keepC hb19 g0_18
  have g1_19 := keepC hb19 g1_18
  have h0_19 : (w18.alloc (.cells #[.slice ah T.length ch, .int .i64 cd] 44)).cell? ⟨w18.heap.size, 0, none⟩ = some (.slice ah T.length ch) := by simp [go_sem]
  have h1_19 : (w18.alloc (.cells #[.slice ah T.length ch, .int .i64 cd] 44)).cell? ⟨w18.heap.size, 1, none⟩ = some (.int .i64 cd) := by simp [go_sem]
  have hz19 : (w18.alloc (.cells #[.slice ah T.length ch, .int .i64 cd] 44)).heap.size = w18.heap.size + 1 := by simp
  clear x0_18 x1_18 x2_18 p0_18 p1_18 q0_18 q1_18 q2_18 g0_18 g1_18
  have sw19 := sw18.below hb19
  have sm19 := sm18.below hb19
  have sh19 := sh18.below hb19
  clear hb19 sw18 sm18 sh18
  go_wp2_with fail
  refine (hQ _ _ _ _ _ sh19 sw19).mono ?_
  rintro e w20 ⟨rfl, hb20⟩
  have hB20 := hB19.trans (hb20.mono hB19.size)
  have x0_20 := keepC hb20 x0_19
  have x1_20 := keepC hb20 x1_19
  have x2_20 := keepC hb20 x2_19
  have p0_20 := keepC hb20 p0_19
  have p1_20 := keepC hb20 p1_19
  have q0_20 := keepC hb20 q0_19
  have q1_20 := keepC hb20 q1_19
  have q2_20 := keepC hb20 q2_19
  have g0_20 := keepC hb20 g0_19
  have g1_20 := keepC hb20 g1_19
  have h0_20 := keepC hb20 h0_19
  have h1_20 := keepC hb20 h1_19
  have sm20 := sm19.below hb20
  clear hb20 sw19 sm19 sh19
  clear x0_19 x1_19 x2_19 p0_19 p1_19 q0_19 q1_19 q2_19 g0_19 g1_19 h0_19 h1_19
  go_wp2_with fail
  refine (hHd _ sm20).mono ?_
  rintro e w21 ⟨rfl, hb21⟩
  have hB21 := hB20.trans (hb21.mono hB20.size)
  have x0_21 := keepC hb21 x0_20
  have x1_21 := keepC hb21 x1_20
  have x2_21 := keepC hb21 x2_20
  have p0_21 := keepC hb21 p0_20
  have p1_21 := keepC hb21 p1_20
  have q0_21 := keepC hb21 q0_20
  have q1_21 := keepC hb21 q1_20
  have q2_21 := keepC hb21 q2_20
  have g0_21 := keepC hb21 g0_20
  have g1_21 := keepC hb21 g1_20
  have h0_21 := keepC hb21 h0_20
  have h1_21 := keepC hb21 h1_20
  go_wp2
  go_ret
  exact ⟨rfl, hB21⟩
end Go.Proofs.YtbbhpfobcelbfaaGreatDoor.tableOf
