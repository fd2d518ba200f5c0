/- The walk of the law FnExactHapsOf. -/
import Derived.Test.YtbbhpfobcelbfaaGreatDoorHp20q
import Derived.Deep.RegionHeld3
namespace Go.Proofs.YtbbhpfobcelbfaaGreatDoor.hapsOf
open Go.RowKit

set_option maxRecDepth 20000 in
set_option maxHeartbeats 8000000 in
theorem walk (r : RelD) (v : Value) (nm : ByteArray) (off : Int) (w : World) (hv : RelAt w v r) (ok : r.ok) (hnm : nm.size ≤ maxLen) (hT : Tab w) (hMx : Mx w) :
    Calls Tryz.prog 5 #[v, .string nm, .int .i64 off] w fun e w' => e = .returned (.bool true) ∧ Below w.heap.size w w' := by
  have hEnv : EnvZ w := ⟨hT, hMx⟩
  have hnm0 := hnm
  unfold maxLen at hnm
  obtain ⟨a, b, c, ca, cb, cc, hvv, _, _, _⟩ := hv.form
  subst hvv
  have hB0 := (Below.refl w.heap.size w).alloc (Nat.le_refl _) (.cells #[.slice a r.rules.length ca, .slice b r.zones.length cb, .slice c r.links.length cc] 61)
  by_cases hlong : 1048576 < nm.size
  · go_enter Tryz.func5, Tryz.ntmps5
    go_wp2
    go_ret
    exact ⟨rfl, hB0⟩
  have hZ := fun w (h : RelAt w (.agg #[.slice a r.rules.length ca, .slice b r.zones.length cb, .slice c r.links.length cc]) r) => laws_szRelease r _ 1048576 w h ok (by omega) (by omega)
  by_cases g : 1048576 - (r.sz : Int) < 0
  · rw [clip_n g] at hZ
    go_enter Tryz.func5, Tryz.ntmps5
    go_wp2_with fail
    refine (hZ _ (hv.below hB0)).mono ?_
    rintro e w1 ⟨rfl, hb1⟩
    go_wp2
    go_ret
    exact ⟨rfl, hB0.trans (hb1.mono (by simp))⟩
  rw [clip_p (by omega)] at hZ
  have hsz : r.sz ≤ 1048576 := by omega
  obtain ⟨sm, hon⟩ := rel_small (r := r) hsz
  have hT := fun w (h : RelAt w (.agg #[.slice a r.rules.length ca, .slice b r.zones.length cb, .slice c r.links.length cc]) r) => laws_toRelease r _ w h sm
  have hS := fun v w (h : RelAt w v r) => spec_HapsOf r v nm off w h ok sm hon hnm0
  have hE := fun v v2 w (h : RelAt w v r) (h2 : RelAt w v2 r) => laws_eqRelease r v v2 w h h2 sm
  have hMk := fun v B U w (h : OwnRelU w B U v r) hU => laws_markRelease r v B U w h hU hsz
  have x0_0 : (w.alloc (.cells #[.slice a r.rules.length ca, .slice b r.zones.length cb, .slice c r.links.length cc] 61)).cell? ⟨w.heap.size, 0, none⟩ = some (.slice a r.rules.length ca) := by simp [go_sem]
  have x1_0 : (w.alloc (.cells #[.slice a r.rules.length ca, .slice b r.zones.length cb, .slice c r.links.length cc] 61)).cell? ⟨w.heap.size, 1, none⟩ = some (.slice b r.zones.length cb) := by simp [go_sem]
  have x2_0 : (w.alloc (.cells #[.slice a r.rules.length ca, .slice b r.zones.length cb, .slice c r.links.length cc] 61)).cell? ⟨w.heap.size, 2, none⟩ = some (.slice c r.links.length cc) := by simp [go_sem]
  have g' : ¬ (1048576 - (r.sz : Int) < 0) := g
  go_enter Tryz.func5, Tryz.ntmps5
  go_wp2_with fail
  refine (hZ _ (hv.below hB0)).mono ?_
  rintro e w1 ⟨rfl, hb1⟩
  have hB1 := hB0.trans (hb1.mono (by simp))
  have x0_1 := keepC hb1 x0_0
  have x1_1 := keepC hb1 x1_0
  have x2_1 := keepC hb1 x2_0
  generalize (r.sz : Int) = sz at *
  clear hb1 hZ
  clear x0_0 x1_0 x2_0
  go_wp2_with fail
  refine (hT _ (hv.below hB1)).mono ?_
  rintro e w2 ⟨v2, rfl, hO2, hb2⟩
  have hB2 := hB1.trans (hb2.mono hB1.size)
  have x0_2 := keepC hb2 x0_1
  have x1_2 := keepC hb2 x1_1
  have x2_2 := keepC hb2 x2_1
  have hA2 := hO2.rel
  clear hb2 hO2
  clear x0_1 x1_1 x2_1
  go_wp2_with fail
  refine (hS v2 _ hA2).mono ?_
  rintro e w3 ⟨vw, H, rfl, hOw, hHF, hb3⟩
  have hB3 := hB2.trans (hb3.mono hB2.size)
  have x0_3 := keepC hb3 x0_2
  have x1_3 := keepC hb3 x1_2
  have x2_3 := keepC hb3 x2_2
  have hI := fun v w hE (h : RelAt w v r) => impl_HapsOn r v nm off w hE h ok sm hon hnm0 hHF
  obtain ⟨aw, cw, rfl, sw3⟩ := hOw.seq
  have lw : ∀ g, (Value.slice aw H.length cw).ownBlock = some g → g < w3.heap.size := fun g hg => (hOw.lt g hg).2
  have hwx : w.heap.size < w3.heap.size := World.block_lt_of_cell? _ _ x0_3
  clear hb3 hA2 hS hOw hHF
  clear x0_2 x1_2 x2_2
  go_wp2_with fail
  refine (hT _ (hv.below hB3)).mono ?_
  rintro e w5 ⟨v5, rfl, hO5, hb5⟩
  have hB5 := hB3.trans (hb5.mono hB3.size)
  have x0_5 := keepC hb5 x0_3
  have x1_5 := keepC hb5 x1_3
  have x2_5 := keepC hb5 x2_3
  have sw5 := sw3.below hb5
  have hz5 : w3.heap.size ≤ w5.heap.size := hb5.size
  have hA5 := hO5.rel
  obtain ⟨g4, k4, l4, hv5, _, _, _, _⟩ := hO5.form
  subst hv5
  clear hb5 sw3
  clear x0_3 x1_3 x2_3
  have hb6 : Below w5.heap.size w5 (w5.alloc (.cells #[.slice (some ⟨g4, 0, none⟩) r.rules.length r.rules.length, .slice (some ⟨k4, 0, none⟩) r.zones.length r.zones.length, .slice (some ⟨l4, 0, none⟩) r.links.length r.links.length] 27)) := (Below.refl w5.heap.size w5).alloc (Nat.le_refl _) _
  have hB6 := hB5.trans (hb6.mono hB5.size)
  have x0_6 := keepC hb6 x0_5
  have x1_6 := keepC hb6 x1_5
  have x2_6 := keepC hb6 x2_5
  have q0_6 : (w5.alloc (.cells #[.slice (some ⟨g4, 0, none⟩) r.rules.length r.rules.length, .slice (some ⟨k4, 0, none⟩) r.zones.length r.zones.length, .slice (some ⟨l4, 0, none⟩) r.links.length r.links.length] 27)).cell? ⟨w5.heap.size, 0, none⟩ = some (.slice (some ⟨g4, 0, none⟩) r.rules.length r.rules.length) := by simp [go_sem]
  have q1_6 : (w5.alloc (.cells #[.slice (some ⟨g4, 0, none⟩) r.rules.length r.rules.length, .slice (some ⟨k4, 0, none⟩) r.zones.length r.zones.length, .slice (some ⟨l4, 0, none⟩) r.links.length r.links.length] 27)).cell? ⟨w5.heap.size, 1, none⟩ = some (.slice (some ⟨k4, 0, none⟩) r.zones.length r.zones.length) := by simp [go_sem]
  have q2_6 : (w5.alloc (.cells #[.slice (some ⟨g4, 0, none⟩) r.rules.length r.rules.length, .slice (some ⟨k4, 0, none⟩) r.zones.length r.zones.length, .slice (some ⟨l4, 0, none⟩) r.links.length r.links.length] 27)).cell? ⟨w5.heap.size, 2, none⟩ = some (.slice (some ⟨l4, 0, none⟩) r.links.length r.links.length) := by simp [go_sem]
  clear x0_5 x1_5 x2_5
  have hX6 := hO5.upto hb6
  have hA6 := hA5.below hb6
  have sw6 := sw5.below hb6
  have hz6 : (w5.alloc (.cells #[.slice (some ⟨g4, 0, none⟩) r.rules.length r.rules.length, .slice (some ⟨k4, 0, none⟩) r.zones.length r.zones.length, .slice (some ⟨l4, 0, none⟩) r.links.length r.links.length] 27)).heap.size = w5.heap.size + 1 := by simp
  clear hb6 hA5 hO5 sw5
  go_wp2_with fail
  refine (hI _ _ (hEnv.of_below hB6) hA6).mono ?_
  rintro e w7 ⟨vg, rfl, hG7, hlen, hb7⟩
  have hB7 := hB6.trans (hb7.mono hB6.size)
  have x0_7 := keepC hb7 x0_6
  have x1_7 := keepC hb7 x1_6
  have x2_7 := keepC hb7 x2_6
  have q0_7 := keepC hb7 q0_6
  have q1_7 := keepC hb7 q1_6
  have q2_7 := keepC hb7 q2_6
  rw [hz6] at hG7
  have hX7 := hX6.belowH hb7
  have hA7 := hA6.below hb7
  have sw7 := sw6.below hb7
  have hz7 : w5.heap.size < w7.heap.size := by have := hb7.size; rw [hz6] at this; omega
  obtain ⟨ag, cg, rfl, sg7⟩ := hG7.seq
  have lg : ∀ g, (Value.slice ag H.length cg).ownBlock = some g → w5.heap.size + 1 ≤ g := fun g hg => (hG7.lt g hg).1
  have hQ := fun a a2 c c2 w (h : SeqAt w a 3 (H.map HapD.cs)) (h2 : SeqAt w a2 3 (H.map HapD.cs)) => laws_eqHapS H a a2 c c2 w h h2 (by omega)
  clear hb7 hX6 hA6 sw6 hz6
  clear x0_6 x1_6 x2_6 q0_6 q1_6 q2_6
  go_wp2_with fail
  refine (hQ _ _ _ _ _ sg7 sw7).mono ?_
  rintro e w9 ⟨rfl, hb9⟩
  have hB9 := hB7.trans (hb9.mono hB7.size)
  have x0_9 := keepC hb9 x0_7
  have x1_9 := keepC hb9 x1_7
  have x2_9 := keepC hb9 x2_7
  have q0_9 := keepC hb9 q0_7
  have q1_9 := keepC hb9 q1_7
  have q2_9 := keepC hb9 q2_7
  have hX9 := hX7.belowH hb9
  have hA9 := hA7.below hb9
  have sw9 := sw7.below hb9
  have hG9 := owns_below hG7 hb9
  have hz9 : w5.heap.size < w9.heap.size := Nat.lt_of_lt_of_le hz7 hb9.size
  clear hb9 hX7 hA7 sw7 hG7 sg7 hz7
  clear x0_7 x1_7 x2_7 q0_7 q1_7 q2_7
  generalize hn5 : w5.heap.size = n5 at *
  generalize hn3 : w3.heap.size = n3 at *
  have hD : Below w9.heap.size w9 w9.drew := ⟨rfl, rfl, rfl, Nat.le_refl _, fun _ _ => rfl⟩
  have hBD := hB9.trans (hD.mono hB9.size)
  have hX10 := hX9.belowH hD
  have hA10 := hA9.below hD
  have sw10 := sw9.below hD
  have hG10 := owns_below hG9 hD
  have x0_10 := keepC hD x0_9
  have x1_10 := keepC hD x1_9
  have x2_10 := keepC hD x2_9
  have q0_10 := keepC hD q0_9
  have q1_10 := keepC hD q1_9
  have q2_10 := keepC hD q2_9
  have hvD := hv.below hBD
  clear hX9 hA9 sw9 hG9
  go_wp2_with fail
  go_region_held3 (fun w' => w'.cell? ⟨n5, 0, none⟩ = some (.slice (some ⟨g4, 0, none⟩) r.rules.length r.rules.length) ∧ w'.cell? ⟨n5, 1, none⟩ = some (.slice (some ⟨k4, 0, none⟩) r.zones.length r.zones.length) ∧ w'.cell? ⟨n5, 2, none⟩ = some (.slice (some ⟨l4, 0, none⟩) r.links.length r.links.length) ∧ w'.cell? ⟨w.heap.size, 0, none⟩ = some (.slice a r.rules.length ca) ∧ w'.cell? ⟨w.heap.size, 1, none⟩ = some (.slice b r.zones.length cb) ∧ w'.cell? ⟨w.heap.size, 2, none⟩ = some (.slice c r.links.length cc)) (go_keep) (first | (go_at_call 21; refine (hT _ hvD).mono ?_; rintro e w11 ⟨v11, rfl, hO11, hb11⟩; have x0_11 := keepC hb11 x0_10; have x1_11 := keepC hb11 x1_10; have x2_11 := keepC hb11 x2_10; have q0_11 := keepC hb11 q0_10; have q1_11 := keepC hb11 q1_10; have q2_11 := keepC hb11 q2_10; have hA11 := hA10.below hb11; have hT11 := hO11.rel) | (go_at_call 23; refine (hE _ _ _ hA11 hT11).mono ?_; rintro e w12 ⟨rfl, hb12⟩; have x0_12 := keepC hb12 x0_11; have x1_12 := keepC hb12 x1_11; have x2_12 := keepC hb12 x2_11; have q0_12 := keepC hb12 q0_11; have q1_12 := keepC hb12 q1_11; have q2_12 := keepC hb12 q2_11; have hbE := hb11.trans (hb12.mono hb11.size)))
  have hB12 := hBD.trans (hbE.mono hBD.size)
  have hX12 := hX10.belowH hbE
  have sw12 := sw10.below hbE
  have hG12 := owns_below hG10 hbE
  have hz12 : n5 < w12.heap.size := Nat.lt_of_lt_of_le hz9 (Nat.le_trans hD.size hbE.size)
  clear hbE hb11 hb12 hD hBD hvD hX10 hA10 sw10 hG10 hA11 hT11 hO11 hz9 hE
  clear x0_9 x1_9 x2_9 q0_9 q1_9 q2_9
  clear x0_10 x1_10 x2_10 q0_10 q1_10 q2_10
  clear x0_11 x1_11 x2_11 q0_11 q1_11 q2_11
  go_wp2_with fail
  refine (hMk _ _ _ _ hX12 (by omega)).mono ?_
  rintro e w13 ⟨⟨K, rfl⟩, t13⟩
  have hB13 := t13.below (fun x hx => by have : n3 ≤ x ∧ x < n5 := hx; omega) hB12.size hB12
  have x0_13 := t13.cell (show ¬ (n3 ≤ w.heap.size ∧ w.heap.size < n5) by omega) x0_12
  have x1_13 := t13.cell (show ¬ (n3 ≤ w.heap.size ∧ w.heap.size < n5) by omega) x1_12
  have x2_13 := t13.cell (show ¬ (n3 ≤ w.heap.size ∧ w.heap.size < n5) by omega) x2_12
  have q0_13 := t13.cell (show ¬ (n3 ≤ n5 ∧ n5 < n5) by omega) q0_12
  have q1_13 := t13.cell (show ¬ (n3 ≤ n5 ∧ n5 < n5) by omega) q1_12
  have q2_13 := t13.cell (show ¬ (n3 ≤ n5 ∧ n5 < n5) by omega) q2_12
  have sw13 := sw12.touchH (n := H.length) (cap := cw) t13 (fun x hx => by show ¬ (n3 ≤ x ∧ x < n5); have := lw x hx; omega)
  have hG13 := owns_touch hG12 t13 (fun x hx => by show ¬ (n3 ≤ x ∧ x < n5); have := lg x hx; omega)
  clear t13 hX12 sw12 hG12 hMk hz12
  clear x0_12 x1_12 x2_12 q0_12 q1_12 q2_12
  obtain ⟨ag', cg', eg, sg13⟩ := OwnsH.seq hG13
  injection eg with eg1 eg2 eg3
  subst eg1 eg3
  go_wp2_with fail
  refine (hQ _ _ _ _ _ sg13 sw13).mono ?_
  rintro e w14 ⟨rfl, hb14⟩
  have hB14 := hB13.trans (hb14.mono hB13.size)
  have x0_14 := keepC hb14 x0_13
  have x1_14 := keepC hb14 x1_13
  have x2_14 := keepC hb14 x2_13
  have q0_14 := keepC hb14 q0_13
  have q1_14 := keepC hb14 q1_13
  have q2_14 := keepC hb14 q2_13
  have sw14 := sw13.below hb14
  have hG14 := owns_below hG13 hb14
  clear hb14 sw13 hG13 sg13
  clear x0_13 x1_13 x2_13 q0_13 q1_13 q2_13
  have hK := mark_haps H _ _ 1 w14 hG14 (by omega) (by omega)
  have hHd := fun w h => laws_heldHapS H.length cg 1 ag w h (by omega) (by omega)
  have hd3 : (0 : Int) ≤ ((1 + 3 * H.length : Nat) : Int) := by omega
  generalize hd4 : 1 + 3 * H.length = d3 at *
  clear hd4
  go_wp2_with fail
  refine hK.mono ?_
  rintro e w15 ⟨rfl, hsm, t15⟩
  obtain ⟨am, cm, em, sm15⟩ := hsm
  injection em with em1 em2 em3
  subst em1 em3
  have hB15 : Below w.heap.size w w15 := t15.below (fun b hb => by have := lg b hb; omega) hB14.size hB14
  have sw15 := sw14.touchH (n := H.length) (cap := cw) t15 (fun b hb hs => by have := lw b hb; have := lg b hs; omega)
  have x0_15 := t15.cell (fun hs => by have := lg _ hs; omega) x0_14
  have x1_15 := t15.cell (fun hs => by have := lg _ hs; omega) x1_14
  have x2_15 := t15.cell (fun hs => by have := lg _ hs; omega) x2_14
  have q0_15 := t15.cell (fun hs => by have := lg _ hs; omega) q0_14
  have q1_15 := t15.cell (fun hs => by have := lg _ hs; omega) q1_14
  have q2_15 := t15.cell (fun hs => by have := lg _ hs; omega) q2_14
  clear t15 sw14 hG14 hK
  clear x0_14 x1_14 x2_14 q0_14 q1_14 q2_14
  go_wp2_with fail
  refine (hHd _ sm15).mono ?_
  rintro e w16 ⟨rfl, hb16⟩
  have hB16 := hB15.trans (hb16.mono hB15.size)
  have x0_16 := keepC hb16 x0_15
  have x1_16 := keepC hb16 x1_15
  have x2_16 := keepC hb16 x2_15
  have q0_16 := keepC hb16 q0_15
  have q1_16 := keepC hb16 q1_15
  have q2_16 := keepC hb16 q2_15
  have sw16 := sw15.below hb16
  have sm16 := sm15.below hb16
  clear hb16 sw15 sm15
  clear x0_15 x1_15 x2_15 q0_15 q1_15 q2_15
  go_wp2_with fail
  refine (hT _ (hv.below hB16)).mono ?_
  rintro e w17 ⟨v17, rfl, hO17, hb17⟩
  have hB17 := hB16.trans (hb17.mono hB16.size)
  have x0_17 := keepC hb17 x0_16
  have x1_17 := keepC hb17 x1_16
  have x2_17 := keepC hb17 x2_16
  have q0_17 := keepC hb17 q0_16
  have q1_17 := keepC hb17 q1_16
  have q2_17 := keepC hb17 q2_16
  have hA17 := hO17.rel
  have sw17 := sw16.below hb17
  have sm17 := sm16.below hb17
  clear hb17 hO17 sw16 sm16
  clear x0_16 x1_16 x2_16 q0_16 q1_16 q2_16
  go_wp2_with fail
  refine (hI _ _ (hEnv.of_below hB17) hA17).mono ?_
  rintro e w18 ⟨vh, rfl, hH18, _hl, hb18⟩
  have hB18 := hB17.trans (hb18.mono hB17.size)
  have x0_18 := keepC hb18 x0_17
  have x1_18 := keepC hb18 x1_17
  have x2_18 := keepC hb18 x2_17
  have q0_18 := keepC hb18 q0_17
  have q1_18 := keepC hb18 q1_17
  have q2_18 := keepC hb18 q2_17
  have sw18 := sw17.below hb18
  have sm18 := sm17.below hb18
  obtain ⟨ah, ch, rfl, sh18⟩ := hH18.seq
  clear hb18 sw17 sm17 hA17 hH18
  clear x0_17 x1_17 x2_17 q0_17 q1_17 q2_17
  go_wp2_with fail
  refine (hQ _ _ _ _ _ sh18 sw18).mono ?_
  rintro e w20 ⟨rfl, hb20⟩
  have hB20 := hB18.trans (hb20.mono hB18.size)
  have x0_20 := keepC hb20 x0_18
  have x1_20 := keepC hb20 x1_18
  have x2_20 := keepC hb20 x2_18
  have q0_20 := keepC hb20 q0_18
  have q1_20 := keepC hb20 q1_18
  have q2_20 := keepC hb20 q2_18
  have sm20 := sm18.below hb20
  clear hb20 sw18 sm18 sh18
  clear x0_18 x1_18 x2_18 q0_18 q1_18 q2_18
  go_wp2_with fail
  refine (hHd _ sm20).mono ?_
  rintro e w21 ⟨rfl, hb21⟩
  have hB21 := hB20.trans (hb21.mono hB20.size)
  have x0_21 := keepC hb21 x0_20
  have x1_21 := keepC hb21 x1_20
  have x2_21 := keepC hb21 x2_20
  have q0_21 := keepC hb21 q0_20
  have q1_21 := keepC hb21 q1_20
  have q2_21 := keepC hb21 q2_20
  go_wp2
  go_ret
  exact ⟨rfl, hB21⟩
end Go.Proofs.YtbbhpfobcelbfaaGreatDoor.hapsOf
