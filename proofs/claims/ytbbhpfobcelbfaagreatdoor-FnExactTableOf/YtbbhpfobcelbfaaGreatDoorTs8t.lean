/- The table of a zone: the model's l03Of and TableOf, of any arguments, where l03Table keeps its contract. -/
import Derived.Test.YtbbhpfobcelbfaaGreatDoorTs6t
import Derived.Deep.RegionWith
import Derived.BigRegion
import Derived.Deep.RegionHeld3
namespace Go.Proofs.YtbbhpfobcelbfaaGreatDoor
open Go.RowKit Go.Sort

/-- what l03Table is asked to keep. -/
structure TabC : Prop where
  go : ∀ (r : RelD) (zn : ByteArray) (E : List EraD) (ae : Option Addr) (ce : Nat) (a b0 c : Option Addr) (ca cb cc : Nat) (w : World), RelAt w (.agg #[.slice a r.rules.length ca, .slice b0 r.zones.length cb, .slice c r.links.length cc]) r → SeqAt w ae 6 (E.map EraD.cs) → (∀ x ∈ r.rules, ruleB x = true) → r.rules.length ≤ 40 → (∀ x ∈ r.rules, x.on.size ≤ 1048576) → (∀ e ∈ E, EraR e) → E.length ≤ 8 → UntE E → Calls Tryz.prog 101 #[.agg #[.slice a r.rules.length ca, .slice b0 r.zones.length cb, .slice c r.links.length cc], .agg #[.string zn, .slice ae E.length ce]] w fun q W' => TabSP r E w q W'
theorem tabP_ok {r : RelD} {nm : ByteArray} {w w1 : World} {a7 : Option Addr} {m7 d7 B : Nat} {T : List TurnD} (h : tabD r nm = (0, T)) (hO : OwnsT w1 B (.slice a7 m7 d7) T) (hs : w.heap.size + 1 < B) (hB : Below w.heap.size w w1) : TabP r nm w (.returned (.agg #[.slice a7 m7 d7, .int .i64 0])) ((w1.setCell ⟨w.heap.size + 1, 0, none⟩ (.slice a7 m7 d7)).setCell ⟨w.heap.size + 1, 1, none⟩ (.int .i64 0)) := by
  have hloc : ∀ g, (Value.slice a7 m7 d7).ownBlock = some g → B ≤ g := fun g hg => (World.ownsRow.lt hO g hg).1
  exact ⟨.slice a7 m7 d7, by rw [h], by
    rw [h]
    exact kept_sets (kept_sets (owns_mono hO (by omega)) (fun e => by have := hloc _ e; omega)) (fun e => by have := hloc _ e; omega), (hB.setCell (show w.heap.size ≤ w.heap.size + 1 by omega) _).setCell (show w.heap.size ≤ w.heap.size + 1 by omega) _⟩
set_option maxRecDepth 20000 in
set_option maxHeartbeats 8000000 in
theorem spec_l03Of (hTab : TabC) (r : RelD) (v : Value) (nm : ByteArray) (w : World) (hv : RelAt w v r) (sm : r.small) (hon : ∀ x ∈ r.rules, x.on.size ≤ 1048576) (h1 : nm.size ≤ 8000) (h2 : relB r = true) :
    Calls Tryz.prog 46 #[v, .string nm] w fun q W' => TabP r nm w q W' := by
  obtain ⟨a, b, c, ca, cb, cc, rfl, hA, hAb, hAc⟩ := hv.form
  have hv : RelAt w (.agg #[.slice a r.rules.length ca, .slice b r.zones.length cb, .slice c r.links.length cc]) r := ⟨⟨a, b, c, ca, cb, cc, rfl, hA, hAb, hAc⟩⟩
  have hB0 := ((Below.refl w.heap.size w).alloc (Nat.le_refl _) (.cells #[.slice a r.rules.length ca, .slice b r.zones.length cb, .slice c r.links.length cc] 27)).alloc (by simp) (.cells #[.slice none 0 0, .int .i64 0] 44)
  have x0_0 : ((w.alloc (.cells #[.slice a r.rules.length ca, .slice b r.zones.length cb, .slice c r.links.length cc] 27)).alloc (.cells #[.slice none 0 0, .int .i64 0] 44)).cell? ⟨w.heap.size, 0, none⟩ = some (.slice a r.rules.length ca) := by simp [go_sem]
  have x1_0 : ((w.alloc (.cells #[.slice a r.rules.length ca, .slice b r.zones.length cb, .slice c r.links.length cc] 27)).alloc (.cells #[.slice none 0 0, .int .i64 0] 44)).cell? ⟨w.heap.size, 1, none⟩ = some (.slice b r.zones.length cb) := by simp [go_sem]
  have x2_0 : ((w.alloc (.cells #[.slice a r.rules.length ca, .slice b r.zones.length cb, .slice c r.links.length cc] 27)).alloc (.cells #[.slice none 0 0, .int .i64 0] 44)).cell? ⟨w.heap.size, 2, none⟩ = some (.slice c r.links.length cc) := by simp [go_sem]
  have r0_0 : ((w.alloc (.cells #[.slice a r.rules.length ca, .slice b r.zones.length cb, .slice c r.links.length cc] 27)).alloc (.cells #[.slice none 0 0, .int .i64 0] 44)).cell? ⟨w.heap.size + 1, 0, none⟩ = some (.slice none 0 0) := by simp [go_sem]
  have r1_0 : ((w.alloc (.cells #[.slice a r.rules.length ca, .slice b r.zones.length cb, .slice c r.links.length cc] 27)).alloc (.cells #[.slice none 0 0, .int .i64 0] 44)).cell? ⟨w.heap.size + 1, 1, none⟩ = some (.int .i64 0) := by simp [go_sem]
  have f0_0 : ((w.alloc (.cells #[.slice a r.rules.length ca, .slice b r.zones.length cb, .slice c r.links.length cc] 27)).alloc (.cells #[.slice none 0 0, .int .i64 0] 44)).frozen? ⟨w.heap.size + 1, 0, none⟩ = false := by simp [go_sem]
  have f1_0 : ((w.alloc (.cells #[.slice a r.rules.length ca, .slice b r.zones.length cb, .slice c r.links.length cc] 27)).alloc (.cells #[.slice none 0 0, .int .i64 0] 44)).frozen? ⟨w.heap.size + 1, 1, none⟩ = false := by simp [go_sem]
  have hF := fun w (h : RelAt w (.agg #[.slice a r.rules.length ca, .slice b r.zones.length cb, .slice c r.links.length cc]) r) => spec_l02Find r _ nm w h sm
  have m2 := sm.2.1
  clear hA hAc
  cases hix : zoneIx r.zones (linkTo r.links nm) with
  | none =>
    have HT : Hid (tabD r nm = (5, [])) := tabD_5 h1 h2 (by rw [zoneD_none hix]; rfl)
    rw [hix] at hF
    simp only [ixI] at hF
    clear hix h2 h1 hon hTab
    go_enter Tryz.func46, Tryz.ntmps46
    go_wp2_with fail
    refine (hF _ (hv.below hB0)).mono ?_
    rintro q w1 ⟨rfl, hb1⟩
    have hB1 := hB0.trans (hb1.mono hB0.size)
    have x0_1 := keepC hb1 x0_0
    have x1_1 := keepC hb1 x1_0
    have x2_1 := keepC hb1 x2_0
    have r0_1 := keepC hb1 r0_0
    have r1_1 := keepC hb1 r1_0
    have f0_1 := ((bcell hb1).2 _ _ (World.block_lt_of_cell? _ _ r0_0)).trans f0_0
    have f1_1 := ((bcell hb1).2 _ _ (World.block_lt_of_cell? _ _ r1_0)).trans f1_0
    clear hb1 hF
    clear x0_0 x1_0 x2_0 r0_0 r1_0 f0_0 f1_0
    obtain ⟨t0, t1⟩ := set_twoB (v0 := .slice none 0 0) (v1 := .int .i64 5) r0_1 r1_1
    have HP : Hid (TabP r nm w (.returned (.agg #[.slice none 0 0, .int .i64 5])) ((w1.setCell ⟨w.heap.size + 1, 0, none⟩ (.slice none 0 0)).setCell ⟨w.heap.size + 1, 1, none⟩ (.int .i64 5))) := tabP_code HT.out hB1 (by omega)
    go_wp2
    exact bodyPost_ret (v := .agg #[.slice none 0 0, .int .i64 5]) (by simp [results, Tryz.results46, go_sem, t0, t1]) rfl HP.out
  | some i =>
    have hil := zoneIx_lt hix
    obtain ⟨z, hz⟩ : ∃ z, r.zones[i]? = some z := ⟨_, List.getElem?_eq_getElem hil⟩
    have hzP : zoneP z = true := by
      have h' := h2
      unfold relB at h'
      simp only [Bool.and_eq_true, List.all_eq_true] at h'
      exact h'.2.2.1 z (List.mem_of_getElem? hz)
    obtain ⟨hEl, hEr⟩ := zone_eras hzP
    have hEU := zone_unt hzP
    have hzd := zoneD_some h2 hix hz
    have hne : z.eras ≠ [] := fun h => by rw [h] at hEl; simp at hEl
    have HD7 : Hid (∀ T, tabE r z.eras = (T, false) → tabD r nm = (7, [])) := fun T h => tabD_7 (T := T) h1 h2 (by rw [hzd]; exact hne) (by rw [hzd]; exact h)
    have HD0 : Hid (∀ T, tabE r z.eras = (T, true) → tabD r nm = (0, T)) := fun T h => tabD_0 (T := T) h1 h2 (by rw [hzd]; exact hne) (by rw [hzd]; exact h)
    obtain ⟨hl1, hl2⟩ := rel_rules h2
    have hT := fun (ae : Option Addr) (ce : Nat) (W : World) (h : RelAt W (.agg #[.slice a r.rules.length ca, .slice b r.zones.length cb, .slice c r.links.length cc]) r) (h' : SeqAt W ae 6 (z.eras.map EraD.cs)) => hTab.go r z.name z.eras ae ce a b c ca cb cc W h h' hl2 hl1 hon hEr hEl.2 hEU
    rw [hix] at hF
    simp only [ixI] at hF
    have i1 : (0 : Int) ≤ (i : Int) := by omega
    have i2 : (i : Int) < (r.zones.length : Int) := by omega
    have i3 : ¬ (i : Int) < 0 := by omega
    clear hix h2 h1 hon hTab hl1 hl2 hEr hEU hne hzd hzP hEl
    go_enter Tryz.func46, Tryz.ntmps46
    go_wp2_with fail
    refine (hF _ (hv.below hB0)).mono ?_
    rintro q w1 ⟨rfl, hb1⟩
    have hB1 := hB0.trans (hb1.mono hB0.size)
    have x0_1 := keepC hb1 x0_0
    have x1_1 := keepC hb1 x1_0
    have x2_1 := keepC hb1 x2_0
    have r0_1 := keepC hb1 r0_0
    have r1_1 := keepC hb1 r1_0
    have f0_1 := ((bcell hb1).2 _ _ (World.block_lt_of_cell? _ _ r0_0)).trans f0_0
    have f1_1 := ((bcell hb1).2 _ _ (World.block_lt_of_cell? _ _ r1_0)).trans f1_0
    obtain ⟨b', o', rfl, z0_1, u, z1_1, hu⟩ := (hAb.below hB1).at hz
    obtain ⟨ae, ce, rfl, hE⟩ := hu
    clear hb1 hF hAb hz
    clear x0_0 x1_0 x2_0 r0_0 r1_0 f0_0 f1_0
    have hs1 : w.heap.size + 1 < w1.heap.size := World.block_lt_of_cell? _ _ r0_1
    have n1 : ¬ w.heap.size + 1 = w1.heap.size := by omega
    have n2 : ¬ w1.heap.size = w.heap.size + 1 := by omega
    have bA : Below w1.heap.size w1 w1.drew := below_drew w1
    have bB : Below w1.heap.size w1 (w1.alloc (.cells #[.slice none 0 0] 42)).drew := ((Below.refl w1.heap.size w1).alloc (Nat.le_refl _) _).trans ((below_drew _).mono (by simp))
    have RA := hv.below (hB1.trans (bA.mono hB1.size))
    have RB := hv.below (hB1.trans (bB.mono hB1.size))
    have EA := hE.below bA
    have EB := hE.below bB
    have BA := hB1.trans (bA.mono hB1.size)
    have BB := hB1.trans (bB.mono hB1.size)
    have tB : (w1.alloc (.cells #[.slice none 0 0] 42)).drew.cell? ⟨w1.heap.size, 0, none⟩ = some (.slice none 0 0) := by simp [go_sem]
    have tF : (w1.alloc (.cells #[.slice none 0 0] 42)).drew.frozen? ⟨w1.heap.size, 0, none⟩ = false := by simp [go_sem]
    have hT := hT ae ce
    have x0_A := keepC bA x0_1
    have x0_B := keepC bB x0_1
    have x1_A := keepC bA x1_1
    have x1_B := keepC bB x1_1
    have x2_A := keepC bA x2_1
    have x2_B := keepC bB x2_1
    have r0_A := keepC bA r0_1
    have r0_B := keepC bB r0_1
    have r1_A := keepC bA r1_1
    have r1_B := keepC bB r1_1
    have z0_A := keepC bA z0_1
    have z0_B := keepC bB z0_1
    have z1_A := keepC bA z1_1
    have z1_B := keepC bB z1_1
    have f0_A := ((bcell bA).2 _ _ (World.block_lt_of_cell? _ _ r0_1)).trans f0_1
    have f0_B := ((bcell bB).2 _ _ (World.block_lt_of_cell? _ _ r0_1)).trans f0_1
    have f1_A := ((bcell bA).2 _ _ (World.block_lt_of_cell? _ _ r1_1)).trans f1_1
    have f1_B := ((bcell bB).2 _ _ (World.block_lt_of_cell? _ _ r1_1)).trans f1_1
    have := World.new_ne w1 _ x0_1
    have := World.new_ne w1 _ x1_1
    have := World.new_ne w1 _ x2_1
    have := World.new_ne w1 _ r0_1
    have := World.new_ne w1 _ r1_1
    have := World.new_ne w1 _ z0_1
    have := World.new_ne w1 _ z1_1
    go_wp2_with fail
    go_region_held3 (fun w' => w'.cell? ⟨w.heap.size, 0, none⟩ = some (.slice a r.rules.length ca) ∧ w'.cell? ⟨w.heap.size, 1, none⟩ = some (.slice (some ⟨b', o', none⟩) r.zones.length cb) ∧ w'.cell? ⟨w.heap.size, 2, none⟩ = some (.slice c r.links.length cc) ∧ w'.cell? ⟨b', o' + i * 2, none⟩ = some (.string z.name) ∧ w'.cell? ⟨b', o' + i * 2 + 1, none⟩ = some (.slice ae z.eras.length ce)) (go_keep) (first | (go_at_call 101; refine (hT _ RA EA).mono ?_; rintro q w7 hP7; obtain ⟨v7, b7, T7, rfl, hO7, hbe, hTT, hb7⟩ := hP7.ex; obtain ⟨a7, m7, c7, rfl⟩ := row_shape3 hO7; have hB7 := BA.trans (hb7.mono BA.size); have x0_7 := keepC hb7 x0_A; have x1_7 := keepC hb7 x1_A; have x2_7 := keepC hb7 x2_A; have r0_7 := keepC hb7 r0_A; have r1_7 := keepC hb7 r1_A; have z0_7 := keepC hb7 z0_A; have z1_7 := keepC hb7 z1_A; have f0_7 := ((bcell hb7).2 _ _ (World.block_lt_of_cell? _ _ r0_A)).trans f0_A; have f1_7 := ((bcell hb7).2 _ _ (World.block_lt_of_cell? _ _ r1_A)).trans f1_A; have hs7 : w1.heap.size ≤ w7.heap.size := Nat.le_trans bA.size hb7.size; have hO9 := owns_mono hO7 bA.size) | (go_at_call 101; refine (hT _ RB EB).mono ?_; rintro q w7 hP7; obtain ⟨v7, b7, T7, rfl, hO7, hbe, hTT, hb7⟩ := hP7.ex; obtain ⟨a7, m7, c7, rfl⟩ := row_shape3 hO7; have hB7 := BB.trans (hb7.mono BB.size); have x0_7 := keepC hb7 x0_B; have x1_7 := keepC hb7 x1_B; have x2_7 := keepC hb7 x2_B; have r0_7 := keepC hb7 r0_B; have r1_7 := keepC hb7 r1_B; have z0_7 := keepC hb7 z0_B; have z1_7 := keepC hb7 z1_B; have f0_7 := ((bcell hb7).2 _ _ (World.block_lt_of_cell? _ _ r0_B)).trans f0_B; have f1_7 := ((bcell hb7).2 _ _ (World.block_lt_of_cell? _ _ r1_B)).trans f1_B; have hs7 : w1.heap.size ≤ w7.heap.size := Nat.le_trans bB.size hb7.size; have hO9 := owns_mono hO7 bB.size; have t_7 := keepC hb7 tB; have tf_7 := ((bcell hb7).2 _ _ (World.block_lt_of_cell? _ _ tB)).trans tF))
    · skip
      have b9 : Below w7.heap.size w7 (w7.alloc (.cells #[.slice a7 m7 c7] 42)) := (Below.refl w7.heap.size w7).alloc (Nat.le_refl _) _
      have r0_9 := keepC b9 r0_7
      have r1_9 := keepC b9 r1_7
      have f0_9 := ((bcell b9).2 _ _ (World.block_lt_of_cell? _ _ r0_7)).trans f0_7
      have f1_9 := ((bcell b9).2 _ _ (World.block_lt_of_cell? _ _ r1_7)).trans f1_7
      have B9 : Below w.heap.size w (w7.alloc (.cells #[.slice a7 m7 c7] 42)) := hB7.trans (b9.mono hB7.size)
      have O9 : OwnsT (w7.alloc (.cells #[.slice a7 m7 c7] 42)) w1.heap.size (.slice a7 m7 c7) T7 := owns_below hO9 b9
      have t_9 : (w7.alloc (.cells #[.slice a7 m7 c7] 42)).cell? ⟨w7.heap.size, 0, none⟩ = some (.slice a7 m7 c7) := by simp [go_sem]
      obtain ⟨⟨Tq, bq⟩, hq⟩ : ∃ x, tabE r z.eras = x := ⟨_, rfl⟩
      rw [hq] at hbe hTT
      simp only at hbe hTT
      subst hbe
      cases b7 with
      | false =>
        have HT : Hid (tabD r nm = (7, [])) := HD7.out _ hq
        obtain ⟨t0, t1⟩ := set_twoB (v0 := .slice none 0 0) (v1 := .int .i64 7) r0_9 r1_9
        have HP : Hid (TabP r nm w (.returned (.agg #[.slice none 0 0, .int .i64 7])) (((w7.alloc (.cells #[.slice a7 m7 c7] 42)).setCell ⟨w.heap.size + 1, 0, none⟩ (.slice none 0 0)).setCell ⟨w.heap.size + 1, 1, none⟩ (.int .i64 7))) := tabP_code HT.out B9 (by omega)
        clear hO7 hO9 hP7 hT
        go_wp2
        exact bodyPost_ret (v := .agg #[.slice none 0 0, .int .i64 7]) (by simp [results, Tryz.results46, go_sem, t0, t1]) rfl HP.out
      | true =>
        have HT : Hid (tabD r nm = (0, T7)) := HD0.out _ (by rw [hq, hTT rfl])
        obtain ⟨t0, t1⟩ := set_twoB (v0 := .slice a7 m7 c7) (v1 := .int .i64 0) r0_9 r1_9
        have HP : Hid (TabP r nm w (.returned (.agg #[.slice a7 m7 c7, .int .i64 0])) (((w7.alloc (.cells #[.slice a7 m7 c7] 42)).setCell ⟨w.heap.size + 1, 0, none⟩ (.slice a7 m7 c7)).setCell ⟨w.heap.size + 1, 1, none⟩ (.int .i64 0))) := tabP_ok HT.out O9 hs1 B9
        clear hO7 hO9 hP7 hT O9
        go_wp2
        exact bodyPost_ret (v := .agg #[.slice a7 m7 c7, .int .i64 0]) (by simp [results, Tryz.results46, go_sem, t0, t1]) rfl HP.out
    · skip
      have r0_9 : (w7.setCell ⟨w1.heap.size, 0, none⟩ (.slice a7 m7 c7)).cell? ⟨w.heap.size + 1, 0, none⟩ = some (.slice none 0 0) := by rw [World.cell?_setCell_other _ _ _ _ (by simp)]; exact r0_7
      have r1_9 : (w7.setCell ⟨w1.heap.size, 0, none⟩ (.slice a7 m7 c7)).cell? ⟨w.heap.size + 1, 1, none⟩ = some (.int .i64 0) := by rw [World.cell?_setCell_other _ _ _ _ (by simp)]; exact r1_7
      have f0_9 : (w7.setCell ⟨w1.heap.size, 0, none⟩ (.slice a7 m7 c7)).frozen? ⟨w.heap.size + 1, 0, none⟩ = false := by rw [World.frozen?_setCell]; exact f0_7
      have f1_9 : (w7.setCell ⟨w1.heap.size, 0, none⟩ (.slice a7 m7 c7)).frozen? ⟨w.heap.size + 1, 1, none⟩ = false := by rw [World.frozen?_setCell]; exact f1_7
      have hw1 := hB1.size
      have B9 : Below w.heap.size w (w7.setCell ⟨w1.heap.size, 0, none⟩ (.slice a7 m7 c7)) := hB7.setCell (show w.heap.size ≤ w1.heap.size by omega) _
      have O9 : OwnsT (w7.setCell ⟨w1.heap.size, 0, none⟩ (.slice a7 m7 c7)) w1.heap.size (.slice a7 m7 c7) T7 := kept_sets hO9 (fun e => by have h1 := (World.ownsRow.lt hO7 _ e).1; simp at h1; omega)
      have t_9 : (w7.setCell ⟨w1.heap.size, 0, none⟩ (.slice a7 m7 c7)).cell? ⟨w1.heap.size, 0, none⟩ = some (.slice a7 m7 c7) := World.cell?_setCell_same _ _ _ t_7
      obtain ⟨⟨Tq, bq⟩, hq⟩ : ∃ x, tabE r z.eras = x := ⟨_, rfl⟩
      rw [hq] at hbe hTT
      simp only at hbe hTT
      subst hbe
      cases b7 with
      | false =>
        have HT : Hid (tabD r nm = (7, [])) := HD7.out _ hq
        obtain ⟨t0, t1⟩ := set_twoB (v0 := .slice none 0 0) (v1 := .int .i64 7) r0_9 r1_9
        have HP : Hid (TabP r nm w (.returned (.agg #[.slice none 0 0, .int .i64 7])) (((w7.setCell ⟨w1.heap.size, 0, none⟩ (.slice a7 m7 c7)).setCell ⟨w.heap.size + 1, 0, none⟩ (.slice none 0 0)).setCell ⟨w.heap.size + 1, 1, none⟩ (.int .i64 7))) := tabP_code HT.out B9 (by omega)
        clear hO7 hO9 hP7 hT
        go_wp2
        exact bodyPost_ret (v := .agg #[.slice none 0 0, .int .i64 7]) (by simp [results, Tryz.results46, go_sem, t0, t1]) rfl HP.out
      | true =>
        have HT : Hid (tabD r nm = (0, T7)) := HD0.out _ (by rw [hq, hTT rfl])
        obtain ⟨t0, t1⟩ := set_twoB (v0 := .slice a7 m7 c7) (v1 := .int .i64 0) r0_9 r1_9
        have HP : Hid (TabP r nm w (.returned (.agg #[.slice a7 m7 c7, .int .i64 0])) (((w7.setCell ⟨w1.heap.size, 0, none⟩ (.slice a7 m7 c7)).setCell ⟨w.heap.size + 1, 0, none⟩ (.slice a7 m7 c7)).setCell ⟨w.heap.size + 1, 1, none⟩ (.int .i64 0))) := tabP_ok HT.out O9 hs1 B9
        clear hO7 hO9 hP7 hT O9
        go_wp2
        exact bodyPost_ret (v := .agg #[.slice a7 m7 c7, .int .i64 0]) (by simp [results, Tryz.results46, go_sem, t0, t1]) rfl HP.out
set_option maxRecDepth 20000 in
set_option maxHeartbeats 8000000 in
theorem spec_TableOf (hTab : TabC) (r : RelD) (v : Value) (nm : ByteArray) (w : World) (hv : RelAt w v r) (ok : r.ok) (sm : r.small) (hon : ∀ x ∈ r.rules, x.on.size ≤ 1048576) (hm : nm.size ≤ maxLen) :
    Calls Tryz.prog 15 #[v, .string nm] w fun q W' => TabP r nm w q W' := by
  unfold maxLen at hm
  obtain ⟨a, b, c, ca, cb, cc, rfl, hA, hAb, hAc⟩ := hv.form
  have hv : RelAt w (.agg #[.slice a r.rules.length ca, .slice b r.zones.length cb, .slice c r.links.length cc]) r := ⟨⟨a, b, c, ca, cb, cc, rfl, hA, hAb, hAc⟩⟩
  have hB0 := ((Below.refl w.heap.size w).alloc (Nat.le_refl _) (.cells #[.slice a r.rules.length ca, .slice b r.zones.length cb, .slice c r.links.length cc] 27)).alloc (by simp) (.cells #[.slice none 0 0, .int .i64 0] 44)
  have x0_0 : ((w.alloc (.cells #[.slice a r.rules.length ca, .slice b r.zones.length cb, .slice c r.links.length cc] 27)).alloc (.cells #[.slice none 0 0, .int .i64 0] 44)).cell? ⟨w.heap.size, 0, none⟩ = some (.slice a r.rules.length ca) := by simp [go_sem]
  have x1_0 : ((w.alloc (.cells #[.slice a r.rules.length ca, .slice b r.zones.length cb, .slice c r.links.length cc] 27)).alloc (.cells #[.slice none 0 0, .int .i64 0] 44)).cell? ⟨w.heap.size, 1, none⟩ = some (.slice b r.zones.length cb) := by simp [go_sem]
  have x2_0 : ((w.alloc (.cells #[.slice a r.rules.length ca, .slice b r.zones.length cb, .slice c r.links.length cc] 27)).alloc (.cells #[.slice none 0 0, .int .i64 0] 44)).cell? ⟨w.heap.size, 2, none⟩ = some (.slice c r.links.length cc) := by simp [go_sem]
  have r0_0 : ((w.alloc (.cells #[.slice a r.rules.length ca, .slice b r.zones.length cb, .slice c r.links.length cc] 27)).alloc (.cells #[.slice none 0 0, .int .i64 0] 44)).cell? ⟨w.heap.size + 1, 0, none⟩ = some (.slice none 0 0) := by simp [go_sem]
  have r1_0 : ((w.alloc (.cells #[.slice a r.rules.length ca, .slice b r.zones.length cb, .slice c r.links.length cc] 27)).alloc (.cells #[.slice none 0 0, .int .i64 0] 44)).cell? ⟨w.heap.size + 1, 1, none⟩ = some (.int .i64 0) := by simp [go_sem]
  have f0_0 : ((w.alloc (.cells #[.slice a r.rules.length ca, .slice b r.zones.length cb, .slice c r.links.length cc] 27)).alloc (.cells #[.slice none 0 0, .int .i64 0] 44)).frozen? ⟨w.heap.size + 1, 0, none⟩ = false := by simp [go_sem]
  have f1_0 : ((w.alloc (.cells #[.slice a r.rules.length ca, .slice b r.zones.length cb, .slice c r.links.length cc] 27)).alloc (.cells #[.slice none 0 0, .int .i64 0] 44)).frozen? ⟨w.heap.size + 1, 1, none⟩ = false := by simp [go_sem]
  clear hA hAb hAc
  by_cases h1 : nm.size ≤ 8000
  case neg =>
    have g1 : (8000 : Int) < (nm.size : Int) := by omega
    have HT : Hid (tabD r nm = (2, [])) := tabD_2 h1
    have HP : Hid (TabP r nm w (.returned (.agg #[.slice none 0 0, .int .i64 2])) ((w.alloc (.cells #[.slice a r.rules.length ca, .slice b r.zones.length cb, .slice c r.links.length cc] 27)).alloc (.cells #[.slice none 0 0, .int .i64 2] 44))) := ⟨.slice none 0 0, by rw [HT.out], by rw [HT.out]; exact World.ownsRow_nil _ _ _ _, ((Below.refl w.heap.size w).alloc (Nat.le_refl _) _).alloc (by simp) _⟩
    clear h1 HT
    go_enter Tryz.func15, Tryz.ntmps15
    go_wp2
    exact bodyPost_ret (v := .agg #[.slice none 0 0, .int .i64 2]) (by simp [results, Tryz.results15, go_sem]) rfl HP.out
  have g1 : ¬ (8000 : Int) < (nm.size : Int) := by omega
  have hR := fun w (h : RelAt w (.agg #[.slice a r.rules.length ca, .slice b r.zones.length cb, .slice c r.links.length cc]) r) => spec_ReleaseRight r _ w h ok sm hon
  cases h2 : relB r
  case false =>
    have HT : Hid (tabD r nm = (1, [])) := tabD_1 h1 h2
    rw [h2] at hR
    clear h2 h1
    go_enter Tryz.func15, Tryz.ntmps15
    go_wp2_with fail
    refine (hR _ (hv.below hB0)).mono ?_
    rintro q w1 ⟨rfl, hb1⟩
    have hB1 := hB0.trans (hb1.mono hB0.size)
    have x0_1 := keepC hb1 x0_0
    have x1_1 := keepC hb1 x1_0
    have x2_1 := keepC hb1 x2_0
    have r0_1 := keepC hb1 r0_0
    have r1_1 := keepC hb1 r1_0
    have f0_1 := ((bcell hb1).2 _ _ (World.block_lt_of_cell? _ _ r0_0)).trans f0_0
    have f1_1 := ((bcell hb1).2 _ _ (World.block_lt_of_cell? _ _ r1_0)).trans f1_0
    clear hb1
    clear x0_0 x1_0 x2_0 r0_0 r1_0 f0_0 f1_0
    obtain ⟨t0, t1⟩ := set_twoB (v0 := .slice none 0 0) (v1 := .int .i64 1) r0_1 r1_1
    have HP : Hid (TabP r nm w (.returned (.agg #[.slice none 0 0, .int .i64 1])) ((w1.setCell ⟨w.heap.size + 1, 0, none⟩ (.slice none 0 0)).setCell ⟨w.heap.size + 1, 1, none⟩ (.int .i64 1))) := tabP_code HT.out hB1 (by omega)
    go_wp2
    exact bodyPost_ret (v := .agg #[.slice none 0 0, .int .i64 1]) (by simp [results, Tryz.results15, go_sem, t0, t1]) rfl HP.out
  have hO := fun w (h : RelAt w (.agg #[.slice a r.rules.length ca, .slice b r.zones.length cb, .slice c r.links.length cc]) r) => spec_l03Of hTab r _ nm w h sm hon h1 h2
  rw [h2] at hR
  clear h2 h1
  go_enter Tryz.func15, Tryz.ntmps15
  go_wp2_with fail
  refine (hR _ (hv.below hB0)).mono ?_
  rintro q w1 ⟨rfl, hb1⟩
  have hB1 := hB0.trans (hb1.mono hB0.size)
  have x0_1 := keepC hb1 x0_0
  have x1_1 := keepC hb1 x1_0
  have x2_1 := keepC hb1 x2_0
  have r0_1 := keepC hb1 r0_0
  have r1_1 := keepC hb1 r1_0
  have f0_1 := ((bcell hb1).2 _ _ (World.block_lt_of_cell? _ _ r0_0)).trans f0_0
  have f1_1 := ((bcell hb1).2 _ _ (World.block_lt_of_cell? _ _ r1_0)).trans f1_0
  clear hb1 hR
  clear x0_0 x1_0 x2_0 r0_0 r1_0 f0_0 f1_0
  go_wp2_with fail
  refine (hO _ (hv.below hB1)).mono ?_
  rintro q w2 hP2
  obtain ⟨v2, rfl, hO2, hb2⟩ := hP2.ex
  have hB2 := hB1.trans (hb2.mono hB1.size)
  have x0_2 := keepC hb2 x0_1
  have x1_2 := keepC hb2 x1_1
  have x2_2 := keepC hb2 x2_1
  have r0_2 := keepC hb2 r0_1
  have r1_2 := keepC hb2 r1_1
  have f0_2 := ((bcell hb2).2 _ _ (World.block_lt_of_cell? _ _ r0_1)).trans f0_1
  have f1_2 := ((bcell hb2).2 _ _ (World.block_lt_of_cell? _ _ r1_1)).trans f1_1
  obtain ⟨a7, m7, d7, rfl⟩ := row_shape3 hO2
  have hs1 : w.heap.size + 1 < w1.heap.size := World.block_lt_of_cell? _ _ r0_1
  obtain ⟨⟨cd, T⟩, hcd⟩ : ∃ x, tabD r nm = x := ⟨_, rfl⟩
  rw [hcd] at hO2 hP2 ⊢
  simp only at hO2 hP2 ⊢
  have hloc : ∀ g, (Value.slice a7 m7 d7).ownBlock = some g → w1.heap.size ≤ g := fun g hg => (World.ownsRow.lt hO2 g hg).1
  have HP : Hid (TabP r nm w (.returned (.agg #[.slice a7 m7 d7, .int .i64 cd])) ((w2.setCell ⟨w.heap.size + 1, 0, none⟩ (.slice a7 m7 d7)).setCell ⟨w.heap.size + 1, 1, none⟩ (.int .i64 cd))) := ⟨.slice a7 m7 d7, by rw [hcd], by rw [hcd]; exact kept_sets (kept_sets (owns_mono hO2 (by omega)) (fun e => by have := hloc _ e; omega)) (fun e => by have := hloc _ e; omega), (hB2.setCell (show w.heap.size ≤ w.heap.size + 1 by omega) _).setCell (show w.heap.size ≤ w.heap.size + 1 by omega) _⟩
  obtain ⟨t0, t1⟩ := set_twoB (v0 := .slice a7 m7 d7) (v1 := .int .i64 cd) r0_2 r1_2
  clear hb2 hO2 hP2 hO hcd
  clear x0_1 x1_1 x2_1 r0_1 r1_1 f0_1 f1_1
  go_wp2
  exact bodyPost_ret (v := .agg #[.slice a7 m7 d7, .int .i64 cd]) (by simp [results, Tryz.results15, go_sem, t0, t1]) rfl HP.out
end Go.Proofs.YtbbhpfobcelbfaaGreatDoor
