/- The table of a zone: the program's TableOf, of any arguments. -/
import Derived.Test.YtbbhpfobcelbfaaGreatDoorTb10t
import Derived.Test.YtbbhpfobcelbfaaGreatDoorZonePt
import Derived.Test.YtbbhpfobcelbfaaGreatDoorHp16t
namespace Go.Proofs.YtbbhpfobcelbfaaGreatDoor
open Go.RowKit Go.Sort

/-- what is told: a code, and the turns. -/
def tabD (r : RelD) (nm : ByteArray) : Int × List TurnD :=
  if nm.size ≤ 8000 then (if relB r = true then (if (zoneD r nm).eras = [] then (5, []) else (if (tabE r (zoneD r nm).eras).2 = true then (0, (tabE r (zoneD r nm).eras).1) else (7, []))) else (1, [])) else (2, [])
theorem tabD_2 {r : RelD} {nm : ByteArray} (h : ¬ nm.size ≤ 8000) : tabD r nm = (2, []) := if_neg h
theorem tabD_1 {r : RelD} {nm : ByteArray} (h : nm.size ≤ 8000) (h2 : relB r = false) : tabD r nm = (1, []) := by unfold tabD; rw [if_pos h, if_neg (by rw [h2]; simp)]
theorem tabD_5 {r : RelD} {nm : ByteArray} (h : nm.size ≤ 8000) (h2 : relB r = true) (h3 : (zoneD r nm).eras = []) : tabD r nm = (5, []) := by unfold tabD; rw [if_pos h, if_pos h2, if_pos h3]
theorem tabD_7 {r : RelD} {nm : ByteArray} {T : List TurnD} (h : nm.size ≤ 8000) (h2 : relB r = true) (h3 : (zoneD r nm).eras ≠ []) (h4 : tabE r (zoneD r nm).eras = (T, false)) : tabD r nm = (7, []) := by unfold tabD; rw [if_pos h, if_pos h2, if_neg h3, h4]; rfl
theorem tabD_0 {r : RelD} {nm : ByteArray} {T : List TurnD} (h : nm.size ≤ 8000) (h2 : relB r = true) (h3 : (zoneD r nm).eras ≠ []) (h4 : tabE r (zoneD r nm).eras = (T, true)) : tabD r nm = (0, T) := by unfold tabD; rw [if_pos h, if_pos h2, if_neg h3, h4]; rfl
theorem era_r {e : EraD} (h : eraP e = true) : EraR e := by
  unfold eraP at h
  simp only [Bool.and_eq_true, decide_eq_true_eq] at h
  obtain ⟨h1, h2, h3, h4, h5, h6, _⟩ := h
  have hf := of_decide_eq_true h4
  unfold erB at h3
  refine ⟨⟨h1, h2⟩, ⟨h5, h6⟩, hf.2.1, fun h0 => ?_, ?_⟩
  · have hE : e.rules.toList.isEmpty = true := by
      rw [toList_dataA, List.isEmpty_iff, ← List.length_eq_zero_iff, size_data]
      exact h0
    rw [if_pos hE] at h3
    exact isB_of_t h3
  · split at h3
    · rename_i hE
      rw [toList_dataA, List.isEmpty_iff, ← List.length_eq_zero_iff, size_data] at hE
      omega
    · simp only [Bool.and_eq_true] at h3
      exact (nameB_t h3.1).2.1
theorem zoneD_right {r : RelD} {nm : ByteArray} (h : relB r = true) (hne : (zoneD r nm).eras ≠ []) : zoneP (zoneD r nm) = true ∧ ∃ i, zoneIx r.zones (linkTo r.links nm) = some i ∧ r.zones[i]? = some (zoneD r nm) := by
  have hz : ∀ z ∈ r.zones, zoneP z = true := by
    have h' := h
    unfold relB at h'
    simp only [Bool.and_eq_true, List.all_eq_true] at h'
    exact h'.2.2.1
  unfold zoneD at hne ⊢
  rw [if_pos h] at hne ⊢
  split at hne
  · rename_i i hi
    split at hne
    · rename_i z hz2
      simp only [hi]
      exact ⟨hz z (List.mem_of_getElem? hz2), i, rfl, hz2⟩
    · exact absurd rfl hne
  · exact absurd rfl hne
theorem zone_eras {z : ZoneD} (h : zoneP z = true) : (1 ≤ z.eras.length ∧ z.eras.length ≤ 8) ∧ ∀ e ∈ z.eras, EraR e := by
  unfold zoneP at h
  simp only [Bool.and_eq_true, List.all_eq_true] at h
  exact ⟨of_decide_eq_true h.2.1, fun e he => era_r (h.2.2.1 e he)⟩
theorem set_twoB {w : World} {b : Nat} {x0 x1 v0 v1 : Value} (h0 : w.cell? ⟨b, 0, none⟩ = some x0) (h1 : w.cell? ⟨b, 1, none⟩ = some x1) :
    ((w.setCell ⟨b, 0, none⟩ v0).setCell ⟨b, 1, none⟩ v1).cell? ⟨b, 0, none⟩ = some v0 ∧ ((w.setCell ⟨b, 0, none⟩ v0).setCell ⟨b, 1, none⟩ v1).cell? ⟨b, 1, none⟩ = some v1 := by
  refine ⟨?_, ?_⟩
  · rw [World.cell?_setCell_other _ _ _ _ (by simp), World.cell?_setCell_same _ _ _ h0]
  · refine World.cell?_setCell_same _ _ _ (u := x1) ?_
    rw [World.cell?_setCell_other _ _ _ _ (by simp)]; exact h1
/-- what TableOf tells, in memory. -/
structure TabP (r : RelD) (nm : ByteArray) (w : World) (q : Ending) (W' : World) : Prop where
  ex : ∃ v, q = .returned (.agg #[v, .int .i64 (tabD r nm).1]) ∧ OwnsT W' w.heap.size v (tabD r nm).2 ∧ Below w.heap.size w W'
theorem tabP_code {r : RelD} {nm : ByteArray} {w w1 : World} {c : Int} {b : Nat} (h : tabD r nm = (c, [])) (hB : Below w.heap.size w w1) (hb : w.heap.size ≤ b) : TabP r nm w (.returned (.agg #[.slice none 0 0, .int .i64 c])) ((w1.setCell ⟨b, 0, none⟩ (.slice none 0 0)).setCell ⟨b, 1, none⟩ (.int .i64 c)) := by
  refine ⟨.slice none 0 0, by rw [h], by rw [h]; exact World.ownsRow_nil _ _ _ _, (hB.setCell hb _).setCell hb _⟩
theorem ruleB_nm {x : RuleD} (h : ruleB x = true) : nameB x.name = true := by
  unfold ruleB at h
  simp only [Bool.and_eq_true] at h
  exact h.1
set_option maxRecDepth 20000 in
set_option maxHeartbeats 8000000 in
theorem impl_TableOf (r : RelD) (v : Value) (nm : ByteArray) (w : World) (hEnv : EnvZ w) (hv : RelAt w v r) (ok : r.ok) (sm : r.small) (hon : ∀ x ∈ r.rules, x.on.size ≤ 1048576) (hm : nm.size ≤ maxLen) :
    Calls Tryz.prog 14 #[v, .string nm] w fun q W' => TabP r nm w q W' := by
  unfold maxLen at hm
  obtain ⟨a, b, c, ca, cb, cc, rfl, hA, hAb, hAc⟩ := hv.form
  have hv : RelAt w (.agg #[.slice a r.rules.length ca, .slice b r.zones.length cb, .slice c r.links.length cc]) r := ⟨⟨a, b, c, ca, cb, cc, rfl, hA, hAb, hAc⟩⟩
  clear hAb hAc
  have hB0 := ((Below.refl w.heap.size w).alloc (Nat.le_refl _) (.cells #[.slice a r.rules.length ca, .slice b r.zones.length cb, .slice c r.links.length cc] 27)).alloc (by simp) (.cells #[.slice none 0 0, .int .i64 0] 44)
  have x0_0 : ((w.alloc (.cells #[.slice a r.rules.length ca, .slice b r.zones.length cb, .slice c r.links.length cc] 27)).alloc (.cells #[.slice none 0 0, .int .i64 0] 44)).cell? ⟨w.heap.size, 0, none⟩ = some (.slice a r.rules.length ca) := by simp [go_sem]
  have x1_0 : ((w.alloc (.cells #[.slice a r.rules.length ca, .slice b r.zones.length cb, .slice c r.links.length cc] 27)).alloc (.cells #[.slice none 0 0, .int .i64 0] 44)).cell? ⟨w.heap.size, 1, none⟩ = some (.slice b r.zones.length cb) := by simp [go_sem]
  have x2_0 : ((w.alloc (.cells #[.slice a r.rules.length ca, .slice b r.zones.length cb, .slice c r.links.length cc] 27)).alloc (.cells #[.slice none 0 0, .int .i64 0] 44)).cell? ⟨w.heap.size, 2, none⟩ = some (.slice c r.links.length cc) := by simp [go_sem]
  have r0_0 : ((w.alloc (.cells #[.slice a r.rules.length ca, .slice b r.zones.length cb, .slice c r.links.length cc] 27)).alloc (.cells #[.slice none 0 0, .int .i64 0] 44)).cell? ⟨w.heap.size + 1, 0, none⟩ = some (.slice none 0 0) := by simp [go_sem]
  have r1_0 : ((w.alloc (.cells #[.slice a r.rules.length ca, .slice b r.zones.length cb, .slice c r.links.length cc] 27)).alloc (.cells #[.slice none 0 0, .int .i64 0] 44)).cell? ⟨w.heap.size + 1, 1, none⟩ = some (.int .i64 0) := by simp [go_sem]
  have f0_0 : ((w.alloc (.cells #[.slice a r.rules.length ca, .slice b r.zones.length cb, .slice c r.links.length cc] 27)).alloc (.cells #[.slice none 0 0, .int .i64 0] 44)).frozen? ⟨w.heap.size + 1, 0, none⟩ = false := by simp [go_sem]
  have f1_0 : ((w.alloc (.cells #[.slice a r.rules.length ca, .slice b r.zones.length cb, .slice c r.links.length cc] 27)).alloc (.cells #[.slice none 0 0, .int .i64 0] 44)).frozen? ⟨w.heap.size + 1, 1, none⟩ = false := by simp [go_sem]
  by_cases h1 : nm.size ≤ 8000
  case neg =>
    have g1 : (8000 : Int) < (nm.size : Int) := by omega
    have HT : Hid (tabD r nm = (2, [])) := tabD_2 h1
    have HP : Hid (TabP r nm w (.returned (.agg #[.slice none 0 0, .int .i64 2])) ((w.alloc (.cells #[.slice a r.rules.length ca, .slice b r.zones.length cb, .slice c r.links.length cc] 27)).alloc (.cells #[.slice none 0 0, .int .i64 2] 44))) := ⟨.slice none 0 0, by rw [HT.out], by rw [HT.out]; exact World.ownsRow_nil _ _ _ _, ((Below.refl w.heap.size w).alloc (Nat.le_refl _) _).alloc (by simp) _⟩
    clear h1 HT
    go_enter Tryz.func14, Tryz.ntmps14
    go_wp2
    exact bodyPost_ret (v := .agg #[.slice none 0 0, .int .i64 2]) (by simp [results, Tryz.results14, go_sem]) rfl HP.out
  have g1 : ¬ (8000 : Int) < (nm.size : Int) := by omega
  have hR := fun w hE (h : RelAt w (.agg #[.slice a r.rules.length ca, .slice b r.zones.length cb, .slice c r.links.length cc]) r) => impl_ReleaseRight r _ w hE h ok sm hon
  cases h2 : relB r
  case false =>
    have HT : Hid (tabD r nm = (1, [])) := tabD_1 h1 h2
    rw [h2] at hR
    clear h2 h1
    go_enter Tryz.func14, Tryz.ntmps14
    go_wp2_with fail
    refine (hR _ (hEnv.of_below hB0) (hv.below hB0)).mono ?_
    rintro q w1 ⟨rfl, hb1⟩
    have hB1 := hB0.trans (hb1.mono hB0.size)
    have x0_1 := keepC hb1 x0_0
    have x1_1 := keepC hb1 x1_0
    have x2_1 := keepC hb1 x2_0
    have r0_1 := keepC hb1 r0_0
    have r1_1 := keepC hb1 r1_0
    have f0_1 := ((bcell hb1).2 _ _ (World.block_lt_of_cell? _ _ r0_0)).trans f0_0
    have f1_1 := ((bcell hb1).2 _ _ (World.block_lt_of_cell? _ _ r1_0)).trans f1_0
    clear hb1 x0_0 x1_0 x2_0 r0_0 r1_0 f0_0 f1_0
    obtain ⟨t0, t1⟩ := set_twoB (v0 := .slice none 0 0) (v1 := .int .i64 1) r0_1 r1_1
    have HP : Hid (TabP r nm w (.returned (.agg #[.slice none 0 0, .int .i64 1])) ((w1.setCell ⟨w.heap.size + 1, 0, none⟩ (.slice none 0 0)).setCell ⟨w.heap.size + 1, 1, none⟩ (.int .i64 1))) := tabP_code HT.out hB1 (by omega)
    go_wp2
    exact bodyPost_ret (v := .agg #[.slice none 0 0, .int .i64 1]) (by simp [results, Tryz.results14, go_sem, t0, t1]) rfl HP.out
  have HRB : Hid (relB r = true) := h2
  have hl := rel_rules h2
  have hl1 := hl.1
  have HL : Hid (∀ x ∈ r.rules, ruleB x = true) := hl.2
  have hZ := fun w hE (h : RelAt w (.agg #[.slice a r.rules.length ca, .slice b r.zones.length cb, .slice c r.links.length cc]) r) => impl_ZoneOf r _ nm w hE h ok sm hon
  have hN := fun w (h : SeqAt w a 9 (r.rules.map RuleD.cs)) => impl_rulesByName r.rules a ca w h hl1 (fun x hx => by have := (nameB_t (ruleB_nm (HL.out x hx))).2.1; unfold maxLen; omega)
  have hD5 := fun h => tabD_5 (nm := nm) h1 h2 h
  have hD7 := fun T h h' => tabD_7 (nm := nm) (T := T) h1 h2 h h'
  have hD0 := fun T h h' => tabD_0 (nm := nm) (T := T) h1 h2 h h'
  have hRZ := fun h => zoneD_right (nm := nm) h2 h
  rw [h2] at hR
  obtain ⟨⟨zn, E⟩, hzd⟩ : ∃ z, zoneD r nm = z := ⟨_, rfl⟩
  rw [hzd] at hZ hD5 hD7 hD0 hRZ
  simp only at hZ hD5 hD7 hD0 hRZ
  clear h2 hl hzd
  go_enter Tryz.func14, Tryz.ntmps14
  go_wp2_with fail
  refine (hR _ (hEnv.of_below hB0) (hv.below hB0)).mono ?_
  rintro q w1 ⟨rfl, hb1⟩
  have hB1 := hB0.trans (hb1.mono hB0.size)
  have x0_1 := keepC hb1 x0_0
  have x1_1 := keepC hb1 x1_0
  have x2_1 := keepC hb1 x2_0
  have r0_1 := keepC hb1 r0_0
  have r1_1 := keepC hb1 r1_0
  have f0_1 := ((bcell hb1).2 _ _ (World.block_lt_of_cell? _ _ r0_0)).trans f0_0
  have f1_1 := ((bcell hb1).2 _ _ (World.block_lt_of_cell? _ _ r1_0)).trans f1_0
  clear hb1 hR x0_0 x1_0 x2_0 r0_0 r1_0 f0_0 f1_0
  go_wp2_with fail
  refine (hZ _ (hEnv.of_below hB1) (hv.below hB1)).mono ?_
  rintro q w2 ⟨vz, rfl, hOz, hb2⟩
  have hB2 := hB1.trans (hb2.mono hB1.size)
  have x0_2 := keepC hb2 x0_1
  have x1_2 := keepC hb2 x1_1
  have x2_2 := keepC hb2 x2_1
  have r0_2 := keepC hb2 r0_1
  have r1_2 := keepC hb2 r1_1
  have f0_2 := ((bcell hb2).2 _ _ (World.block_lt_of_cell? _ _ r0_1)).trans f0_1
  have f1_2 := ((bcell hb2).2 _ _ (World.block_lt_of_cell? _ _ r1_1)).trans f1_1
  clear hb2 hZ x0_1 x1_1 x2_1 r0_1 r1_1 f0_1 f1_1
  rcases hOz with ⟨hEn, rfl⟩ | ⟨g, cap, rfl, hgB, hgl, hSE, _⟩
  · have HT : Hid (tabD r nm = (5, [])) := hD5 hEn
    have hfd : ∀ w, (Instr.field 49 (.agg #[.string zn, .slice none 0 0]) 1).run Tryz.prog w = .ok (.slice none 0 0) w := fun _ => by kernel_rfl
    clear hD5 hD7 hD0 hRZ hN
    obtain ⟨t0, t1⟩ := set_twoB (v0 := .slice none 0 0) (v1 := .int .i64 5) r0_2 r1_2
    have HP : Hid (TabP r nm w (.returned (.agg #[.slice none 0 0, .int .i64 5])) ((w2.setCell ⟨w.heap.size + 1, 0, none⟩ (.slice none 0 0)).setCell ⟨w.heap.size + 1, 1, none⟩ (.int .i64 5))) := tabP_code HT.out hB2 (by omega)
    go_wp2
    exact bodyPost_ret (v := .agg #[.slice none 0 0, .int .i64 5]) (by simp [results, Tryz.results14, go_sem, t0, t1]) rfl HP.out
  · have hfd : ∀ w, (Instr.field 49 (.agg #[.string zn, .slice (some ⟨g, 0, none⟩) E.length cap]) 1).run Tryz.prog w = .ok (.slice (some ⟨g, 0, none⟩) E.length cap) w := fun _ => by kernel_rfl
    by_cases hE0 : E = []
    · subst hE0
      simp only [List.length_nil] at hfd
      have HT : Hid (tabD r nm = (5, [])) := hD5 rfl
      clear hD5 hD7 hD0 hRZ hN
      obtain ⟨t0, t1⟩ := set_twoB (v0 := .slice none 0 0) (v1 := .int .i64 5) r0_2 r1_2
      have HP : Hid (TabP r nm w (.returned (.agg #[.slice none 0 0, .int .i64 5])) ((w2.setCell ⟨w.heap.size + 1, 0, none⟩ (.slice none 0 0)).setCell ⟨w.heap.size + 1, 1, none⟩ (.int .i64 5))) := tabP_code HT.out hB2 (by omega)
      go_wp2
      exact bodyPost_ret (v := .agg #[.slice none 0 0, .int .i64 5]) (by simp [results, Tryz.results14, go_sem, t0, t1]) rfl HP.out
    · obtain ⟨hEl, hEr⟩ := zone_eras (hRZ hE0).1
      simp only at hEl hEr
      have hne : ¬ E.length = 0 := by omega
      have hnei : ¬ (E.length : Int) = 0 := by omega
      go_wp2_with fail
      refine (hN _ (hA.below hB2)).mono ?_
      rintro q w3 ⟨rfl, hM3, hb3⟩
      have hB3 := hB2.trans (hb3.mono hB2.size)
      have x0_3 := keepC hb3 x0_2
      have x1_3 := keepC hb3 x1_2
      have x2_3 := keepC hb3 x2_2
      have r0_3 := keepC hb3 r0_2
      have r1_3 := keepC hb3 r1_2
      have f0_3 := ((bcell hb3).2 _ _ (World.block_lt_of_cell? _ _ r0_2)).trans f0_2
      have f1_3 := ((bcell hb3).2 _ _ (World.block_lt_of_cell? _ _ r1_2)).trans f1_2
      have hTs := impl_turnsOf r E (some ⟨g, 0, none⟩) cap w2.heap.size (w2.heap.size + 1) w3 (hSE.below hb3) hM3 (hEnv.of_below hB3) HL.out hl1 hEr hEl.2
      clear hb3 hN x0_2 x1_2 x2_2 r0_2 r1_2 f0_2 f1_2
      go_wp2_with fail
      refine hTs.mono ?_
      rintro q w4 ⟨v4, bb, T, rfl, hO4, hT4, hb4⟩
      have hB4 := hB3.trans (hb4.mono hB3.size)
      have x0_4 := keepC hb4 x0_3
      have x1_4 := keepC hb4 x1_3
      have x2_4 := keepC hb4 x2_3
      have r0_4 := keepC hb4 r0_3
      have r1_4 := keepC hb4 r1_3
      have f0_4 := ((bcell hb4).2 _ _ (World.block_lt_of_cell? _ _ r0_3)).trans f0_3
      have f1_4 := ((bcell hb4).2 _ _ (World.block_lt_of_cell? _ _ r1_3)).trans f1_3
      obtain ⟨a7, m7, d7, rfl⟩ := row_shape3 hO4
      cases bb with
      | false =>
        have HT : Hid (tabD r nm = (7, [])) := hD7 T hE0 hT4
        clear hb4 hTs hT4 hD5 hD7 hD0 hRZ hO4 x0_3 x1_3 x2_3 r0_3 r1_3 f0_3 f1_3
        obtain ⟨t0, t1⟩ := set_twoB (v0 := .slice none 0 0) (v1 := .int .i64 7) r0_4 r1_4
        have HP : Hid (TabP r nm w (.returned (.agg #[.slice none 0 0, .int .i64 7])) ((w4.setCell ⟨w.heap.size + 1, 0, none⟩ (.slice none 0 0)).setCell ⟨w.heap.size + 1, 1, none⟩ (.int .i64 7))) := tabP_code HT.out hB4 (by omega)
        go_wp2
        exact bodyPost_ret (v := .agg #[.slice none 0 0, .int .i64 7]) (by simp [results, Tryz.results14, go_sem, t0, t1]) rfl HP.out
      | true =>
        have HT : Hid (tabD r nm = (0, T)) := hD0 T hE0 hT4
        have hloc : ∀ g, (Value.slice a7 m7 d7).ownBlock = some g → w3.heap.size ≤ g := fun g hg => (World.ownsRow.lt hO4 g hg).1
        have hw3 : w.heap.size + 1 < w3.heap.size := World.block_lt_of_cell? _ _ r0_3
        have HP : Hid (TabP r nm w (.returned (.agg #[.slice a7 m7 d7, .int .i64 0])) ((w4.setCell ⟨w.heap.size + 1, 0, none⟩ (.slice a7 m7 d7)).setCell ⟨w.heap.size + 1, 1, none⟩ (.int .i64 0))) := ⟨.slice a7 m7 d7, by rw [HT.out], by
          rw [HT.out]
          have h1 := owns_mono hO4 hB3.size
          exact World.ownsRow.kept (World.ownsRow.kept h1 (grown_set w4 _ 0 _) (by cases hv : (Value.slice a7 m7 d7).ownBlock with
            | none => exact .inl rfl
            | some g => exact .inr fun e => by have := hloc g hv; injection e with e; omega)) (grown_set _ _ 1 _) (by cases hv : (Value.slice a7 m7 d7).ownBlock with
            | none => exact .inl rfl
            | some g => exact .inr fun e => by have := hloc g hv; injection e with e; omega), (hB4.setCell (show w.heap.size ≤ w.heap.size + 1 by omega) _).setCell (show w.heap.size ≤ w.heap.size + 1 by omega) _⟩
        obtain ⟨t0, t1⟩ := set_twoB (v0 := .slice a7 m7 d7) (v1 := .int .i64 0) r0_4 r1_4
        clear hb4 hTs hT4 hD5 hD7 hD0 hRZ hO4 x0_3 x1_3 x2_3 r0_3 r1_3 f0_3 f1_3
        go_wp2
        exact bodyPost_ret (v := .agg #[.slice a7 m7 d7, .int .i64 0]) (by simp [results, Tryz.results14, go_sem, t0, t1]) rfl HP.out
end Go.Proofs.YtbbhpfobcelbfaaGreatDoor
