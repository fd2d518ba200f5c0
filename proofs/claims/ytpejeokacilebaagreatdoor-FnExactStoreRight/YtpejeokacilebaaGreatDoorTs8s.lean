/- The table of a zone: the model's l03Of and TableOf, of any arguments, where l03Table keeps its contract. -/
import Derived.Test.YtpejeokacilebaaGreatDoorTbSs
import Derived.Deep.RegionWith
import Derived.BigRegion
import Derived.Deep.RegionHeld3
set_option maxHeartbeats 20000000
set_option linter.unusedSimpArgs false
namespace Go.Proofs.YtpejeokacilebaaGreatDoor
open Go.RowKit Go.Sort
structure TabC : Prop where
 go : ∀ (r : RelD) (zn : ByteArray) (E : List EraD) (ae : Option Addr) (ce : Nat) (a b0 c : Option Addr) (ca cb cc : Nat) (w : World), Zb w (.agg #[.slice a r.rules.length ca, .slice b0 r.zones.length cb, .slice c r.links.length cc]) r -> Za w ae 6 (E.map EraD.cs) -> (∀ x ∈ r.rules, jau x = true) -> r.rules.length <= 40 -> (∀ x ∈ r.rules, x.on.size <= 1048576) -> (∀ e ∈ E, EraR e) -> E.length <= 8 -> UntE E -> Calls Tryz.prog 93 #[.agg #[.slice a r.rules.length ca, .slice b0 r.zones.length cb, .slice c r.links.length cc], .agg #[.string zn, .slice ae E.length ce]] w fun q W' => TabSP r E w q W'
theorem tabP_ok {r : RelD} {nm : ByteArray} {w w1 : World} {a7 : Option Addr} {m7 d7 B : Nat} {T : List TurnD} (h : tabD r nm = (0, T)) (hO : Zc w1 B (.slice a7 m7 d7) T) (hs : w.heap.size + 1 < B) (hB : Below w.heap.size w w1) : Jp r nm w (.returned (.agg #[.slice a7 m7 d7, .int .i64 0])) ((w1.setCell ⟨w.heap.size + 1, 0, none⟩ (.slice a7 m7 d7)).setCell ⟨w.heap.size + 1, 1, none⟩ (.int .i64 0)) := by
 have hloc : ∀ g, (Value.slice a7 m7 d7).ownBlock = some g -> B <= g := fun g hg => (World.ownsRow.lt hO g hg).1
 exact ⟨.slice a7 m7 d7, by rw [h], by
  rw [h]
  exact jce (jce (jak hO (by omega)) (fun e => by have := hloc _ e; omega)) (fun e => by have := hloc _ e; omega), (hB.setCell (show w.heap.size <= w.heap.size + 1 by omega) _).setCell (show w.heap.size <= w.heap.size + 1 by omega) _⟩
set_option maxRecDepth 20000 in
theorem spec_l03Of (hTab : TabC) (r : RelD) (v : Value) (nm : ByteArray) (w : World) (hv : Zb w v r) (sm : r.small) (hon : ∀ x ∈ r.rules, x.on.size <= 1048576) (h1 : nm.size <= 8000) (h2 : relB r = true) :
  Calls Tryz.prog 70 #[v, .string nm] w fun q W' => Jp r nm w q W' := by
 obtain ⟨a, b, c, ca, cb, cc, rfl, hA, hAb, hAc⟩ := hv.form
 have hv : Zb w (.agg #[.slice a r.rules.length ca, .slice b r.zones.length cb, .slice c r.links.length cc]) r := ⟨⟨a, b, c, ca, cb, cc, rfl, hA, hAb, hAc⟩⟩
 have hB0 := (qal w (.cells #[.slice a r.rules.length ca, .slice b r.zones.length cb, .slice c r.links.length cc] 37)).alloc (by simp) (.cells #[.slice none 0 0, .int .i64 0] 140)
 obtain ⟨x0_0, x1_0, x2_0, r0_0, r1_0, f0_0, f1_0⟩ : (fun z : World => z.cell? ⟨w.heap.size, 0, none⟩ = some (.slice a r.rules.length ca) /\ z.cell? ⟨w.heap.size, 1, none⟩ = some (.slice b r.zones.length cb) /\ z.cell? ⟨w.heap.size, 2, none⟩ = some (.slice c r.links.length cc) /\ z.cell? ⟨w.heap.size + 1, 0, none⟩ = some (.slice none 0 0) /\ z.cell? ⟨w.heap.size + 1, 1, none⟩ = some (.int .i64 0) /\ z.frozen? ⟨w.heap.size + 1, 0, none⟩ = false /\ z.frozen? ⟨w.heap.size + 1, 1, none⟩ = false) ((w.alloc (.cells #[.slice a r.rules.length ca, .slice b r.zones.length cb, .slice c r.links.length cc] 37)).alloc (.cells #[.slice none 0 0, .int .i64 0] 140)) := by simp [go_sem]
 have hF := fun w (h : Zb w (.agg #[.slice a r.rules.length ca, .slice b r.zones.length cb, .slice c r.links.length cc]) r) => spec_l02Find r _ nm w h sm
 have m2 := sm.2.1
 clear hA hAc
 cases hix : jbd r.zones (ja6 r.links nm) with
 | none =>
  have HT : Hid (tabD r nm = (5, [])) := tabD_5 h1 h2 (by rw [jc2 hix]; rfl)
  rw [hix] at hF
  simp only [ixI] at hF
  clear hix h2 h1 hon hTab
  go_enter Tryz.func70, Tryz.ntmps70
  go_wp2_with fail
  refine (hF _ (hv.below hB0)).mono ?_
  rintro q w1 ⟨rfl, hb1⟩
  have hB1 := qtr hB0 hb1
  have x0_1 := jaa hb1 x0_0
  have x1_1 := jaa hb1 x1_0
  have x2_1 := jaa hb1 x2_0
  have r0_1 := jaa hb1 r0_0
  have r1_1 := jaa hb1 r1_0
  have f0_1 := qfz hb1 r0_0 f0_0
  have f1_1 := qfz hb1 r1_0 f1_0
  clear hb1 hF
  clear x0_0 x1_0 x2_0 r0_0 r1_0 f0_0 f1_0
  obtain ⟨t0, t1⟩ := jat (v0 := .slice none 0 0) (v1 := .int .i64 5) r0_1 r1_1
  have HP : Hid (Jp r nm w (.returned (.agg #[.slice none 0 0, .int .i64 5])) ((w1.setCell ⟨w.heap.size + 1, 0, none⟩ (.slice none 0 0)).setCell ⟨w.heap.size + 1, 1, none⟩ (.int .i64 5))) := jcn HT.out hB1 (by omega)
  go_wp2
  exact bodyPost_ret (v := .agg #[.slice none 0 0, .int .i64 5]) (by simp [results, Tryz.results70, go_sem, t0, t1]) rfl HP.out
 | some i =>
  have hil := zoneIx_lt hix
  obtain ⟨z, hz⟩ := qgg hil
  have hzP : jbf z = true := by
   have h' := h2
   unfold relB at h'
   simp only [Bool.and_eq_true, List.all_eq_true] at h'
   exact h'.2.2.1 z (List.mem_of_getElem? hz)
  obtain ⟨hEl, hEr⟩ := zone_eras hzP
  have hEU := zone_unt hzP
  have hzd := jcm h2 hix hz
  have hne : z.eras ≠ [] := fun h => by rw [h] at hEl; simp at hEl
  have HD7 : Hid (∀ T, tabE r z.eras = (T, false) -> tabD r nm = (7, [])) := fun T h => tabD_7 (T := T) h1 h2 (by rw [hzd]; exact hne) (by rw [hzd]; exact h)
  have HD0 : Hid (∀ T, tabE r z.eras = (T, true) -> tabD r nm = (0, T)) := fun T h => tabD_0 (T := T) h1 h2 (by rw [hzd]; exact hne) (by rw [hzd]; exact h)
  obtain ⟨hl1, hl2⟩ := rel_rules h2
  have hT := fun (ae : Option Addr) (ce : Nat) (W : World) (h : Zb W (.agg #[.slice a r.rules.length ca, .slice b r.zones.length cb, .slice c r.links.length cc]) r) (h' : Za W ae 6 (z.eras.map EraD.cs)) => hTab.go r z.name z.eras ae ce a b c ca cb cc W h h' hl2 hl1 hon hEr hEl.2 hEU
  rw [hix] at hF
  simp only [ixI] at hF
  have i1 : (0 : Int) <= (i : Int) := by omega
  have i2 : (i : Int) < (r.zones.length : Int) := by omega
  have i3 : ¬ (i : Int) < 0 := by omega
  clear hix h2 h1 hon hTab hl1 hl2 hEr hEU hne hzd hzP hEl
  go_enter Tryz.func70, Tryz.ntmps70
  go_wp2_with fail
  refine (hF _ (hv.below hB0)).mono ?_
  rintro q w1 ⟨rfl, hb1⟩
  have hB1 := qtr hB0 hb1
  have x0_1 := jaa hb1 x0_0
  have x1_1 := jaa hb1 x1_0
  have x2_1 := jaa hb1 x2_0
  have r0_1 := jaa hb1 r0_0
  have r1_1 := jaa hb1 r1_0
  have f0_1 := qfz hb1 r0_0 f0_0
  have f1_1 := qfz hb1 r1_0 f1_0
  obtain ⟨b', o', rfl, z0_1, u, z1_1, hu⟩ := (hAb.below hB1).at hz
  obtain ⟨ae, ce, rfl, hE⟩ := hu
  clear hb1 hF hAb hz
  clear x0_0 x1_0 x2_0 r0_0 r1_0 f0_0 f1_0
  have hs1 : w.heap.size + 1 < w1.heap.size := qbl r0_1
  have n1 : ¬ w.heap.size + 1 = w1.heap.size := by omega
  have n2 : ¬ w1.heap.size = w.heap.size + 1 := by omega
  have bA : Below w1.heap.size w1 w1.drew := jab w1
  have bB : Below w1.heap.size w1 (w1.alloc (.cells #[.slice none 0 0] 138)).drew := (qal w1 _).trans ((jab _).mono (by simp))
  have RA := hv.below (qtr hB1 bA)
  have RB := hv.below (qtr hB1 bB)
  have EA := hE.below bA
  have EB := hE.below bB
  have BA := qtr hB1 bA
  have BB := qtr hB1 bB
  obtain ⟨tB, tF⟩ : (fun z : World => z.cell? ⟨w1.heap.size, 0, none⟩ = some (.slice none 0 0) /\ z.frozen? ⟨w1.heap.size, 0, none⟩ = false) ((w1.alloc (.cells #[.slice none 0 0] 138)).drew) := by simp [go_sem]
  have hT := hT ae ce
  have x0_A := jaa bA x0_1
  have x0_B := jaa bB x0_1
  have x1_A := jaa bA x1_1
  have x1_B := jaa bB x1_1
  have x2_A := jaa bA x2_1
  have x2_B := jaa bB x2_1
  have r0_A := jaa bA r0_1
  have r0_B := jaa bB r0_1
  have r1_A := jaa bA r1_1
  have r1_B := jaa bB r1_1
  have z0_A := jaa bA z0_1
  have z0_B := jaa bB z0_1
  have z1_A := jaa bA z1_1
  have z1_B := jaa bB z1_1
  have f0_A := qfz bA r0_1 f0_1
  have f0_B := qfz bB r0_1 f0_1
  have f1_A := qfz bA r1_1 f1_1
  have f1_B := qfz bB r1_1 f1_1
  have := World.new_ne w1 _ x0_1
  have := World.new_ne w1 _ x1_1
  have := World.new_ne w1 _ x2_1
  have := World.new_ne w1 _ r0_1
  have := World.new_ne w1 _ r1_1
  have := World.new_ne w1 _ z0_1
  have := World.new_ne w1 _ z1_1
  go_wp2_with fail
  go_region_held3 (fun w' => w'.cell? ⟨w.heap.size, 0, none⟩ = some (.slice a r.rules.length ca) /\ w'.cell? ⟨w.heap.size, 1, none⟩ = some (.slice (some ⟨b', o', none⟩) r.zones.length cb) /\ w'.cell? ⟨w.heap.size, 2, none⟩ = some (.slice c r.links.length cc) /\ w'.cell? ⟨b', o' + i * 2, none⟩ = some (.string z.name) /\ w'.cell? ⟨b', o' + i * 2 + 1, none⟩ = some (.slice ae z.eras.length ce)) (go_keep) (first | (go_at_call 93; refine (hT _ RA EA).mono ?_; rintro q w7 hP7; obtain ⟨v7, b7, T7, rfl, hO7, hbe, hTT, hb7⟩ := hP7.ex; obtain ⟨a7, m7, c7, rfl⟩ := jac hO7; have hB7 := qtr BA hb7; have x0_7 := jaa hb7 x0_A; have x1_7 := jaa hb7 x1_A; have x2_7 := jaa hb7 x2_A; have r0_7 := jaa hb7 r0_A; have r1_7 := jaa hb7 r1_A; have z0_7 := jaa hb7 z0_A; have z1_7 := jaa hb7 z1_A; have f0_7 := qfz hb7 r0_A f0_A; have f1_7 := qfz hb7 r1_A f1_A; have hs7 : w1.heap.size <= w7.heap.size := Nat.le_trans bA.size hb7.size; have hO9 := jak hO7 bA.size) | (go_at_call 93; refine (hT _ RB EB).mono ?_; rintro q w7 hP7; obtain ⟨v7, b7, T7, rfl, hO7, hbe, hTT, hb7⟩ := hP7.ex; obtain ⟨a7, m7, c7, rfl⟩ := jac hO7; have hB7 := qtr BB hb7; have x0_7 := jaa hb7 x0_B; have x1_7 := jaa hb7 x1_B; have x2_7 := jaa hb7 x2_B; have r0_7 := jaa hb7 r0_B; have r1_7 := jaa hb7 r1_B; have z0_7 := jaa hb7 z0_B; have z1_7 := jaa hb7 z1_B; have f0_7 := qfz hb7 r0_B f0_B; have f1_7 := qfz hb7 r1_B f1_B; have hs7 : w1.heap.size <= w7.heap.size := Nat.le_trans bB.size hb7.size; have hO9 := jak hO7 bB.size; have t_7 := jaa hb7 tB; have tf_7 := qfz hb7 tB tF))
  ·skip
   have b9 : Below w7.heap.size w7 (w7.alloc (.cells #[.slice a7 m7 c7] 138)) := qal w7 _
   have r0_9 := jaa b9 r0_7
   have r1_9 := jaa b9 r1_7
   have f0_9 := qfz b9 r0_7 f0_7
   have f1_9 := qfz b9 r1_7 f1_7
   have B9 : Below w.heap.size w (w7.alloc (.cells #[.slice a7 m7 c7] 138)) := qtr hB7 b9
   have O9 : Zc (w7.alloc (.cells #[.slice a7 m7 c7] 138)) w1.heap.size (.slice a7 m7 c7) T7 := jae hO9 b9
   have t_9 : (w7.alloc (.cells #[.slice a7 m7 c7] 138)).cell? ⟨w7.heap.size, 0, none⟩ = some (.slice a7 m7 c7) := by simp [go_sem]
   obtain ⟨⟨Tq, bq⟩, hq⟩ : ∃ x, tabE r z.eras = x := ⟨_, rfl⟩
   rw [hq] at hbe hTT
   simp only at hbe hTT
   subst hbe
   cases b7 with
   | false =>
    have HT : Hid (tabD r nm = (7, [])) := HD7.out _ hq
    obtain ⟨t0, t1⟩ := jat (v0 := .slice none 0 0) (v1 := .int .i64 7) r0_9 r1_9
    have HP : Hid (Jp r nm w (.returned (.agg #[.slice none 0 0, .int .i64 7])) (((w7.alloc (.cells #[.slice a7 m7 c7] 138)).setCell ⟨w.heap.size + 1, 0, none⟩ (.slice none 0 0)).setCell ⟨w.heap.size + 1, 1, none⟩ (.int .i64 7))) := jcn HT.out B9 (by omega)
    clear hO7 hO9 hP7 hT
    go_wp2
    exact bodyPost_ret (v := .agg #[.slice none 0 0, .int .i64 7]) (by simp [results, Tryz.results70, go_sem, t0, t1]) rfl HP.out
   | true =>
    have HT : Hid (tabD r nm = (0, T7)) := HD0.out _ (by rw [hq, hTT rfl])
    obtain ⟨t0, t1⟩ := jat (v0 := .slice a7 m7 c7) (v1 := .int .i64 0) r0_9 r1_9
    have HP : Hid (Jp r nm w (.returned (.agg #[.slice a7 m7 c7, .int .i64 0])) (((w7.alloc (.cells #[.slice a7 m7 c7] 138)).setCell ⟨w.heap.size + 1, 0, none⟩ (.slice a7 m7 c7)).setCell ⟨w.heap.size + 1, 1, none⟩ (.int .i64 0))) := tabP_ok HT.out O9 hs1 B9
    clear hO7 hO9 hP7 hT O9
    go_wp2
    exact bodyPost_ret (v := .agg #[.slice a7 m7 c7, .int .i64 0]) (by simp [results, Tryz.results70, go_sem, t0, t1]) rfl HP.out
  ·skip
   have r0_9 : (w7.setCell ⟨w1.heap.size, 0, none⟩ (.slice a7 m7 c7)).cell? ⟨w.heap.size + 1, 0, none⟩ = some (.slice none 0 0) := by rw [World.cell?_setCell_other _ _ _ _ (by simp)]; exact r0_7
   have r1_9 : (w7.setCell ⟨w1.heap.size, 0, none⟩ (.slice a7 m7 c7)).cell? ⟨w.heap.size + 1, 1, none⟩ = some (.int .i64 0) := by rw [World.cell?_setCell_other _ _ _ _ (by simp)]; exact r1_7
   have f0_9 : (w7.setCell ⟨w1.heap.size, 0, none⟩ (.slice a7 m7 c7)).frozen? ⟨w.heap.size + 1, 0, none⟩ = false := by rw [World.frozen?_setCell]; exact f0_7
   have f1_9 : (w7.setCell ⟨w1.heap.size, 0, none⟩ (.slice a7 m7 c7)).frozen? ⟨w.heap.size + 1, 1, none⟩ = false := by rw [World.frozen?_setCell]; exact f1_7
   have hw1 := hB1.size
   have B9 : Below w.heap.size w (w7.setCell ⟨w1.heap.size, 0, none⟩ (.slice a7 m7 c7)) := hB7.setCell (show w.heap.size <= w1.heap.size by omega) _
   have O9 : Zc (w7.setCell ⟨w1.heap.size, 0, none⟩ (.slice a7 m7 c7)) w1.heap.size (.slice a7 m7 c7) T7 := jce hO9 (fun e => by have h1 := (World.ownsRow.lt hO7 _ e).1; simp at h1; omega)
   have t_9 : (w7.setCell ⟨w1.heap.size, 0, none⟩ (.slice a7 m7 c7)).cell? ⟨w1.heap.size, 0, none⟩ = some (.slice a7 m7 c7) := World.cell?_setCell_same _ _ _ t_7
   obtain ⟨⟨Tq, bq⟩, hq⟩ : ∃ x, tabE r z.eras = x := ⟨_, rfl⟩
   rw [hq] at hbe hTT
   simp only at hbe hTT
   subst hbe
   cases b7 with
   | false =>
    have HT : Hid (tabD r nm = (7, [])) := HD7.out _ hq
    obtain ⟨t0, t1⟩ := jat (v0 := .slice none 0 0) (v1 := .int .i64 7) r0_9 r1_9
    have HP : Hid (Jp r nm w (.returned (.agg #[.slice none 0 0, .int .i64 7])) (((w7.setCell ⟨w1.heap.size, 0, none⟩ (.slice a7 m7 c7)).setCell ⟨w.heap.size + 1, 0, none⟩ (.slice none 0 0)).setCell ⟨w.heap.size + 1, 1, none⟩ (.int .i64 7))) := jcn HT.out B9 (by omega)
    clear hO7 hO9 hP7 hT
    go_wp2
    exact bodyPost_ret (v := .agg #[.slice none 0 0, .int .i64 7]) (by simp [results, Tryz.results70, go_sem, t0, t1]) rfl HP.out
   | true =>
    have HT : Hid (tabD r nm = (0, T7)) := HD0.out _ (by rw [hq, hTT rfl])
    obtain ⟨t0, t1⟩ := jat (v0 := .slice a7 m7 c7) (v1 := .int .i64 0) r0_9 r1_9
    have HP : Hid (Jp r nm w (.returned (.agg #[.slice a7 m7 c7, .int .i64 0])) (((w7.setCell ⟨w1.heap.size, 0, none⟩ (.slice a7 m7 c7)).setCell ⟨w.heap.size + 1, 0, none⟩ (.slice a7 m7 c7)).setCell ⟨w.heap.size + 1, 1, none⟩ (.int .i64 0))) := tabP_ok HT.out O9 hs1 B9
    clear hO7 hO9 hP7 hT O9
    go_wp2
    exact bodyPost_ret (v := .agg #[.slice a7 m7 c7, .int .i64 0]) (by simp [results, Tryz.results70, go_sem, t0, t1]) rfl HP.out
end Go.Proofs.YtpejeokacilebaaGreatDoor
