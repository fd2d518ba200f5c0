/- Packed: Ft2 WTable. -/
import Derived.Test.YtcelbkmnbjcjhaaGreatDoorFtPk
import Derived.Test.YtcelbkmnbjcjhaaGreatDoorRl4k
import Derived.Test.YtcelbkmnbjcjhaaGreatDoorTs10k
import Derived.Test.YtcelbkmnbjcjhaaGreatDoorZonePk
import Derived.Test.YtcelbkmnbjcjhaaGreatDoorTabPk
namespace Go.Proofs.YtcelbkmnbjcjhaaGreatDoor
open Go.RowKit

structure FM (br bx : Nat) (rv zv lv tv : Value) (cd : Int) (R : RelD) (T : List TurnD) (w wx : World) : Prop where
 c0 : wx.cell? ⟨br, 0, none⟩ = some rv
 c1 : wx.cell? ⟨br, 1, none⟩ = some zv
 c2 : wx.cell? ⟨br, 2, none⟩ = some lv
 x0 : wx.cell? ⟨bx, 0, none⟩ = some tv
 x1 : wx.cell? ⟨bx, 1, none⟩ = some (.int .i64 cd)
 g : RelG wx (.agg #[rv, zv, lv]) R
 t : TabAt wx (.agg #[tv]) T
 b : Below w.heap.size w wx
 e : EnvZ wx
theorem FM.below {br bx : Nat} {rv zv lv tv : Value} {cd : Int} {R : RelD} {T : List TurnD} {w wx wy : World} (h : FM br bx rv zv lv tv cd R T w wx) (hb : Below wx.heap.size wx wy) : FM br bx rv zv lv tv cd R T w wy :=
 ⟨keepC hb h.c0, keepC hb h.c1, keepC hb h.c2, keepC hb h.x0, keepC hb h.x1, h.g.below hb, h.t.below hb, h.b.trans (hb.mono h.b.size), h.e.of_below hb⟩
def noEra (E : List EraD) (ts tof : Int) (k : Nat) : Prop := ∀ (q : Nat) e, q < k → E[q]? = some e → e.offset + ts ≠ tof
structure InS (E : List EraD) (ts tof : Int) (k : Nat) (b : Bool) : Prop where
 no : b = false → noEra E ts tof k
theorem InS.hit {E : List EraD} {ts tof : Int} {k : Nat} (b : Bool) (h : b = true) : InS E ts tof k b := ⟨fun e => by rw [h] at e; cases e⟩
theorem InS.step {E : List EraD} {ts tof : Int} {k : Nat} {e : EraD} (h : InS E ts tof k false) (he : E[k]? = some e) (hn : e.offset + ts ≠ tof) : InS E ts tof (k + 1) false := ⟨fun _ q x hq hx => by
 by_cases e1 : q = k
 ·
  subst e1; rw [he] at hx; obtain rfl := Option.some.inj hx; exact hn
 ·
  exact h.no rfl q x (by omega) hx⟩
theorem like_no {x y : TurnD} (h : likeT x y = false) : y.offset ≠ x.offset ∨ (y.offset = x.offset ∧ y.save ≠ x.save) ∨ (y.offset = x.offset ∧ y.save = x.save ∧ (y.abbr.toList == x.abbr.toList) = false) := by
 by_cases h1 : y.offset = x.offset
 ·
  by_cases h2 : y.save = x.save
  ·
   refine .inr (.inr ⟨h1, h2, ?_⟩)
   unfold likeT at h
   rw [h1, h2] at h
   simp at h
   simp
   exact fun e => h e.symm
  ·
   exact .inr (.inl ⟨h1, h2⟩)
 ·
  exact .inl h1
set_option linter.unusedSimpArgs false in
set_option maxRecDepth 100000 in
set_option maxHeartbeats 12000000 in
theorem table_walk (a0 : Option Addr) (len0 cap0 : Nat) (w : World) (h0 : len0 ≤ 1048576) (r0 : RowOf w a0 len0) (hEnv : EnvZ w) :
  Calls Tryz.prog 4 #[.slice a0 len0 cap0] w fun e w' => e = .returned (.bool true) ∧ Below w.heap.size w w' := by
 have g0 : ¬ (1048576 : Int) < (len0 : Int) := by omega
 go_enter Tryz.func4, Tryz.ntmps4
 go_wp2_with fail
 refine (draw_TableOf a0 len0 cap0 _ r0 h0).mono ?_
 intro e w1 hd
 obtain ⟨rv, zv, lv, R, evs, nm, rfl, L1, hnm, B1⟩ := hd.ex
 clear hd r0
 obtain ⟨ra, cr, nr, rfl⟩ : ∃ b c n, rv = .slice b n c := by obtain ⟨b, c, h⟩ := own_shape L1.rr; exact ⟨b, c, _, h⟩
 obtain ⟨za, cz, nz, rfl⟩ : ∃ b c n, zv = .slice b n c := by obtain ⟨b, c, h⟩ := own_shape L1.zz; exact ⟨b, c, _, h⟩
 obtain ⟨la, cl, nl, rfl⟩ : ∃ b c n, lv = .slice b n c := by obtain ⟨b, c, h⟩ := own_shape L1.ll; exact ⟨b, c, _, h⟩
 have b2 : Below w1.heap.size w1 (w1.alloc (.cells #[.slice ra nr cr, .slice za nz cz, .slice la nl cl] 27)) := (Below.refl _ _).alloc (Nat.le_refl _) _
 have G2 : RelG (w1.alloc (.cells #[.slice ra nr cr, .slice za nz cz, .slice la nl cl] 27)) (.agg #[.slice ra nr cr, .slice za nz cz, .slice la nl cl]) R := L1.good.below b2
 have B2 : Below w.heap.size w (w1.alloc (.cells #[.slice ra nr cr, .slice za nz cz, .slice la nl cl] 27)) := B1.trans (b2.mono B1.size)
 have E2 := (hEnv.of_below B1).of_below b2
 have C0 : (w1.alloc (.cells #[.slice ra nr cr, .slice za nz cz, .slice la nl cl] 27)).cell? ⟨w1.heap.size, 0, none⟩ = some (.slice ra nr cr) := by simp [go_sem]
 have C1 : (w1.alloc (.cells #[.slice ra nr cr, .slice za nz cz, .slice la nl cl] 27)).cell? ⟨w1.heap.size, 1, none⟩ = some (.slice za nz cz) := by simp [go_sem]
 have C2 : (w1.alloc (.cells #[.slice ra nr cr, .slice za nz cz, .slice la nl cl] 27)).cell? ⟨w1.heap.size, 2, none⟩ = some (.slice la nl cl) := by simp [go_sem]
 have hnm' : nm.size ≤ maxLen := by unfold maxLen; omega
 have ok := G2.ok
 have sm := G2.small
 have hon := G2.on
 clear L1 b2 B1 hEnv
 obtain ⟨⟨cd, T⟩, hcd⟩ : ∃ x, tabD R nm = x := ⟨_, rfl⟩
 have HGo : Hid (cd = 0 → relB R = true ∧ (zoneD R nm).eras ≠ [] ∧ TabG (zoneD R nm).eras T ∧ tabD R (zoneD R nm).name = (0, T) ∧ (zoneD R nm).name.size ≤ 20) := fun h => by
  obtain ⟨x1, x2, x3, x4⟩ := tabD_good (r := R) (nm := nm) (by rw [hcd]; exact h)
  rw [hcd] at x4
  have hz := (zoneD_right x2 x3).1
  have hzn : (zoneD R nm).name.size ≤ 20 := by
   unfold zoneP at hz
   simp only [Bool.and_eq_true] at hz
   exact (nameB_t hz.1).2.1
  exact ⟨x2, x3, x4, by rw [tab_own x1 x2 x3 (by omega), hcd, h], hzn⟩
 have HNo : Hid (cd ≠ 0 → T = []) := fun h => by have := tabD_none (r := R) (nm := nm) (by rw [hcd]; exact h); rw [hcd] at this; exact this
 have hTl : T.length ≤ 600 := by have := tabD_len R nm; rw [hcd] at this; exact this
 have hI : ∀ w, EnvZ w → RelAt w (.agg #[.slice ra nr cr, .slice za nz cz, .slice la nl cl]) R → Calls Tryz.prog 12 #[.agg #[.slice ra nr cr, .slice za nz cz, .slice la nl cl], .string nm] w fun e W' => ∃ v', e = .returned (.agg #[v', .int .i64 cd]) ∧ OwnsT W' w.heap.size v' T ∧ Below w.heap.size w W' := fun w hE h => (impl_TableOf R _ nm w hE h ok sm hon hnm').mono fun q W' hP => by have := hP.ex; rw [hcd] at this; exact this
 have hS : ∀ w, RelAt w (.agg #[.slice ra nr cr, .slice za nz cz, .slice la nl cl]) R → Calls Tryz.prog 13 #[.agg #[.slice ra nr cr, .slice za nz cz, .slice la nl cl], .string nm] w fun e W' => ∃ v', e = .returned (.agg #[v', .int .i64 cd]) ∧ OwnsT W' w.heap.size v' T ∧ Below w.heap.size w W' := fun w h => (spec_TableOf tabC R _ nm w h ok sm hon hnm').mono fun q W' hP => by have := hP.ex; rw [hcd] at this; exact this
 clear hcd
 obtain ⟨n, hn⟩ : ∃ n, T.length = n := ⟨_, rfl⟩
 have HN : Hid (T.length = n) := hn
 rw [hn] at hTl
 go_wp2_with fail
 refine (hI _ E2 G2.at_).mono ?_
 rintro e w3 ⟨v3, rfl, O3, hb⟩
 obtain ⟨l3, d3, rfl⟩ : ∃ a c, v3 = .slice a n c := by obtain ⟨a, c, h, _⟩ := O3.seq; exact ⟨a, c, by rw [h, hn]⟩
 have b4 : Below w3.heap.size w3 (w3.alloc (.cells #[.slice l3 n d3, .int .i64 cd] 44)) := (Below.refl _ _).alloc (Nat.le_refl _) _
 have M4 : FM w1.heap.size w3.heap.size (.slice ra nr cr) (.slice za nz cz) (.slice la nl cl) (.slice l3 n d3) cd R T w (w3.alloc (.cells #[.slice l3 n d3, .int .i64 cd] 44)) := ⟨keepC b4 (keepC hb C0), keepC b4 (keepC hb C1), keepC b4 (keepC hb C2), by simp [go_sem], by simp [go_sem], (G2.below hb).below b4, O3.tabF.below b4, (B2.trans (hb.mono B2.size)).trans (b4.mono (B2.trans (hb.mono B2.size)).size), (E2.of_below hb).of_below b4⟩
 clear C0 C1 C2 G2 B2 E2 O3 hb b4 hI
 have c0 := M4.c0
 have c1 := M4.c1
 have c2 := M4.c2
 go_wp2_with fail
 refine (hS _ M4.g.at_).mono ?_
 rintro e w5 ⟨v5, rfl, O5, hb⟩
 obtain ⟨l5, d5, rfl⟩ : ∃ a c, v5 = .slice a n c := by obtain ⟨a, c, h, _⟩ := O5.seq; exact ⟨a, c, by rw [h, hn]⟩
 have b6 : Below w5.heap.size w5 (w5.alloc (.cells #[.slice l5 n d5, .int .i64 cd] 44)) := (Below.refl _ _).alloc (Nat.le_refl _) _
 have M6 := (M4.below hb).below b6
 have U6 := O5.tabF.below b6
 clear M4 hb b6 O5 c0 c1 c2 hS hn
 have x0 := M6.x0
 have x1 := M6.x1
 have hcc : (cd != cd) = false := by simp
 go_wp2_with fail
 refine (laws_lwTable T n l3 l5 d3 d5 _ M6.t U6 HN.out (by omega)).mono ?_
 rintro e w7 ⟨rfl, hb⟩
 have M7 := M6.below hb
 clear M6 hb U6 x0 x1 hcc
 have x0 := M7.x0
 have x1 := M7.x1
 by_cases hz : cd = 0
 case neg =>
  have hn0 : n = 0 := by rw [← HN.out, HNo.out hz]; rfl
  subst hn0
  have hz1 : (cd != 0) = true := by simp [hz]
  have hE := M7.b
  clear M7 hz HGo HNo
  go_wp2
  go_ret
  exact ⟨rfl, hE⟩
 subst hz
 obtain ⟨hrb, hne, hTG, hT2, hzn⟩ := HGo.out rfl
 have hER := (zone_eras (zoneD_right hrb hne).1)
 have c0 := M7.c0
 have c1 := M7.c1
 have c2 := M7.c2
 go_wp2_with fail
 refine (spec_ZoneOf R _ nm _ M7.g.at_ ok sm hon (by omega)).mono ?_
 rintro e w8 ⟨ev, rfl, O8, hb⟩
 have M8 := M7.below hb
 have hI2 : ∀ w, EnvZ w → RelAt w (.agg #[.slice ra nr cr, .slice za nz cz, .slice la nl cl]) R → Calls Tryz.prog 12 #[.agg #[.slice ra nr cr, .slice za nz cz, .slice la nl cl], .string (zoneD R nm).name] w fun e W' => ∃ v', e = .returned (.agg #[v', .int .i64 0]) ∧ OwnsT W' w.heap.size v' T ∧ Below w.heap.size w W' := fun w hE h => (impl_TableOf R _ _ w hE h ok sm hon (by unfold maxLen; omega)).mono fun q W' hP => by have := hP.ex; rw [hT2] at this; exact this
 obtain ⟨zn, hznm⟩ : ∃ x, (zoneD R nm).name = x := ⟨_, rfl⟩
 obtain ⟨E, hEE⟩ : ∃ x, (zoneD R nm).eras = x := ⟨_, rfl⟩
 rw [hznm] at hI2
 try rw [hznm]
 rw [hEE] at O8 hTG hER
 have HTG : Hid (TabG E T) := hTG
 have HER : Hid (∀ e ∈ E, EraR e) := hER.2
 obtain ⟨ne, hnE⟩ : ∃ n, E.length = n := ⟨_, rfl⟩
 have HNE : Hid (E.length = ne) := hnE
 have hne8 : ne ≤ 8 := by rw [← hnE]; exact hER.1.2
 obtain ⟨ea, ec, rfl⟩ : ∃ a c, ev = .slice a ne c := by obtain ⟨a, c, h, _⟩ := O8.sl; exact ⟨a, c, by rw [h, hnE]⟩
 have hTR : tabB T = true := hTG.right
 have hok : ∀ t ∈ T, t.ok := fun t ht => by
  have := (tab_of hTR).one t ht
  unfold turnB at this
  simp only [Bool.and_eq_true, decide_eq_true_eq] at this
  show t.abbr.size ≤ maxLen
  unfold maxLen
  omega
 have hR1 : ∀ w, TabAt w (.agg #[.slice l3 n d3]) T → Calls Tryz.prog 16 #[.agg #[.slice l3 n d3]] w fun e w' => e = .returned (.bool true) ∧ Below w.heap.size w w' := fun w h => by have := impl_TableRight T _ w h hok (by rw [HN.out]; omega); rw [hTR] at this; exact this
 have hR2 : ∀ w, TabAt w (.agg #[.slice l3 n d3]) T → Calls Tryz.prog 17 #[.agg #[.slice l3 n d3]] w fun e w' => e = .returned (.bool true) ∧ Below w.heap.size w w' := fun w h => by have := spec_TableRight T _ w h hok; rw [hTR] at this; exact this
 have HTB : Hid (tabB T = true) := hTR
 have b9 : Below w8.heap.size w8 (w8.alloc (.cells #[.string zn, .slice ea ne ec] 49)) := (Below.refl _ _).alloc (Nat.le_refl _) _
 have M9 := M8.below b9
 have Z9 : (w8.alloc (.cells #[.string zn, .slice ea ne ec] 49)).cell? ⟨w8.heap.size, 0, none⟩ = some (.string zn) := by simp [go_sem]
 have Y9 : (w8.alloc (.cells #[.string zn, .slice ea ne ec] 49)).cell? ⟨w8.heap.size, 1, none⟩ = some (.slice ea ne ec) := by simp [go_sem]
 have ES9 : EraSl (w8.alloc (.cells #[.string zn, .slice ea ne ec] 49)) (.slice ea ne ec) E := (O8.below b9).sl
 clear M7 M8 hb b9 O8 x0 x1 c0 c1 c2 hTR hTG hER hT2 hrb hne HGo HNo hzn hznm hEE hnE hok
 have x0 := M9.x0
 have c0 := M9.c0
 have c1 := M9.c1
 have c2 := M9.c2
 go_wp2_with fail
 refine wp_region_noPanic ?_
 refine wp_region_held_drew (S := fun w' => w'.cell? ⟨w3.heap.size, 0, none⟩ = some (.slice l3 n d3) ∧ w'.cell? ⟨w1.heap.size, 0, none⟩ = some (.slice ra nr cr) ∧ w'.cell? ⟨w1.heap.size, 1, none⟩ = some (.slice za nz cz) ∧ w'.cell? ⟨w1.heap.size, 2, none⟩ = some (.slice la nl cl) ∧ w'.cell? ⟨w8.heap.size, 0, none⟩ = some (.string zn)) (by kernel_rfl) ⟨(show (w8.alloc (.cells #[.string zn, .slice ea ne ec] 49)).drew.cell? ⟨w3.heap.size, 0, none⟩ = _ from x0), (show (w8.alloc (.cells #[.string zn, .slice ea ne ec] 49)).drew.cell? ⟨w1.heap.size, 0, none⟩ = _ from c0), (show (w8.alloc (.cells #[.string zn, .slice ea ne ec] 49)).drew.cell? ⟨w1.heap.size, 1, none⟩ = _ from c1), (show (w8.alloc (.cells #[.string zn, .slice ea ne ec] 49)).drew.cell? ⟨w1.heap.size, 2, none⟩ = _ from c2), (show (w8.alloc (.cells #[.string zn, .slice ea ne ec] 49)).drew.cell? ⟨w8.heap.size, 0, none⟩ = _ from Z9)⟩ (fun hHeld => ?_)
 have MA := M9.below (below_drew _)
 have YA := keepC (below_drew _) Y9
 have EA := ES9.below (below_drew _)
 clear M9 Z9 Y9 ES9 x0 c0 c1 c2
 refine wpAnyH_take (i := 0) (v := ?v1) rfl (by kernel_rfl) (by kernel_rfl) (by kernel_rfl) (fun _ _ _ h => h) (Or.inl ⟨by kernel_rfl, ?y1⟩) hHeld ?z1
 case y1 => (intro wq hSw; (try dsimp only at hSw); go_simp; try with_reducible rfl)
 try simp only [Act.put, qq1, qq2, qq3]
 refine wpAnyH_take (i := 1) (v := ?v2) rfl (by kernel_rfl) (by kernel_rfl) (by kernel_rfl) (fun _ _ _ h => h) (Or.inl ⟨by kernel_rfl, ?y2⟩) hHeld ?z2
 case y2 => (intro wq hSw; (try dsimp only at hSw); go_simp; try with_reducible rfl)
 try simp only [Act.put, qq1, qq2, qq3]
 refine wpAnyH_ready (rs := [2]) (by kernel_rfl) (by simp) ?_
 refine AllReadyH.cons rfl (fun K hK => ?_) AllReadyH.nil
 go_simp
 refine (hR1 _ MA.t).mono ?_
 rintro e wA ⟨rfl, hb⟩
 have hH2 : (fun w' => w'.cell? ⟨w3.heap.size, 0, none⟩ = some (.slice l3 n d3) ∧ w'.cell? ⟨w1.heap.size, 0, none⟩ = some (.slice ra nr cr) ∧ w'.cell? ⟨w1.heap.size, 1, none⟩ = some (.slice za nz cz) ∧ w'.cell? ⟨w1.heap.size, 2, none⟩ = some (.slice la nl cl) ∧ w'.cell? ⟨w8.heap.size, 0, none⟩ = some (.string zn)) wA := ⟨keepC hb hHeld.1, keepC hb hHeld.2.1, keepC hb hHeld.2.2.1, keepC hb hHeld.2.2.2.1, keepC hb hHeld.2.2.2.2⟩
 have MB := MA.below hb
 have YB := keepC hb YA
 have EB := EA.below hb
 clear hb MA YA EA
 go_wp2_with fail
 refine hK.out _ _ hH2 (fun hHeld => ?_)
 clear hK K hH2
 try simp only [Act.put, qq1, qq2, qq3]
 refine wpAnyH_take (i := 3) (v := .bool false) rfl (by kernel_rfl) (by kernel_rfl) (by kernel_rfl) (fun _ _ _ h => h) (Or.inl ⟨by kernel_rfl, ?y3⟩) hHeld ?z3
 case y3 => (intro wq hSw; (try dsimp only at hSw); go_simp)
 try simp only [Act.put, qq1, qq2, qq3]
 refine wpAnyH_take (i := 4) (v := .bool false) rfl (by kernel_rfl) (by kernel_rfl) (by kernel_rfl) (fun _ _ _ h => h) (Or.inl ⟨by kernel_rfl, ?y4⟩) hHeld ?z4
 case y4 => (intro wq hSw; (try dsimp only at hSw); go_simp)
 try simp only [Act.put, qq1, qq2, qq3]
 refine wpAnyH_take (i := 5) (v := ?v5) rfl (by kernel_rfl) (by kernel_rfl) (by kernel_rfl) (fun _ _ _ h => h) (Or.inl ⟨by kernel_rfl, ?y5⟩) hHeld ?z5
 case y5 => (intro wq hSw; (try dsimp only at hSw); go_simp; try with_reducible rfl)
 try simp only [Act.put, qq1, qq2, qq3]
 refine wpAnyH_take (i := 6) (v := ?v6) rfl (by kernel_rfl) (by kernel_rfl) (by kernel_rfl) (fun _ _ _ h => h) (Or.inl ⟨by kernel_rfl, ?y6⟩) hHeld ?z6
 case y6 => (intro wq hSw; (try dsimp only at hSw); go_simp; try with_reducible rfl)
 try simp only [Act.put, qq1, qq2, qq3]
 refine wpAnyH_ready (rs := [7]) (by kernel_rfl) (by simp) ?_
 refine AllReadyH.cons rfl (fun K hK => ?_) AllReadyH.nil
 go_simp
 refine (hR2 _ MB.t).mono ?_
 rintro e wB ⟨rfl, hb⟩
 have hH2 : (fun w' => w'.cell? ⟨w3.heap.size, 0, none⟩ = some (.slice l3 n d3) ∧ w'.cell? ⟨w1.heap.size, 0, none⟩ = some (.slice ra nr cr) ∧ w'.cell? ⟨w1.heap.size, 1, none⟩ = some (.slice za nz cz) ∧ w'.cell? ⟨w1.heap.size, 2, none⟩ = some (.slice la nl cl) ∧ w'.cell? ⟨w8.heap.size, 0, none⟩ = some (.string zn)) wB := ⟨keepC hb hHeld.1, keepC hb hHeld.2.1, keepC hb hHeld.2.2.1, keepC hb hHeld.2.2.2.1, keepC hb hHeld.2.2.2.2⟩
 have MC := MB.below hb
 have YC := keepC hb YB
 have EC := EB.below hb
 clear hb MB YB EB
 go_wp2_with fail
 refine hK.out _ _ hH2 (fun hHeld => ?_)
 clear hK K hH2
 try simp only [Act.put, qq1, qq2, qq3]
 refine wpAnyH_take (i := 8) (v := .bool false) rfl (by kernel_rfl) (by kernel_rfl) (by kernel_rfl) (fun _ _ _ h => h) (Or.inl ⟨by kernel_rfl, ?y7⟩) hHeld ?z7
 case y7 => (intro wq hSw; (try dsimp only at hSw); go_simp)
 try simp only [Act.put, qq1, qq2, qq3]
 refine wpAnyH_take (i := 9) (v := .bool false) rfl (by kernel_rfl) (by kernel_rfl) (by kernel_rfl) (fun _ _ _ h => h) (Or.inl ⟨by kernel_rfl, ?y8⟩) hHeld ?z8
 case y8 => (intro wq hSw; (try dsimp only at hSw); go_simp)
 try simp only [Act.put, qq1, qq2, qq3]
 refine wpAnyH_take (i := 10) (v := .bool false) rfl (by kernel_rfl) (by kernel_rfl) (by kernel_rfl) (fun _ _ _ h => h) (Or.inl ⟨by kernel_rfl, ?y9⟩) hHeld ?z9
 case y9 => (intro wq hSw; (try dsimp only at hSw); go_simp)
 try simp only [Act.put, qq1, qq2, qq3]
 refine wpAnyH_take (i := 11) (v := ?v10) rfl (by kernel_rfl) (by kernel_rfl) (by kernel_rfl) (fun _ _ _ h => h) (Or.inl ⟨by kernel_rfl, ?y10⟩) hHeld ?z10
 case y10 => (intro wq hSw; (try dsimp only at hSw); go_simp; try with_reducible rfl)
 try simp only [Act.put, qq1, qq2, qq3]
 refine wpAnyH_take (i := 12) (v := ?v11) rfl (by kernel_rfl) (by kernel_rfl) (by kernel_rfl) (fun _ _ _ h => h) (Or.inl ⟨by kernel_rfl, ?y11⟩) hHeld ?z11
 case y11 => (intro wq hSw; (try dsimp only at hSw); go_simp; try with_reducible rfl)
 try simp only [Act.put, qq1, qq2, qq3]
 refine wpAnyH_take (i := 13) (v := ?v12) rfl (by kernel_rfl) (by kernel_rfl) (by kernel_rfl) (fun _ _ _ h => h) (Or.inl ⟨by kernel_rfl, ?y12⟩) hHeld ?z12
 case y12 => (intro wq hSw; (try dsimp only at hSw); go_simp; try with_reducible rfl)
 try simp only [Act.put, qq1, qq2, qq3]
 refine wpAnyH_take (i := 16) (v := ?v13) rfl (by kernel_rfl) (by kernel_rfl) (by kernel_rfl) (fun _ _ _ h => h) (Or.inl ⟨by kernel_rfl, ?y13⟩) hHeld ?z13
 case y13 => (intro wq hSw; (try dsimp only at hSw); go_simp; try with_reducible rfl)
 try simp only [Act.put, qq1, qq2, qq3]
 refine wpAnyH_take (i := 17) (v := ?v14) rfl (by kernel_rfl) (by kernel_rfl) (by kernel_rfl) (fun _ _ _ h => h) (Or.inl ⟨by kernel_rfl, ?y14⟩) hHeld ?z14
 case y14 => (intro wq hSw; (try dsimp only at hSw); go_simp; try with_reducible rfl)
 try simp only [Act.put, qq1, qq2, qq3]
 refine wpAnyH_ready (rs := [14]) (by kernel_rfl) (by simp) ?_
 refine AllReadyH.cons rfl (fun K hK => ?_) AllReadyH.nil
 go_simp
 refine (hI2 _ MC.e MC.g.at_).mono ?_
 rintro e wC ⟨v14, rfl, O14, hb⟩
 have hH2 : (fun w' => w'.cell? ⟨w3.heap.size, 0, none⟩ = some (.slice l3 n d3) ∧ w'.cell? ⟨w1.heap.size, 0, none⟩ = some (.slice ra nr cr) ∧ w'.cell? ⟨w1.heap.size, 1, none⟩ = some (.slice za nz cz) ∧ w'.cell? ⟨w1.heap.size, 2, none⟩ = some (.slice la nl cl) ∧ w'.cell? ⟨w8.heap.size, 0, none⟩ = some (.string zn)) wC := ⟨keepC hb hHeld.1, keepC hb hHeld.2.1, keepC hb hHeld.2.2.1, keepC hb hHeld.2.2.2.1, keepC hb hHeld.2.2.2.2⟩
 obtain ⟨l14, d14, rfl⟩ : ∃ a c, v14 = .slice a n c := by obtain ⟨a, c, h, _⟩ := O14.seq; exact ⟨a, c, by rw [h, HN.out]⟩
 have T14 := O14.tabF
 have hfd : ∀ w : World, (Instr.field 44 (.agg #[.slice l14 n d14, .int .i64 0]) 0).run Tryz.prog w = .ok (.agg #[.slice l14 n d14]) w := fun _ => by kernel_rfl
 clear O14
 have MD := MC.below hb
 have YD := keepC hb YC
 have ED := EC.below hb
 clear hb MC YC EC
 go_wp2_with fail
 refine hK.out _ _ hH2 (fun hHeld => ?_)
 clear hK K hH2
 try simp only [Act.put, qq1, qq2, qq3]
 refine wpAnyH_take (i := 15) (v := .agg #[.slice l14 n d14]) rfl (by kernel_rfl) (by kernel_rfl) (by kernel_rfl) (fun _ _ _ h => h) (Or.inl ⟨by kernel_rfl, ?y15⟩) hHeld ?z15
 case y15 => (intro wq hSw; (try dsimp only at hSw); go_simp)
 try simp only [Act.put, qq1, qq2, qq3]
 refine wpAnyH_ready (rs := [18]) (by kernel_rfl) (by simp) ?_
 refine AllReadyH.cons rfl (fun K hK => ?_) AllReadyH.nil
 go_simp
 refine (laws_lwTable T n l14 l3 d14 d3 _ T14 MD.t HN.out (by omega)).mono ?_
 rintro e wD ⟨rfl, hb⟩
 have hH2 : (fun w' => w'.cell? ⟨w3.heap.size, 0, none⟩ = some (.slice l3 n d3) ∧ w'.cell? ⟨w1.heap.size, 0, none⟩ = some (.slice ra nr cr) ∧ w'.cell? ⟨w1.heap.size, 1, none⟩ = some (.slice za nz cz) ∧ w'.cell? ⟨w1.heap.size, 2, none⟩ = some (.slice la nl cl) ∧ w'.cell? ⟨w8.heap.size, 0, none⟩ = some (.string zn)) wD := ⟨keepC hb hHeld.1, keepC hb hHeld.2.1, keepC hb hHeld.2.2.1, keepC hb hHeld.2.2.2.1, keepC hb hHeld.2.2.2.2⟩
 clear T14 hfd
 have ME := MD.below hb
 have YE := keepC hb YD
 have EE := ED.below hb
 clear hb MD YD ED
 go_wp2_with fail
 refine hK.out _ _ hH2 (fun hHeld => ?_)
 clear hK K hH2
 try simp only [Act.put, qq1, qq2, qq3]
 refine wpAnyH_take (i := 19) (v := .bool false) rfl (by kernel_rfl) (by kernel_rfl) (by kernel_rfl) (fun _ _ _ h => h) (Or.inl ⟨by kernel_rfl, ?y16⟩) hHeld ?z16
 case y16 => (intro wq hSw; (try dsimp only at hSw); go_simp)
 try simp only [Act.put, qq1, qq2, qq3]
 refine wpAnyH_take (i := 20) (v := .bool false) rfl (by kernel_rfl) (by kernel_rfl) (by kernel_rfl) (fun _ _ _ h => h) (Or.inl ⟨by kernel_rfl, ?y17⟩) hHeld ?z17
 case y17 => (intro wq hSw; (try dsimp only at hSw); go_simp)
 try simp only [Act.put, qq1, qq2, qq3]
 try simp only [Act.put, List.getElem_toArray, List.getElem_cons_succ, List.getElem_cons_zero, qq1, qq2, qq3]
 refine wpAnyH_done (by kernel_rfl) ?_ _
 refine NoPanic.normal ?_
 clear hHeld
 clear hR1 hR2 hI2
 have x0 := ME.x0
 go_wp2
 go_loopw [8, 9, 10, 11] (fun s _ _ _ wr => ∃ i : Nat, i ≤ n ∧ s = .int .i64 i ∧ Below wD.heap.size wD wr) (fun s _ _ _ _ => n - (intOf s).toNat)
 case atStart => exact ⟨0, by omega, rfl, Below.refl _ _⟩
 case round =>
  obtain ⟨wa, hwa⟩ : ∃ x : World, x = wr := ⟨_, rfl⟩
  subst hwa
  obtain ⟨i, hi, rfl, hBr⟩ := hrel
  have MF := ME.below hBr
  have YF := keepC hBr YE
  have EF := EE.below hBr
  clear ME YE EE x0
  have x0 := MF.x0
  by_cases him : i < n
  ·
   have q1 : (i : Int) < (n : Int) := by omega
   have q0 : (0 : Int) ≤ (i : Int) := by omega
   obtain ⟨t, ht⟩ : ∃ t, T[i]? = some t := ⟨_, List.getElem?_eq_getElem (by have := HN.out; omega)⟩
   have htm := List.mem_of_getElem? ht
   obtain ⟨e0, he0, heo⟩ := HTG.out.era t htm
   have htb := (tab_of HTB.out).one t htm
   have HPr : Hid (∀ j, i = j + 1 → ∃ y, T[j]? = some y ∧ likeT y t = false) := fun j hj => by
    obtain ⟨y, hy⟩ : ∃ y, T[j]? = some y := ⟨_, List.getElem?_eq_getElem (by have := HN.out; omega)⟩
    exact ⟨y, hy, HTG.out.nl j y t hy (by rw [← hj]; exact ht)⟩
   obtain ⟨g, og, rfl, t0, t1, t2, t3⟩ := MF.t.get4 ht
   obtain ⟨ta, tof, ts, tb⟩ := t
   simp only at t0 t1 t2 t3 heo
   have hts : -7200 ≤ ts ∧ ts ≤ 7200 := by
    unfold turnB at htb
    simp only [Bool.and_eq_true] at htb
    exact isB_of_t htb.2.1
   have HEx : Hid (∃ e ∈ E, e.offset + ts = tof) := ⟨e0, he0, heo⟩
   clear ht htm htb he0 heo
   have bT : Below wa.heap.size wa (wa.alloc (.cells #[.int .i64 ta, .int .i64 tof, .int .i64 ts, .string tb] 53)) := (Below.refl _ _).alloc (Nat.le_refl _) _
   have MG := MF.below bT
   have YG := keepC bT YF
   have EG := EF.below bT
   have hBG := hBr.trans (bT.mono hBr.size)
   have p1 : (wa.alloc (.cells #[.int .i64 ta, .int .i64 tof, .int .i64 ts, .string tb] 53)).cell? ⟨wa.heap.size, 1, none⟩ = some (.int .i64 tof) := by simp [go_sem]
   have p2 : (wa.alloc (.cells #[.int .i64 ta, .int .i64 tof, .int .i64 ts, .string tb] 53)).cell? ⟨wa.heap.size, 2, none⟩ = some (.int .i64 ts) := by simp [go_sem]
   have p3 : (wa.alloc (.cells #[.int .i64 ta, .int .i64 tof, .int .i64 ts, .string tb] 53)).cell? ⟨wa.heap.size, 3, none⟩ = some (.string tb) := by simp [go_sem]
   clear MF YF EF bT hBr
   go_wp2
   clear t0 t1 t2 t3 x0
   generalize (wa.alloc (.cells #[.int .i64 ta, .int .i64 tof, .int .i64 ts, .string tb] 53)) = wT at *
   generalize wa.heap.size = bt at *
   go_loopw [10, 11] (fun b s wr => ∃ (k : Nat) (v : Bool), k ≤ ne ∧ s = .int .i64 k ∧ b = .bool v ∧ InS E ts tof k v ∧ Below wT.heap.size wT wr) (fun _ s _ => ne - (intOf s).toNat)
   case atStart => exact ⟨0, false, by omega, rfl, rfl, ⟨fun _ q e hq => by omega⟩, Below.refl _ _⟩
   case round =>
    obtain ⟨wb, hwb⟩ : ∃ x : World, x = wr := ⟨_, rfl⟩
    subst hwb
    obtain ⟨k, bv, hk, rfl, rfl, hIn, hBs⟩ := hrel
    have MH := MG.below hBs
    have YH := keepC hBs YG
    have EH := EG.below hBs
    have r1 := keepC hBs p1
    have r2 := keepC hBs p2
    have r3 := keepC hBs p3
    clear MG YG EG p1 p2 p3
    by_cases hkm : k < ne
    ·
     have s1 : (k : Int) < (ne : Int) := by omega
     have s0 : (0 : Int) ≤ (k : Int) := by omega
     obtain ⟨er, her⟩ : ∃ e, E[k]? = some e := ⟨_, List.getElem?_eq_getElem (by have := HNE.out; omega)⟩
     have hob := (HER.out er (List.mem_of_getElem? her)).off
     obtain ⟨ge, oe, rfl, z0⟩ := EH.getO her
     have hq := hIn
     cases bv with
     | true =>
      clear hq MH EH
      go_wp2_with fail
      refine wp_region_noPanic ?_
      refine wp_region_held_drew (S := fun w' => w'.cell? ⟨w8.heap.size, 1, none⟩ = some (.slice (some ⟨ge, oe, none⟩) ne ec) ∧ w'.cell? ⟨ge, oe + k * 6, none⟩ = some (.int .i64 er.offset) ∧ w'.cell? ⟨bt, 2, none⟩ = some (.int .i64 ts) ∧ w'.cell? ⟨bt, 1, none⟩ = some (.int .i64 tof)) (by kernel_rfl) ⟨(show wb.drew.cell? ⟨w8.heap.size, 1, none⟩ = _ from YH), (show wb.drew.cell? ⟨ge, oe + k * 6, none⟩ = _ from z0), (show wb.drew.cell? ⟨bt, 2, none⟩ = _ from r2), (show wb.drew.cell? ⟨bt, 1, none⟩ = _ from r1)⟩ (fun hHeld => ?_)
      refine wpAnyH_take (i := 0) (v := ?v18) rfl (by kernel_rfl) (by kernel_rfl) (by kernel_rfl) (fun _ _ _ h => h) (Or.inl ⟨by kernel_rfl, ?y18⟩) hHeld ?z18
      case y18 => (intro wq hSw; (try dsimp only at hSw); go_simp; try with_reducible rfl)
      try simp only [Act.put, qq1, qq2, qq3]
      refine wpAnyH_take (i := 1) (v := .bool true) rfl (by kernel_rfl) (by kernel_rfl) (by kernel_rfl) (fun _ _ _ h => h) (Or.inl ⟨by kernel_rfl, ?y19⟩) hHeld ?z19
      case y19 => (intro wq hSw; (try dsimp only at hSw); go_simp)
      try simp only [Act.put, qq1, qq2, qq3]
      refine wpAnyH_take (i := 2) (v := undef) rfl (by kernel_rfl) (by kernel_rfl) (by kernel_rfl) (fun _ _ _ h => h) (Or.inr ⟨by kernel_rfl, rfl⟩) hHeld ?z20
      try simp only [Act.put, qq1, qq2, qq3]
      refine wpAnyH_take (i := 3) (v := undef) rfl (by kernel_rfl) (by kernel_rfl) (by kernel_rfl) (fun _ _ _ h => h) (Or.inr ⟨by kernel_rfl, rfl⟩) hHeld ?z21
      try simp only [Act.put, qq1, qq2, qq3]
      refine wpAnyH_take (i := 4) (v := undef) rfl (by kernel_rfl) (by kernel_rfl) (by kernel_rfl) (fun _ _ _ h => h) (Or.inr ⟨by kernel_rfl, rfl⟩) hHeld ?z22
      try simp only [Act.put, qq1, qq2, qq3]
      refine wpAnyH_take (i := 5) (v := undef) rfl (by kernel_rfl) (by kernel_rfl) (by kernel_rfl) (fun _ _ _ h => h) (Or.inr ⟨by kernel_rfl, rfl⟩) hHeld ?z23
      try simp only [Act.put, qq1, qq2, qq3]
      refine wpAnyH_take (i := 6) (v := undef) rfl (by kernel_rfl) (by kernel_rfl) (by kernel_rfl) (fun _ _ _ h => h) (Or.inr ⟨by kernel_rfl, rfl⟩) hHeld ?z24
      try simp only [Act.put, qq1, qq2, qq3]
      refine wpAnyH_take (i := 7) (v := undef) rfl (by kernel_rfl) (by kernel_rfl) (by kernel_rfl) (fun _ _ _ h => h) (Or.inr ⟨by kernel_rfl, rfl⟩) hHeld ?z25
      try simp only [Act.put, qq1, qq2, qq3]
      refine wpAnyH_take (i := 8) (v := undef) rfl (by kernel_rfl) (by kernel_rfl) (by kernel_rfl) (fun _ _ _ h => h) (Or.inr ⟨by kernel_rfl, rfl⟩) hHeld ?z26
      try simp only [Act.put, qq1, qq2, qq3]
      refine wpAnyH_take (i := 9) (v := undef) rfl (by kernel_rfl) (by kernel_rfl) (by kernel_rfl) (fun _ _ _ h => h) (Or.inr ⟨by kernel_rfl, rfl⟩) hHeld ?z27
      try simp only [Act.put, qq1, qq2, qq3]
      refine wpAnyH_take (i := 10) (v := undef) rfl (by kernel_rfl) (by kernel_rfl) (by kernel_rfl) (fun _ _ _ h => h) (Or.inr ⟨by kernel_rfl, rfl⟩) hHeld ?z28
      try simp only [Act.put, qq1, qq2, qq3]
      refine wpAnyH_take (i := 11) (v := undef) rfl (by kernel_rfl) (by kernel_rfl) (by kernel_rfl) (fun _ _ _ h => h) (Or.inr ⟨by kernel_rfl, rfl⟩) hHeld ?z29
      try simp only [Act.put, qq1, qq2, qq3]
      refine wpAnyH_take (i := 12) (v := undef) rfl (by kernel_rfl) (by kernel_rfl) (by kernel_rfl) (fun _ _ _ h => h) (Or.inr ⟨by kernel_rfl, rfl⟩) hHeld ?z30
      try simp only [Act.put, qq1, qq2, qq3]
      refine wpAnyH_take (i := 13) (v := undef) rfl (by kernel_rfl) (by kernel_rfl) (by kernel_rfl) (fun _ _ _ h => h) (Or.inr ⟨by kernel_rfl, rfl⟩) hHeld ?z31
      try simp only [Act.put, qq1, qq2, qq3]
      refine wpAnyH_take (i := 14) (v := .bool true) rfl (by kernel_rfl) (by kernel_rfl) (by kernel_rfl) (fun _ _ _ h => h) (Or.inl ⟨by kernel_rfl, ?y32⟩) hHeld ?z32
      case y32 => (intro wq hSw; (try dsimp only at hSw); go_simp)
      try simp only [Act.put, qq1, qq2, qq3]
      refine wpAnyH_take (i := 15) (v := ?v33) rfl (by kernel_rfl) (by kernel_rfl) (by kernel_rfl) (fun _ _ _ h => h) (Or.inl ⟨by kernel_rfl, ?y33⟩) hHeld ?z33
      case y33 => (intro wq hSw; (try dsimp only at hSw); go_simp; try with_reducible rfl)
      try simp only [Act.put, qq1, qq2, qq3]
      try simp only [Act.put, List.getElem_toArray, List.getElem_cons_succ, List.getElem_cons_zero, qq1, qq2, qq3]
      refine wpAnyH_done (by kernel_rfl) ?_ _
      refine NoPanic.normal ?_
      clear hHeld
      go_wp2
      go_roundw
      case rel => exact ⟨k + 1, true, by omega, by go_num, rfl, InS.hit true rfl, hBs.trans ((below_drew wb).mono hBs.size)⟩
      case measure => simp [intOf]; omega
     | false =>
      have qw : IntKind.i64.wrap (er.offset + ts) = er.offset + ts := by rw [IntKind.wrap_i64]; omega
      by_cases hx : er.offset + ts = tof
      ·
       have hx1 : (er.offset + ts == tof) = true := by simp [hx]
       have HI : Hid (InS E ts tof (k + 1) true) := InS.hit true rfl
       clear hx hq MH EH her
       generalize er.offset = eo at *
       go_wp2_with fail
       refine wp_region_noPanic ?_
       refine wp_region_held_drew (S := fun w' => w'.cell? ⟨w8.heap.size, 1, none⟩ = some (.slice (some ⟨ge, oe, none⟩) ne ec) ∧ w'.cell? ⟨ge, oe + k * 6, none⟩ = some (.int .i64 eo) ∧ w'.cell? ⟨bt, 2, none⟩ = some (.int .i64 ts) ∧ w'.cell? ⟨bt, 1, none⟩ = some (.int .i64 tof)) (by kernel_rfl) ⟨(show wb.drew.cell? ⟨w8.heap.size, 1, none⟩ = _ from YH), (show wb.drew.cell? ⟨ge, oe + k * 6, none⟩ = _ from z0), (show wb.drew.cell? ⟨bt, 2, none⟩ = _ from r2), (show wb.drew.cell? ⟨bt, 1, none⟩ = _ from r1)⟩ (fun hHeld => ?_)
       refine wpAnyH_take (i := 0) (v := ?v34) rfl (by kernel_rfl) (by kernel_rfl) (by kernel_rfl) (fun _ _ _ h => h) (Or.inl ⟨by kernel_rfl, ?y34⟩) hHeld ?z34
       case y34 => (intro wq hSw; (try dsimp only at hSw); go_simp; try with_reducible rfl)
       try simp only [Act.put, qq1, qq2, qq3]
       refine wpAnyH_take (i := 1) (v := .bool false) rfl (by kernel_rfl) (by kernel_rfl) (by kernel_rfl) (fun _ _ _ h => h) (Or.inl ⟨by kernel_rfl, ?y35⟩) hHeld ?z35
       case y35 => (intro wq hSw; (try dsimp only at hSw); go_simp)
       try simp only [Act.put, qq1, qq2, qq3]
       refine wpAnyH_take (i := 2) (v := ?v36) rfl (by kernel_rfl) (by kernel_rfl) (by kernel_rfl) (fun _ _ _ h => h) (Or.inl ⟨by kernel_rfl, ?y36⟩) hHeld ?z36
       case y36 => (intro wq hSw; (try dsimp only at hSw); go_simp; try with_reducible rfl)
       try simp only [Act.put, qq1, qq2, qq3]
       refine wpAnyH_take (i := 3) (v := ?v37) rfl (by kernel_rfl) (by kernel_rfl) (by kernel_rfl) (fun _ _ _ h => h) (Or.inl ⟨by kernel_rfl, ?y37⟩) hHeld ?z37
       case y37 => (intro wq hSw; (try dsimp only at hSw); go_simp; try with_reducible rfl)
       try simp only [Act.put, qq1, qq2, qq3]
       refine wpAnyH_take (i := 4) (v := ?v38) rfl (by kernel_rfl) (by kernel_rfl) (by kernel_rfl) (fun _ _ _ h => h) (Or.inl ⟨by kernel_rfl, ?y38⟩) hHeld ?z38
       case y38 => (intro wq hSw; (try dsimp only at hSw); go_simp; try with_reducible rfl)
       try simp only [Act.put, qq1, qq2, qq3]
       refine wpAnyH_take (i := 5) (v := ?v39) rfl (by kernel_rfl) (by kernel_rfl) (by kernel_rfl) (fun _ _ _ h => h) (Or.inl ⟨by kernel_rfl, ?y39⟩) hHeld ?z39
       case y39 => (intro wq hSw; (try dsimp only at hSw); go_simp; try with_reducible rfl)
       try simp only [Act.put, qq1, qq2, qq3]
       refine wpAnyH_take (i := 6) (v := ?v40) rfl (by kernel_rfl) (by kernel_rfl) (by kernel_rfl) (fun _ _ _ h => h) (Or.inl ⟨by kernel_rfl, ?y40⟩) hHeld ?z40
       case y40 => (intro wq hSw; (try dsimp only at hSw); go_simp; try with_reducible rfl)
       try simp only [Act.put, qq1, qq2, qq3]
       refine wpAnyH_take (i := 7) (v := ?v41) rfl (by kernel_rfl) (by kernel_rfl) (by kernel_rfl) (fun _ _ _ h => h) (Or.inl ⟨by kernel_rfl, ?y41⟩) hHeld ?z41
       case y41 => (intro wq hSw; (try dsimp only at hSw); go_simp; try with_reducible rfl)
       try simp only [Act.put, qq1, qq2, qq3]
       refine wpAnyH_take (i := 8) (v := ?v42) rfl (by kernel_rfl) (by kernel_rfl) (by kernel_rfl) (fun _ _ _ h => h) (Or.inl ⟨by kernel_rfl, ?y42⟩) hHeld ?z42
       case y42 => (intro wq hSw; (try dsimp only at hSw); go_simp; try with_reducible rfl)
       try simp only [Act.put, qq1, qq2, qq3]
       refine wpAnyH_take (i := 9) (v := ?v43) rfl (by kernel_rfl) (by kernel_rfl) (by kernel_rfl) (fun _ _ _ h => h) (Or.inl ⟨by kernel_rfl, ?y43⟩) hHeld ?z43
       case y43 => (intro wq hSw; (try dsimp only at hSw); go_simp; try with_reducible rfl)
       try simp only [Act.put, qq1, qq2, qq3]
       refine wpAnyH_take (i := 10) (v := ?v44) rfl (by kernel_rfl) (by kernel_rfl) (by kernel_rfl) (fun _ _ _ h => h) (Or.inl ⟨by kernel_rfl, ?y44⟩) hHeld ?z44
       case y44 => (intro wq hSw; (try dsimp only at hSw); go_simp; try with_reducible rfl)
       try simp only [Act.put, qq1, qq2, qq3]
       refine wpAnyH_take (i := 11) (v := ?v45) rfl (by kernel_rfl) (by kernel_rfl) (by kernel_rfl) (fun _ _ _ h => h) (Or.inl ⟨by kernel_rfl, ?y45⟩) hHeld ?z45
       case y45 => (intro wq hSw; (try dsimp only at hSw); go_simp; try with_reducible rfl)
       try simp only [Act.put, qq1, qq2, qq3]
       refine wpAnyH_take (i := 12) (v := ?v46) rfl (by kernel_rfl) (by kernel_rfl) (by kernel_rfl) (fun _ _ _ h => h) (Or.inl ⟨by kernel_rfl, ?y46⟩) hHeld ?z46
       case y46 => (intro wq hSw; (try dsimp only at hSw); go_simp; try with_reducible rfl)
       try simp only [Act.put, qq1, qq2, qq3]
       refine wpAnyH_take (i := 13) (v := .bool true) rfl (by kernel_rfl) (by kernel_rfl) (by kernel_rfl) (fun _ _ _ h => h) (Or.inl ⟨by kernel_rfl, ?y47⟩) hHeld ?z47
       case y47 => (intro wq hSw; (try dsimp only at hSw); go_simp)
       try simp only [Act.put, qq1, qq2, qq3]
       refine wpAnyH_take (i := 14) (v := .bool true) rfl (by kernel_rfl) (by kernel_rfl) (by kernel_rfl) (fun _ _ _ h => h) (Or.inl ⟨by kernel_rfl, ?y48⟩) hHeld ?z48
       case y48 => (intro wq hSw; (try dsimp only at hSw); go_simp)
       try simp only [Act.put, qq1, qq2, qq3]
       refine wpAnyH_take (i := 15) (v := ?v49) rfl (by kernel_rfl) (by kernel_rfl) (by kernel_rfl) (fun _ _ _ h => h) (Or.inl ⟨by kernel_rfl, ?y49⟩) hHeld ?z49
       case y49 => (intro wq hSw; (try dsimp only at hSw); go_simp; try with_reducible rfl)
       try simp only [Act.put, qq1, qq2, qq3]
       try simp only [Act.put, List.getElem_toArray, List.getElem_cons_succ, List.getElem_cons_zero, qq1, qq2, qq3]
       refine wpAnyH_done (by kernel_rfl) ?_ _
       refine NoPanic.normal ?_
       clear hHeld
       go_wp2
       go_roundw
       case rel => exact ⟨k + 1, true, by omega, by go_num, rfl, HI.out, hBs.trans ((below_drew wb).mono hBs.size)⟩
       case measure => simp [intOf]; omega
      ·
       have hx1 : (er.offset + ts == tof) = false := by simp [hx]
       have HI : Hid (InS E ts tof (k + 1) false) := hIn.step her hx
       clear hx hq MH EH her
       generalize er.offset = eo at *
       go_wp2_with fail
       refine wp_region_noPanic ?_
       refine wp_region_held_drew (S := fun w' => w'.cell? ⟨w8.heap.size, 1, none⟩ = some (.slice (some ⟨ge, oe, none⟩) ne ec) ∧ w'.cell? ⟨ge, oe + k * 6, none⟩ = some (.int .i64 eo) ∧ w'.cell? ⟨bt, 2, none⟩ = some (.int .i64 ts) ∧ w'.cell? ⟨bt, 1, none⟩ = some (.int .i64 tof)) (by kernel_rfl) ⟨(show wb.drew.cell? ⟨w8.heap.size, 1, none⟩ = _ from YH), (show wb.drew.cell? ⟨ge, oe + k * 6, none⟩ = _ from z0), (show wb.drew.cell? ⟨bt, 2, none⟩ = _ from r2), (show wb.drew.cell? ⟨bt, 1, none⟩ = _ from r1)⟩ (fun hHeld => ?_)
       refine wpAnyH_take (i := 0) (v := ?v50) rfl (by kernel_rfl) (by kernel_rfl) (by kernel_rfl) (fun _ _ _ h => h) (Or.inl ⟨by kernel_rfl, ?y50⟩) hHeld ?z50
       case y50 => (intro wq hSw; (try dsimp only at hSw); go_simp; try with_reducible rfl)
       try simp only [Act.put, qq1, qq2, qq3]
       refine wpAnyH_take (i := 1) (v := .bool false) rfl (by kernel_rfl) (by kernel_rfl) (by kernel_rfl) (fun _ _ _ h => h) (Or.inl ⟨by kernel_rfl, ?y51⟩) hHeld ?z51
       case y51 => (intro wq hSw; (try dsimp only at hSw); go_simp)
       try simp only [Act.put, qq1, qq2, qq3]
       refine wpAnyH_take (i := 2) (v := ?v52) rfl (by kernel_rfl) (by kernel_rfl) (by kernel_rfl) (fun _ _ _ h => h) (Or.inl ⟨by kernel_rfl, ?y52⟩) hHeld ?z52
       case y52 => (intro wq hSw; (try dsimp only at hSw); go_simp; try with_reducible rfl)
       try simp only [Act.put, qq1, qq2, qq3]
       refine wpAnyH_take (i := 3) (v := ?v53) rfl (by kernel_rfl) (by kernel_rfl) (by kernel_rfl) (fun _ _ _ h => h) (Or.inl ⟨by kernel_rfl, ?y53⟩) hHeld ?z53
       case y53 => (intro wq hSw; (try dsimp only at hSw); go_simp; try with_reducible rfl)
       try simp only [Act.put, qq1, qq2, qq3]
       refine wpAnyH_take (i := 4) (v := ?v54) rfl (by kernel_rfl) (by kernel_rfl) (by kernel_rfl) (fun _ _ _ h => h) (Or.inl ⟨by kernel_rfl, ?y54⟩) hHeld ?z54
       case y54 => (intro wq hSw; (try dsimp only at hSw); go_simp; try with_reducible rfl)
       try simp only [Act.put, qq1, qq2, qq3]
       refine wpAnyH_take (i := 5) (v := ?v55) rfl (by kernel_rfl) (by kernel_rfl) (by kernel_rfl) (fun _ _ _ h => h) (Or.inl ⟨by kernel_rfl, ?y55⟩) hHeld ?z55
       case y55 => (intro wq hSw; (try dsimp only at hSw); go_simp; try with_reducible rfl)
       try simp only [Act.put, qq1, qq2, qq3]
       refine wpAnyH_take (i := 6) (v := ?v56) rfl (by kernel_rfl) (by kernel_rfl) (by kernel_rfl) (fun _ _ _ h => h) (Or.inl ⟨by kernel_rfl, ?y56⟩) hHeld ?z56
       case y56 => (intro wq hSw; (try dsimp only at hSw); go_simp; try with_reducible rfl)
       try simp only [Act.put, qq1, qq2, qq3]
       refine wpAnyH_take (i := 7) (v := ?v57) rfl (by kernel_rfl) (by kernel_rfl) (by kernel_rfl) (fun _ _ _ h => h) (Or.inl ⟨by kernel_rfl, ?y57⟩) hHeld ?z57
       case y57 => (intro wq hSw; (try dsimp only at hSw); go_simp; try with_reducible rfl)
       try simp only [Act.put, qq1, qq2, qq3]
       refine wpAnyH_take (i := 8) (v := ?v58) rfl (by kernel_rfl) (by kernel_rfl) (by kernel_rfl) (fun _ _ _ h => h) (Or.inl ⟨by kernel_rfl, ?y58⟩) hHeld ?z58
       case y58 => (intro wq hSw; (try dsimp only at hSw); go_simp; try with_reducible rfl)
       try simp only [Act.put, qq1, qq2, qq3]
       refine wpAnyH_take (i := 9) (v := ?v59) rfl (by kernel_rfl) (by kernel_rfl) (by kernel_rfl) (fun _ _ _ h => h) (Or.inl ⟨by kernel_rfl, ?y59⟩) hHeld ?z59
       case y59 => (intro wq hSw; (try dsimp only at hSw); go_simp; try with_reducible rfl)
       try simp only [Act.put, qq1, qq2, qq3]
       refine wpAnyH_take (i := 10) (v := ?v60) rfl (by kernel_rfl) (by kernel_rfl) (by kernel_rfl) (fun _ _ _ h => h) (Or.inl ⟨by kernel_rfl, ?y60⟩) hHeld ?z60
       case y60 => (intro wq hSw; (try dsimp only at hSw); go_simp; try with_reducible rfl)
       try simp only [Act.put, qq1, qq2, qq3]
       refine wpAnyH_take (i := 11) (v := ?v61) rfl (by kernel_rfl) (by kernel_rfl) (by kernel_rfl) (fun _ _ _ h => h) (Or.inl ⟨by kernel_rfl, ?y61⟩) hHeld ?z61
       case y61 => (intro wq hSw; (try dsimp only at hSw); go_simp; try with_reducible rfl)
       try simp only [Act.put, qq1, qq2, qq3]
       refine wpAnyH_take (i := 12) (v := ?v62) rfl (by kernel_rfl) (by kernel_rfl) (by kernel_rfl) (fun _ _ _ h => h) (Or.inl ⟨by kernel_rfl, ?y62⟩) hHeld ?z62
       case y62 => (intro wq hSw; (try dsimp only at hSw); go_simp; try with_reducible rfl)
       try simp only [Act.put, qq1, qq2, qq3]
       refine wpAnyH_take (i := 13) (v := .bool false) rfl (by kernel_rfl) (by kernel_rfl) (by kernel_rfl) (fun _ _ _ h => h) (Or.inl ⟨by kernel_rfl, ?y63⟩) hHeld ?z63
       case y63 => (intro wq hSw; (try dsimp only at hSw); go_simp)
       try simp only [Act.put, qq1, qq2, qq3]
       refine wpAnyH_take (i := 14) (v := .bool false) rfl (by kernel_rfl) (by kernel_rfl) (by kernel_rfl) (fun _ _ _ h => h) (Or.inl ⟨by kernel_rfl, ?y64⟩) hHeld ?z64
       case y64 => (intro wq hSw; (try dsimp only at hSw); go_simp)
       try simp only [Act.put, qq1, qq2, qq3]
       refine wpAnyH_take (i := 15) (v := ?v65) rfl (by kernel_rfl) (by kernel_rfl) (by kernel_rfl) (fun _ _ _ h => h) (Or.inl ⟨by kernel_rfl, ?y65⟩) hHeld ?z65
       case y65 => (intro wq hSw; (try dsimp only at hSw); go_simp; try with_reducible rfl)
       try simp only [Act.put, qq1, qq2, qq3]
       try simp only [Act.put, List.getElem_toArray, List.getElem_cons_succ, List.getElem_cons_zero, qq1, qq2, qq3]
       refine wpAnyH_done (by kernel_rfl) ?_ _
       refine NoPanic.normal ?_
       clear hHeld
       go_wp2
       go_roundw
       case rel => exact ⟨k + 1, false, by omega, by go_num, rfl, HI.out, hBs.trans ((below_drew wb).mono hBs.size)⟩
       case measure => simp [intOf]; omega
    ·
     have s1 : ¬ (k : Int) < (ne : Int) := by omega
     obtain rfl : bv = true := by
      cases bv with
      | true => rfl
      | false =>
       exfalso
       obtain ⟨e, he, ho⟩ := HEx.out
       obtain ⟨q, hq⟩ := List.getElem?_of_mem he
       exact hIn.no rfl q e (by have := (List.getElem?_eq_some_iff.mp hq).1; have := HNE.out; omega) hq ho
     clear hIn
     have x0 := MH.x0
     by_cases hi0 : i = 0
     ·
      subst hi0
      clear MH EH
      go_wp2_with fail
      refine wp_region_noPanic ?_
      refine wp_region_held_drew (S := fun w' => w'.cell? ⟨bt, 1, none⟩ = some (.int .i64 tof) ∧ w'.cell? ⟨bt, 2, none⟩ = some (.int .i64 ts) ∧ w'.cell? ⟨bt, 3, none⟩ = some (.string tb) ∧ w'.cell? ⟨w3.heap.size, 0, none⟩ = some (.slice (some ⟨g, og, none⟩) n d3)) (by kernel_rfl) ⟨(show wb.drew.cell? ⟨bt, 1, none⟩ = _ from r1), (show wb.drew.cell? ⟨bt, 2, none⟩ = _ from r2), (show wb.drew.cell? ⟨bt, 3, none⟩ = _ from r3), (show wb.drew.cell? ⟨w3.heap.size, 0, none⟩ = _ from x0)⟩ (fun hHeld => ?_)
      refine wpAnyH_take (i := 0) (v := ?v66) rfl (by kernel_rfl) (by kernel_rfl) (by kernel_rfl) (fun _ _ _ h => h) (Or.inl ⟨by kernel_rfl, ?y66⟩) hHeld ?z66
      case y66 => (intro wq hSw; (try dsimp only at hSw); go_simp; try with_reducible rfl)
      try simp only [Act.put, qq1, qq2, qq3]
      refine wpAnyH_take (i := 1) (v := .bool false) rfl (by kernel_rfl) (by kernel_rfl) (by kernel_rfl) (fun _ _ _ h => h) (Or.inl ⟨by kernel_rfl, ?y67⟩) hHeld ?z67
      case y67 => (intro wq hSw; (try dsimp only at hSw); go_simp)
      try simp only [Act.put, qq1, qq2, qq3]
      refine wpAnyH_take (i := 2) (v := .bool false) rfl (by kernel_rfl) (by kernel_rfl) (by kernel_rfl) (fun _ _ _ h => h) (Or.inl ⟨by kernel_rfl, ?y68⟩) hHeld ?z68
      case y68 => (intro wq hSw; (try dsimp only at hSw); go_simp)
      try simp only [Act.put, qq1, qq2, qq3]
      refine wpAnyH_take (i := 3) (v := ?v69) rfl (by kernel_rfl) (by kernel_rfl) (by kernel_rfl) (fun _ _ _ h => h) (Or.inl ⟨by kernel_rfl, ?y69⟩) hHeld ?z69
      case y69 => (intro wq hSw; (try dsimp only at hSw); go_simp; try with_reducible rfl)
      try simp only [Act.put, qq1, qq2, qq3]
      refine wpAnyH_take (i := 4) (v := .bool false) rfl (by kernel_rfl) (by kernel_rfl) (by kernel_rfl) (fun _ _ _ h => h) (Or.inl ⟨by kernel_rfl, ?y70⟩) hHeld ?z70
      case y70 => (intro wq hSw; (try dsimp only at hSw); go_simp)
      try simp only [Act.put, qq1, qq2, qq3]
      refine wpAnyH_take (i := 5) (v := .bool false) rfl (by kernel_rfl) (by kernel_rfl) (by kernel_rfl) (fun _ _ _ h => h) (Or.inl ⟨by kernel_rfl, ?y71⟩) hHeld ?z71
      case y71 => (intro wq hSw; (try dsimp only at hSw); go_simp)
      try simp only [Act.put, qq1, qq2, qq3]
      refine wpAnyH_take (i := 6) (v := undef) rfl (by kernel_rfl) (by kernel_rfl) (by kernel_rfl) (fun _ _ _ h => h) (Or.inr ⟨by kernel_rfl, rfl⟩) hHeld ?z72
      try simp only [Act.put, qq1, qq2, qq3]
      refine wpAnyH_take (i := 7) (v := undef) rfl (by kernel_rfl) (by kernel_rfl) (by kernel_rfl) (fun _ _ _ h => h) (Or.inr ⟨by kernel_rfl, rfl⟩) hHeld ?z73
      try simp only [Act.put, qq1, qq2, qq3]
      refine wpAnyH_take (i := 8) (v := undef) rfl (by kernel_rfl) (by kernel_rfl) (by kernel_rfl) (fun _ _ _ h => h) (Or.inr ⟨by kernel_rfl, rfl⟩) hHeld ?z74
      try simp only [Act.put, qq1, qq2, qq3]
      refine wpAnyH_take (i := 9) (v := undef) rfl (by kernel_rfl) (by kernel_rfl) (by kernel_rfl) (fun _ _ _ h => h) (Or.inr ⟨by kernel_rfl, rfl⟩) hHeld ?z75
      try simp only [Act.put, qq1, qq2, qq3]
      refine wpAnyH_take (i := 10) (v := undef) rfl (by kernel_rfl) (by kernel_rfl) (by kernel_rfl) (fun _ _ _ h => h) (Or.inr ⟨by kernel_rfl, rfl⟩) hHeld ?z76
      try simp only [Act.put, qq1, qq2, qq3]
      refine wpAnyH_take (i := 11) (v := undef) rfl (by kernel_rfl) (by kernel_rfl) (by kernel_rfl) (fun _ _ _ h => h) (Or.inr ⟨by kernel_rfl, rfl⟩) hHeld ?z77
      try simp only [Act.put, qq1, qq2, qq3]
      refine wpAnyH_take (i := 12) (v := undef) rfl (by kernel_rfl) (by kernel_rfl) (by kernel_rfl) (fun _ _ _ h => h) (Or.inr ⟨by kernel_rfl, rfl⟩) hHeld ?z78
      try simp only [Act.put, qq1, qq2, qq3]
      refine wpAnyH_take (i := 13) (v := undef) rfl (by kernel_rfl) (by kernel_rfl) (by kernel_rfl) (fun _ _ _ h => h) (Or.inr ⟨by kernel_rfl, rfl⟩) hHeld ?z79
      try simp only [Act.put, qq1, qq2, qq3]
      refine wpAnyH_take (i := 14) (v := undef) rfl (by kernel_rfl) (by kernel_rfl) (by kernel_rfl) (fun _ _ _ h => h) (Or.inr ⟨by kernel_rfl, rfl⟩) hHeld ?z80
      try simp only [Act.put, qq1, qq2, qq3]
      refine wpAnyH_take (i := 15) (v := undef) rfl (by kernel_rfl) (by kernel_rfl) (by kernel_rfl) (fun _ _ _ h => h) (Or.inr ⟨by kernel_rfl, rfl⟩) hHeld ?z81
      try simp only [Act.put, qq1, qq2, qq3]
      refine wpAnyH_take (i := 16) (v := undef) rfl (by kernel_rfl) (by kernel_rfl) (by kernel_rfl) (fun _ _ _ h => h) (Or.inr ⟨by kernel_rfl, rfl⟩) hHeld ?z82
      try simp only [Act.put, qq1, qq2, qq3]
      refine wpAnyH_take (i := 17) (v := .bool false) rfl (by kernel_rfl) (by kernel_rfl) (by kernel_rfl) (fun _ _ _ h => h) (Or.inl ⟨by kernel_rfl, ?y83⟩) hHeld ?z83
      case y83 => (intro wq hSw; (try dsimp only at hSw); go_simp)
      try simp only [Act.put, qq1, qq2, qq3]
      refine wpAnyH_take (i := 18) (v := .bool false) rfl (by kernel_rfl) (by kernel_rfl) (by kernel_rfl) (fun _ _ _ h => h) (Or.inl ⟨by kernel_rfl, ?y84⟩) hHeld ?z84
      case y84 => (intro wq hSw; (try dsimp only at hSw); go_simp)
      try simp only [Act.put, qq1, qq2, qq3]
      refine wpAnyH_take (i := 19) (v := undef) rfl (by kernel_rfl) (by kernel_rfl) (by kernel_rfl) (fun _ _ _ h => h) (Or.inr ⟨by kernel_rfl, rfl⟩) hHeld ?z85
      try simp only [Act.put, qq1, qq2, qq3]
      refine wpAnyH_take (i := 20) (v := undef) rfl (by kernel_rfl) (by kernel_rfl) (by kernel_rfl) (fun _ _ _ h => h) (Or.inr ⟨by kernel_rfl, rfl⟩) hHeld ?z86
      try simp only [Act.put, qq1, qq2, qq3]
      refine wpAnyH_take (i := 21) (v := undef) rfl (by kernel_rfl) (by kernel_rfl) (by kernel_rfl) (fun _ _ _ h => h) (Or.inr ⟨by kernel_rfl, rfl⟩) hHeld ?z87
      try simp only [Act.put, qq1, qq2, qq3]
      refine wpAnyH_take (i := 22) (v := undef) rfl (by kernel_rfl) (by kernel_rfl) (by kernel_rfl) (fun _ _ _ h => h) (Or.inr ⟨by kernel_rfl, rfl⟩) hHeld ?z88
      try simp only [Act.put, qq1, qq2, qq3]
      refine wpAnyH_take (i := 23) (v := undef) rfl (by kernel_rfl) (by kernel_rfl) (by kernel_rfl) (fun _ _ _ h => h) (Or.inr ⟨by kernel_rfl, rfl⟩) hHeld ?z89
      try simp only [Act.put, qq1, qq2, qq3]
      refine wpAnyH_take (i := 24) (v := undef) rfl (by kernel_rfl) (by kernel_rfl) (by kernel_rfl) (fun _ _ _ h => h) (Or.inr ⟨by kernel_rfl, rfl⟩) hHeld ?z90
      try simp only [Act.put, qq1, qq2, qq3]
      refine wpAnyH_take (i := 25) (v := undef) rfl (by kernel_rfl) (by kernel_rfl) (by kernel_rfl) (fun _ _ _ h => h) (Or.inr ⟨by kernel_rfl, rfl⟩) hHeld ?z91
      try simp only [Act.put, qq1, qq2, qq3]
      refine wpAnyH_take (i := 26) (v := undef) rfl (by kernel_rfl) (by kernel_rfl) (by kernel_rfl) (fun _ _ _ h => h) (Or.inr ⟨by kernel_rfl, rfl⟩) hHeld ?z92
      try simp only [Act.put, qq1, qq2, qq3]
      refine wpAnyH_take (i := 27) (v := undef) rfl (by kernel_rfl) (by kernel_rfl) (by kernel_rfl) (fun _ _ _ h => h) (Or.inr ⟨by kernel_rfl, rfl⟩) hHeld ?z93
      try simp only [Act.put, qq1, qq2, qq3]
      refine wpAnyH_take (i := 28) (v := undef) rfl (by kernel_rfl) (by kernel_rfl) (by kernel_rfl) (fun _ _ _ h => h) (Or.inr ⟨by kernel_rfl, rfl⟩) hHeld ?z94
      try simp only [Act.put, qq1, qq2, qq3]
      refine wpAnyH_take (i := 29) (v := undef) rfl (by kernel_rfl) (by kernel_rfl) (by kernel_rfl) (fun _ _ _ h => h) (Or.inr ⟨by kernel_rfl, rfl⟩) hHeld ?z95
      try simp only [Act.put, qq1, qq2, qq3]
      refine wpAnyH_take (i := 30) (v := .bool false) rfl (by kernel_rfl) (by kernel_rfl) (by kernel_rfl) (fun _ _ _ h => h) (Or.inl ⟨by kernel_rfl, ?y96⟩) hHeld ?z96
      case y96 => (intro wq hSw; (try dsimp only at hSw); go_simp)
      try simp only [Act.put, qq1, qq2, qq3]
      refine wpAnyH_take (i := 31) (v := .bool false) rfl (by kernel_rfl) (by kernel_rfl) (by kernel_rfl) (fun _ _ _ h => h) (Or.inl ⟨by kernel_rfl, ?y97⟩) hHeld ?z97
      case y97 => (intro wq hSw; (try dsimp only at hSw); go_simp)
      try simp only [Act.put, qq1, qq2, qq3]
      refine wpAnyH_take (i := 32) (v := undef) rfl (by kernel_rfl) (by kernel_rfl) (by kernel_rfl) (fun _ _ _ h => h) (Or.inr ⟨by kernel_rfl, rfl⟩) hHeld ?z98
      try simp only [Act.put, qq1, qq2, qq3]
      refine wpAnyH_take (i := 33) (v := undef) rfl (by kernel_rfl) (by kernel_rfl) (by kernel_rfl) (fun _ _ _ h => h) (Or.inr ⟨by kernel_rfl, rfl⟩) hHeld ?z99
      try simp only [Act.put, qq1, qq2, qq3]
      refine wpAnyH_take (i := 34) (v := undef) rfl (by kernel_rfl) (by kernel_rfl) (by kernel_rfl) (fun _ _ _ h => h) (Or.inr ⟨by kernel_rfl, rfl⟩) hHeld ?z100
      try simp only [Act.put, qq1, qq2, qq3]
      refine wpAnyH_take (i := 35) (v := undef) rfl (by kernel_rfl) (by kernel_rfl) (by kernel_rfl) (fun _ _ _ h => h) (Or.inr ⟨by kernel_rfl, rfl⟩) hHeld ?z101
      try simp only [Act.put, qq1, qq2, qq3]
      refine wpAnyH_take (i := 36) (v := undef) rfl (by kernel_rfl) (by kernel_rfl) (by kernel_rfl) (fun _ _ _ h => h) (Or.inr ⟨by kernel_rfl, rfl⟩) hHeld ?z102
      try simp only [Act.put, qq1, qq2, qq3]
      refine wpAnyH_take (i := 37) (v := undef) rfl (by kernel_rfl) (by kernel_rfl) (by kernel_rfl) (fun _ _ _ h => h) (Or.inr ⟨by kernel_rfl, rfl⟩) hHeld ?z103
      try simp only [Act.put, qq1, qq2, qq3]
      refine wpAnyH_take (i := 38) (v := undef) rfl (by kernel_rfl) (by kernel_rfl) (by kernel_rfl) (fun _ _ _ h => h) (Or.inr ⟨by kernel_rfl, rfl⟩) hHeld ?z104
      try simp only [Act.put, qq1, qq2, qq3]
      refine wpAnyH_take (i := 39) (v := undef) rfl (by kernel_rfl) (by kernel_rfl) (by kernel_rfl) (fun _ _ _ h => h) (Or.inr ⟨by kernel_rfl, rfl⟩) hHeld ?z105
      try simp only [Act.put, qq1, qq2, qq3]
      refine wpAnyH_take (i := 40) (v := undef) rfl (by kernel_rfl) (by kernel_rfl) (by kernel_rfl) (fun _ _ _ h => h) (Or.inr ⟨by kernel_rfl, rfl⟩) hHeld ?z106
      try simp only [Act.put, qq1, qq2, qq3]
      refine wpAnyH_take (i := 41) (v := undef) rfl (by kernel_rfl) (by kernel_rfl) (by kernel_rfl) (fun _ _ _ h => h) (Or.inr ⟨by kernel_rfl, rfl⟩) hHeld ?z107
      try simp only [Act.put, qq1, qq2, qq3]
      refine wpAnyH_take (i := 42) (v := undef) rfl (by kernel_rfl) (by kernel_rfl) (by kernel_rfl) (fun _ _ _ h => h) (Or.inr ⟨by kernel_rfl, rfl⟩) hHeld ?z108
      try simp only [Act.put, qq1, qq2, qq3]
      refine wpAnyH_take (i := 43) (v := .bool false) rfl (by kernel_rfl) (by kernel_rfl) (by kernel_rfl) (fun _ _ _ h => h) (Or.inl ⟨by kernel_rfl, ?y109⟩) hHeld ?z109
      case y109 => (intro wq hSw; (try dsimp only at hSw); go_simp)
      try simp only [Act.put, qq1, qq2, qq3]
      refine wpAnyH_take (i := 44) (v := .bool false) rfl (by kernel_rfl) (by kernel_rfl) (by kernel_rfl) (fun _ _ _ h => h) (Or.inl ⟨by kernel_rfl, ?y110⟩) hHeld ?z110
      case y110 => (intro wq hSw; (try dsimp only at hSw); go_simp)
      try simp only [Act.put, qq1, qq2, qq3]
      try simp only [Act.put, List.getElem_toArray, List.getElem_cons_succ, List.getElem_cons_zero, qq1, qq2, qq3]
      refine wpAnyH_done (by kernel_rfl) ?_ _
      refine NoPanic.normal ?_
      clear hHeld
      go_wp2
      go_roundw
      case rel => exact ⟨1, by omega, by go_num, hBG.trans ((hBs.trans ((below_drew wb).mono hBs.size)).mono hBG.size)⟩
      case measure => simp [intOf]; omega
     ·
      obtain ⟨j, hj⟩ : ∃ j, i = j + 1 := ⟨i - 1, by omega⟩
      obtain ⟨y, hy, hlk⟩ := HPr.out j hj
      obtain ⟨gj, oj, ej, y0, y1, y2, y3⟩ := MH.t.get4 hy
      injection ej with ej
      injection ej with ej1 ej2 ej3
      subst ej1 ej2
      have qj : IntKind.i64.wrap ((i : Int) - 1) = (j : Int) := by rw [IntKind.wrap_i64]; omega
      have qi : (0 : Int) < (i : Int) := by omega
      have qj0 : (0 : Int) ≤ (j : Int) := by omega
      have qjn : (j : Int) < (n : Int) := by omega
      have hcs := like_no hlk
      obtain ⟨ya, yo, ys, yb⟩ := y
      simp only at y1 y2 y3 hcs
      clear hy hlk MH EH y0 hj hi0 ej3
      rcases hcs with hc | ⟨hc1, hc⟩ | ⟨hc1, hc2, hc⟩
      ·
       have hc1 : (tof == yo) = false := by simpa using hc
       clear hc
       go_wp2_with fail
       refine wp_region_noPanic ?_
       refine wp_region_held_drew (S := fun w' => w'.cell? ⟨bt, 1, none⟩ = some (.int .i64 tof) ∧ w'.cell? ⟨bt, 2, none⟩ = some (.int .i64 ts) ∧ w'.cell? ⟨bt, 3, none⟩ = some (.string tb) ∧ w'.cell? ⟨w3.heap.size, 0, none⟩ = some (.slice (some ⟨g, og, none⟩) n d3) ∧ w'.cell? ⟨g, og + j * 4 + 1, none⟩ = some (.int .i64 yo) ∧ w'.cell? ⟨g, og + j * 4 + 2, none⟩ = some (.int .i64 ys) ∧ w'.cell? ⟨g, og + j * 4 + 3, none⟩ = some (.string yb)) (by kernel_rfl) ⟨(show wb.drew.cell? ⟨bt, 1, none⟩ = _ from r1), (show wb.drew.cell? ⟨bt, 2, none⟩ = _ from r2), (show wb.drew.cell? ⟨bt, 3, none⟩ = _ from r3), (show wb.drew.cell? ⟨w3.heap.size, 0, none⟩ = _ from x0), (show wb.drew.cell? ⟨g, og + j * 4 + 1, none⟩ = _ from y1), (show wb.drew.cell? ⟨g, og + j * 4 + 2, none⟩ = _ from y2), (show wb.drew.cell? ⟨g, og + j * 4 + 3, none⟩ = _ from y3)⟩ (fun hHeld => ?_)
       refine wpAnyH_take (i := 0) (v := ?v111) rfl (by kernel_rfl) (by kernel_rfl) (by kernel_rfl) (fun _ _ _ h => h) (Or.inl ⟨by kernel_rfl, ?y111⟩) hHeld ?z111
       case y111 => (intro wq hSw; (try dsimp only at hSw); go_simp; try with_reducible rfl)
       try simp only [Act.put, qq1, qq2, qq3]
       refine wpAnyH_take (i := 1) (v := .bool false) rfl (by kernel_rfl) (by kernel_rfl) (by kernel_rfl) (fun _ _ _ h => h) (Or.inl ⟨by kernel_rfl, ?y112⟩) hHeld ?z112
       case y112 => (intro wq hSw; (try dsimp only at hSw); go_simp)
       try simp only [Act.put, qq1, qq2, qq3]
       refine wpAnyH_take (i := 2) (v := .bool false) rfl (by kernel_rfl) (by kernel_rfl) (by kernel_rfl) (fun _ _ _ h => h) (Or.inl ⟨by kernel_rfl, ?y113⟩) hHeld ?z113
       case y113 => (intro wq hSw; (try dsimp only at hSw); go_simp)
       try simp only [Act.put, qq1, qq2, qq3]
       refine wpAnyH_take (i := 3) (v := ?v114) rfl (by kernel_rfl) (by kernel_rfl) (by kernel_rfl) (fun _ _ _ h => h) (Or.inl ⟨by kernel_rfl, ?y114⟩) hHeld ?z114
       case y114 => (intro wq hSw; (try dsimp only at hSw); go_simp; try with_reducible rfl)
       try simp only [Act.put, qq1, qq2, qq3]
       refine wpAnyH_take (i := 4) (v := .bool true) rfl (by kernel_rfl) (by kernel_rfl) (by kernel_rfl) (fun _ _ _ h => h) (Or.inl ⟨by kernel_rfl, ?y115⟩) hHeld ?z115
       case y115 => (intro wq hSw; (try dsimp only at hSw); go_simp; omega)
       try simp only [Act.put, qq1, qq2, qq3]
       refine wpAnyH_take (i := 5) (v := .bool true) rfl (by kernel_rfl) (by kernel_rfl) (by kernel_rfl) (fun _ _ _ h => h) (Or.inl ⟨by kernel_rfl, ?y116⟩) hHeld ?z116
       case y116 => (intro wq hSw; (try dsimp only at hSw); go_simp)
       try simp only [Act.put, qq1, qq2, qq3]
       refine wpAnyH_take (i := 6) (v := ?v117) rfl (by kernel_rfl) (by kernel_rfl) (by kernel_rfl) (fun _ _ _ h => h) (Or.inl ⟨by kernel_rfl, ?y117⟩) hHeld ?z117
       case y117 => (intro wq hSw; (try dsimp only at hSw); go_simp; try with_reducible rfl)
       try simp only [Act.put, qq1, qq2, qq3]
       refine wpAnyH_take (i := 7) (v := ?v118) rfl (by kernel_rfl) (by kernel_rfl) (by kernel_rfl) (fun _ _ _ h => h) (Or.inl ⟨by kernel_rfl, ?y118⟩) hHeld ?z118
       case y118 => (intro wq hSw; (try dsimp only at hSw); go_simp; try with_reducible rfl)
       try simp only [Act.put, qq1, qq2, qq3]
       refine wpAnyH_take (i := 8) (v := ?v119) rfl (by kernel_rfl) (by kernel_rfl) (by kernel_rfl) (fun _ _ _ h => h) (Or.inl ⟨by kernel_rfl, ?y119⟩) hHeld ?z119
       case y119 => (intro wq hSw; (try dsimp only at hSw); go_simp; try with_reducible rfl)
       try simp only [Act.put, qq1, qq2, qq3]
       refine wpAnyH_take (i := 9) (v := ?v120) rfl (by kernel_rfl) (by kernel_rfl) (by kernel_rfl) (fun _ _ _ h => h) (Or.inl ⟨by kernel_rfl, ?y120⟩) hHeld ?z120
       case y120 => (intro wq hSw; (try dsimp only at hSw); go_simp; try with_reducible rfl)
       try simp only [Act.put, qq1, qq2, qq3]
       refine wpAnyH_take (i := 10) (v := ?v121) rfl (by kernel_rfl) (by kernel_rfl) (by kernel_rfl) (fun _ _ _ h => h) (Or.inl ⟨by kernel_rfl, ?y121⟩) hHeld ?z121
       case y121 => (intro wq hSw; (try dsimp only at hSw); go_simp; try with_reducible rfl)
       try simp only [Act.put, qq1, qq2, qq3]
       refine wpAnyH_take (i := 11) (v := ?v122) rfl (by kernel_rfl) (by kernel_rfl) (by kernel_rfl) (fun _ _ _ h => h) (Or.inl ⟨by kernel_rfl, ?y122⟩) hHeld ?z122
       case y122 => (intro wq hSw; (try dsimp only at hSw); go_simp; try with_reducible rfl)
       try simp only [Act.put, qq1, qq2, qq3]
       refine wpAnyH_take (i := 12) (v := ?v123) rfl (by kernel_rfl) (by kernel_rfl) (by kernel_rfl) (fun _ _ _ h => h) (Or.inl ⟨by kernel_rfl, ?y123⟩) hHeld ?z123
       case y123 => (intro wq hSw; (try dsimp only at hSw); go_simp; try with_reducible rfl)
       try simp only [Act.put, qq1, qq2, qq3]
       refine wpAnyH_take (i := 13) (v := ?v124) rfl (by kernel_rfl) (by kernel_rfl) (by kernel_rfl) (fun _ _ _ h => h) (Or.inl ⟨by kernel_rfl, ?y124⟩) hHeld ?z124
       case y124 => (intro wq hSw; (try dsimp only at hSw); go_simp; try with_reducible rfl)
       try simp only [Act.put, qq1, qq2, qq3]
       refine wpAnyH_take (i := 14) (v := ?v125) rfl (by kernel_rfl) (by kernel_rfl) (by kernel_rfl) (fun _ _ _ h => h) (Or.inl ⟨by kernel_rfl, ?y125⟩) hHeld ?z125
       case y125 => (intro wq hSw; (try dsimp only at hSw); go_simp; try with_reducible rfl)
       try simp only [Act.put, qq1, qq2, qq3]
       refine wpAnyH_take (i := 15) (v := ?v126) rfl (by kernel_rfl) (by kernel_rfl) (by kernel_rfl) (fun _ _ _ h => h) (Or.inl ⟨by kernel_rfl, ?y126⟩) hHeld ?z126
       case y126 => (intro wq hSw; (try dsimp only at hSw); go_simp; try with_reducible rfl)
       try simp only [Act.put, qq1, qq2, qq3]
       refine wpAnyH_take (i := 16) (v := .bool false) rfl (by kernel_rfl) (by kernel_rfl) (by kernel_rfl) (fun _ _ _ h => h) (Or.inl ⟨by kernel_rfl, ?y127⟩) hHeld ?z127
       case y127 => (intro wq hSw; (try dsimp only at hSw); go_simp)
       try simp only [Act.put, qq1, qq2, qq3]
       refine wpAnyH_take (i := 17) (v := .bool false) rfl (by kernel_rfl) (by kernel_rfl) (by kernel_rfl) (fun _ _ _ h => h) (Or.inl ⟨by kernel_rfl, ?y128⟩) hHeld ?z128
       case y128 => (intro wq hSw; (try dsimp only at hSw); go_simp)
       try simp only [Act.put, qq1, qq2, qq3]
       refine wpAnyH_take (i := 18) (v := .bool false) rfl (by kernel_rfl) (by kernel_rfl) (by kernel_rfl) (fun _ _ _ h => h) (Or.inl ⟨by kernel_rfl, ?y129⟩) hHeld ?z129
       case y129 => (intro wq hSw; (try dsimp only at hSw); go_simp)
       try simp only [Act.put, qq1, qq2, qq3]
       refine wpAnyH_take (i := 19) (v := undef) rfl (by kernel_rfl) (by kernel_rfl) (by kernel_rfl) (fun _ _ _ h => h) (Or.inr ⟨by kernel_rfl, rfl⟩) hHeld ?z130
       try simp only [Act.put, qq1, qq2, qq3]
       refine wpAnyH_take (i := 20) (v := undef) rfl (by kernel_rfl) (by kernel_rfl) (by kernel_rfl) (fun _ _ _ h => h) (Or.inr ⟨by kernel_rfl, rfl⟩) hHeld ?z131
       try simp only [Act.put, qq1, qq2, qq3]
       refine wpAnyH_take (i := 21) (v := undef) rfl (by kernel_rfl) (by kernel_rfl) (by kernel_rfl) (fun _ _ _ h => h) (Or.inr ⟨by kernel_rfl, rfl⟩) hHeld ?z132
       try simp only [Act.put, qq1, qq2, qq3]
       refine wpAnyH_take (i := 22) (v := undef) rfl (by kernel_rfl) (by kernel_rfl) (by kernel_rfl) (fun _ _ _ h => h) (Or.inr ⟨by kernel_rfl, rfl⟩) hHeld ?z133
       try simp only [Act.put, qq1, qq2, qq3]
       refine wpAnyH_take (i := 23) (v := undef) rfl (by kernel_rfl) (by kernel_rfl) (by kernel_rfl) (fun _ _ _ h => h) (Or.inr ⟨by kernel_rfl, rfl⟩) hHeld ?z134
       try simp only [Act.put, qq1, qq2, qq3]
       refine wpAnyH_take (i := 24) (v := undef) rfl (by kernel_rfl) (by kernel_rfl) (by kernel_rfl) (fun _ _ _ h => h) (Or.inr ⟨by kernel_rfl, rfl⟩) hHeld ?z135
       try simp only [Act.put, qq1, qq2, qq3]
       refine wpAnyH_take (i := 25) (v := undef) rfl (by kernel_rfl) (by kernel_rfl) (by kernel_rfl) (fun _ _ _ h => h) (Or.inr ⟨by kernel_rfl, rfl⟩) hHeld ?z136
       try simp only [Act.put, qq1, qq2, qq3]
       refine wpAnyH_take (i := 26) (v := undef) rfl (by kernel_rfl) (by kernel_rfl) (by kernel_rfl) (fun _ _ _ h => h) (Or.inr ⟨by kernel_rfl, rfl⟩) hHeld ?z137
       try simp only [Act.put, qq1, qq2, qq3]
       refine wpAnyH_take (i := 27) (v := undef) rfl (by kernel_rfl) (by kernel_rfl) (by kernel_rfl) (fun _ _ _ h => h) (Or.inr ⟨by kernel_rfl, rfl⟩) hHeld ?z138
       try simp only [Act.put, qq1, qq2, qq3]
       refine wpAnyH_take (i := 28) (v := undef) rfl (by kernel_rfl) (by kernel_rfl) (by kernel_rfl) (fun _ _ _ h => h) (Or.inr ⟨by kernel_rfl, rfl⟩) hHeld ?z139
       try simp only [Act.put, qq1, qq2, qq3]
       refine wpAnyH_take (i := 29) (v := undef) rfl (by kernel_rfl) (by kernel_rfl) (by kernel_rfl) (fun _ _ _ h => h) (Or.inr ⟨by kernel_rfl, rfl⟩) hHeld ?z140
       try simp only [Act.put, qq1, qq2, qq3]
       refine wpAnyH_take (i := 30) (v := .bool false) rfl (by kernel_rfl) (by kernel_rfl) (by kernel_rfl) (fun _ _ _ h => h) (Or.inl ⟨by kernel_rfl, ?y141⟩) hHeld ?z141
       case y141 => (intro wq hSw; (try dsimp only at hSw); go_simp)
       try simp only [Act.put, qq1, qq2, qq3]
       refine wpAnyH_take (i := 31) (v := .bool false) rfl (by kernel_rfl) (by kernel_rfl) (by kernel_rfl) (fun _ _ _ h => h) (Or.inl ⟨by kernel_rfl, ?y142⟩) hHeld ?z142
       case y142 => (intro wq hSw; (try dsimp only at hSw); go_simp)
       try simp only [Act.put, qq1, qq2, qq3]
       refine wpAnyH_take (i := 32) (v := undef) rfl (by kernel_rfl) (by kernel_rfl) (by kernel_rfl) (fun _ _ _ h => h) (Or.inr ⟨by kernel_rfl, rfl⟩) hHeld ?z143
       try simp only [Act.put, qq1, qq2, qq3]
       refine wpAnyH_take (i := 33) (v := undef) rfl (by kernel_rfl) (by kernel_rfl) (by kernel_rfl) (fun _ _ _ h => h) (Or.inr ⟨by kernel_rfl, rfl⟩) hHeld ?z144
       try simp only [Act.put, qq1, qq2, qq3]
       refine wpAnyH_take (i := 34) (v := undef) rfl (by kernel_rfl) (by kernel_rfl) (by kernel_rfl) (fun _ _ _ h => h) (Or.inr ⟨by kernel_rfl, rfl⟩) hHeld ?z145
       try simp only [Act.put, qq1, qq2, qq3]
       refine wpAnyH_take (i := 35) (v := undef) rfl (by kernel_rfl) (by kernel_rfl) (by kernel_rfl) (fun _ _ _ h => h) (Or.inr ⟨by kernel_rfl, rfl⟩) hHeld ?z146
       try simp only [Act.put, qq1, qq2, qq3]
       refine wpAnyH_take (i := 36) (v := undef) rfl (by kernel_rfl) (by kernel_rfl) (by kernel_rfl) (fun _ _ _ h => h) (Or.inr ⟨by kernel_rfl, rfl⟩) hHeld ?z147
       try simp only [Act.put, qq1, qq2, qq3]
       refine wpAnyH_take (i := 37) (v := undef) rfl (by kernel_rfl) (by kernel_rfl) (by kernel_rfl) (fun _ _ _ h => h) (Or.inr ⟨by kernel_rfl, rfl⟩) hHeld ?z148
       try simp only [Act.put, qq1, qq2, qq3]
       refine wpAnyH_take (i := 38) (v := undef) rfl (by kernel_rfl) (by kernel_rfl) (by kernel_rfl) (fun _ _ _ h => h) (Or.inr ⟨by kernel_rfl, rfl⟩) hHeld ?z149
       try simp only [Act.put, qq1, qq2, qq3]
       refine wpAnyH_take (i := 39) (v := undef) rfl (by kernel_rfl) (by kernel_rfl) (by kernel_rfl) (fun _ _ _ h => h) (Or.inr ⟨by kernel_rfl, rfl⟩) hHeld ?z150
       try simp only [Act.put, qq1, qq2, qq3]
       refine wpAnyH_take (i := 40) (v := undef) rfl (by kernel_rfl) (by kernel_rfl) (by kernel_rfl) (fun _ _ _ h => h) (Or.inr ⟨by kernel_rfl, rfl⟩) hHeld ?z151
       try simp only [Act.put, qq1, qq2, qq3]
       refine wpAnyH_take (i := 41) (v := undef) rfl (by kernel_rfl) (by kernel_rfl) (by kernel_rfl) (fun _ _ _ h => h) (Or.inr ⟨by kernel_rfl, rfl⟩) hHeld ?z152
       try simp only [Act.put, qq1, qq2, qq3]
       refine wpAnyH_take (i := 42) (v := undef) rfl (by kernel_rfl) (by kernel_rfl) (by kernel_rfl) (fun _ _ _ h => h) (Or.inr ⟨by kernel_rfl, rfl⟩) hHeld ?z153
       try simp only [Act.put, qq1, qq2, qq3]
       refine wpAnyH_take (i := 43) (v := .bool false) rfl (by kernel_rfl) (by kernel_rfl) (by kernel_rfl) (fun _ _ _ h => h) (Or.inl ⟨by kernel_rfl, ?y154⟩) hHeld ?z154
       case y154 => (intro wq hSw; (try dsimp only at hSw); go_simp)
       try simp only [Act.put, qq1, qq2, qq3]
       refine wpAnyH_take (i := 44) (v := .bool false) rfl (by kernel_rfl) (by kernel_rfl) (by kernel_rfl) (fun _ _ _ h => h) (Or.inl ⟨by kernel_rfl, ?y155⟩) hHeld ?z155
       case y155 => (intro wq hSw; (try dsimp only at hSw); go_simp)
       try simp only [Act.put, qq1, qq2, qq3]
       try simp only [Act.put, List.getElem_toArray, List.getElem_cons_succ, List.getElem_cons_zero, qq1, qq2, qq3]
       refine wpAnyH_done (by kernel_rfl) ?_ _
       refine NoPanic.normal ?_
       clear hHeld
       go_wp2
       go_roundw
       case rel => exact ⟨i + 1, by omega, by go_num, hBG.trans ((hBs.trans ((below_drew wb).mono hBs.size)).mono hBG.size)⟩
       case measure => simp [intOf]; omega
      ·
       subst hc1
       have hc2 : (ts == ys) = false := by simpa using hc
       clear hc
       go_wp2_with fail
       refine wp_region_noPanic ?_
       refine wp_region_held_drew (S := fun w' => w'.cell? ⟨bt, 1, none⟩ = some (.int .i64 tof) ∧ w'.cell? ⟨bt, 2, none⟩ = some (.int .i64 ts) ∧ w'.cell? ⟨bt, 3, none⟩ = some (.string tb) ∧ w'.cell? ⟨w3.heap.size, 0, none⟩ = some (.slice (some ⟨g, og, none⟩) n d3) ∧ w'.cell? ⟨g, og + j * 4 + 1, none⟩ = some (.int .i64 tof) ∧ w'.cell? ⟨g, og + j * 4 + 2, none⟩ = some (.int .i64 ys) ∧ w'.cell? ⟨g, og + j * 4 + 3, none⟩ = some (.string yb)) (by kernel_rfl) ⟨(show wb.drew.cell? ⟨bt, 1, none⟩ = _ from r1), (show wb.drew.cell? ⟨bt, 2, none⟩ = _ from r2), (show wb.drew.cell? ⟨bt, 3, none⟩ = _ from r3), (show wb.drew.cell? ⟨w3.heap.size, 0, none⟩ = _ from x0), (show wb.drew.cell? ⟨g, og + j * 4 + 1, none⟩ = _ from y1), (show wb.drew.cell? ⟨g, og + j * 4 + 2, none⟩ = _ from y2), (show wb.drew.cell? ⟨g, og + j * 4 + 3, none⟩ = _ from y3)⟩ (fun hHeld => ?_)
       refine wpAnyH_take (i := 0) (v := ?v156) rfl (by kernel_rfl) (by kernel_rfl) (by kernel_rfl) (fun _ _ _ h => h) (Or.inl ⟨by kernel_rfl, ?y156⟩) hHeld ?z156
       case y156 => (intro wq hSw; (try dsimp only at hSw); go_simp; try with_reducible rfl)
       try simp only [Act.put, qq1, qq2, qq3]
       refine wpAnyH_take (i := 1) (v := .bool false) rfl (by kernel_rfl) (by kernel_rfl) (by kernel_rfl) (fun _ _ _ h => h) (Or.inl ⟨by kernel_rfl, ?y157⟩) hHeld ?z157
       case y157 => (intro wq hSw; (try dsimp only at hSw); go_simp)
       try simp only [Act.put, qq1, qq2, qq3]
       refine wpAnyH_take (i := 2) (v := .bool false) rfl (by kernel_rfl) (by kernel_rfl) (by kernel_rfl) (fun _ _ _ h => h) (Or.inl ⟨by kernel_rfl, ?y158⟩) hHeld ?z158
       case y158 => (intro wq hSw; (try dsimp only at hSw); go_simp)
       try simp only [Act.put, qq1, qq2, qq3]
       refine wpAnyH_take (i := 3) (v := ?v159) rfl (by kernel_rfl) (by kernel_rfl) (by kernel_rfl) (fun _ _ _ h => h) (Or.inl ⟨by kernel_rfl, ?y159⟩) hHeld ?z159
       case y159 => (intro wq hSw; (try dsimp only at hSw); go_simp; try with_reducible rfl)
       try simp only [Act.put, qq1, qq2, qq3]
       refine wpAnyH_take (i := 4) (v := .bool true) rfl (by kernel_rfl) (by kernel_rfl) (by kernel_rfl) (fun _ _ _ h => h) (Or.inl ⟨by kernel_rfl, ?y160⟩) hHeld ?z160
       case y160 => (intro wq hSw; (try dsimp only at hSw); go_simp; omega)
       try simp only [Act.put, qq1, qq2, qq3]
       refine wpAnyH_take (i := 5) (v := .bool true) rfl (by kernel_rfl) (by kernel_rfl) (by kernel_rfl) (fun _ _ _ h => h) (Or.inl ⟨by kernel_rfl, ?y161⟩) hHeld ?z161
       case y161 => (intro wq hSw; (try dsimp only at hSw); go_simp)
       try simp only [Act.put, qq1, qq2, qq3]
       refine wpAnyH_take (i := 6) (v := ?v162) rfl (by kernel_rfl) (by kernel_rfl) (by kernel_rfl) (fun _ _ _ h => h) (Or.inl ⟨by kernel_rfl, ?y162⟩) hHeld ?z162
       case y162 => (intro wq hSw; (try dsimp only at hSw); go_simp; try with_reducible rfl)
       try simp only [Act.put, qq1, qq2, qq3]
       refine wpAnyH_take (i := 7) (v := ?v163) rfl (by kernel_rfl) (by kernel_rfl) (by kernel_rfl) (fun _ _ _ h => h) (Or.inl ⟨by kernel_rfl, ?y163⟩) hHeld ?z163
       case y163 => (intro wq hSw; (try dsimp only at hSw); go_simp; try with_reducible rfl)
       try simp only [Act.put, qq1, qq2, qq3]
       refine wpAnyH_take (i := 8) (v := ?v164) rfl (by kernel_rfl) (by kernel_rfl) (by kernel_rfl) (fun _ _ _ h => h) (Or.inl ⟨by kernel_rfl, ?y164⟩) hHeld ?z164
       case y164 => (intro wq hSw; (try dsimp only at hSw); go_simp; try with_reducible rfl)
       try simp only [Act.put, qq1, qq2, qq3]
       refine wpAnyH_take (i := 9) (v := ?v165) rfl (by kernel_rfl) (by kernel_rfl) (by kernel_rfl) (fun _ _ _ h => h) (Or.inl ⟨by kernel_rfl, ?y165⟩) hHeld ?z165
       case y165 => (intro wq hSw; (try dsimp only at hSw); go_simp; try with_reducible rfl)
       try simp only [Act.put, qq1, qq2, qq3]
       refine wpAnyH_take (i := 10) (v := ?v166) rfl (by kernel_rfl) (by kernel_rfl) (by kernel_rfl) (fun _ _ _ h => h) (Or.inl ⟨by kernel_rfl, ?y166⟩) hHeld ?z166
       case y166 => (intro wq hSw; (try dsimp only at hSw); go_simp; try with_reducible rfl)
       try simp only [Act.put, qq1, qq2, qq3]
       refine wpAnyH_take (i := 11) (v := ?v167) rfl (by kernel_rfl) (by kernel_rfl) (by kernel_rfl) (fun _ _ _ h => h) (Or.inl ⟨by kernel_rfl, ?y167⟩) hHeld ?z167
       case y167 => (intro wq hSw; (try dsimp only at hSw); go_simp; try with_reducible rfl)
       try simp only [Act.put, qq1, qq2, qq3]
       refine wpAnyH_take (i := 12) (v := ?v168) rfl (by kernel_rfl) (by kernel_rfl) (by kernel_rfl) (fun _ _ _ h => h) (Or.inl ⟨by kernel_rfl, ?y168⟩) hHeld ?z168
       case y168 => (intro wq hSw; (try dsimp only at hSw); go_simp; try with_reducible rfl)
       try simp only [Act.put, qq1, qq2, qq3]
       refine wpAnyH_take (i := 13) (v := ?v169) rfl (by kernel_rfl) (by kernel_rfl) (by kernel_rfl) (fun _ _ _ h => h) (Or.inl ⟨by kernel_rfl, ?y169⟩) hHeld ?z169
       case y169 => (intro wq hSw; (try dsimp only at hSw); go_simp; try with_reducible rfl)
       try simp only [Act.put, qq1, qq2, qq3]
       refine wpAnyH_take (i := 14) (v := ?v170) rfl (by kernel_rfl) (by kernel_rfl) (by kernel_rfl) (fun _ _ _ h => h) (Or.inl ⟨by kernel_rfl, ?y170⟩) hHeld ?z170
       case y170 => (intro wq hSw; (try dsimp only at hSw); go_simp; try with_reducible rfl)
       try simp only [Act.put, qq1, qq2, qq3]
       refine wpAnyH_take (i := 15) (v := ?v171) rfl (by kernel_rfl) (by kernel_rfl) (by kernel_rfl) (fun _ _ _ h => h) (Or.inl ⟨by kernel_rfl, ?y171⟩) hHeld ?z171
       case y171 => (intro wq hSw; (try dsimp only at hSw); go_simp; try with_reducible rfl)
       try simp only [Act.put, qq1, qq2, qq3]
       refine wpAnyH_take (i := 16) (v := .bool true) rfl (by kernel_rfl) (by kernel_rfl) (by kernel_rfl) (fun _ _ _ h => h) (Or.inl ⟨by kernel_rfl, ?y172⟩) hHeld ?z172
       case y172 => (intro wq hSw; (try dsimp only at hSw); go_simp)
       try simp only [Act.put, qq1, qq2, qq3]
       refine wpAnyH_take (i := 17) (v := .bool true) rfl (by kernel_rfl) (by kernel_rfl) (by kernel_rfl) (fun _ _ _ h => h) (Or.inl ⟨by kernel_rfl, ?y173⟩) hHeld ?z173
       case y173 => (intro wq hSw; (try dsimp only at hSw); go_simp)
       try simp only [Act.put, qq1, qq2, qq3]
       refine wpAnyH_take (i := 18) (v := .bool true) rfl (by kernel_rfl) (by kernel_rfl) (by kernel_rfl) (fun _ _ _ h => h) (Or.inl ⟨by kernel_rfl, ?y174⟩) hHeld ?z174
       case y174 => (intro wq hSw; (try dsimp only at hSw); go_simp)
       try simp only [Act.put, qq1, qq2, qq3]
       refine wpAnyH_take (i := 19) (v := ?v175) rfl (by kernel_rfl) (by kernel_rfl) (by kernel_rfl) (fun _ _ _ h => h) (Or.inl ⟨by kernel_rfl, ?y175⟩) hHeld ?z175
       case y175 => (intro wq hSw; (try dsimp only at hSw); go_simp; try with_reducible rfl)
       try simp only [Act.put, qq1, qq2, qq3]
       refine wpAnyH_take (i := 20) (v := ?v176) rfl (by kernel_rfl) (by kernel_rfl) (by kernel_rfl) (fun _ _ _ h => h) (Or.inl ⟨by kernel_rfl, ?y176⟩) hHeld ?z176
       case y176 => (intro wq hSw; (try dsimp only at hSw); go_simp; try with_reducible rfl)
       try simp only [Act.put, qq1, qq2, qq3]
       refine wpAnyH_take (i := 21) (v := ?v177) rfl (by kernel_rfl) (by kernel_rfl) (by kernel_rfl) (fun _ _ _ h => h) (Or.inl ⟨by kernel_rfl, ?y177⟩) hHeld ?z177
       case y177 => (intro wq hSw; (try dsimp only at hSw); go_simp; try with_reducible rfl)
       try simp only [Act.put, qq1, qq2, qq3]
       refine wpAnyH_take (i := 22) (v := ?v178) rfl (by kernel_rfl) (by kernel_rfl) (by kernel_rfl) (fun _ _ _ h => h) (Or.inl ⟨by kernel_rfl, ?y178⟩) hHeld ?z178
       case y178 => (intro wq hSw; (try dsimp only at hSw); go_simp; try with_reducible rfl)
       try simp only [Act.put, qq1, qq2, qq3]
       refine wpAnyH_take (i := 23) (v := ?v179) rfl (by kernel_rfl) (by kernel_rfl) (by kernel_rfl) (fun _ _ _ h => h) (Or.inl ⟨by kernel_rfl, ?y179⟩) hHeld ?z179
       case y179 => (intro wq hSw; (try dsimp only at hSw); go_simp; try with_reducible rfl)
       try simp only [Act.put, qq1, qq2, qq3]
       refine wpAnyH_take (i := 24) (v := ?v180) rfl (by kernel_rfl) (by kernel_rfl) (by kernel_rfl) (fun _ _ _ h => h) (Or.inl ⟨by kernel_rfl, ?y180⟩) hHeld ?z180
       case y180 => (intro wq hSw; (try dsimp only at hSw); go_simp; try with_reducible rfl)
       try simp only [Act.put, qq1, qq2, qq3]
       refine wpAnyH_take (i := 25) (v := ?v181) rfl (by kernel_rfl) (by kernel_rfl) (by kernel_rfl) (fun _ _ _ h => h) (Or.inl ⟨by kernel_rfl, ?y181⟩) hHeld ?z181
       case y181 => (intro wq hSw; (try dsimp only at hSw); go_simp; try with_reducible rfl)
       try simp only [Act.put, qq1, qq2, qq3]
       refine wpAnyH_take (i := 26) (v := ?v182) rfl (by kernel_rfl) (by kernel_rfl) (by kernel_rfl) (fun _ _ _ h => h) (Or.inl ⟨by kernel_rfl, ?y182⟩) hHeld ?z182
       case y182 => (intro wq hSw; (try dsimp only at hSw); go_simp; try with_reducible rfl)
       try simp only [Act.put, qq1, qq2, qq3]
       refine wpAnyH_take (i := 27) (v := ?v183) rfl (by kernel_rfl) (by kernel_rfl) (by kernel_rfl) (fun _ _ _ h => h) (Or.inl ⟨by kernel_rfl, ?y183⟩) hHeld ?z183
       case y183 => (intro wq hSw; (try dsimp only at hSw); go_simp; try with_reducible rfl)
       try simp only [Act.put, qq1, qq2, qq3]
       refine wpAnyH_take (i := 28) (v := ?v184) rfl (by kernel_rfl) (by kernel_rfl) (by kernel_rfl) (fun _ _ _ h => h) (Or.inl ⟨by kernel_rfl, ?y184⟩) hHeld ?z184
       case y184 => (intro wq hSw; (try dsimp only at hSw); go_simp; try with_reducible rfl)
       try simp only [Act.put, qq1, qq2, qq3]
       refine wpAnyH_take (i := 29) (v := .bool false) rfl (by kernel_rfl) (by kernel_rfl) (by kernel_rfl) (fun _ _ _ h => h) (Or.inl ⟨by kernel_rfl, ?y185⟩) hHeld ?z185
       case y185 => (intro wq hSw; (try dsimp only at hSw); go_simp)
       try simp only [Act.put, qq1, qq2, qq3]
       refine wpAnyH_take (i := 30) (v := .bool false) rfl (by kernel_rfl) (by kernel_rfl) (by kernel_rfl) (fun _ _ _ h => h) (Or.inl ⟨by kernel_rfl, ?y186⟩) hHeld ?z186
       case y186 => (intro wq hSw; (try dsimp only at hSw); go_simp)
       try simp only [Act.put, qq1, qq2, qq3]
       refine wpAnyH_take (i := 31) (v := .bool false) rfl (by kernel_rfl) (by kernel_rfl) (by kernel_rfl) (fun _ _ _ h => h) (Or.inl ⟨by kernel_rfl, ?y187⟩) hHeld ?z187
       case y187 => (intro wq hSw; (try dsimp only at hSw); go_simp)
       try simp only [Act.put, qq1, qq2, qq3]
       refine wpAnyH_take (i := 32) (v := undef) rfl (by kernel_rfl) (by kernel_rfl) (by kernel_rfl) (fun _ _ _ h => h) (Or.inr ⟨by kernel_rfl, rfl⟩) hHeld ?z188
       try simp only [Act.put, qq1, qq2, qq3]
       refine wpAnyH_take (i := 33) (v := undef) rfl (by kernel_rfl) (by kernel_rfl) (by kernel_rfl) (fun _ _ _ h => h) (Or.inr ⟨by kernel_rfl, rfl⟩) hHeld ?z189
       try simp only [Act.put, qq1, qq2, qq3]
       refine wpAnyH_take (i := 34) (v := undef) rfl (by kernel_rfl) (by kernel_rfl) (by kernel_rfl) (fun _ _ _ h => h) (Or.inr ⟨by kernel_rfl, rfl⟩) hHeld ?z190
       try simp only [Act.put, qq1, qq2, qq3]
       refine wpAnyH_take (i := 35) (v := undef) rfl (by kernel_rfl) (by kernel_rfl) (by kernel_rfl) (fun _ _ _ h => h) (Or.inr ⟨by kernel_rfl, rfl⟩) hHeld ?z191
       try simp only [Act.put, qq1, qq2, qq3]
       refine wpAnyH_take (i := 36) (v := undef) rfl (by kernel_rfl) (by kernel_rfl) (by kernel_rfl) (fun _ _ _ h => h) (Or.inr ⟨by kernel_rfl, rfl⟩) hHeld ?z192
       try simp only [Act.put, qq1, qq2, qq3]
       refine wpAnyH_take (i := 37) (v := undef) rfl (by kernel_rfl) (by kernel_rfl) (by kernel_rfl) (fun _ _ _ h => h) (Or.inr ⟨by kernel_rfl, rfl⟩) hHeld ?z193
       try simp only [Act.put, qq1, qq2, qq3]
       refine wpAnyH_take (i := 38) (v := undef) rfl (by kernel_rfl) (by kernel_rfl) (by kernel_rfl) (fun _ _ _ h => h) (Or.inr ⟨by kernel_rfl, rfl⟩) hHeld ?z194
       try simp only [Act.put, qq1, qq2, qq3]
       refine wpAnyH_take (i := 39) (v := undef) rfl (by kernel_rfl) (by kernel_rfl) (by kernel_rfl) (fun _ _ _ h => h) (Or.inr ⟨by kernel_rfl, rfl⟩) hHeld ?z195
       try simp only [Act.put, qq1, qq2, qq3]
       refine wpAnyH_take (i := 40) (v := undef) rfl (by kernel_rfl) (by kernel_rfl) (by kernel_rfl) (fun _ _ _ h => h) (Or.inr ⟨by kernel_rfl, rfl⟩) hHeld ?z196
       try simp only [Act.put, qq1, qq2, qq3]
       refine wpAnyH_take (i := 41) (v := undef) rfl (by kernel_rfl) (by kernel_rfl) (by kernel_rfl) (fun _ _ _ h => h) (Or.inr ⟨by kernel_rfl, rfl⟩) hHeld ?z197
       try simp only [Act.put, qq1, qq2, qq3]
       refine wpAnyH_take (i := 42) (v := undef) rfl (by kernel_rfl) (by kernel_rfl) (by kernel_rfl) (fun _ _ _ h => h) (Or.inr ⟨by kernel_rfl, rfl⟩) hHeld ?z198
       try simp only [Act.put, qq1, qq2, qq3]
       refine wpAnyH_take (i := 43) (v := .bool false) rfl (by kernel_rfl) (by kernel_rfl) (by kernel_rfl) (fun _ _ _ h => h) (Or.inl ⟨by kernel_rfl, ?y199⟩) hHeld ?z199
       case y199 => (intro wq hSw; (try dsimp only at hSw); go_simp)
       try simp only [Act.put, qq1, qq2, qq3]
       refine wpAnyH_take (i := 44) (v := .bool false) rfl (by kernel_rfl) (by kernel_rfl) (by kernel_rfl) (fun _ _ _ h => h) (Or.inl ⟨by kernel_rfl, ?y200⟩) hHeld ?z200
       case y200 => (intro wq hSw; (try dsimp only at hSw); go_simp)
       try simp only [Act.put, qq1, qq2, qq3]
       try simp only [Act.put, List.getElem_toArray, List.getElem_cons_succ, List.getElem_cons_zero, qq1, qq2, qq3]
       refine wpAnyH_done (by kernel_rfl) ?_ _
       refine NoPanic.normal ?_
       clear hHeld
       go_wp2
       go_roundw
       case rel => exact ⟨i + 1, by omega, by go_num, hBG.trans ((hBs.trans ((below_drew wb).mono hBs.size)).mono hBG.size)⟩
       case measure => simp [intOf]; omega
      ·
       subst hc1 hc2
       go_wp2_with fail
       refine wp_region_noPanic ?_
       refine wp_region_held_drew (S := fun w' => w'.cell? ⟨bt, 1, none⟩ = some (.int .i64 tof) ∧ w'.cell? ⟨bt, 2, none⟩ = some (.int .i64 ts) ∧ w'.cell? ⟨bt, 3, none⟩ = some (.string tb) ∧ w'.cell? ⟨w3.heap.size, 0, none⟩ = some (.slice (some ⟨g, og, none⟩) n d3) ∧ w'.cell? ⟨g, og + j * 4 + 1, none⟩ = some (.int .i64 tof) ∧ w'.cell? ⟨g, og + j * 4 + 2, none⟩ = some (.int .i64 ts) ∧ w'.cell? ⟨g, og + j * 4 + 3, none⟩ = some (.string yb)) (by kernel_rfl) ⟨(show wb.drew.cell? ⟨bt, 1, none⟩ = _ from r1), (show wb.drew.cell? ⟨bt, 2, none⟩ = _ from r2), (show wb.drew.cell? ⟨bt, 3, none⟩ = _ from r3), (show wb.drew.cell? ⟨w3.heap.size, 0, none⟩ = _ from x0), (show wb.drew.cell? ⟨g, og + j * 4 + 1, none⟩ = _ from y1), (show wb.drew.cell? ⟨g, og + j * 4 + 2, none⟩ = _ from y2), (show wb.drew.cell? ⟨g, og + j * 4 + 3, none⟩ = _ from y3)⟩ (fun hHeld => ?_)
       refine wpAnyH_take (i := 0) (v := ?v201) rfl (by kernel_rfl) (by kernel_rfl) (by kernel_rfl) (fun _ _ _ h => h) (Or.inl ⟨by kernel_rfl, ?y201⟩) hHeld ?z201
       case y201 => (intro wq hSw; (try dsimp only at hSw); go_simp; try with_reducible rfl)
       try simp only [Act.put, qq1, qq2, qq3]
       refine wpAnyH_take (i := 1) (v := .bool false) rfl (by kernel_rfl) (by kernel_rfl) (by kernel_rfl) (fun _ _ _ h => h) (Or.inl ⟨by kernel_rfl, ?y202⟩) hHeld ?z202
       case y202 => (intro wq hSw; (try dsimp only at hSw); go_simp)
       try simp only [Act.put, qq1, qq2, qq3]
       refine wpAnyH_take (i := 2) (v := .bool false) rfl (by kernel_rfl) (by kernel_rfl) (by kernel_rfl) (fun _ _ _ h => h) (Or.inl ⟨by kernel_rfl, ?y203⟩) hHeld ?z203
       case y203 => (intro wq hSw; (try dsimp only at hSw); go_simp)
       try simp only [Act.put, qq1, qq2, qq3]
       refine wpAnyH_take (i := 3) (v := ?v204) rfl (by kernel_rfl) (by kernel_rfl) (by kernel_rfl) (fun _ _ _ h => h) (Or.inl ⟨by kernel_rfl, ?y204⟩) hHeld ?z204
       case y204 => (intro wq hSw; (try dsimp only at hSw); go_simp; try with_reducible rfl)
       try simp only [Act.put, qq1, qq2, qq3]
       refine wpAnyH_take (i := 4) (v := .bool true) rfl (by kernel_rfl) (by kernel_rfl) (by kernel_rfl) (fun _ _ _ h => h) (Or.inl ⟨by kernel_rfl, ?y205⟩) hHeld ?z205
       case y205 => (intro wq hSw; (try dsimp only at hSw); go_simp; omega)
       try simp only [Act.put, qq1, qq2, qq3]
       refine wpAnyH_take (i := 5) (v := .bool true) rfl (by kernel_rfl) (by kernel_rfl) (by kernel_rfl) (fun _ _ _ h => h) (Or.inl ⟨by kernel_rfl, ?y206⟩) hHeld ?z206
       case y206 => (intro wq hSw; (try dsimp only at hSw); go_simp)
       try simp only [Act.put, qq1, qq2, qq3]
       refine wpAnyH_take (i := 6) (v := ?v207) rfl (by kernel_rfl) (by kernel_rfl) (by kernel_rfl) (fun _ _ _ h => h) (Or.inl ⟨by kernel_rfl, ?y207⟩) hHeld ?z207
       case y207 => (intro wq hSw; (try dsimp only at hSw); go_simp; try with_reducible rfl)
       try simp only [Act.put, qq1, qq2, qq3]
       refine wpAnyH_take (i := 7) (v := ?v208) rfl (by kernel_rfl) (by kernel_rfl) (by kernel_rfl) (fun _ _ _ h => h) (Or.inl ⟨by kernel_rfl, ?y208⟩) hHeld ?z208
       case y208 => (intro wq hSw; (try dsimp only at hSw); go_simp; try with_reducible rfl)
       try simp only [Act.put, qq1, qq2, qq3]
       refine wpAnyH_take (i := 8) (v := ?v209) rfl (by kernel_rfl) (by kernel_rfl) (by kernel_rfl) (fun _ _ _ h => h) (Or.inl ⟨by kernel_rfl, ?y209⟩) hHeld ?z209
       case y209 => (intro wq hSw; (try dsimp only at hSw); go_simp; try with_reducible rfl)
       try simp only [Act.put, qq1, qq2, qq3]
       refine wpAnyH_take (i := 9) (v := ?v210) rfl (by kernel_rfl) (by kernel_rfl) (by kernel_rfl) (fun _ _ _ h => h) (Or.inl ⟨by kernel_rfl, ?y210⟩) hHeld ?z210
       case y210 => (intro wq hSw; (try dsimp only at hSw); go_simp; try with_reducible rfl)
       try simp only [Act.put, qq1, qq2, qq3]
       refine wpAnyH_take (i := 10) (v := ?v211) rfl (by kernel_rfl) (by kernel_rfl) (by kernel_rfl) (fun _ _ _ h => h) (Or.inl ⟨by kernel_rfl, ?y211⟩) hHeld ?z211
       case y211 => (intro wq hSw; (try dsimp only at hSw); go_simp; try with_reducible rfl)
       try simp only [Act.put, qq1, qq2, qq3]
       refine wpAnyH_take (i := 11) (v := ?v212) rfl (by kernel_rfl) (by kernel_rfl) (by kernel_rfl) (fun _ _ _ h => h) (Or.inl ⟨by kernel_rfl, ?y212⟩) hHeld ?z212
       case y212 => (intro wq hSw; (try dsimp only at hSw); go_simp; try with_reducible rfl)
       try simp only [Act.put, qq1, qq2, qq3]
       refine wpAnyH_take (i := 12) (v := ?v213) rfl (by kernel_rfl) (by kernel_rfl) (by kernel_rfl) (fun _ _ _ h => h) (Or.inl ⟨by kernel_rfl, ?y213⟩) hHeld ?z213
       case y213 => (intro wq hSw; (try dsimp only at hSw); go_simp; try with_reducible rfl)
       try simp only [Act.put, qq1, qq2, qq3]
       refine wpAnyH_take (i := 13) (v := ?v214) rfl (by kernel_rfl) (by kernel_rfl) (by kernel_rfl) (fun _ _ _ h => h) (Or.inl ⟨by kernel_rfl, ?y214⟩) hHeld ?z214
       case y214 => (intro wq hSw; (try dsimp only at hSw); go_simp; try with_reducible rfl)
       try simp only [Act.put, qq1, qq2, qq3]
       refine wpAnyH_take (i := 14) (v := ?v215) rfl (by kernel_rfl) (by kernel_rfl) (by kernel_rfl) (fun _ _ _ h => h) (Or.inl ⟨by kernel_rfl, ?y215⟩) hHeld ?z215
       case y215 => (intro wq hSw; (try dsimp only at hSw); go_simp; try with_reducible rfl)
       try simp only [Act.put, qq1, qq2, qq3]
       refine wpAnyH_take (i := 15) (v := ?v216) rfl (by kernel_rfl) (by kernel_rfl) (by kernel_rfl) (fun _ _ _ h => h) (Or.inl ⟨by kernel_rfl, ?y216⟩) hHeld ?z216
       case y216 => (intro wq hSw; (try dsimp only at hSw); go_simp; try with_reducible rfl)
       try simp only [Act.put, qq1, qq2, qq3]
       refine wpAnyH_take (i := 16) (v := .bool true) rfl (by kernel_rfl) (by kernel_rfl) (by kernel_rfl) (fun _ _ _ h => h) (Or.inl ⟨by kernel_rfl, ?y217⟩) hHeld ?z217
       case y217 => (intro wq hSw; (try dsimp only at hSw); go_simp)
       try simp only [Act.put, qq1, qq2, qq3]
       refine wpAnyH_take (i := 17) (v := .bool true) rfl (by kernel_rfl) (by kernel_rfl) (by kernel_rfl) (fun _ _ _ h => h) (Or.inl ⟨by kernel_rfl, ?y218⟩) hHeld ?z218
       case y218 => (intro wq hSw; (try dsimp only at hSw); go_simp)
       try simp only [Act.put, qq1, qq2, qq3]
       refine wpAnyH_take (i := 18) (v := .bool true) rfl (by kernel_rfl) (by kernel_rfl) (by kernel_rfl) (fun _ _ _ h => h) (Or.inl ⟨by kernel_rfl, ?y219⟩) hHeld ?z219
       case y219 => (intro wq hSw; (try dsimp only at hSw); go_simp)
       try simp only [Act.put, qq1, qq2, qq3]
       refine wpAnyH_take (i := 19) (v := ?v220) rfl (by kernel_rfl) (by kernel_rfl) (by kernel_rfl) (fun _ _ _ h => h) (Or.inl ⟨by kernel_rfl, ?y220⟩) hHeld ?z220
       case y220 => (intro wq hSw; (try dsimp only at hSw); go_simp; try with_reducible rfl)
       try simp only [Act.put, qq1, qq2, qq3]
       refine wpAnyH_take (i := 20) (v := ?v221) rfl (by kernel_rfl) (by kernel_rfl) (by kernel_rfl) (fun _ _ _ h => h) (Or.inl ⟨by kernel_rfl, ?y221⟩) hHeld ?z221
       case y221 => (intro wq hSw; (try dsimp only at hSw); go_simp; try with_reducible rfl)
       try simp only [Act.put, qq1, qq2, qq3]
       refine wpAnyH_take (i := 21) (v := ?v222) rfl (by kernel_rfl) (by kernel_rfl) (by kernel_rfl) (fun _ _ _ h => h) (Or.inl ⟨by kernel_rfl, ?y222⟩) hHeld ?z222
       case y222 => (intro wq hSw; (try dsimp only at hSw); go_simp; try with_reducible rfl)
       try simp only [Act.put, qq1, qq2, qq3]
       refine wpAnyH_take (i := 22) (v := ?v223) rfl (by kernel_rfl) (by kernel_rfl) (by kernel_rfl) (fun _ _ _ h => h) (Or.inl ⟨by kernel_rfl, ?y223⟩) hHeld ?z223
       case y223 => (intro wq hSw; (try dsimp only at hSw); go_simp; try with_reducible rfl)
       try simp only [Act.put, qq1, qq2, qq3]
       refine wpAnyH_take (i := 23) (v := ?v224) rfl (by kernel_rfl) (by kernel_rfl) (by kernel_rfl) (fun _ _ _ h => h) (Or.inl ⟨by kernel_rfl, ?y224⟩) hHeld ?z224
       case y224 => (intro wq hSw; (try dsimp only at hSw); go_simp; try with_reducible rfl)
       try simp only [Act.put, qq1, qq2, qq3]
       refine wpAnyH_take (i := 24) (v := ?v225) rfl (by kernel_rfl) (by kernel_rfl) (by kernel_rfl) (fun _ _ _ h => h) (Or.inl ⟨by kernel_rfl, ?y225⟩) hHeld ?z225
       case y225 => (intro wq hSw; (try dsimp only at hSw); go_simp; try with_reducible rfl)
       try simp only [Act.put, qq1, qq2, qq3]
       refine wpAnyH_take (i := 25) (v := ?v226) rfl (by kernel_rfl) (by kernel_rfl) (by kernel_rfl) (fun _ _ _ h => h) (Or.inl ⟨by kernel_rfl, ?y226⟩) hHeld ?z226
       case y226 => (intro wq hSw; (try dsimp only at hSw); go_simp; try with_reducible rfl)
       try simp only [Act.put, qq1, qq2, qq3]
       refine wpAnyH_take (i := 26) (v := ?v227) rfl (by kernel_rfl) (by kernel_rfl) (by kernel_rfl) (fun _ _ _ h => h) (Or.inl ⟨by kernel_rfl, ?y227⟩) hHeld ?z227
       case y227 => (intro wq hSw; (try dsimp only at hSw); go_simp; try with_reducible rfl)
       try simp only [Act.put, qq1, qq2, qq3]
       refine wpAnyH_take (i := 27) (v := ?v228) rfl (by kernel_rfl) (by kernel_rfl) (by kernel_rfl) (fun _ _ _ h => h) (Or.inl ⟨by kernel_rfl, ?y228⟩) hHeld ?z228
       case y228 => (intro wq hSw; (try dsimp only at hSw); go_simp; try with_reducible rfl)
       try simp only [Act.put, qq1, qq2, qq3]
       refine wpAnyH_take (i := 28) (v := ?v229) rfl (by kernel_rfl) (by kernel_rfl) (by kernel_rfl) (fun _ _ _ h => h) (Or.inl ⟨by kernel_rfl, ?y229⟩) hHeld ?z229
       case y229 => (intro wq hSw; (try dsimp only at hSw); go_simp; try with_reducible rfl)
       try simp only [Act.put, qq1, qq2, qq3]
       refine wpAnyH_take (i := 29) (v := .bool true) rfl (by kernel_rfl) (by kernel_rfl) (by kernel_rfl) (fun _ _ _ h => h) (Or.inl ⟨by kernel_rfl, ?y230⟩) hHeld ?z230
       case y230 => (intro wq hSw; (try dsimp only at hSw); go_simp)
       try simp only [Act.put, qq1, qq2, qq3]
       refine wpAnyH_take (i := 30) (v := .bool true) rfl (by kernel_rfl) (by kernel_rfl) (by kernel_rfl) (fun _ _ _ h => h) (Or.inl ⟨by kernel_rfl, ?y231⟩) hHeld ?z231
       case y231 => (intro wq hSw; (try dsimp only at hSw); go_simp)
       try simp only [Act.put, qq1, qq2, qq3]
       refine wpAnyH_take (i := 31) (v := .bool true) rfl (by kernel_rfl) (by kernel_rfl) (by kernel_rfl) (fun _ _ _ h => h) (Or.inl ⟨by kernel_rfl, ?y232⟩) hHeld ?z232
       case y232 => (intro wq hSw; (try dsimp only at hSw); go_simp)
       try simp only [Act.put, qq1, qq2, qq3]
       refine wpAnyH_take (i := 32) (v := ?v233) rfl (by kernel_rfl) (by kernel_rfl) (by kernel_rfl) (fun _ _ _ h => h) (Or.inl ⟨by kernel_rfl, ?y233⟩) hHeld ?z233
       case y233 => (intro wq hSw; (try dsimp only at hSw); go_simp; try with_reducible rfl)
       try simp only [Act.put, qq1, qq2, qq3]
       refine wpAnyH_take (i := 33) (v := ?v234) rfl (by kernel_rfl) (by kernel_rfl) (by kernel_rfl) (fun _ _ _ h => h) (Or.inl ⟨by kernel_rfl, ?y234⟩) hHeld ?z234
       case y234 => (intro wq hSw; (try dsimp only at hSw); go_simp; try with_reducible rfl)
       try simp only [Act.put, qq1, qq2, qq3]
       refine wpAnyH_take (i := 34) (v := ?v235) rfl (by kernel_rfl) (by kernel_rfl) (by kernel_rfl) (fun _ _ _ h => h) (Or.inl ⟨by kernel_rfl, ?y235⟩) hHeld ?z235
       case y235 => (intro wq hSw; (try dsimp only at hSw); go_simp; try with_reducible rfl)
       try simp only [Act.put, qq1, qq2, qq3]
       refine wpAnyH_take (i := 35) (v := ?v236) rfl (by kernel_rfl) (by kernel_rfl) (by kernel_rfl) (fun _ _ _ h => h) (Or.inl ⟨by kernel_rfl, ?y236⟩) hHeld ?z236
       case y236 => (intro wq hSw; (try dsimp only at hSw); go_simp; try with_reducible rfl)
       try simp only [Act.put, qq1, qq2, qq3]
       refine wpAnyH_take (i := 36) (v := ?v237) rfl (by kernel_rfl) (by kernel_rfl) (by kernel_rfl) (fun _ _ _ h => h) (Or.inl ⟨by kernel_rfl, ?y237⟩) hHeld ?z237
       case y237 => (intro wq hSw; (try dsimp only at hSw); go_simp; try with_reducible rfl)
       try simp only [Act.put, qq1, qq2, qq3]
       refine wpAnyH_take (i := 37) (v := ?v238) rfl (by kernel_rfl) (by kernel_rfl) (by kernel_rfl) (fun _ _ _ h => h) (Or.inl ⟨by kernel_rfl, ?y238⟩) hHeld ?z238
       case y238 => (intro wq hSw; (try dsimp only at hSw); go_simp; try with_reducible rfl)
       try simp only [Act.put, qq1, qq2, qq3]
       refine wpAnyH_take (i := 38) (v := ?v239) rfl (by kernel_rfl) (by kernel_rfl) (by kernel_rfl) (fun _ _ _ h => h) (Or.inl ⟨by kernel_rfl, ?y239⟩) hHeld ?z239
       case y239 => (intro wq hSw; (try dsimp only at hSw); go_simp; try with_reducible rfl)
       try simp only [Act.put, qq1, qq2, qq3]
       refine wpAnyH_take (i := 39) (v := ?v240) rfl (by kernel_rfl) (by kernel_rfl) (by kernel_rfl) (fun _ _ _ h => h) (Or.inl ⟨by kernel_rfl, ?y240⟩) hHeld ?z240
       case y240 => (intro wq hSw; (try dsimp only at hSw); go_simp; try with_reducible rfl)
       try simp only [Act.put, qq1, qq2, qq3]
       refine wpAnyH_take (i := 40) (v := ?v241) rfl (by kernel_rfl) (by kernel_rfl) (by kernel_rfl) (fun _ _ _ h => h) (Or.inl ⟨by kernel_rfl, ?y241⟩) hHeld ?z241
       case y241 => (intro wq hSw; (try dsimp only at hSw); go_simp; try with_reducible rfl)
       try simp only [Act.put, qq1, qq2, qq3]
       refine wpAnyH_take (i := 41) (v := ?v242) rfl (by kernel_rfl) (by kernel_rfl) (by kernel_rfl) (fun _ _ _ h => h) (Or.inl ⟨by kernel_rfl, ?y242⟩) hHeld ?z242
       case y242 => (intro wq hSw; (try dsimp only at hSw); go_simp; try with_reducible rfl)
       try simp only [Act.put, qq1, qq2, qq3]
       refine wpAnyH_take (i := 42) (v := .bool false) rfl (by kernel_rfl) (by kernel_rfl) (by kernel_rfl) (fun _ _ _ h => h) (Or.inl ⟨by kernel_rfl, ?y243⟩) hHeld ?z243
       case y243 => (intro wq hSw; (try dsimp only at hSw); go_simp)
       try simp only [Act.put, qq1, qq2, qq3]
       refine wpAnyH_take (i := 43) (v := .bool false) rfl (by kernel_rfl) (by kernel_rfl) (by kernel_rfl) (fun _ _ _ h => h) (Or.inl ⟨by kernel_rfl, ?y244⟩) hHeld ?z244
       case y244 => (intro wq hSw; (try dsimp only at hSw); go_simp)
       try simp only [Act.put, qq1, qq2, qq3]
       refine wpAnyH_take (i := 44) (v := .bool false) rfl (by kernel_rfl) (by kernel_rfl) (by kernel_rfl) (fun _ _ _ h => h) (Or.inl ⟨by kernel_rfl, ?y245⟩) hHeld ?z245
       case y245 => (intro wq hSw; (try dsimp only at hSw); go_simp)
       try simp only [Act.put, qq1, qq2, qq3]
       try simp only [Act.put, List.getElem_toArray, List.getElem_cons_succ, List.getElem_cons_zero, qq1, qq2, qq3]
       refine wpAnyH_done (by kernel_rfl) ?_ _
       refine NoPanic.normal ?_
       clear hHeld
       go_wp2
       go_roundw
       case rel => exact ⟨i + 1, by omega, by go_num, hBG.trans ((hBs.trans ((below_drew wb).mono hBs.size)).mono hBG.size)⟩
       case measure => simp [intOf]; omega
  ·
   have him1 : ¬ (i : Int) < (n : Int) := by omega
   have hE := MF.b
   clear MF YF EF
   go_wp2
   go_ret
   exact ⟨rfl, hE⟩
end Go.Proofs.YtcelbkmnbjcjhaaGreatDoor
namespace Go.Proofs.YtcelbkmnbjcjhaaGreatDoor.table
open Go.RowKit

set_option maxRecDepth 100000 in
set_option maxHeartbeats 1000000 in
theorem walk (a0 : Option Addr) (len0 cap0 : Nat) (w : World) (r0 : RowOf w a0 len0) (hT : Tab w) (hMx : Mx w) :
  Calls Tryz.prog 4 #[.slice a0 len0 cap0] w fun e w' => e = .returned (.bool true) ∧ Below w.heap.size w w' := by
 by_cases h0 : 1048576 < len0
 ·
  have g0 : (1048576 : Int) < (len0 : Int) := by omega
  clear h0 r0
  go_enter Tryz.func4, Tryz.ntmps4
  go_wp2
  go_ret
  exact ⟨rfl, Below.refl _ _⟩
 exact table_walk a0 len0 cap0 w (by omega) r0 ⟨hT, hMx⟩
end Go.Proofs.YtcelbkmnbjcjhaaGreatDoor.table
