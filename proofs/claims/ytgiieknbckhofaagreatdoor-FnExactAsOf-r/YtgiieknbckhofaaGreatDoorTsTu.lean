/- Packed. -/
import Derived.Test.YtgiieknbckhofaaGreatDoorTabPu
import Derived.Test.YtgiieknbckhofaaGreatDoorTs7u
set_option maxHeartbeats 20000000
set_option linter.unusedSimpArgs false
namespace Go.Proofs.YtgiieknbckhofaaGreatDoor
section
open Go.RowKit Go.Sort
structure TabC : Prop where
 go : ∀ (r : RelD) (zn : ByteArray) (E : List EraD) (ae : Option Addr) (ce : Nat) (a b0 c : Option Addr) (ca cb cc : Nat) (w : World), Zd w (.agg #[.slice a r.rules.length ca, .slice b0 r.zones.length cb, .slice c r.links.length cc]) r -> Za w ae 6 (E.map EraD.cs) -> (∀ x ∈ r.rules, jav x = true) -> r.rules.length <= 40 -> (∀ x ∈ r.rules, x.on.size <= 1048576) -> (∀ e ∈ E, EraR e) -> E.length <= 8 -> UntE E -> Cl 154 #[.agg #[.slice a r.rules.length ca, .slice b0 r.zones.length cb, .slice c r.links.length cc], .agg #[.string zn, .slice ae E.length ce]] w fun q W' => TabSP r E w q W'
theorem ju3 {r : RelD} {nm : ByteArray} {w w1 : World} {a7 : Option Addr} {m7 d7 B : Nat} {T : List TurnD} (h : tabD r nm = (0, T)) (hO : Zg w1 B (.slice a7 m7 d7) T) (hs : w.heap.size + 1 < B) (hB : Bw w w1) : Jt r nm w (.returned (.agg #[.slice a7 m7 d7, iv 0])) ((w1.setCell ⟨w.heap.size + 1, 0, none⟩ (.slice a7 m7 d7)).setCell ⟨w.heap.size + 1, 1, none⟩ (iv 0)) := by
 have dl : ∀ g, (Value.slice a7 m7 d7).ownBlock = some g -> B <= g := fun g hg => (World.ownsRow.lt hO g hg).1
 exact ⟨.slice a7 m7 d7, by rw [h], by
  rw [h]
  exact jcm (jcm (jak hO (by omega)) (fun e => by have := dl _ e; omega)) (fun e => by have := dl _ e; omega), (hB.setCell (show w.heap.size <= w.heap.size + 1 by omega) _).setCell (show w.heap.size <= w.heap.size + 1 by omega) _⟩
set_option maxRecDepth 20000 in
theorem js4 (qo : TabC) (r : RelD) (v : Value) (nm : ByteArray) (w : World) (hv : Zd w v r) (sm : r.small) (dn : ∀ x ∈ r.rules, x.on.size <= 1048576) (h1 : nm.size <= 8000) (h2 : relB r = true) :
  Cl 122 #[v, .string nm] w fun q W' => Jt r nm w q W' := by
 obtain ⟨a, b, c, ca, cb, cc, rfl, hA, lX, nU⟩ := hv.form
 have hv : Zd w (.agg #[.slice a r.rules.length ca, .slice b r.zones.length cb, .slice c r.links.length cc]) r := ⟨⟨a, b, c, ca, cb, cc, rfl, hA, lX, nU⟩⟩
 have ag := (qal w (.cells #[.slice a r.rules.length ca, .slice b r.zones.length cb, .slice c r.links.length cc] 38)).alloc (by simp) (.cells #[nS, iv 0] 185)
 obtain ⟨fw, fx, fy, dL, dM, fg, fh⟩ : (fun z : World => z.cell? ⟨w.heap.size, 0, none⟩ = some (.slice a r.rules.length ca) /\ z.cell? ⟨w.heap.size, 1, none⟩ = some (.slice b r.zones.length cb) /\ z.cell? ⟨w.heap.size, 2, none⟩ = some (.slice c r.links.length cc) /\ z.cell? ⟨w.heap.size + 1, 0, none⟩ = some nS /\ z.cell? ⟨w.heap.size + 1, 1, none⟩ = some (iv 0) /\ z.frozen? ⟨w.heap.size + 1, 0, none⟩ = false /\ z.frozen? ⟨w.heap.size + 1, 1, none⟩ = false) ((w.alloc (.cells #[.slice a r.rules.length ca, .slice b r.zones.length cb, .slice c r.links.length cc] 38)).alloc (.cells #[nS, iv 0] 185)) := by simp [go_sem]
 have hF := fun w (h : Zd w (.agg #[.slice a r.rules.length ca, .slice b r.zones.length cb, .slice c r.links.length cc]) r) => jd2 r _ nm w h sm
 have m2 := sm.2.1
 clear hA nU
 cases hix : jbg r.zones (ja8 r.links nm) with
 | none =>
  have HT : Hid (tabD r nm = (5, [])) := ju7 h1 h2 (by rw [jc9 hix]; rfl)
  rw [hix] at hF
  simp only [ixI] at hF
  clear hix h2 h1 dn qo
  go_enter Tryz.func122, Tryz.ntmps122
  go_wp2_with fail
  refine (hF _ (hv.below ag)).mono ?_
  rintro q w1 ⟨rfl, hb1⟩
  have aj := qtr ag hb1
  have eX := jaa hb1 fw
  have eY := jaa hb1 fx
  have f8 := jaa hb1 fy
  have dD := jaa hb1 dL
  have dN := jaa hb1 dM
  have gV := qfz hb1 dL fg
  have gW := qfz hb1 dM fh
  clear hb1 hF
  clear fw fx fy dL dM fg fh
  obtain ⟨t0, t1⟩ := jam (v0 := nS) (v1 := iv 5) dD dN
  have HP : Hid (Jt r nm w (.returned (.agg #[nS, iv 5])) ((w1.setCell ⟨w.heap.size + 1, 0, none⟩ nS).setCell ⟨w.heap.size + 1, 1, none⟩ (iv 5))) := jcv HT.out aj (by omega)
  go_wp2
  exact bpr (v := .agg #[nS, iv 5]) (by simp [results, Tryz.results122, go_sem, t0, t1]) rfl HP.out
 | some i =>
  have im := jui hix
  obtain ⟨z, hz⟩ := qgg im
  have CU : jbi z = true := by
   have h' := h2
   unfold relB at h'
   simp only [bat, List.all_eq_true] at h'
   exact h'.2.2.1 z (lmg hz)
  obtain ⟨ma, um⟩ := jhv CU
  have FD := jx6 CU
  have mU := jcu h2 hix hz
  have az : z.eras ≠ [] := fun h => by rw [h] at ma; simp at ma
  have Ey : Hid (∀ T, tabE r z.eras = (T, false) -> tabD r nm = (7, [])) := fun T h => ju6 (T := T) h1 h2 (by rw [mU]; exact az) (by rw [mU]; exact h)
  have tm : Hid (∀ T, tabE r z.eras = (T, true) -> tabD r nm = (0, T)) := fun T h => ju8 (T := T) h1 h2 (by rw [mU]; exact az) (by rw [mU]; exact h)
  obtain ⟨vk, fK⟩ := jid h2
  have hT := fun (ae : Option Addr) (ce : Nat) (W : World) (h : Zd W (.agg #[.slice a r.rules.length ca, .slice b r.zones.length cb, .slice c r.links.length cc]) r) (h' : Za W ae 6 (z.eras.map EraD.cs)) => qo.go r z.name z.eras ae ce a b c ca cb cc W h h' fK vk dn um ma.2 FD
  rw [hix] at hF
  simp only [ixI] at hF
  have i1 : (0 : Int) <= (i : Int) := by omega
  have i2 : (i : Int) < (r.zones.length : Int) := by omega
  have i3 : ¬ (i : Int) < 0 := by omega
  clear hix h2 h1 dn qo vk fK um FD az mU CU ma
  go_enter Tryz.func122, Tryz.ntmps122
  go_wp2_with fail
  refine (hF _ (hv.below ag)).mono ?_
  rintro q w1 ⟨rfl, hb1⟩
  have aj := qtr ag hb1
  have eX := jaa hb1 fw
  have eY := jaa hb1 fx
  have f8 := jaa hb1 fy
  have dD := jaa hb1 dL
  have dN := jaa hb1 dM
  have gV := qfz hb1 dL fg
  have gW := qfz hb1 dM fh
  obtain ⟨b', o', rfl, rM, u, rN, hu⟩ := (lX.below aj).at hz
  obtain ⟨ae, ce, rfl, hE⟩ := hu
  clear hb1 hF lX hz
  clear fw fx fy dL dM fg fh
  have cH : w.heap.size + 1 < w1.heap.size := qbl dD
  have n1 : ¬ w.heap.size + 1 = w1.heap.size := by omega
  have n2 : ¬ w1.heap.size = w.heap.size + 1 := by omega
  have bA : Bw w1 w1.drew := jac w1
  have bB : Bw w1 (w1.alloc (.cells #[nS] 183)).drew := (qal w1 _).trans ((jac _).mono (by simp))
  have RA := hv.below (qtr aj bA)
  have RB := hv.below (qtr aj bB)
  have EA := hE.below bA
  have EB := hE.below bB
  have BA := qtr aj bA
  have BB := qtr aj bB
  obtain ⟨tB, tF⟩ : (fun z : World => z.cell? ⟨w1.heap.size, 0, none⟩ = some nS /\ z.frozen? ⟨w1.heap.size, 0, none⟩ = false) ((w1.alloc (.cells #[nS] 183)).drew) := by simp [go_sem]
  have hT := hT ae ce
  have DR := jaa bA eX
  have DS := jaa bB eX
  have DV := jaa bA eY
  have DW := jaa bB eY
  have DZ := jaa bA f8
  have E4 := jaa bB f8
  have vZ := jaa bA dD
  have wd := jaa bB dD
  have wg := jaa bA dN
  have wh := jaa bB dN
  have Eb := jaa bA rM
  have Ec := jaa bB rM
  have Ee := jaa bA rN
  have Ef := jaa bB rN
  have Ac := qfz bA dD gV
  have Ad := qfz bB dD gV
  have Ag := qfz bA dN gW
  have Ah := qfz bB dN gW
  have := World.new_ne w1 _ eX
  have := World.new_ne w1 _ eY
  have := World.new_ne w1 _ f8
  have := World.new_ne w1 _ dD
  have := World.new_ne w1 _ dN
  have := World.new_ne w1 _ rM
  have := World.new_ne w1 _ rN
  go_wp2_with fail
  go_region_held3 (fun w' => w'.cell? ⟨w.heap.size, 0, none⟩ = some (.slice a r.rules.length ca) /\ w'.cell? ⟨w.heap.size, 1, none⟩ = some (.slice (some ⟨b', o', none⟩) r.zones.length cb) /\ w'.cell? ⟨w.heap.size, 2, none⟩ = some (.slice c r.links.length cc) /\ w'.cell? ⟨b', o' + i * 2, none⟩ = some (.string z.name) /\ w'.cell? ⟨b', o' + i * 2 + 1, none⟩ = some (.slice ae z.eras.length ce)) (go_keep) (first | (go_at_call 154; refine (hT _ RA EA).mono ?_; rintro q w7 fi; obtain ⟨v7, b7, T7, rfl, cC, hbe, eH, aC⟩ := fi.ex; obtain ⟨a7, m7, c7, rfl⟩ := jab cC; have dE := qtr BA aC; have DQ := jaa aC DR; have DU := jaa aC DV; have DY := jaa aC DZ; have mX := jaa aC vZ; have mZ := jaa aC wg; have Ea := jaa aC Eb; have Ed := jaa aC Ee; have kp := qfz aC vZ Ac; have kq := qfz aC wg Ag; have ff : w1.heap.size <= w7.heap.size := Nat.le_trans bA.size aC.size; have eF := jak cC bA.size) | (go_at_call 154; refine (hT _ RB EB).mono ?_; rintro q w7 fi; obtain ⟨v7, b7, T7, rfl, cC, hbe, eH, aC⟩ := fi.ex; obtain ⟨a7, m7, c7, rfl⟩ := jab cC; have dE := qtr BB aC; have DQ := jaa aC DS; have DU := jaa aC DW; have DY := jaa aC E4; have mX := jaa aC wd; have mZ := jaa aC wh; have Ea := jaa aC Ec; have Ed := jaa aC Ef; have kp := qfz aC wd Ad; have kq := qfz aC wh Ah; have ff : w1.heap.size <= w7.heap.size := Nat.le_trans bB.size aC.size; have eF := jak cC bB.size; have N9 := jaa aC tB; have Nb := qfz aC tB tF))
  ·skip
   have b9 : Bw w7 (w7.alloc (.cells #[.slice a7 m7 c7] 183)) := qal w7 _
   have kX := jaa b9 mX
   have kZ := jaa b9 mZ
   have Ab := qfz b9 mX kp
   have Af := qfz b9 mZ kq
   have B9 : Bw w (w7.alloc (.cells #[.slice a7 m7 c7] 183)) := qtr dE b9
   have O9 : Zg (w7.alloc (.cells #[.slice a7 m7 c7] 183)) w1.heap.size (.slice a7 m7 c7) T7 := jad eF b9
   have Na : (w7.alloc (.cells #[.slice a7 m7 c7] 183)).cell? ⟨w7.heap.size, 0, none⟩ = some (.slice a7 m7 c7) := by simp [go_sem]
   obtain ⟨⟨Tq, bq⟩, hq⟩ := qeb (tabE r z.eras)
   rw [hq] at hbe eH
   simp only at hbe eH
   subst hbe
   cases b7 with
   | false =>
    have HT : Hid (tabD r nm = (7, [])) := Ey.out _ hq
    obtain ⟨t0, t1⟩ := jam (v0 := nS) (v1 := iv 7) kX kZ
    have HP : Hid (Jt r nm w (.returned (.agg #[nS, iv 7])) (((w7.alloc (.cells #[.slice a7 m7 c7] 183)).setCell ⟨w.heap.size + 1, 0, none⟩ nS).setCell ⟨w.heap.size + 1, 1, none⟩ (iv 7))) := jcv HT.out B9 (by omega)
    clear cC eF fi hT
    go_wp2
    exact bpr (v := .agg #[nS, iv 7]) (by simp [results, Tryz.results122, go_sem, t0, t1]) rfl HP.out
   | true =>
    have HT : Hid (tabD r nm = (0, T7)) := tm.out _ (by rw [hq, eH rfl])
    obtain ⟨t0, t1⟩ := jam (v0 := .slice a7 m7 c7) (v1 := iv 0) kX kZ
    have HP : Hid (Jt r nm w (.returned (.agg #[.slice a7 m7 c7, iv 0])) (((w7.alloc (.cells #[.slice a7 m7 c7] 183)).setCell ⟨w.heap.size + 1, 0, none⟩ (.slice a7 m7 c7)).setCell ⟨w.heap.size + 1, 1, none⟩ (iv 0))) := ju3 HT.out O9 cH B9
    clear cC eF fi hT O9
    go_wp2
    exact bpr (v := .agg #[.slice a7 m7 c7, iv 0]) (by simp [results, Tryz.results122, go_sem, t0, t1]) rfl HP.out
  ·skip
   have kX : (w7.setCell ⟨w1.heap.size, 0, none⟩ (.slice a7 m7 c7)).cell? ⟨w.heap.size + 1, 0, none⟩ = some nS := by rw [wco _ _ _ _ (by simp)]; exact mX
   have kZ : (w7.setCell ⟨w1.heap.size, 0, none⟩ (.slice a7 m7 c7)).cell? ⟨w.heap.size + 1, 1, none⟩ = some (iv 0) := by rw [wco _ _ _ _ (by simp)]; exact mZ
   have Ab : (w7.setCell ⟨w1.heap.size, 0, none⟩ (.slice a7 m7 c7)).frozen? ⟨w.heap.size + 1, 0, none⟩ = false := by rw [World.frozen?_setCell]; exact kp
   have Af : (w7.setCell ⟨w1.heap.size, 0, none⟩ (.slice a7 m7 c7)).frozen? ⟨w.heap.size + 1, 1, none⟩ = false := by rw [World.frozen?_setCell]; exact kq
   have ew := aj.size
   have B9 : Bw w (w7.setCell ⟨w1.heap.size, 0, none⟩ (.slice a7 m7 c7)) := dE.setCell (show w.heap.size <= w1.heap.size by omega) _
   have O9 : Zg (w7.setCell ⟨w1.heap.size, 0, none⟩ (.slice a7 m7 c7)) w1.heap.size (.slice a7 m7 c7) T7 := jcm eF (fun e => by have h1 := (World.ownsRow.lt cC _ e).1; simp at h1; omega)
   have Na : (w7.setCell ⟨w1.heap.size, 0, none⟩ (.slice a7 m7 c7)).cell? ⟨w1.heap.size, 0, none⟩ = some (.slice a7 m7 c7) := wcs _ _ _ N9
   obtain ⟨⟨Tq, bq⟩, hq⟩ := qeb (tabE r z.eras)
   rw [hq] at hbe eH
   simp only at hbe eH
   subst hbe
   cases b7 with
   | false =>
    have HT : Hid (tabD r nm = (7, [])) := Ey.out _ hq
    obtain ⟨t0, t1⟩ := jam (v0 := nS) (v1 := iv 7) kX kZ
    have HP : Hid (Jt r nm w (.returned (.agg #[nS, iv 7])) (((w7.setCell ⟨w1.heap.size, 0, none⟩ (.slice a7 m7 c7)).setCell ⟨w.heap.size + 1, 0, none⟩ nS).setCell ⟨w.heap.size + 1, 1, none⟩ (iv 7))) := jcv HT.out B9 (by omega)
    clear cC eF fi hT
    go_wp2
    exact bpr (v := .agg #[nS, iv 7]) (by simp [results, Tryz.results122, go_sem, t0, t1]) rfl HP.out
   | true =>
    have HT : Hid (tabD r nm = (0, T7)) := tm.out _ (by rw [hq, eH rfl])
    obtain ⟨t0, t1⟩ := jam (v0 := .slice a7 m7 c7) (v1 := iv 0) kX kZ
    have HP : Hid (Jt r nm w (.returned (.agg #[.slice a7 m7 c7, iv 0])) (((w7.setCell ⟨w1.heap.size, 0, none⟩ (.slice a7 m7 c7)).setCell ⟨w.heap.size + 1, 0, none⟩ (.slice a7 m7 c7)).setCell ⟨w.heap.size + 1, 1, none⟩ (iv 0))) := ju3 HT.out O9 cH B9
    clear cC eF fi hT O9
    go_wp2
    exact bpr (v := .agg #[.slice a7 m7 c7, iv 0]) (by simp [results, Tryz.results122, go_sem, t0, t1]) rfl HP.out
end
section
open Go.RowKit
theorem tabC : TabC := ⟨fun r zn E ae ce a b0 c ca cb cc w hv hE hr fo dn hP hl hU => jlo r zn E ae ce a b0 c ca cb cc w hv hE hr fo dn hP hl hU⟩
end
end Go.Proofs.YtgiieknbckhofaaGreatDoor
