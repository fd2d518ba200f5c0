/- Packed. -/
import Derived.Test.YtgiieknbckhofaaGreatDoorTabPs
import Derived.Test.YtgiieknbckhofaaGreatDoorTs7s
set_option maxHeartbeats 20000000
set_option linter.unusedSimpArgs false
namespace Go.Proofs.YtgiieknbckhofaaGreatDoor
section
open Go.RowKit Go.Sort
structure TabC : Prop where
 go : ∀ (r : RelD) (zn : ByteArray) (E : List EraD) (ae : Option Addr) (ce : Nat) (a b0 c : Option Addr) (ca cb cc : Nat) (w : World), Zd w (.agg #[.slice a r.rules.length ca, .slice b0 r.zones.length cb, .slice c r.links.length cc]) r -> Za w ae 6 (E.map EraD.cs) -> (∀ x ∈ r.rules, jaw x = true) -> r.rules.length <= 40 -> (∀ x ∈ r.rules, x.on.size <= 1048576) -> (∀ e ∈ E, EraR e) -> E.length <= 8 -> UntE E -> Cl 154 #[.agg #[.slice a r.rules.length ca, .slice b0 r.zones.length cb, .slice c r.links.length cc], .agg #[.string zn, .slice ae E.length ce]] w fun q W' => TabSP r E w q W'
theorem ju7 {r : RelD} {nm : ByteArray} {w w1 : World} {a7 : Option Addr} {m7 d7 B : Nat} {T : List TurnD} (h : tabD r nm = (0, T)) (hO : Zf w1 B (.slice a7 m7 d7) T) (hs : w.heap.size + 1 < B) (hB : Bw w w1) : Ju r nm w (.returned (.agg #[.slice a7 m7 d7, iv 0])) ((w1.setCell ⟨w.heap.size + 1, 0, none⟩ (.slice a7 m7 d7)).setCell ⟨w.heap.size + 1, 1, none⟩ (iv 0)) := by
 have dp : ∀ g, (Value.slice a7 m7 d7).ownBlock = some g -> B <= g := fun g hg => (World.ownsRow.lt hO g hg).1
 exact ⟨.slice a7 m7 d7, by rw [h], by
  rw [h]
  exact jck (jck (jak hO (by omega)) (fun e => by have := dp _ e; omega)) (fun e => by have := dp _ e; omega), (hB.setCell (show w.heap.size <= w.heap.size + 1 by omega) _).setCell (show w.heap.size <= w.heap.size + 1 by omega) _⟩
set_option maxRecDepth 20000 in
theorem jtc (qQ : TabC) (r : RelD) (v : Value) (nm : ByteArray) (w : World) (hv : Zd w v r) (sm : r.small) (dr : ∀ x ∈ r.rules, x.on.size <= 1048576) (h1 : nm.size <= 8000) (h2 : relB r = true) :
  Cl 122 #[v, .string nm] w fun q W' => Ju r nm w q W' := by
 obtain ⟨a, b, c, ca, cb, cc, rfl, hA, mR, oI⟩ := hv.form
 have hv : Zd w (.agg #[.slice a r.rules.length ca, .slice b r.zones.length cb, .slice c r.links.length cc]) r := ⟨⟨a, b, c, ca, cb, cc, rfl, hA, mR, oI⟩⟩
 have ag := (qal w (.cells #[.slice a r.rules.length ca, .slice b r.zones.length cb, .slice c r.links.length cc] 38)).alloc (by simp) (.cells #[nS, iv 0] 185)
 obtain ⟨fJ, fK, fL, dP, dQ, fk, fm⟩ : (fun z : World => z.cell? ⟨w.heap.size, 0, none⟩ = some (.slice a r.rules.length ca) /\ z.cell? ⟨w.heap.size, 1, none⟩ = some (.slice b r.zones.length cb) /\ z.cell? ⟨w.heap.size, 2, none⟩ = some (.slice c r.links.length cc) /\ z.cell? ⟨w.heap.size + 1, 0, none⟩ = some nS /\ z.cell? ⟨w.heap.size + 1, 1, none⟩ = some (iv 0) /\ z.frozen? ⟨w.heap.size + 1, 0, none⟩ = false /\ z.frozen? ⟨w.heap.size + 1, 1, none⟩ = false) ((w.alloc (.cells #[.slice a r.rules.length ca, .slice b r.zones.length cb, .slice c r.links.length cc] 38)).alloc (.cells #[nS, iv 0] 185)) := by simp [go_sem]
 have hF := fun w (h : Zd w (.agg #[.slice a r.rules.length ca, .slice b r.zones.length cb, .slice c r.links.length cc]) r) => jd3 r _ nm w h sm
 have m2 := sm.2.1
 clear hA oI
 cases hix : jbh r.zones (jba r.links nm) with
 | none =>
  have HT : Hid (tabD r nm = (5, [])) := jvb h1 h2 (by rw [jc7 hix]; rfl)
  rw [hix] at hF
  simp only [ixI] at hF
  clear hix h2 h1 dr qQ
  go_enter Tryz.func122, Tryz.ntmps122
  go_wp2_with fail
  refine (hF _ (hv.below ag)).mono ?_
  rintro q w1 ⟨rfl, hb1⟩
  have aj := qtr ag hb1
  have fc := jaa hb1 fJ
  have fd := jaa hb1 fK
  have fe := jaa hb1 fL
  have dH := jaa hb1 dP
  have dR := jaa hb1 dQ
  have i8 := qfz hb1 dP fk
  have i9 := qfz hb1 dQ fm
  clear hb1 hF
  clear fJ fK fL dP dQ fk fm
  obtain ⟨t0, t1⟩ := jav (v0 := nS) (v1 := iv 5) dH dR
  have HP : Hid (Ju r nm w (.returned (.agg #[nS, iv 5])) ((w1.setCell ⟨w.heap.size + 1, 0, none⟩ nS).setCell ⟨w.heap.size + 1, 1, none⟩ (iv 5))) := jcu HT.out aj (by omega)
  go_wp2
  exact bodyPost_ret (v := .agg #[nS, iv 5]) (by simp [results, Tryz.results122, go_sem, t0, t1]) rfl HP.out
 | some i =>
  have iB := jun hix
  obtain ⟨z, hz⟩ := qgg iB
  have DI : jbj z = true := by
   have h' := h2
   unfold relB at h'
   simp only [bat, List.all_eq_true] at h'
   exact h'.2.2.1 z (lmg hz)
  obtain ⟨mU, vg⟩ := jh1 DI
  have G2 := jx6 DI
  have nP := jct h2 hix hz
  have aC : z.eras ≠ [] := fun h => by rw [h] at mU; simp at mU
  have Ff : Hid (∀ T, tabE r z.eras = (T, false) -> tabD r nm = (7, [])) := fun T h => jva (T := T) h1 h2 (by rw [nP]; exact aC) (by rw [nP]; exact h)
  have uj : Hid (∀ T, tabE r z.eras = (T, true) -> tabD r nm = (0, T)) := fun T h => jvc (T := T) h1 h2 (by rw [nP]; exact aC) (by rw [nP]; exact h)
  obtain ⟨wj, fS⟩ := jii h2
  have hT := fun (ae : Option Addr) (ce : Nat) (W : World) (h : Zd W (.agg #[.slice a r.rules.length ca, .slice b r.zones.length cb, .slice c r.links.length cc]) r) (h' : Za W ae 6 (z.eras.map EraD.cs)) => qQ.go r z.name z.eras ae ce a b c ca cb cc W h h' fS wj dr vg mU.2 G2
  rw [hix] at hF
  simp only [ixI] at hF
  have i1 : (0 : Int) <= (i : Int) := by omega
  have i2 : (i : Int) < (r.zones.length : Int) := by omega
  have i3 : ¬ (i : Int) < 0 := by omega
  clear hix h2 h1 dr qQ wj fS vg G2 aC nP DI mU
  go_enter Tryz.func122, Tryz.ntmps122
  go_wp2_with fail
  refine (hF _ (hv.below ag)).mono ?_
  rintro q w1 ⟨rfl, hb1⟩
  have aj := qtr ag hb1
  have fc := jaa hb1 fJ
  have fd := jaa hb1 fK
  have fe := jaa hb1 fL
  have dH := jaa hb1 dP
  have dR := jaa hb1 dQ
  have i8 := qfz hb1 dP fk
  have i9 := qfz hb1 dQ fm
  obtain ⟨b', o', rfl, sw, u, sy, hu⟩ := (mR.below aj).at hz
  obtain ⟨ae, ce, rfl, hE⟩ := hu
  clear hb1 hF mR hz
  clear fJ fK fL dP dQ fk fm
  have cH : w.heap.size + 1 < w1.heap.size := qbl dH
  have n1 : ¬ w.heap.size + 1 = w1.heap.size := by omega
  have n2 : ¬ w1.heap.size = w.heap.size + 1 := by omega
  have bA : Bw w1 w1.drew := jab w1
  have bB : Bw w1 (w1.alloc (.cells #[nS] 183)).drew := (qal w1 _).trans ((jab _).mono (by simp))
  have RA := hv.below (qtr aj bA)
  have RB := hv.below (qtr aj bB)
  have EA := hE.below bA
  have EB := hE.below bB
  have BA := qtr aj bA
  have BB := qtr aj bB
  obtain ⟨tB, tF⟩ : (fun z : World => z.cell? ⟨w1.heap.size, 0, none⟩ = some nS /\ z.frozen? ⟨w1.heap.size, 0, none⟩ = false) ((w1.alloc (.cells #[nS] 183)).drew) := by simp [go_sem]
  have hT := hT ae ce
  have EJ := jaa bA fc
  have EK := jaa bB fc
  have EM := jaa bA fd
  have EN := jaa bB fd
  have EQ := jaa bA fe
  have ER := jaa bB fe
  have xP := jaa bA dH
  have xQ := jaa bB dH
  have xS := jaa bA dR
  have xT := jaa bB dR
  have EX := jaa bA sw
  have EY := jaa bB sw
  have F0 := jaa bA sy
  have F5 := jaa bB sy
  have Bb := qfz bA dH i8
  have Bc := qfz bB dH i8
  have Bf := qfz bA dR i9
  have Bg := qfz bB dR i9
  have := World.new_ne w1 _ fc
  have := World.new_ne w1 _ fd
  have := World.new_ne w1 _ fe
  have := World.new_ne w1 _ dH
  have := World.new_ne w1 _ dR
  have := World.new_ne w1 _ sw
  have := World.new_ne w1 _ sy
  go_wp2_with fail
  go_region_held3 (fun w' => w'.cell? ⟨w.heap.size, 0, none⟩ = some (.slice a r.rules.length ca) /\ w'.cell? ⟨w.heap.size, 1, none⟩ = some (.slice (some ⟨b', o', none⟩) r.zones.length cb) /\ w'.cell? ⟨w.heap.size, 2, none⟩ = some (.slice c r.links.length cc) /\ w'.cell? ⟨b', o' + i * 2, none⟩ = some (.string z.name) /\ w'.cell? ⟨b', o' + i * 2 + 1, none⟩ = some (.slice ae z.eras.length ce)) (go_keep) (first | (go_at_call 154; refine (hT _ RA EA).mono ?_; rintro q w7 fp; obtain ⟨v7, b7, T7, rfl, cr, hbe, eP, ax⟩ := fp.ex; obtain ⟨a7, m7, c7, rfl⟩ := jac cr; have dI := qtr BA ax; have EI := jaa ax EJ; have EL := jaa ax EM; have EP := jaa ax EQ; have nT := jaa ax xP; have nW := jaa ax xS; have EW := jaa ax EX; have EZ := jaa ax F0; have kF := qfz ax xP Bb; have kG := qfz ax xS Bf; have fj : w1.heap.size <= w7.heap.size := Nat.le_trans bA.size ax.size; have eN := jak cr bA.size) | (go_at_call 154; refine (hT _ RB EB).mono ?_; rintro q w7 fp; obtain ⟨v7, b7, T7, rfl, cr, hbe, eP, ax⟩ := fp.ex; obtain ⟨a7, m7, c7, rfl⟩ := jac cr; have dI := qtr BB ax; have EI := jaa ax EK; have EL := jaa ax EN; have EP := jaa ax ER; have nT := jaa ax xQ; have nW := jaa ax xT; have EW := jaa ax EY; have EZ := jaa ax F5; have kF := qfz ax xQ Bc; have kG := qfz ax xT Bg; have fj : w1.heap.size <= w7.heap.size := Nat.le_trans bB.size ax.size; have eN := jak cr bB.size; have Nh := jaa ax tB; have Nj := qfz ax tB tF))
  ·skip
   have b9 : Bw w7 (w7.alloc (.cells #[.slice a7 m7 c7] 183)) := qal w7 _
   have lN := jaa b9 nT
   have lP := jaa b9 nW
   have B6 := qfz b9 nT kF
   have Be := qfz b9 nW kG
   have B9 : Bw w (w7.alloc (.cells #[.slice a7 m7 c7] 183)) := qtr dI b9
   have O9 : Zf (w7.alloc (.cells #[.slice a7 m7 c7] 183)) w1.heap.size (.slice a7 m7 c7) T7 := jad eN b9
   have Ni : (w7.alloc (.cells #[.slice a7 m7 c7] 183)).cell? ⟨w7.heap.size, 0, none⟩ = some (.slice a7 m7 c7) := by simp [go_sem]
   obtain ⟨⟨Tq, bq⟩, hq⟩ := qeb (tabE r z.eras)
   rw [hq] at hbe eP
   simp only at hbe eP
   subst hbe
   cases b7 with
   | false =>
    have HT : Hid (tabD r nm = (7, [])) := Ff.out _ hq
    obtain ⟨t0, t1⟩ := jav (v0 := nS) (v1 := iv 7) lN lP
    have HP : Hid (Ju r nm w (.returned (.agg #[nS, iv 7])) (((w7.alloc (.cells #[.slice a7 m7 c7] 183)).setCell ⟨w.heap.size + 1, 0, none⟩ nS).setCell ⟨w.heap.size + 1, 1, none⟩ (iv 7))) := jcu HT.out B9 (by omega)
    clear cr eN fp hT
    go_wp2
    exact bodyPost_ret (v := .agg #[nS, iv 7]) (by simp [results, Tryz.results122, go_sem, t0, t1]) rfl HP.out
   | true =>
    have HT : Hid (tabD r nm = (0, T7)) := uj.out _ (by rw [hq, eP rfl])
    obtain ⟨t0, t1⟩ := jav (v0 := .slice a7 m7 c7) (v1 := iv 0) lN lP
    have HP : Hid (Ju r nm w (.returned (.agg #[.slice a7 m7 c7, iv 0])) (((w7.alloc (.cells #[.slice a7 m7 c7] 183)).setCell ⟨w.heap.size + 1, 0, none⟩ (.slice a7 m7 c7)).setCell ⟨w.heap.size + 1, 1, none⟩ (iv 0))) := ju7 HT.out O9 cH B9
    clear cr eN fp hT O9
    go_wp2
    exact bodyPost_ret (v := .agg #[.slice a7 m7 c7, iv 0]) (by simp [results, Tryz.results122, go_sem, t0, t1]) rfl HP.out
  ·skip
   have lN : (w7.setCell ⟨w1.heap.size, 0, none⟩ (.slice a7 m7 c7)).cell? ⟨w.heap.size + 1, 0, none⟩ = some nS := by rw [wco _ _ _ _ (by simp)]; exact nT
   have lP : (w7.setCell ⟨w1.heap.size, 0, none⟩ (.slice a7 m7 c7)).cell? ⟨w.heap.size + 1, 1, none⟩ = some (iv 0) := by rw [wco _ _ _ _ (by simp)]; exact nW
   have B6 : (w7.setCell ⟨w1.heap.size, 0, none⟩ (.slice a7 m7 c7)).frozen? ⟨w.heap.size + 1, 0, none⟩ = false := by rw [World.frozen?_setCell]; exact kF
   have Be : (w7.setCell ⟨w1.heap.size, 0, none⟩ (.slice a7 m7 c7)).frozen? ⟨w.heap.size + 1, 1, none⟩ = false := by rw [World.frozen?_setCell]; exact kG
   have dO := aj.size
   have B9 : Bw w (w7.setCell ⟨w1.heap.size, 0, none⟩ (.slice a7 m7 c7)) := dI.setCell (show w.heap.size <= w1.heap.size by omega) _
   have O9 : Zf (w7.setCell ⟨w1.heap.size, 0, none⟩ (.slice a7 m7 c7)) w1.heap.size (.slice a7 m7 c7) T7 := jck eN (fun e => by have h1 := (World.ownsRow.lt cr _ e).1; simp at h1; omega)
   have Ni : (w7.setCell ⟨w1.heap.size, 0, none⟩ (.slice a7 m7 c7)).cell? ⟨w1.heap.size, 0, none⟩ = some (.slice a7 m7 c7) := wcs _ _ _ Nh
   obtain ⟨⟨Tq, bq⟩, hq⟩ := qeb (tabE r z.eras)
   rw [hq] at hbe eP
   simp only at hbe eP
   subst hbe
   cases b7 with
   | false =>
    have HT : Hid (tabD r nm = (7, [])) := Ff.out _ hq
    obtain ⟨t0, t1⟩ := jav (v0 := nS) (v1 := iv 7) lN lP
    have HP : Hid (Ju r nm w (.returned (.agg #[nS, iv 7])) (((w7.setCell ⟨w1.heap.size, 0, none⟩ (.slice a7 m7 c7)).setCell ⟨w.heap.size + 1, 0, none⟩ nS).setCell ⟨w.heap.size + 1, 1, none⟩ (iv 7))) := jcu HT.out B9 (by omega)
    clear cr eN fp hT
    go_wp2
    exact bodyPost_ret (v := .agg #[nS, iv 7]) (by simp [results, Tryz.results122, go_sem, t0, t1]) rfl HP.out
   | true =>
    have HT : Hid (tabD r nm = (0, T7)) := uj.out _ (by rw [hq, eP rfl])
    obtain ⟨t0, t1⟩ := jav (v0 := .slice a7 m7 c7) (v1 := iv 0) lN lP
    have HP : Hid (Ju r nm w (.returned (.agg #[.slice a7 m7 c7, iv 0])) (((w7.setCell ⟨w1.heap.size, 0, none⟩ (.slice a7 m7 c7)).setCell ⟨w.heap.size + 1, 0, none⟩ (.slice a7 m7 c7)).setCell ⟨w.heap.size + 1, 1, none⟩ (iv 0))) := ju7 HT.out O9 cH B9
    clear cr eN fp hT O9
    go_wp2
    exact bodyPost_ret (v := .agg #[.slice a7 m7 c7, iv 0]) (by simp [results, Tryz.results122, go_sem, t0, t1]) rfl HP.out
end
section
open Go.RowKit
theorem tabC : TabC := ⟨fun r zn E ae ce a b0 c ca cb cc w hv hE hr fx dr hP hl hU => jlu r zn E ae ce a b0 c ca cb cc w hv hE hr fx dr hP hl hU⟩
end
end Go.Proofs.YtgiieknbckhofaaGreatDoor
