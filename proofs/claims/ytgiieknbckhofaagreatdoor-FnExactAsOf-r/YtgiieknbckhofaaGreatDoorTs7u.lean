/- The table of a zone: the model's l03Table, walked. -/
import Derived.Test.YtgiieknbckhofaaGreatDoorTbSu
set_option maxHeartbeats 20000000
set_option linter.unusedSimpArgs false
namespace Go.Proofs.YtgiieknbckhofaaGreatDoor
open Go.RowKit Go.Sort
structure Tst (p : Prop) (x : Value) : Prop where
 ex : ∃ tb : Bool, x = .bool tb /\ (tb = true ↔ p)
theorem jpi {w w6 wy w7 w8 : World} {n0 n1 : Nat} {p7 p8 : Option Addr} {m7 c7 m8 c8 : Nat} {T T' : List TurnD} {x : TurnD} {v0 v1 v2 z0 z1 : Value}
  (uD : Mid n0 n1 w6 wy) (CE : n1 <= wy.heap.size) (dV : Bw w wy) (aC : Below wy.drew.heap.size wy.drew w7) (gG : ∀ g, (Value.slice p7 m7 c7).ownBlock = some g -> w.heap.size + 1 + 1 + 1 + 1 <= g) (jy : ∀ g, (Value.slice p7 m7 c7).ownBlock = some g -> g < n0 \/ n1 <= g)
  (cV : Fr (fun b => (Value.slice p7 m7 c7).ownBlock = some b) w7 w8) (dI : Zg w8 (w.heap.size + 1 + 1 + 1 + 1) (.slice p8 m8 c8) (addT T x)) (jw : (Value.slice p8 m8 c8).ownBlock = (Value.slice p7 m7 c7).ownBlock \/ ∃ g, (Value.slice p8 m8 c8).ownBlock = some g /\ w7.heap.size <= g)
  (jX : Jl w.heap.size v0 v1 v2 z0 z1 w8) (wL : ∃ u, w8.cell? ⟨w.heap.size + 1 + 1 + 1, 0, none⟩ = some u) (h0 : w.heap.size + 1 + 1 + 1 + 1 <= n0) (_h01 : n0 <= n1) (Kr : T' = addT T x) :
  Mid n0 n1 w6 (w8.setCell ⟨w.heap.size + 1 + 1 + 1, 0, none⟩ (.slice p8 m8 c8)) /\ n1 <= (w8.setCell ⟨w.heap.size + 1 + 1 + 1, 0, none⟩ (.slice p8 m8 c8)).heap.size /\ Jl w.heap.size v0 v1 v2 z0 z1 (w8.setCell ⟨w.heap.size + 1 + 1 + 1, 0, none⟩ (.slice p8 m8 c8)) /\ (w8.setCell ⟨w.heap.size + 1 + 1 + 1, 0, none⟩ (.slice p8 m8 c8)).cell? ⟨w.heap.size + 1 + 1 + 1, 0, none⟩ = some (.slice p8 m8 c8) /\ Zg (w8.setCell ⟨w.heap.size + 1 + 1 + 1, 0, none⟩ (.slice p8 m8 c8)) (w.heap.size + 1 + 1 + 1 + 1) (.slice p8 m8 c8) T' /\ Hid (∀ g, (Value.slice p8 m8 c8).ownBlock = some g -> g < n0 \/ n1 <= g) /\ Bw w (w8.setCell ⟨w.heap.size + 1 + 1 + 1, 0, none⟩ (.slice p8 m8 c8)) := by
 have et : wy.drew.heap.size = wy.heap.size := rfl
 have K4 : n1 <= w7.heap.size := by have h1 := aC.size; omega
 have M7 : Mid n0 n1 w6 w7 := (uD.trans (Mid.of_below (n0 := n0) (n1 := n1) (jac wy) (by omega))).trans (Mid.of_below (n0 := n0) (n1 := n1) aC (by omega))
 have M8 : Mid n0 n1 w6 w8 := M7.trans fun g h1 h2 => cV.block g (by omega) fun hg => by have := jy g hg; omega
 have B7 : Bw w w7 := (dV.trans ((jac wy).mono dV.size)).trans (aC.mono dV.size)
 have B8 : Bw w w8 := B7.trans (cV.below (fun g hg => by have := gG g hg; omega) B7.size)
 have Cm : ∀ g, (Value.slice p8 m8 c8).ownBlock = some g -> w.heap.size + 1 + 1 + 1 + 1 <= g := fun g hg => (World.ownsRow.lt dI g hg).1
 obtain ⟨u, hu⟩ := wL
 refine ⟨M8.trans fun g h1 h2 => heap_setCell_other w8 ⟨w.heap.size + 1 + 1 + 1, 0, none⟩ g _ (fun e => by simp at e; omega), by simp; exact Nat.le_trans K4 cV.size, jX.set _, wcs _ _ _ hu, ?_, fun g hg => ?_, B8.setCell (show w.heap.size <= w.heap.size + 1 + 1 + 1 by omega) _⟩
 ·rw [Kr]
  exact jcm dI (fun e => by have := Cm _ e; omega)
 ·rcases jw with h | ⟨g2, h2, h3⟩
  ·exact jy g (h.symm.trans hg)
  ·rw [h2] at hg; injection hg with hg; omega
theorem jhr {e : EraD} (h0 : ¬ e.rules.size = 0) : e.rules.toList.isEmpty = false := by
 cases h : e.rules.toList with
 | nil => exact absurd (by rw [toList_dataA] at h; rw [<- jah, h]; rfl) h0
 | cons x l => rfl
set_option maxRecDepth 20000 in
theorem jlo (r : RelD) (zn : ByteArray) (E : List EraD) (ae : Option Addr) (ce : Nat) (a b0 c : Option Addr) (ca cb cc : Nat) (w : World) (hv : Zd w (.agg #[.slice a r.rules.length ca, .slice b0 r.zones.length cb, .slice c r.links.length cc]) r) (hE : Za w ae 6 (E.map EraD.cs)) (hr : ∀ x ∈ r.rules, jav x = true) (fo : r.rules.length <= 40) (dn : ∀ x ∈ r.rules, x.on.size <= 1048576) (hP : ∀ e ∈ E, EraR e) (hl : E.length <= 8) (hU : UntE E) :
  Cl 154 #[.agg #[.slice a r.rules.length ca, .slice b0 r.zones.length cb, .slice c r.links.length cc], .agg #[.string zn, .slice ae E.length ce]] w fun q W' => TabSP r E w q W' := by
 obtain ⟨i0, hi, aH, aI, aG⟩ := info_parts jmb
 have HR := hid hr
 have HP := hid hP
 have HU := hid hU
 have tr := hid dn
 have HV := hid hv
 have ag : Bw w ((((w.alloc (.cells #[.slice a r.rules.length ca, .slice b0 r.zones.length cb, .slice c r.links.length cc] 38)).alloc (.cells #[.string zn, .slice ae E.length ce] 146)).alloc (.cells #[nS] 183)).alloc (.cells #[nS] 183)) := (((qal w _).alloc (by simp) _).alloc (by simp; omega) _).alloc (by simp; omega) _
 have Ff : Jl w.heap.size (.slice a r.rules.length ca) (.slice b0 r.zones.length cb) (.slice c r.links.length cc) (.string zn) (.slice ae E.length ce) ((((w.alloc (.cells #[.slice a r.rules.length ca, .slice b0 r.zones.length cb, .slice c r.links.length cc] 38)).alloc (.cells #[.string zn, .slice ae E.length ce] 146)).alloc (.cells #[nS] 183)).alloc (.cells #[nS] 183)) := ⟨by simp [go_sem], by simp [go_sem], by simp [go_sem], by simp [go_sem], by simp [go_sem], by simp [go_sem], by simp [go_sem], ⟨nS, by simp [go_sem]⟩, by simp [go_sem]⟩
 have Hw : ((((w.alloc (.cells #[.slice a r.rules.length ca, .slice b0 r.zones.length cb, .slice c r.links.length cc] 38)).alloc (.cells #[.string zn, .slice ae E.length ce] 146)).alloc (.cells #[nS] 183)).alloc (.cells #[nS] 183)).cell? ⟨w.heap.size + 1 + 1 + 1, 0, none⟩ = some nS := by simp [go_sem]
 have dK : w.heap.size + 1 + 1 + 1 + 1 <= ((((w.alloc (.cells #[.slice a r.rules.length ca, .slice b0 r.zones.length cb, .slice c r.links.length cc] 38)).alloc (.cells #[.string zn, .slice ae E.length ce] 146)).alloc (.cells #[nS] 183)).alloc (.cells #[nS] 183)).heap.size := by simp
 clear hr hP hU dn hv
 go_enter Tryz.func154, Tryz.ntmps154
 go_wp2
 go_loopw [7, 8] (fun s7 s8 wr => ∃ (k : Nat) (a6 : Option Addr) (m6 c6 : Nat), k <= E.length /\ s7 = iv (stK r E k).2 /\ s8 = iv k /\ wr.cell? ⟨w.heap.size + 1 + 1 + 1, 0, none⟩ = some (.slice a6 m6 c6) /\ Zg wr (w.heap.size + 1 + 1 + 1 + 1) (.slice a6 m6 c6) (stK r E k).1 /\ Hid (okK r E k = true) /\ Jl w.heap.size (.slice a r.rules.length ca) (.slice b0 r.zones.length cb) (.slice c r.links.length cc) (.string zn) (.slice ae E.length ce) wr /\ w.heap.size + 1 + 1 + 1 + 1 <= wr.heap.size /\ Bw w wr) (fun _ s8 _ => E.length - (intOf s8).toNat)
 case atStart => exact ⟨0, none, 0, 0, by omega, rfl, rfl, Hw, World.ownsRow_nil _ _ _ _, rfl, Ff, dK, ag⟩
 case round =>
  clear Ff Hw dK ag
  obtain ⟨k, a6, m6, c6, hk, ff, rfl, tb, hT, iO, bx, dB, hB⟩ := hrel
  obtain ⟨⟨hb1, ac⟩, fj⟩ := j12 (r := r) (E := E) k
  have Ob := bx.y1
  by_cases hlt : k < E.length
  ·obtain ⟨e, he⟩ := qgg hlt
   have eR := HP.out e (lmg he)
   obtain ⟨be, oe, sy, hc⟩ := (hE.below hB).at (i := k) (r := e.cs) (by rw [lgm, he]; rfl)
   have c0 : wr.cell? ⟨be, oe + k * 6, none⟩ = some (iv e.offset) := hc 0 _ rfl
   have c1 := hc 1 _ rfl
   have c2 := hc 2 _ rfl
   have c3 := hc 3 _ rfl
   have c4 := hc 4 _ rfl
   have c5 := hc 5 _ rfl
   subst sy
   obtain ⟨⟨T0, b⟩, fp⟩ := qeb (stK r E k)
   rw [fp] at hT ff hb1 ac fj
   simp only at hT ff hb1 ac fj
   subst ff
   have dG := qal wr (.cells #[iv e.offset, .string e.rules, iv e.save, .string e.format, iv e.until_, .string e.of] 178)
   have aj : Bw w (wr.alloc (.cells #[iv e.offset, .string e.rules, iv e.save, .string e.format, iv e.until_, .string e.of] 178)) := hB.alloc (by omega) _
   have tE := bx.below dG
   have wN := jaa dG tb
   have eX := tE.x0
   have eY := tE.x1
   have f8 := tE.x2
   obtain ⟨jY, k8, kd, kg, ki, km⟩ : (fun z : World => z.cell? ⟨wr.heap.size, 0, none⟩ = some (iv e.offset) /\ z.cell? ⟨wr.heap.size, 1, none⟩ = some (.string e.rules) /\ z.cell? ⟨wr.heap.size, 2, none⟩ = some (iv e.save) /\ z.cell? ⟨wr.heap.size, 3, none⟩ = some (.string e.format) /\ z.cell? ⟨wr.heap.size, 4, none⟩ = some (iv e.until_) /\ z.cell? ⟨wr.heap.size, 5, none⟩ = some (.string e.of)) (wr.alloc (.cells #[iv e.offset, .string e.rules, iv e.save, .string e.format, iv e.until_, .string e.of] 178)) := by simp [go_sem]
   have hH := jnb r _ e.rules e.offset (wr.alloc (.cells #[iv e.offset, .string e.rules, iv e.save, .string e.format, iv e.until_, .string e.of] 178)) (HV.out.below aj) HR.out fo tr.out eR.off.1 eR.off.2
   have cH : (wr.alloc (.cells #[iv e.offset, .string e.rules, iv e.save, .string e.format, iv e.until_, .string e.of] 178)).heap.size = wr.heap.size + 1 := by simp
   rw [cH] at hH
   have fe : (k : Int) < (E.length : Int) := by omega
   clear hc
   go_wp2_with fail
   refine hH.mono ?_
   rintro q w2 ⟨v2, H, bb, rfl, br, cT, bG⟩
   obtain ⟨pQ, ji⟩ := jz6 cT
   obtain ⟨a2, fN, rfl, nj⟩ := br.seq
   have ao := aj.trans (bG.mono (by omega))
   have cJ : Below ((wr.alloc (.cells #[iv e.offset, .string e.rules, iv e.save, .string e.format, iv e.until_, .string e.of] 178))).heap.size ((wr.alloc (.cells #[iv e.offset, .string e.rules, iv e.save, .string e.format, iv e.until_, .string e.of] 178))) w2 := by first | exact bG | exact cH.symm ▸ bG
   have xA := tE.below cJ
   have wO := jaa cJ wN
   have jZ := jaa cJ jY
   have ka := jaa cJ k8
   have ke := jaa cJ kd
   have kh := jaa cJ kg
   have kj := jaa cJ ki
   have ko := jaa cJ km
   have i5 : Zg w2 (w.heap.size + 1 + 1 + 1 + 1) (.slice a6 m6 c6) T0 := jad (jad hT dG) cJ
   have jx : ∀ g, (Value.slice a6 m6 c6).ownBlock = some g -> g < wr.heap.size := fun g hg => (World.ownsRow.lt hT g hg).2
   have vm : ∀ g, (Value.slice a6 m6 c6).ownBlock = some g -> w.heap.size + 1 + 1 + 1 + 1 <= g := fun g hg => (World.ownsRow.lt hT g hg).1
   cases bb with
   | false =>
    have oM : ¬ e.rules.size = 0 := fun h => by have := jk1 (off := e.offset) HR.out h; rw [this] at ji; cases ji
    have az : e.rules.toList.isEmpty = false := jhr oM
    have HX : Hid ((tabE r E).2 = false) := by simp only [Hid, tabE]; rw [j09 he ji.symm hlt]; rfl
    have iG := xA.r0
    have pi := xA.f0
    have t0 : (w2.setCell ⟨w.heap.size + 1 + 1, 0, none⟩ (.slice a6 m6 c6)).cell? ⟨w.heap.size + 1 + 1, 0, none⟩ = some (.slice a6 m6 c6) := wcs _ _ _ iG
    have HQ : Hid (TabSP r E w (.returned (.tuple #[.agg #[.slice a6 m6 c6], .bool false])) (w2.setCell ⟨w.heap.size + 1 + 1, 0, none⟩ (.slice a6 m6 c6))) := ⟨_, _, T0, rfl, jcm (jak i5 (by omega)) (fun h => by have := vm _ h; omega), HX.out.symm, (fun h => by cases h), ao.setCell (show w.heap.size <= w.heap.size + 1 + 1 by omega) _⟩
    clear hH cT pQ ji br nj HX i5 bG cJ
    go_wp2
    exact bpr (v := .tuple #[.agg #[.slice a6 m6 c6], .bool false]) (by simp [results, Tryz.results154, go_sem, t0]) rfl HQ.out
   | true =>
    have rR : Hid (okK r E (k + 1) = true) := jvx he ji.symm iO.out
    have oc := jmi (nm := e.rules) HR.out eR.off.1 eR.off.2
    have jO := jd8 (r := r) (nm := e.rules) (off := e.offset)
    have mm := fun h => jll (r := r) (T := T0) (b := b) he h fp
    have gi := fun h => jlk (r := r) (T := T0) (b := b) he h fp
    have Bl := fun h => congrArg Prod.fst (jk1 (nm := e.rules) (off := e.offset) HR.out h)
    rw [<- pQ] at oc jO mm gi Bl
    have rT := hid Bl
    have xe := hid oc
    have nI : Hid (∀ t, (-7200 <= (jas e H t).save /\ (jas e H t).save <= 7200) /\ (jas e H t).letter.size <= 6) := jml eR oc
    have C0 := eR.fmt
    have iV := eR.off.1
    have sE := eR.off.2
    have ie : ∀ b o, a2 = some ⟨b, o, none⟩ -> wr.heap.size <= b /\ b < w2.heap.size := fun b o h => by
     have h1 := World.ownsRow.lt br b (by rw [h]; rfl)
     omega
    have md := jpq e H a2 fN b w2 nj jO (by omega) (fun t => by have := (nI.out t).2; omega) eR.unt.1 eR.unt.2 iV sE (fun t => (nI.out t).1) ac
    have uk := fun h => jxn HU.out he h H b
    have ul := fun h => jxm HU.out he h H b
    simp only [EraD.v] at md
    have CO : wr.heap.size + 1 <= w2.heap.size := by have h := bG.size; rw [cH] at h; exact h
    clear hH cT pQ ji br fp iO hT oc Bl bG cJ tE wN bx tb dG cH aj c0 c1 c2 c3 c4 c5 jY k8 kd kg ki km eX eY f8
    obtain ⟨en, fd⟩ := qeb (endS e H b)
    rw [fd] at md uk ul
    go_wp2_with fail
    refine md.mono ?_
    rintro q w3 ⟨rfl, bu⟩
    have ay := qtr ao bu
    have xB := xA.below bu
    have jj := jad i5 bu
    have nk := nj.below bu
    have rG := jaa bu wO
    have fR := jaa bu jZ
    have eL := jaa bu ka
    have fS := jaa bu ke
    have fT := jaa bu kh
    have fU := jaa bu kj
    have fV := jaa bu ko
    have pV : wr.heap.size < w3.heap.size := by have h1 := bu.size; omega
    have E9 := xB.y1
    obtain ⟨n0, mH⟩ := qeb wr.heap.size
    have Gj : ∀ b o, a2 = some ⟨b, o, none⟩ -> n0 <= b /\ b < w3.heap.size := fun b o h => by have h1 := ie b o h; have h2 := bu.size; omega
    have ie := Gj
    rw [mH] at jx pV dB fR eL fS fT fU fV
    rw [mH]
    clear Gj md bu i5 nj xA wO ao jZ ka ke kh kj ko CO mH
    have sn : Zs (w3.alloc (.cells #[] 2)) w3.heap.size (.slice (some ⟨w3.heap.size, 0, none⟩) 0 0) [] := ja4 w3 2 1
    have Oa := jaa (qal w3 (.cells #[] 2)) E9
    by_cases dP : b < en \/ k + 1 = E.length
    ·have HS : Hid (stK r E (k + 1) = (ja7 (turnE e H) (atsF b (inX H b en)) T0, en)) := by
      by_cases hla : k + 1 = E.length
      ·simp only [Hid]; rw [mm hla, uk hla]
      ·rw [ul hla] at dP ⊢
       simp only [Hid]
       rw [gi hla, if_pos (dP.resolve_right hla)]
     have oE : b < en \/ (¬ b < en /\ en = b /\ ((k : Int) == (E.length : Int) - 1) = true) := by
      by_cases h : b < en
      ·exact .inl h
      ·refine .inr ⟨h, ?_, by have := dP.resolve_left h; simp; omega⟩
       have h1 := uk (dP.resolve_left h)
       omega
     clear mm gi uk ul fd dP
     go_upto_region 12 with fail
     go_cut [68] from 19 to 161 (fun x wx => x = .bool true /\ wx = (w3.alloc (.cells #[] 2)))
     case first =>
      rcases oE with g1 | ⟨g1, g2, g3⟩
      ·go_wp2
       go_meet
       exact ⟨rfl, rfl⟩
      ·have g4 : b <= en := by omega
       clear g2
       go_wp2
       go_meet
       exact ⟨rfl, rfl⟩
     case rest =>
      obtain ⟨rfl, rfl⟩ := hcut
      clear oE
      go_wp2_with (first
       | (at_builtin; refine wpList_append_own _ rfl _ _ 217 rfl w3.heap.size 2 i0 (iv 0) 1 8 Tryz.underlying217 hi aH aI aG rfl (by decide) (.slice (some ⟨w3.heap.size, 0, none⟩) 0 0) 0 [] rfl (woa sn _) ⟨w3.heap.size + 1, 0, none⟩ 1 1 [iv b] rfl rfl (by simpa using cell_one_new (w3.alloc (.cells #[] 2)) (iv b) 2) (by intro u hu; simp at hu; subst hu; rfl) (by unfold maxLen; simp) (by simp) (by simp; omega) ?_)
       | fail)
      intro vA wA kN vh _
      obtain ⟨pA, Hc, Fj, rfl⟩ := jab kN
      have aD : Bw w3 wA := ((qal w3 _).alloc (by simp) _).grown vh (by simp; omega) (fun j hj => by simp [Value.ownBlock] at hj; omega)
      have uI : Zs wA w3.heap.size (.slice pA Hc Fj) ((inX (H.take 0) b en).foldl insA [b]) := by simpa [Zs, inX] using kN
      clear kN vh sn
      go_wp2
      go_loopw [13, 14] (fun Dv l8 wq => ∃ (j : Nat) (p : Option Addr) (m c : Nat), j <= H.length /\ l8 = iv j /\ Dv = .slice p m c /\ Zs wq w3.heap.size (.slice p m c) ((inX (H.take j) b en).foldl insA [b]) /\ Bw w3 wq) (fun _ l8 _ => H.length - (intOf l8).toNat)
      case atStart => exact ⟨0, pA, Hc, Fj, by omega, rfl, rfl, uI, aD⟩
      case round =>
       obtain ⟨wp, CP⟩ := qea wr
       subst CP
       obtain ⟨j, aA, mA, cA, hj, rfl, rfl, bR, bg⟩ := hrel
       clear uI aD
       by_cases eT : j < H.length
       ·obtain ⟨x, hx⟩ := qgg eT
        obtain ⟨bh, oh, sA, dZ⟩ := (nk.below bg).at (i := j) (r := x.cs) (by rw [lgm, hx]; rfl)
        have e0 : wp.cell? ⟨bh, oh + j * 3, none⟩ = some (iv x.at_) := dZ 0 _ rfl
        have oM : ¬ e.rules.size = 0 := fun h => by have := rT.out h; rw [this] at eT; simp at eT
        have az : e.rules.toList.isEmpty = false := jhr oM
        have pd := jaa bg eL
        have Cd : (j : Int) < (H.length : Int) := by omega
        have rV := jr9 (b := b) (e := en) hx
        have sj : ((inX (H.take j) b en).foldl insA [b]).length <= 100000 := by
         have h1 := jju b (inX (H.take j) b en)
         have h2 := jdr (H.take j) b en
         have h3 : (H.take j).length <= 2000 := by rw [List.length_take]; omega
         unfold atsF at h1
         omega
        have ly := jso (X := inX (H.take j) b en) (A := [b]) (by simp)
        have si : 0 < ((inX (H.take j) b en).foldl insA [b]).length := List.length_pos_of_mem ((ly.2 b).mpr (.inl (by simp)))
        by_cases hin : b < x.at_ /\ x.at_ < en
        ·rw [if_pos hin] at rV
         have yX : Hid ((inX (H.take (j + 1)) b en).foldl insA [b] = insA ((inX (H.take j) b en).foldl insA [b]) x.at_) := by simp only [Hid]; rw [rV, List.foldl_append]; rfl
         have Fv := jlq ((inX (H.take j) b en).foldl insA [b]) (.slice aA mA cA) x.at_ w3.heap.size wp bR bg.size si sj ly.1
         obtain ⟨g1, g2⟩ := hin
         generalize (inX (H.take j) b en).foldl insA [b] = L at *
         subst sA
         clear rV dZ hx ly bR
         go_wp2_with fail
         refine Fv.mono ?_
         rintro q w7 ⟨v7, rfl, cC, aC⟩
         obtain ⟨p7, m7, c7, rfl⟩ := jab cC
         have rQ : Hid (Zs w7 w3.heap.size (.slice p7 m7 c7) ((inX (H.take (j + 1)) b en).foldl insA [b])) := by rw [yX.out]; exact cC
         clear cC Fv
         go_wp2
         go_roundw
         case rel => exact ⟨j + 1, p7, m7, c7, by omega, by go_num, rfl, rQ.out, bg.trans aC⟩
         case measure => simp [intOf]; omega
        ·rw [if_neg hin, List.append_nil] at rV
         have rQ : Hid (Zs wp w3.heap.size (.slice aA mA cA) ((inX (H.take (j + 1)) b en).foldl insA [b])) := by rw [rV]; exact bR
         subst sA
         clear rV dZ hx ly bR si sj
         by_cases g1 : b < x.at_
         ·have g2 : ¬ x.at_ < en := fun h => hin ⟨g1, h⟩
          clear hin
          go_wp2
          go_roundw
          case rel => exact ⟨j + 1, aA, mA, cA, by omega, by go_num, rfl, rQ.out, bg⟩
          case measure => simp [intOf]; omega
         ·clear hin
          go_wp2
          go_roundw
          case rel => exact ⟨j + 1, aA, mA, cA, by omega, by go_num, rfl, rQ.out, bg⟩
          case measure => simp [intOf]; omega
       ·have ju : j = H.length := by omega
        have Cd : ¬ (j : Int) < (H.length : Int) := by omega
        rw [ju, List.take_length] at bR
        have bQ := qtr ay bg
        have Fg := xB.below bg
        have gN := jad jj bg
        have DL := nk.below bg
        have wP := jaa bg rG
        have jc := jaa bg fR
        have jd := jaa bg eL
        have je := jaa bg fS
        have jf := jaa bg fT
        have jg := jaa bg fU
        have jh := jaa bg fV
        have uF : w3.heap.size <= wp.heap.size := bg.size
        obtain ⟨w5, oQ⟩ := qea wp
        subst oQ
        obtain ⟨n3, vq⟩ := qeb w3.heap.size
        rw [vq] at bR uF ie pV
        obtain ⟨A, ud⟩ := qeb (atsF b (inX H b en))
        have FP : Zs w5 n3 (.slice aA mA cA) A := by rw [<- ud]; exact bR
        have I8 : Hid (A.Pairwise (· < ·)) := by rw [<- ud]; exact (jso (X := inX H b en) (A := [b]) (by simp)).1
        have ku : A.length <= 2001 := by have h1 := jju b (inX H b en); have h2 := jdr H b en; rw [ud] at h1; omega
        rw [ud] at HS
        have Lm : w.heap.size + 1 + 1 + 1 + 1 <= n3 := by have h1 := pV; omega
        have L4 : n0 < n3 := by omega
        clear ju bR ud bg jj nk xB rG ay vq
        clear fR eL fS fT fU fV
        have uA := fun w (h : Za w a2 3 (H.map HapD.cs)) => jgn H a2 fN w h jO (fun h hh => (xe.out h hh).at_)
        go_wp2_with fail
        refine (uA _ DL).mono ?_
        rintro q w6 ⟨rfl, xI, hb6⟩
        have cG := qtr bQ hb6
        have xC := Fg.below hb6
        have iN := jad gN hb6
        have MP := DL.below hb6
        have nu := jaa hb6 wP
        have zl := jaa hb6 jc
        have zu := jaa hb6 jd
        have zy := jaa hb6 je
        have zC := jaa hb6 jf
        have zG := jaa hb6 jg
        have zK := jaa hb6 jh
        obtain ⟨g5, xX⟩ := qeb w5.heap.size
        obtain ⟨n1, j6⟩ := qeb w6.heap.size
        have Pu : g5 <= n1 := by rw [<- xX, <- j6]; exact hb6.size
        rw [xX] at xI ⊢
        have Ip : Hid (∀ i t, (sufM H)[i]? = some t -> w6.cell? ⟨g5, i, none⟩ = some (iv t)) := fun i t h => xI i t (Nat.zero_le _) h
        have AR : Zs w6 n3 (.slice aA mA cA) A := jad FP hb6
        have L1 : mA = A.length := by
         rcases AR.2 with ⟨h, h0⟩ | ⟨g, cap, cur, h, _⟩
         ·injection h with h1 h2 h3; omega
         ·injection h
        subst L1
        have KJ : n3 <= g5 := by rw [<- xX]; exact uF
        have I7 : Hid (∀ (i : Nat) x, A[i]? = some x -> ∃ gA, aA = some ⟨gA, 0, none⟩ /\ n3 <= gA /\ gA < n1 /\ w6.cell? ⟨gA, i, none⟩ = some (iv x)) := fun i x hx => by
         obtain ⟨g, cap, hv, _, hg, oG, hc⟩ := AR.open (by have := (lgs hx).1; omega)
         injection hv with dC eu eV
         exact ⟨g, dC, oG, by rw [<- j6]; exact hg, hc i x hx⟩
        have oK : ∀ g, (Value.slice a6 m6 c6).ownBlock = some g -> g < n0 \/ n1 <= g := fun g hg => .inl (jx g hg)
        have qJ : n1 <= w6.heap.size := by omega
        have C7 : 0 < H.length -> g5 < n1 := fun h => by
         obtain ⟨u, hu⟩ : ∃ u, (sufM H)[0]? = some u := ⟨_, lgg (by rw [jcg]; exact h)⟩
         have := qbl (xI 0 u (nlr _) hu)
         simp at this
         omega
        have bZ : n0 < n1 := by omega
        have tY : ∀ bb oo, a2 = some ⟨bb, oo, none⟩ -> n0 <= bb /\ bb < n1 := fun bb oo h => by have := ie bb oo h; omega
        have xn : Hid ((sufM H).length = H.length) := jcg H
        have Io : Hid (∀ i k, i <= k -> k <= H.length -> ja0 (sufM H) i <= ja0 (sufM H) k) := fun i k h1 h2 => jr0 h1 h2
        have tq : Hid (∀ t m, m <= H.length -> (∀ i, i < m -> ja0 (sufM H) i <= t) -> (∀ i, m <= i -> i < H.length -> t < ja0 (sufM H) i) -> hcnt H t = m) := fun t m h1 h2 h3 => jwd (fun h hh => (xe.out h hh).at_) h1 (fun i hi => by have := h2 i hi; omega) h3
        generalize sufM H = SU at *
        clear xI hb6 gN DL Fg wP AR FP j6 xX uA
        clear jc jd je jf jg jh
        go_wp2
        go_loopw [16, 17] (fun wk wl wq => ∃ (j nn : Nat) (p7 : Option Addr) (m7 c7 : Nat), j <= A.length /\ wl = iv j /\ wk = iv nn /\ nn <= H.length /\ Hid (∀ i, i < nn -> ∀ j2 t, j <= j2 -> A[j2]? = some t -> ja0 SU i <= t) /\ wq.cell? ⟨w.heap.size + 1 + 1 + 1, 0, none⟩ = some (.slice p7 m7 c7) /\ Zg wq (w.heap.size + 1 + 1 + 1 + 1) (.slice p7 m7 c7) (ja7 (turnE e H) (A.take j) T0) /\ Hid (∀ g, (Value.slice p7 m7 c7).ownBlock = some g -> g < n0 \/ n1 <= g) /\ Mid n0 n1 w6 wq /\ n1 <= wq.heap.size /\ Jl w.heap.size (.slice a r.rules.length ca) (.slice b0 r.zones.length cb) (.slice c r.links.length cc) (.string zn) (.slice (some ⟨be, oe, none⟩) E.length ce) wq /\ Bw w wq) (fun _ wl _ => A.length - (intOf wl).toNat)
        case atStart => exact ⟨0, 0, a6, m6, c6, by omega, rfl, rfl, by omega, fun i hi => by omega, nu, iN, oK, Mid.refl _ _ _, qJ, xC, cG⟩
        case round =>
         obtain ⟨wq, qR⟩ := qea wr
         subst qR
         obtain ⟨j, nn, a7, m7, c7, hj, rfl, rfl, mM, Km, Hx, bR, jy, dx, j9, Fh, dw⟩ := hrel
         clear oK iN xC nu cG
         by_cases eT : j < A.length
         ·obtain ⟨t, ht⟩ := qgg eT
          obtain ⟨gA, rfl, KL, C8, Gn⟩ := I7.out j t ht
          have tJ : wq.cell? ⟨gA, j, none⟩ = some (iv t) := dx.cell (by omega) C8 Gn
          have Is : Hid (∀ i, i < nn -> ja0 SU i <= t) := fun i hi => Km.out i hi j t (nlr _) ht
          have lm : Hid (ja7 (turnE e H) (A.take (j + 1)) T0 = addT (ja7 (turnE e H) (A.take j) T0) (turnE e H t)) := by simp only [Hid]; rw [List.take_add_one, ht]; exact jgg _ _ _ _
          have ow : (ja7 (turnE e H) (A.take j) T0).length <= 100000 := by
           have h1 := jea (turnE e H) (A.take j) T0
           have h2 : (A.take j).length <= A.length := by rw [List.length_take]; omega
           omega
          obtain ⟨TT, eH⟩ := qeb (ja7 (turnE e H) (A.take j) T0)
          rw [eH] at bR lm ow
          have gG : ∀ g, (Value.slice a7 m7 c7).ownBlock = some g -> w.heap.size + 1 + 1 + 1 + 1 <= g := fun g hg => (World.ownsRow.lt bR g hg).1
          have IH : Hid (∀ j2 t2, j + 1 <= j2 -> A[j2]? = some t2 -> t <= t2) := fun j2 t2 h1 h2 => by have := j0z I8.out (i := j) (k := j2) (by omega) ht h2; omega
          have zp := dx.cell (nlr _) bZ zl
          have pd := dx.cell (nlr _) bZ zu
          have zA := dx.cell (nlr _) bZ zy
          have zE := dx.cell (nlr _) bZ zC
          have zI := dx.cell (nlr _) bZ zG
          have zM := dx.cell (nlr _) bZ zK
          have PE : (j : Int) < (A.length : Int) := by omega
          clear eH Gn ht
          go_wp2
          go_loopw [16] (fun wk wz => ∃ n2 : Nat, n2 <= H.length /\ wk = iv n2 /\ Hid (∀ i, i < n2 -> ja0 SU i <= t) /\ Bw wq wz) (fun wk _ => H.length - (intOf wk).toNat)
          case atStart => exact ⟨nn, mM, rfl, Is, brf _ _⟩
          case round =>
           obtain ⟨wz, gI⟩ := qea wr
           subst gI
           obtain ⟨n2, gO, rfl, pU, oC⟩ := hrel
           have J3 := jaa oC tJ
           go_upto_region 24 with fail
           go_cut [129] from 115 to 131 (fun x wx => Tst (n2 < H.length /\ ja0 SU n2 <= t) x /\ Bw wq wx)
           case first =>
            by_cases iW : n2 < H.length
            ·obtain ⟨u, hu⟩ : ∃ u, SU[n2]? = some u := ⟨_, lgg (by rw [xn.out]; exact iW)⟩
             have cu : wz.cell? ⟨g5, n2, none⟩ = some (iv u) := jaa oC (dx.cell (by omega) (C7 (by omega)) (Ip.out n2 u hu))
             have oH : decide ((n2 : Int) < (H.length : Int)) = true := dte (by omega)
             have bU : (n2 : Int) < (H.length : Int) := by omega
             have yc := jdp hu
             by_cases bS : u <= t
             ·have hd : decide (u <= t) = true := dte bS
              have tu : Hid (Tst (n2 < H.length /\ ja0 SU n2 <= t) (.bool true)) := ⟨true, rfl, fun _ => ⟨iW, by rw [yc]; exact bS⟩, fun _ => rfl⟩
              clear hu yc
              go_quiet (fail)
              go_wp2
              go_meet
              exact ⟨tu.out, below_drewN oC _⟩
             ·have hd : decide (u <= t) = false := dfe bS
              have tu : Hid (Tst (n2 < H.length /\ ja0 SU n2 <= t) (.bool false)) := ⟨false, rfl, (fun h => by cases h), fun h => absurd (by rw [<- yc]; exact h.2) bS⟩
              clear hu yc
              go_quiet (fail)
              go_wp2
              go_meet
              exact ⟨tu.out, below_drewN oC _⟩
            ·have oH : decide ((n2 : Int) < (H.length : Int)) = false := dfe (by omega)
             have tu : Hid (Tst (n2 < H.length /\ ja0 SU n2 <= t) (.bool false)) := ⟨false, rfl, (fun h => by cases h), fun h => absurd h.1 iW⟩
             go_quiet (fail)
             go_wp2
             go_meet
             exact ⟨tu.out, below_drewN oC _⟩
           case rest =>
            obtain ⟨qp, iT⟩ := hcut
            obtain ⟨tb, rfl, mR⟩ := qp.ex
            obtain ⟨wy, dr⟩ := qea wc
            subst dr
            cases tb with
            | true =>
             obtain ⟨iW, bS⟩ := mR.mp rfl
             have jK : Hid (∀ i, i < n2 + 1 -> ja0 SU i <= t) := fun i hi => by
              by_cases e : i = n2
              ·rw [e]; exact bS
              ·exact pU.out i (by omega)
             clear mR qp bS
             go_wp2
             go_roundw
             case rel => exact ⟨n2 + 1, by omega, by go_num, jK, iT⟩
             case measure => simp [intOf]; omega
            | false =>
             have yB : Hid (hcnt H t = n2) := tq.out t n2 gO pU.out fun i h1 h2 => by
              have h3 : ¬ (n2 < H.length /\ ja0 SU n2 <= t) := fun h => by have := mR.mpr h; cases this
              have h4 := Io.out n2 i h1 (by omega)
              have h5 : ¬ ja0 SU n2 <= t := fun h => h3 ⟨by omega, h⟩
              omega
             clear mR qp
             have EL : Hid (∀ i, i < n2 -> ∀ j2 t2, j + 1 <= j2 -> A[j2]? = some t2 -> ja0 SU i <= t2) := fun i hi j2 t2 h1 h2 => by
              have h3 := pU.out i hi
              have h4 := IH.out j2 t2 h1 h2
              omega
             obtain ⟨X, hX⟩ := qeb (turnE e H t)
             rw [hX] at lm
             have kt := fun w1 h1 h2 => jpr TT X (.slice a7 m7 c7) (w.heap.size + 1 + 1 + 1 + 1) w1 h1 h2 ow
             have fI := fun w1 (h : Za w1 a2 3 (H.map HapD.cs)) => jgl e H a2 fN t w1 h jO (by omega) (fun t => by have := (nI.out t).2; omega) iV sE (fun t => (nI.out t).1)
             rw [hX] at fI
             obtain ⟨xa, xo, xs, xb⟩ := X
             simp only [TurnD.v, EraD.v] at fI kt
             have tK := jaa iT tJ
             have tL := jaa iT zp
             have tM := jaa iT pd
             have tN := jaa iT zA
             have tO := jaa iT zE
             have tP := jaa iT zI
             have tQ := jaa iT zM
             have wQ := jaa iT Hx
             have FR : Zg wy (w.heap.size + 1 + 1 + 1 + 1) (.slice a7 m7 c7) TT := jad bR iT
             have uD : Mid n0 n1 w6 wy := dx.trans (Mid.of_below iT j9)
             have CE : n1 <= wy.heap.size := Nat.le_trans j9 iT.size
             have Fi := Fh.below iT
             have dV : Bw w wy := qtr dw iT
             have Hu : Za wy a2 3 (H.map HapD.cs) := MP.mid uD tY
             clear pU
             cases n2 with
             | zero =>
              clear hX yB
              have sI : j + 1 <= A.length := by omega
              have kQ : w.heap.size + 1 + 1 + 1 + 1 <= n0 := dB
              have kL : n0 <= n1 := by omega
              have pX : Zg wy.drew (w.heap.size + 1 + 1 + 1 + 1) (.slice a7 m7 c7) TT := FR
              have oZ := Fi.below (jac wy)
              have B6 : Bw w wy.drew := dV.trans ((jac wy).mono dV.size)
              go_wp2_with fail
              go_region_with (first | (go_at_call 198; refine (fI _ (Hu.below (jac _))).mono ?_; rintro q7 w7 ⟨rfl, aC⟩; have zm := jaa aC tL; have zw := jaa aC tM; have zz := jaa aC tN; have zD := jaa aC tO; have zH := jaa aC tP; have zL := jaa aC tQ; have zj := jaa aC tK; have DN := jaa aC wQ; have cC : Zg w7 (w.heap.size + 1 + 1 + 1 + 1) (.slice a7 m7 c7) TT := jad pX aC; have tG := oZ.below aC) | (go_at_call 196; refine (kt _ cC (by have h1 := aC.size; have h2 : wy.drew.heap.size = wy.heap.size := rfl; omega)).mono ?_; rintro q8 w8 ⟨v8, rfl, dI, cV, jw⟩; obtain ⟨p8, m8, c8, rfl⟩ := jab dI; have jX := tG.fr cV (fun g hg => gG g hg); have Ou := jX.f1; obtain ⟨u8, wL⟩ := jX.t))
              all_goals
               obtain ⟨M9, S9, ze, t9, yO, yI, B9⟩ := jpi uD CE dV aC gG jy.out cV dI jw jX ⟨u8, wL⟩ kQ kL lm.out
               clear dI cV jw aC cC tG jX fI kt
               go_wp2
               go_roundw
               case rel => exact ⟨j + 1, 0, p8, m8, c8, sI, by go_num, rfl, gO, EL, t9, yO, yI, M9, S9, ze, B9⟩
               case measure => simp [intOf]; omega
             | succ p =>
              have gE : p < H.length := by omega
              obtain ⟨x, hx⟩ := qgg gE
              have oM : ¬ e.rules.size = 0 := fun h => by have := rT.out h; rw [this] at gE; simp at gE
              have az : e.rules.toList.isEmpty = false := jhr oM
              have gM : jdo e x t = ⟨xa, xo, xs, xb⟩ := by
               rw [<- hX, turnE, jel oM, yB.out]
               simp only [jdh]
               rw [hx]
               rfl
              have sV := xe.out x (lmg hx)
              have kD := fun w1 => jgm e x t w1 (by omega) (by have := sV.letter; omega) iV sE sV.save.1 sV.save.2
              rw [gM] at kD
              simp only [TurnD.v, HapD.v, EraD.v] at kD
              have PP : (p : Int) < (H.length : Int) := by omega
              have KC : IntKind.i64.wrap ((p : Int) + 1 - 1) = p := by rw [IntKind.wrap_i64]; omega
              have KB : IntKind.i64.wrap (p : Int) = p := by rw [IntKind.wrap_i64]; omega
              obtain ⟨bh, oh, sA, dZ⟩ := Hu.at (i := p) (r := x.cs) (by rw [lgm, hx]; rfl)
              have zN : wy.cell? ⟨bh, oh + p * 3, none⟩ = some (iv x.at_) := dZ 0 _ rfl
              have zO := dZ 1 _ rfl
              have zP := dZ 2 _ rfl
              subst sA
              clear dZ hX yB hx gM sV
              have sI : j + 1 <= A.length := by omega
              have kQ : w.heap.size + 1 + 1 + 1 + 1 <= n0 := dB
              have kL : n0 <= n1 := by omega
              have pX : Zg wy.drew (w.heap.size + 1 + 1 + 1 + 1) (.slice a7 m7 c7) TT := FR
              have oZ := Fi.below (jac wy)
              have B6 : Bw w wy.drew := dV.trans ((jac wy).mono dV.size)
              go_wp2_with fail
              go_region_with (first | (go_at_call 197; refine (kD _).mono ?_; rintro q7 w7 ⟨rfl, aC⟩; have zm := jaa aC tL; have zw := jaa aC tM; have zz := jaa aC tN; have zD := jaa aC tO; have zH := jaa aC tP; have zL := jaa aC tQ; have zj := jaa aC tK; have DN := jaa aC wQ; have Jy := jaa aC zN; have Jz := jaa aC zO; have JB := jaa aC zP; have cC : Zg w7 (w.heap.size + 1 + 1 + 1 + 1) (.slice a7 m7 c7) TT := jad pX aC; have tG := oZ.below aC) | (go_at_call 196; refine (kt _ cC (by have h1 := aC.size; have h2 : wy.drew.heap.size = wy.heap.size := rfl; omega)).mono ?_; rintro q8 w8 ⟨v8, rfl, dI, cV, jw⟩; obtain ⟨p8, m8, c8, rfl⟩ := jab dI; have jX := tG.fr cV (fun g hg => gG g hg); have Ou := jX.f1; obtain ⟨u8, wL⟩ := jX.t))
              all_goals
               obtain ⟨M9, S9, ze, t9, yO, yI, B9⟩ := jpi uD CE dV aC gG jy.out cV dI jw jX ⟨u8, wL⟩ kQ kL lm.out
               clear dI cV jw aC cC tG jX fI kt kD
               go_wp2
               go_roundw
               case rel => exact ⟨j + 1, p + 1, p8, m8, c8, sI, by go_num, rfl, gO, EL, t9, yO, yI, M9, S9, ze, B9⟩
               case measure => simp [intOf]; omega
         ·have ju : j = A.length := by omega
          have lR : Hid (Zg wq (w.heap.size + 1 + 1 + 1 + 1) (.slice a7 m7 c7) (stK r E (k + 1)).1) := by rw [HS.out]; simp only; rw [ju, List.take_length] at bR; exact bR
          have mF : ¬ (j : Int) < (A.length : Int) := by omega
          have lP : Hid ((stK r E (k + 1)).2 = en) := by simp only [Hid]; rw [HS.out]
          clear ju
          go_wp2
          go_roundw
          case rel => exact ⟨k + 1, a7, m7, c7, by omega, by rw [lP.out], by go_num, Hx, lR.out, rR, Fh, by omega, dw⟩
          case measure => simp [intOf]; omega
    ·have hla : ¬ k + 1 = E.length := fun h => dP (.inr h)
     have g1 : ¬ b < en := fun h => dP (.inl h)
     have HS : Hid (stK r E (k + 1) = (T0, en)) := by
      have h1 := ul hla
      simp only [Hid]
      rw [gi hla, <- h1, if_neg g1]
     have hq : ((k : Int) == (E.length : Int) - 1) = false := by simp; omega
     have uA := fun w (h : Za w a2 3 (H.map HapD.cs)) => jgn H a2 fN w h jO (fun h hh => (xe.out h hh).at_)
     have Kz := qal w3 (.cells #[] 2)
     clear mm gi uk ul fd dP hla
     go_wp2
     go_loopw [13, 14] (fun Dv l8 wq => ∃ j : Nat, j <= H.length /\ Dv = .slice (some ⟨w3.heap.size, 0, none⟩) 0 0 /\ l8 = iv j /\ Bw w3 wq) (fun _ l8 _ => H.length - (intOf l8).toNat)
     case atStart => exact ⟨0, by omega, rfl, rfl, Kz⟩
     case round =>
      obtain ⟨wp, CP⟩ := qea wr
      subst CP
      obtain ⟨j, hj, rfl, rfl, bg⟩ := hrel
      by_cases eT : j < H.length
      ·obtain ⟨x, hx⟩ := qgg eT
       obtain ⟨bh, oh, sA, dZ⟩ := (nk.below bg).at (i := j) (r := x.cs) (by rw [lgm, hx]; rfl)
       have e0 : wp.cell? ⟨bh, oh + j * 3, none⟩ = some (iv x.at_) := dZ 0 _ rfl
       have oM : ¬ e.rules.size = 0 := fun h => by have := rT.out h; rw [this] at eT; simp at eT
       have az : e.rules.toList.isEmpty = false := jhr oM
       have pd := jaa bg eL
       have Cd : (j : Int) < (H.length : Int) := by omega
       subst sA
       clear dZ hx
       by_cases g5 : b < x.at_
       ·have g2 : ¬ x.at_ < en := by omega
        go_wp2
        go_roundw
        case rel => exact ⟨j + 1, by omega, rfl, by go_num, bg⟩
        case measure => simp [intOf]; omega
       ·go_wp2
        go_roundw
        case rel => exact ⟨j + 1, by omega, rfl, by go_num, bg⟩
        case measure => simp [intOf]; omega
      ·have Cd : ¬ (j : Int) < (H.length : Int) := by omega
       go_wp2_with fail
       refine (uA _ (nk.below bg)).mono ?_
       rintro q w6 ⟨rfl, _, hb6⟩
       have kH : Bw w3 w6 := qtr bg hb6
       have cG := qtr ay kH
       have xC := xB.below kH
       have nu := jaa kH rG
       have lR : Hid (Zg w6 (w.heap.size + 1 + 1 + 1 + 1) (.slice a6 m6 c6) (stK r E (k + 1)).1) := by rw [HS.out]; exact jad jj kH
       have lP : Hid ((stK r E (k + 1)).2 = en) := by simp only [Hid]; rw [HS.out]
       have oN : w.heap.size + 1 + 1 + 1 + 1 <= w6.heap.size := by have h1 := kH.size; omega
       clear hb6 uA
       go_wp2
       go_loopw [16, 17] (fun _ wl wq => wl = iv 0 /\ wq = w6) (fun _ _ _ => 0)
       case atStart => exact ⟨rfl, rfl⟩
       case round =>
        obtain ⟨wx, bJ⟩ := qea wr
        subst bJ
        obtain ⟨rfl, qP⟩ := hrel
        subst qP
        go_wp2
        go_roundw
        case rel => exact ⟨k + 1, a6, m6, c6, by omega, by rw [lP.out], by go_num, nu, lR.out, rR, xC, oN, cG⟩
        case measure => simp [intOf]; omega
  ·have kJ : k = E.length := by omega
   have HX : Hid (tabE r E = ((stK r E k).1, decide ((stK r E k).1.length <= 600))) := by simp only [Hid, tabE]; rw [kJ] at iO ⊢; rw [iO.out]; rfl
   have fe : ¬ (k : Int) < (E.length : Int) := by omega
   obtain ⟨⟨T0, b⟩, fp⟩ := qeb (stK r E k)
   rw [fp] at hT ff HX fj
   simp only at hT ff HX fj
   subst ff
   have hm : m6 = T0.length := by
    obtain ⟨a, cap, h, _⟩ := hT.seq
    injection h
   subst hm
   have Ds := bx.r0
   have JF := bx.f0
   have vm : ∀ g, (Value.slice a6 T0.length c6).ownBlock = some g -> w.heap.size + 1 + 1 + 1 + 1 <= g := fun g hg => (World.ownsRow.lt hT g hg).1
   have t0 : (wr.setCell ⟨w.heap.size + 1 + 1, 0, none⟩ (.slice a6 T0.length c6)).cell? ⟨w.heap.size + 1 + 1, 0, none⟩ = some (.slice a6 T0.length c6) := wcs _ _ _ (u := nS) Ds
   have eF : Zg (wr.drew.setCell ⟨w.heap.size + 1 + 1, 0, none⟩ (.slice a6 T0.length c6)) w.heap.size (.slice a6 T0.length c6) T0 := jcm (w1 := wr.drew) (jak (w := wr.drew) hT (by omega)) (fun h => by have := vm _ h; omega)
   have fX : Bw w (wr.drew.setCell ⟨w.heap.size + 1 + 1, 0, none⟩ (.slice a6 T0.length c6)) := (hB.trans ((jac wr).mono hB.size)).setCell (show w.heap.size <= w.heap.size + 1 + 1 by omega) _
   by_cases h6 : T0.length <= 600
   ·have AO : (T0.length : Int) <= 600 := by omega
    rw [dte h6] at HX
    have HQ : Hid (TabSP r E w (.returned (.tuple #[.agg #[.slice a6 T0.length c6], .bool true])) (wr.drew.setCell ⟨w.heap.size + 1 + 1, 0, none⟩ (.slice a6 T0.length c6))) := ⟨_, _, T0, rfl, eF, by rw [HX.out], fun _ => by rw [HX.out], fX⟩
    clear kJ fp hT eF fX HX
    go_wp2_with fail
    go_region
    all_goals
     go_wp2
     exact bpr (v := .tuple #[.agg #[.slice a6 T0.length c6], .bool true]) (by simp [results, Tryz.results154, go_sem, t0]) rfl HQ.out
   ·have AO : ¬ (T0.length : Int) <= 600 := by omega
    rw [dfe h6] at HX
    have HQ : Hid (TabSP r E w (.returned (.tuple #[.agg #[.slice a6 T0.length c6], .bool false])) (wr.drew.setCell ⟨w.heap.size + 1 + 1, 0, none⟩ (.slice a6 T0.length c6))) := ⟨_, _, T0, rfl, eF, by rw [HX.out], (fun h => by cases h), fX⟩
    clear kJ fp hT eF fX HX
    go_wp2_with fail
    go_region
    all_goals
     go_wp2
     exact bpr (v := .tuple #[.agg #[.slice a6 T0.length c6], .bool false]) (by simp [results, Tryz.results154, go_sem, t0]; omega) rfl HQ.out
end Go.Proofs.YtgiieknbckhofaaGreatDoor
