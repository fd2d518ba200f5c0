/- The table of a zone: the model's l03Table, walked. -/
import Derived.Test.YtgiieknbckhofaaGreatDoorTbSs
set_option maxHeartbeats 20000000
set_option linter.unusedSimpArgs false
namespace Go.Proofs.YtgiieknbckhofaaGreatDoor
open Go.RowKit Go.Sort
structure Tst (p : Prop) (x : Value) : Prop where
 ex : ∃ tb : Bool, x = .bool tb /\ (tb = true ↔ p)
theorem jpq {w w6 wy w7 w8 : World} {n0 n1 : Nat} {p7 p8 : Option Addr} {m7 c7 m8 c8 : Nat} {T T' : List TurnD} {x : TurnD} {v0 v1 v2 z0 z1 : Value}
  (vB : Mid n0 n1 w6 wy) (Dr : n1 <= wy.heap.size) (ed : Bw w wy) (ax : Below wy.drew.heap.size wy.drew w7) (fU : ∀ g, (Value.slice p7 m7 c7).ownBlock = some g -> w.heap.size + 1 + 1 + 1 + 1 <= g) (jM : ∀ g, (Value.slice p7 m7 c7).ownBlock = some g -> g < n0 \/ n1 <= g)
  (cW : Fr (fun b => (Value.slice p7 m7 c7).ownBlock = some b) w7 w8) (dv : Zf w8 (w.heap.size + 1 + 1 + 1 + 1) (.slice p8 m8 c8) (addT T x)) (jK : (Value.slice p8 m8 c8).ownBlock = (Value.slice p7 m7 c7).ownBlock \/ ∃ g, (Value.slice p8 m8 c8).ownBlock = some g /\ w7.heap.size <= g)
  (kp : Jm w.heap.size v0 v1 v2 z0 z1 w8) (yf : ∃ u, w8.cell? ⟨w.heap.size + 1 + 1 + 1, 0, none⟩ = some u) (h0 : w.heap.size + 1 + 1 + 1 + 1 <= n0) (_h01 : n0 <= n1) (L5 : T' = addT T x) :
  Mid n0 n1 w6 (w8.setCell ⟨w.heap.size + 1 + 1 + 1, 0, none⟩ (.slice p8 m8 c8)) /\ n1 <= (w8.setCell ⟨w.heap.size + 1 + 1 + 1, 0, none⟩ (.slice p8 m8 c8)).heap.size /\ Jm w.heap.size v0 v1 v2 z0 z1 (w8.setCell ⟨w.heap.size + 1 + 1 + 1, 0, none⟩ (.slice p8 m8 c8)) /\ (w8.setCell ⟨w.heap.size + 1 + 1 + 1, 0, none⟩ (.slice p8 m8 c8)).cell? ⟨w.heap.size + 1 + 1 + 1, 0, none⟩ = some (.slice p8 m8 c8) /\ Zf (w8.setCell ⟨w.heap.size + 1 + 1 + 1, 0, none⟩ (.slice p8 m8 c8)) (w.heap.size + 1 + 1 + 1 + 1) (.slice p8 m8 c8) T' /\ Hid (∀ g, (Value.slice p8 m8 c8).ownBlock = some g -> g < n0 \/ n1 <= g) /\ Bw w (w8.setCell ⟨w.heap.size + 1 + 1 + 1, 0, none⟩ (.slice p8 m8 c8)) := by
 have eG : wy.drew.heap.size = wy.heap.size := rfl
 have KJ : n1 <= w7.heap.size := by have h1 := ax.size; omega
 have M7 : Mid n0 n1 w6 w7 := (vB.trans (Mid.of_below (n0 := n0) (n1 := n1) (jab wy) (by omega))).trans (Mid.of_below (n0 := n0) (n1 := n1) ax (by omega))
 have M8 : Mid n0 n1 w6 w8 := M7.trans fun g h1 h2 => cW.block g (by omega) fun hg => by have := jM g hg; omega
 have B7 : Bw w w7 := (ed.trans ((jab wy).mono ed.size)).trans (ax.mono ed.size)
 have B8 : Bw w w8 := B7.trans (cW.below (fun g hg => by have := fU g hg; omega) B7.size)
 have D9 : ∀ g, (Value.slice p8 m8 c8).ownBlock = some g -> w.heap.size + 1 + 1 + 1 + 1 <= g := fun g hg => (World.ownsRow.lt dv g hg).1
 obtain ⟨u, hu⟩ := yf
 refine ⟨M8.trans fun g h1 h2 => heap_setCell_other w8 ⟨w.heap.size + 1 + 1 + 1, 0, none⟩ g _ (fun e => by simp at e; omega), by simp; exact Nat.le_trans KJ cW.size, kp.set _, wcs _ _ _ hu, ?_, fun g hg => ?_, B8.setCell (show w.heap.size <= w.heap.size + 1 + 1 + 1 by omega) _⟩
 ·rw [L5]
  exact jck dv (fun e => by have := D9 _ e; omega)
 ·rcases jK with h | ⟨g2, h2, h3⟩
  ·exact jM g (h.symm.trans hg)
  ·rw [h2] at hg; injection hg with hg; omega
theorem jhx {e : EraD} (h0 : ¬ e.rules.size = 0) : e.rules.toList.isEmpty = false := by
 cases h : e.rules.toList with
 | nil => exact absurd (by rw [toList_dataA] at h; rw [<- jai, h]; rfl) h0
 | cons x l => rfl
set_option maxRecDepth 20000 in
theorem jlu (r : RelD) (zn : ByteArray) (E : List EraD) (ae : Option Addr) (ce : Nat) (a b0 c : Option Addr) (ca cb cc : Nat) (w : World) (hv : Zd w (.agg #[.slice a r.rules.length ca, .slice b0 r.zones.length cb, .slice c r.links.length cc]) r) (hE : Za w ae 6 (E.map EraD.cs)) (hr : ∀ x ∈ r.rules, jaw x = true) (fx : r.rules.length <= 40) (dr : ∀ x ∈ r.rules, x.on.size <= 1048576) (hP : ∀ e ∈ E, EraR e) (hl : E.length <= 8) (hU : UntE E) :
  Cl 154 #[.agg #[.slice a r.rules.length ca, .slice b0 r.zones.length cb, .slice c r.links.length cc], .agg #[.string zn, .slice ae E.length ce]] w fun q W' => TabSP r E w q W' := by
 obtain ⟨i0, hi, aG, aI, aF⟩ := info_parts jmh
 have HR := hid hr
 have HP := hid hP
 have HU := hid hU
 have um := hid dr
 have HV := hid hv
 have ag : Bw w ((((w.alloc (.cells #[.slice a r.rules.length ca, .slice b0 r.zones.length cb, .slice c r.links.length cc] 38)).alloc (.cells #[.string zn, .slice ae E.length ce] 146)).alloc (.cells #[nS] 183)).alloc (.cells #[nS] 183)) := (((qal w _).alloc (by simp) _).alloc (by simp; omega) _).alloc (by simp; omega) _
 have FE : Jm w.heap.size (.slice a r.rules.length ca) (.slice b0 r.zones.length cb) (.slice c r.links.length cc) (.string zn) (.slice ae E.length ce) ((((w.alloc (.cells #[.slice a r.rules.length ca, .slice b0 r.zones.length cb, .slice c r.links.length cc] 38)).alloc (.cells #[.string zn, .slice ae E.length ce] 146)).alloc (.cells #[nS] 183)).alloc (.cells #[nS] 183)) := ⟨by simp [go_sem], by simp [go_sem], by simp [go_sem], by simp [go_sem], by simp [go_sem], by simp [go_sem], by simp [go_sem], ⟨nS, by simp [go_sem]⟩, by simp [go_sem]⟩
 have I8 : ((((w.alloc (.cells #[.slice a r.rules.length ca, .slice b0 r.zones.length cb, .slice c r.links.length cc] 38)).alloc (.cells #[.string zn, .slice ae E.length ce] 146)).alloc (.cells #[nS] 183)).alloc (.cells #[nS] 183)).cell? ⟨w.heap.size + 1 + 1 + 1, 0, none⟩ = some nS := by simp [go_sem]
 have dN : w.heap.size + 1 + 1 + 1 + 1 <= ((((w.alloc (.cells #[.slice a r.rules.length ca, .slice b0 r.zones.length cb, .slice c r.links.length cc] 38)).alloc (.cells #[.string zn, .slice ae E.length ce] 146)).alloc (.cells #[nS] 183)).alloc (.cells #[nS] 183)).heap.size := by simp
 clear hr hP hU dr hv
 go_enter Tryz.func154, Tryz.ntmps154
 go_wp2
 go_loopw [7, 8] (fun s7 s8 wr => ∃ (k : Nat) (a6 : Option Addr) (m6 c6 : Nat), k <= E.length /\ s7 = iv (stK r E k).2 /\ s8 = iv k /\ wr.cell? ⟨w.heap.size + 1 + 1 + 1, 0, none⟩ = some (.slice a6 m6 c6) /\ Zf wr (w.heap.size + 1 + 1 + 1 + 1) (.slice a6 m6 c6) (stK r E k).1 /\ Hid (okK r E k = true) /\ Jm w.heap.size (.slice a r.rules.length ca) (.slice b0 r.zones.length cb) (.slice c r.links.length cc) (.string zn) (.slice ae E.length ce) wr /\ w.heap.size + 1 + 1 + 1 + 1 <= wr.heap.size /\ Bw w wr) (fun _ s8 _ => E.length - (intOf s8).toNat)
 case atStart => exact ⟨0, none, 0, 0, by omega, rfl, rfl, I8, World.ownsRow_nil _ _ _ _, rfl, FE, dN, ag⟩
 case round =>
  clear FE I8 dN ag
  obtain ⟨k, a6, m6, c6, hk, fj, rfl, tb, hT, j6, bx, dX, hB⟩ := hrel
  obtain ⟨⟨hb1, ac⟩, fq⟩ := j11 (r := r) (E := E) k
  have Oe := bx.y1
  by_cases hlt : k < E.length
  ·obtain ⟨e, he⟩ := qgg hlt
   have eR := HP.out e (lmg he)
   obtain ⟨be, oe, sY, hc⟩ := (hE.below hB).at (i := k) (r := e.cs) (by rw [lgm, he]; rfl)
   have c0 : wr.cell? ⟨be, oe + k * 6, none⟩ = some (iv e.offset) := hc 0 _ rfl
   have c1 := hc 1 _ rfl
   have c2 := hc 2 _ rfl
   have c3 := hc 3 _ rfl
   have c4 := hc 4 _ rfl
   have c5 := hc 5 _ rfl
   subst sY
   obtain ⟨⟨T0, b⟩, fG⟩ := qeb (stK r E k)
   rw [fG] at hT fj hb1 ac fq
   simp only at hT fj hb1 ac fq
   subst fj
   have dK := qal wr (.cells #[iv e.offset, .string e.rules, iv e.save, .string e.format, iv e.until_, .string e.of] 178)
   have aj : Bw w (wr.alloc (.cells #[iv e.offset, .string e.rules, iv e.save, .string e.format, iv e.until_, .string e.of] 178)) := hB.alloc (by omega) _
   have uB := bx.below dK
   have yg := jaa dK tb
   have fc := uB.x0
   have fd := uB.x1
   have fe := uB.x2
   obtain ⟨kq, ks, ku, kw, kB, kD⟩ : (fun z : World => z.cell? ⟨wr.heap.size, 0, none⟩ = some (iv e.offset) /\ z.cell? ⟨wr.heap.size, 1, none⟩ = some (.string e.rules) /\ z.cell? ⟨wr.heap.size, 2, none⟩ = some (iv e.save) /\ z.cell? ⟨wr.heap.size, 3, none⟩ = some (.string e.format) /\ z.cell? ⟨wr.heap.size, 4, none⟩ = some (iv e.until_) /\ z.cell? ⟨wr.heap.size, 5, none⟩ = some (.string e.of)) (wr.alloc (.cells #[iv e.offset, .string e.rules, iv e.save, .string e.format, iv e.until_, .string e.of] 178)) := by simp [go_sem]
   have hH := jnh r _ e.rules e.offset (wr.alloc (.cells #[iv e.offset, .string e.rules, iv e.save, .string e.format, iv e.until_, .string e.of] 178)) (HV.out.below aj) HR.out fx um.out eR.off.1 eR.off.2
   have cH : (wr.alloc (.cells #[iv e.offset, .string e.rules, iv e.save, .string e.format, iv e.until_, .string e.of] 178)).heap.size = wr.heap.size + 1 := by simp
   rw [cH] at hH
   have fi : (k : Int) < (E.length : Int) := by omega
   clear hc
   go_wp2_with fail
   refine hH.mono ?_
   rintro q w2 ⟨v2, H, bb, rfl, bC, cU, cG⟩
   obtain ⟨qq, jw⟩ := jz7 cU
   obtain ⟨a2, fY, rfl, nX⟩ := bC.seq
   have an := aj.trans (cG.mono (by omega))
   have cK : Below ((wr.alloc (.cells #[iv e.offset, .string e.rules, iv e.save, .string e.format, iv e.until_, .string e.of] 178))).heap.size ((wr.alloc (.cells #[iv e.offset, .string e.rules, iv e.save, .string e.format, iv e.until_, .string e.of] 178))) w2 := by first | exact cG | exact cH.symm ▸ cG
   have yE := uB.below cK
   have yh := jaa cK yg
   have kr := jaa cK kq
   have kt := jaa cK ks
   have kv := jaa cK ku
   have kA := jaa cK kw
   have kC := jaa cK kB
   have kE := jaa cK kD
   have ik : Zf w2 (w.heap.size + 1 + 1 + 1 + 1) (.slice a6 m6 c6) T0 := jad (jad hT dK) cK
   have jL : ∀ g, (Value.slice a6 m6 c6).ownBlock = some g -> g < wr.heap.size := fun g hg => (World.ownsRow.lt hT g hg).2
   have wk : ∀ g, (Value.slice a6 m6 c6).ownBlock = some g -> w.heap.size + 1 + 1 + 1 + 1 <= g := fun g hg => (World.ownsRow.lt hT g hg).1
   cases bb with
   | false =>
    have pF : ¬ e.rules.size = 0 := fun h => by have := jk8 (off := e.offset) HR.out h; rw [this] at jw; cases jw
    have aC : e.rules.toList.isEmpty = false := jhx pF
    have HX : Hid ((tabE r E).2 = false) := by simp only [Hid, tabE]; rw [j09 he jw.symm hlt]; rfl
    have iR := yE.r0
    have pW := yE.f0
    have t0 : (w2.setCell ⟨w.heap.size + 1 + 1, 0, none⟩ (.slice a6 m6 c6)).cell? ⟨w.heap.size + 1 + 1, 0, none⟩ = some (.slice a6 m6 c6) := wcs _ _ _ iR
    have HQ : Hid (TabSP r E w (.returned (.tuple #[.agg #[.slice a6 m6 c6], .bool false])) (w2.setCell ⟨w.heap.size + 1 + 1, 0, none⟩ (.slice a6 m6 c6))) := ⟨_, _, T0, rfl, jck (jak ik (by omega)) (fun h => by have := wk _ h; omega), HX.out.symm, (fun h => by cases h), an.setCell (show w.heap.size <= w.heap.size + 1 + 1 by omega) _⟩
    clear hH cU qq jw bC nX HX ik cG cK
    go_wp2
    exact bodyPost_ret (v := .tuple #[.agg #[.slice a6 m6 c6], .bool false]) (by simp [results, Tryz.results154, go_sem, t0]) rfl HQ.out
   | true =>
    have sC : Hid (okK r E (k + 1) = true) := jv2 he jw.symm j6.out
    have oO := jmo (nm := e.rules) HR.out eR.off.1 eR.off.2
    have iY := jeb (r := r) (nm := e.rules) (off := e.offset)
    have nc := fun h => jlr (r := r) (T := T0) (b := b) he h fG
    have gC := fun h => jlq (r := r) (T := T0) (b := b) he h fG
    have Cj := fun h => congrArg Prod.fst (jk8 (nm := e.rules) (off := e.offset) HR.out h)
    rw [<- qq] at oO iY nc gC Cj
    have sE := hid Cj
    have yu := hid oO
    have ox : Hid (∀ t, (-7200 <= (jar e H t).save /\ (jar e H t).save <= 7200) /\ (jar e H t).letter.size <= 6) := jmq eR oO
    have CQ := eR.fmt
    have jd := eR.off.1
    have tg := eR.off.2
    have iw : ∀ b o, a2 = some ⟨b, o, none⟩ -> wr.heap.size <= b /\ b < w2.heap.size := fun b o h => by
     have h1 := World.ownsRow.lt bC b (by rw [h]; rfl)
     omega
    have mV := jpy e H a2 fY b w2 nX iY (by omega) (fun t => by have := (ox.out t).2; omega) eR.unt.1 eR.unt.2 jd tg (fun t => (ox.out t).1) ac
    have ve := fun h => jxo HU.out he h H b
    have vf := fun h => jxn HU.out he h H b
    simp only [EraD.v] at mV
    have DE : wr.heap.size + 1 <= w2.heap.size := by have h := cG.size; rw [cH] at h; exact h
    clear hH cU qq jw bC fG j6 hT oO Cj cG cK uB yg bx tb dK cH aj c0 c1 c2 c3 c4 c5 kq ks ku kw kB kD fc fd fe
    obtain ⟨en, fh⟩ := qeb (endS e H b)
    rw [fh] at mV ve vf
    go_wp2_with fail
    refine mV.mono ?_
    rintro q w3 ⟨rfl, bu⟩
    have ay := qtr an bu
    have yF := yE.below bu
    have jx := jad ik bu
    have nY := nX.below bu
    have sk := jaa bu yh
    have gh := jaa bu kr
    have eS := jaa bu kt
    have gi := jaa bu kv
    have gj := jaa bu kA
    have gk := jaa bu kC
    have gm := jaa bu kE
    have qv : wr.heap.size < w3.heap.size := by have h1 := bu.size; omega
    have EV := yF.y1
    obtain ⟨n0, nD⟩ := qeb wr.heap.size
    have GA : ∀ b o, a2 = some ⟨b, o, none⟩ -> n0 <= b /\ b < w3.heap.size := fun b o h => by have h1 := iw b o h; have h2 := bu.size; omega
    have iw := GA
    rw [nD] at jL qv dX gh eS gi gj gk gm
    rw [nD]
    clear GA mV bu ik nX yE yh an kr kt kv kA kC kE DE nD
    have sV : Zs (w3.alloc (.cells #[] 2)) w3.heap.size (.slice (some ⟨w3.heap.size, 0, none⟩) 0 0) [] := jau w3 2 1
    have Od := jaa (qal w3 (.cells #[] 2)) EV
    by_cases dT : b < en \/ k + 1 = E.length
    ·have HS : Hid (stK r E (k + 1) = (ja8 (turnE e H) (atsF b (inX H b en)) T0, en)) := by
      by_cases hla : k + 1 = E.length
      ·simp only [Hid]; rw [nc hla, ve hla]
      ·rw [vf hla] at dT ⊢
       simp only [Hid]
       rw [gC hla, if_pos (dT.resolve_right hla)]
     have pp : b < en \/ (¬ b < en /\ en = b /\ ((k : Int) == (E.length : Int) - 1) = true) := by
      by_cases h : b < en
      ·exact .inl h
      ·refine .inr ⟨h, ?_, by have := dT.resolve_left h; simp; omega⟩
       have h1 := ve (dT.resolve_left h)
       omega
     clear nc gC ve vf fh dT
     go_upto_region 12 with fail
     go_cut [68] from 19 to 161 (fun x wx => x = .bool true /\ wx = (w3.alloc (.cells #[] 2)))
     case first =>
      rcases pp with g1 | ⟨g1, g2, g3⟩
      ·go_wp2
       go_meet
       exact ⟨rfl, rfl⟩
      ·have g4 : b <= en := by omega
       clear g2
       go_wp2
       go_meet
       exact ⟨rfl, rfl⟩
     case rest =>
      obtain ⟨rfl, rfl⟩ := hcut
      clear pp
      go_wp2_with (first
       | (at_builtin; refine wpList_append_own _ rfl _ _ 217 rfl w3.heap.size 2 i0 (iv 0) 1 8 Tryz.underlying217 hi aG aI aF rfl (by decide) (.slice (some ⟨w3.heap.size, 0, none⟩) 0 0) 0 [] rfl (woa sV _) ⟨w3.heap.size + 1, 0, none⟩ 1 1 [iv b] rfl rfl (by simpa using cell_one_new (w3.alloc (.cells #[] 2)) (iv b) 2) (by intro u hu; simp at hu; subst hu; rfl) (by unfold maxLen; simp) (by simp) (by simp; omega) ?_)
       | fail)
      intro vA wA lr wg _
      obtain ⟨pA, Ho, FI, rfl⟩ := jac lr
      have az : Bw w3 wA := ((qal w3 _).alloc (by simp) _).grown wg (by simp; omega) (fun j hj => by simp [Value.ownBlock] at hj; omega)
      have vF : Zs wA w3.heap.size (.slice pA Ho FI) ((inX (H.take 0) b en).foldl insA [b]) := by simpa [Zs, inX] using lr
      clear lr wg sV
      go_wp2
      go_loopw [13, 14] (fun Et lQ wq => ∃ (j : Nat) (p : Option Addr) (m c : Nat), j <= H.length /\ lQ = iv j /\ Et = .slice p m c /\ Zs wq w3.heap.size (.slice p m c) ((inX (H.take j) b en).foldl insA [b]) /\ Bw w3 wq) (fun _ lQ _ => H.length - (intOf lQ).toNat)
      case atStart => exact ⟨0, pA, Ho, FI, by omega, rfl, rfl, vF, az⟩
      case round =>
       obtain ⟨wp, DF⟩ := qea wr
       subst DF
       obtain ⟨j, aA, mA, cA, hj, rfl, rfl, bS, bl⟩ := hrel
       clear vF az
       by_cases eY : j < H.length
       ·obtain ⟨x, hx⟩ := qgg eY
        obtain ⟨bh, oh, sZ, ei⟩ := (nY.below bl).at (i := j) (r := x.cs) (by rw [lgm, hx]; rfl)
        have e0 : wp.cell? ⟨bh, oh + j * 3, none⟩ = some (iv x.at_) := ei 0 _ rfl
        have pF : ¬ e.rules.size = 0 := fun h => by have := sE.out h; rw [this] at eY; simp at eY
        have aC : e.rules.toList.isEmpty = false := jhx pF
        have pV := jaa bl eS
        have D1 : (j : Int) < (H.length : Int) := by omega
        have sG := jsh (b := b) (e := en) hx
        have sS : ((inX (H.take j) b en).foldl insA [b]).length <= 100000 := by
         have h1 := jjy b (inX (H.take j) b en)
         have h2 := jdq (H.take j) b en
         have h3 : (H.take j).length <= 2000 := by rw [List.length_take]; omega
         unfold atsF at h1
         omega
        have mg := jsy (X := inX (H.take j) b en) (A := [b]) (by simp)
        have sR : 0 < ((inX (H.take j) b en).foldl insA [b]).length := List.length_pos_of_mem ((mg.2 b).mpr (.inl (by simp)))
        by_cases hin : b < x.at_ /\ x.at_ < en
        ·rw [if_pos hin] at sG
         have Ae : Hid ((inX (H.take (j + 1)) b en).foldl insA [b] = insA ((inX (H.take j) b en).foldl insA [b]) x.at_) := by simp only [Hid]; rw [sG, List.foldl_append]; rfl
         have FT := jlw ((inX (H.take j) b en).foldl insA [b]) (.slice aA mA cA) x.at_ w3.heap.size wp bS bl.size sR sS mg.1
         obtain ⟨g1, g2⟩ := hin
         generalize (inX (H.take j) b en).foldl insA [b] = L at *
         subst sZ
         clear sG ei hx mg bS
         go_wp2_with fail
         refine FT.mono ?_
         rintro q w7 ⟨v7, rfl, cr, ax⟩
         obtain ⟨p7, m7, c7, rfl⟩ := jac cr
         have sB : Hid (Zs w7 w3.heap.size (.slice p7 m7 c7) ((inX (H.take (j + 1)) b en).foldl insA [b])) := by rw [Ae.out]; exact cr
         clear cr FT
         go_wp2
         go_roundw
         case rel => exact ⟨j + 1, p7, m7, c7, by omega, by go_num, rfl, sB.out, bl.trans ax⟩
         case measure => simp [intOf]; omega
        ·rw [if_neg hin, List.append_nil] at sG
         have sB : Hid (Zs wp w3.heap.size (.slice aA mA cA) ((inX (H.take (j + 1)) b en).foldl insA [b])) := by rw [sG]; exact bS
         subst sZ
         clear sG ei hx mg bS sR sS
         by_cases g1 : b < x.at_
         ·have g2 : ¬ x.at_ < en := fun h => hin ⟨g1, h⟩
          clear hin
          go_wp2
          go_roundw
          case rel => exact ⟨j + 1, aA, mA, cA, by omega, by go_num, rfl, sB.out, bl⟩
          case measure => simp [intOf]; omega
         ·clear hin
          go_wp2
          go_roundw
          case rel => exact ⟨j + 1, aA, mA, cA, by omega, by go_num, rfl, sB.out, bl⟩
          case measure => simp [intOf]; omega
       ·have jI : j = H.length := by omega
        have D1 : ¬ (j : Int) < (H.length : Int) := by omega
        rw [jI, List.take_length] at bS
        have bG := qtr ay bl
        have FF := yF.below bl
        have gW := jad jx bl
        have EC := nY.below bl
        have yj := jaa bl sk
        have jq := jaa bl gh
        have jr := jaa bl eS
        have js := jaa bl gi
        have jt := jaa bl gj
        have ju := jaa bl gk
        have jv := jaa bl gm
        have vD : w3.heap.size <= wp.heap.size := bl.size
        obtain ⟨w5, pJ⟩ := qea wp
        subst pJ
        obtain ⟨n3, ww⟩ := qeb w3.heap.size
        rw [ww] at bS vD iw qv
        obtain ⟨A, uW⟩ := qeb (atsF b (inX H b en))
        have Gc : Zs w5 n3 (.slice aA mA cA) A := by rw [<- uW]; exact bS
        have Ix : Hid (A.Pairwise (· < ·)) := by rw [<- uW]; exact (jsy (X := inX H b en) (A := [b]) (by simp)).1
        have kK : A.length <= 2001 := by have h1 := jjy b (inX H b en); have h2 := jdq H b en; rw [uW] at h1; omega
        rw [uW] at HS
        have LV : w.heap.size + 1 + 1 + 1 + 1 <= n3 := by have h1 := qv; omega
        have LF : n0 < n3 := by omega
        clear jI bS uW bl jx nY yF sk ay ww
        clear gh eS gi gj gk gm
        have vu := fun w (h : Za w a2 3 (H.map HapD.cs)) => jgr H a2 fY w h iY (fun h hh => (yu.out h hh).at_)
        go_wp2_with fail
        refine (vu _ EC).mono ?_
        rintro q w6 ⟨rfl, yK, hb6⟩
        have ck := qtr bG hb6
        have yG := FF.below hb6
        have j5 := jad gW hb6
        have MW := EC.below hb6
        have od := jaa hb6 yj
        have Am := jaa hb6 jq
        have Aq := jaa hb6 jr
        have Au := jaa hb6 js
        have Ay := jaa hb6 jt
        have AC := jaa hb6 ju
        have AH := jaa hb6 jv
        obtain ⟨g5, za⟩ := qeb w5.heap.size
        obtain ⟨n1, jj⟩ := qeb w6.heap.size
        have Pe : g5 <= n1 := by rw [<- za, <- jj]; exact hb6.size
        rw [za] at yK ⊢
        have IN : Hid (∀ i t, (sufM H)[i]? = some t -> w6.cell? ⟨g5, i, none⟩ = some (iv t)) := fun i t h => yK i t (Nat.zero_le _) h
        have BW : Zs w6 n3 (.slice aA mA cA) A := jad Gc hb6
        have LC : mA = A.length := by
         rcases BW.2 with ⟨h, h0⟩ | ⟨g, cap, cur, h, _⟩
         ·injection h with h1 h2 h3; omega
         ·injection h
        subst LC
        have Lo : n3 <= g5 := by rw [<- za]; exact vD
        have Iw : Hid (∀ (i : Nat) x, A[i]? = some x -> ∃ gA, aA = some ⟨gA, 0, none⟩ /\ n3 <= gA /\ gA < n1 /\ w6.cell? ⟨gA, i, none⟩ = some (iv x)) := fun i x hx => by
         obtain ⟨g, cap, hv, _, hg, pu, hc⟩ := BW.open (by have := (lgs hx).1; omega)
         injection hv with dF eH f9
         exact ⟨g, dF, pu, by rw [<- jj]; exact hg, hc i x hx⟩
        have pD : ∀ g, (Value.slice a6 m6 c6).ownBlock = some g -> g < n0 \/ n1 <= g := fun g hg => .inl (jL g hg)
        have rm : n1 <= w6.heap.size := by omega
        have CV : 0 < H.length -> g5 < n1 := fun h => by
         obtain ⟨u, hu⟩ : ∃ u, (sufM H)[0]? = some u := ⟨_, lgg (by rw [jce]; exact h)⟩
         have := qbl (yK 0 u (nlr _) hu)
         simp at this
         omega
        have cg : n0 < n1 := by omega
        have uT : ∀ bb oo, a2 = some ⟨bb, oo, none⟩ -> n0 <= bb /\ bb < n1 := fun bb oo h => by have := iw bb oo h; omega
        have yC : Hid ((sufM H).length = H.length) := jce H
        have IM : Hid (∀ i k, i <= k -> k <= H.length -> ja1 (sufM H) i <= ja1 (sufM H) k) := fun i k h1 h2 => jr8 h1 h2
        have uk : Hid (∀ t m, m <= H.length -> (∀ i, i < m -> ja1 (sufM H) i <= t) -> (∀ i, m <= i -> i < H.length -> t < ja1 (sufM H) i) -> hcnt H t = m) := fun t m h1 h2 h3 => jwi (fun h hh => (yu.out h hh).at_) h1 (fun i hi => by have := h2 i hi; omega) h3
        generalize sufM H = SU at *
        clear yK hb6 gW EC FF yj BW Gc jj za vu
        clear jq jr js jt ju jv
        go_wp2
        go_loopw [16, 17] (fun xW xX wq => ∃ (j nn : Nat) (p7 : Option Addr) (m7 c7 : Nat), j <= A.length /\ xX = iv j /\ xW = iv nn /\ nn <= H.length /\ Hid (∀ i, i < nn -> ∀ j2 t, j <= j2 -> A[j2]? = some t -> ja1 SU i <= t) /\ wq.cell? ⟨w.heap.size + 1 + 1 + 1, 0, none⟩ = some (.slice p7 m7 c7) /\ Zf wq (w.heap.size + 1 + 1 + 1 + 1) (.slice p7 m7 c7) (ja8 (turnE e H) (A.take j) T0) /\ Hid (∀ g, (Value.slice p7 m7 c7).ownBlock = some g -> g < n0 \/ n1 <= g) /\ Mid n0 n1 w6 wq /\ n1 <= wq.heap.size /\ Jm w.heap.size (.slice a r.rules.length ca) (.slice b0 r.zones.length cb) (.slice c r.links.length cc) (.string zn) (.slice (some ⟨be, oe, none⟩) E.length ce) wq /\ Bw w wq) (fun _ xX _ => A.length - (intOf xX).toNat)
        case atStart => exact ⟨0, 0, a6, m6, c6, by omega, rfl, rfl, by omega, fun i hi => by omega, od, j5, pD, Mid.refl _ _ _, rm, yG, ck⟩
        case round =>
         obtain ⟨wq, rC⟩ := qea wr
         subst rC
         obtain ⟨j, nn, a7, m7, c7, hj, rfl, rfl, nI, L1, I9, bS, jM, dB, jm, FG, dA⟩ := hrel
         clear pD j5 yG od ck
         by_cases eY : j < A.length
         ·obtain ⟨t, ht⟩ := qgg eY
          obtain ⟨gA, rfl, Lp, CW, GD⟩ := Iw.out j t ht
          have uF : wq.cell? ⟨gA, j, none⟩ = some (iv t) := dB.cell (by omega) CW GD
          have IR : Hid (∀ i, i < nn -> ja1 SU i <= t) := fun i hi => L1.out i hi j t (nlr _) ht
          have ma : Hid (ja8 (turnE e H) (A.take (j + 1)) T0 = addT (ja8 (turnE e H) (A.take j) T0) (turnE e H t)) := by simp only [Hid]; rw [List.take_add_one, ht]; exact jgl _ _ _ _
          have oZ : (ja8 (turnE e H) (A.take j) T0).length <= 100000 := by
           have h1 := jed (turnE e H) (A.take j) T0
           have h2 : (A.take j).length <= A.length := by rw [List.length_take]; omega
           omega
          obtain ⟨TT, eP⟩ := qeb (ja8 (turnE e H) (A.take j) T0)
          rw [eP] at bS ma oZ
          have fU : ∀ g, (Value.slice a7 m7 c7).ownBlock = some g -> w.heap.size + 1 + 1 + 1 + 1 <= g := fun g hg => (World.ownsRow.lt bS g hg).1
          have J5 : Hid (∀ j2 t2, j + 1 <= j2 -> A[j2]? = some t2 -> t <= t2) := fun j2 t2 h1 h2 => by have := j00 Ix.out (i := j) (k := j2) (by omega) ht h2; omega
          have Ao := dB.cell (nlr _) cg Am
          have pV := dB.cell (nlr _) cg Aq
          have Aw := dB.cell (nlr _) cg Au
          have AA := dB.cell (nlr _) cg Ay
          have AF := dB.cell (nlr _) cg AC
          have AJ := dB.cell (nlr _) cg AH
          have Pq : (j : Int) < (A.length : Int) := by omega
          clear eP GD ht
          go_wp2
          go_loopw [16] (fun xW wz => ∃ n2 : Nat, n2 <= H.length /\ xW = iv n2 /\ Hid (∀ i, i < n2 -> ja1 SU i <= t) /\ Bw wq wz) (fun xW _ => H.length - (intOf xW).toNat)
          case atStart => exact ⟨nn, nI, rfl, IR, brf _ _⟩
          case round =>
           obtain ⟨wz, gS⟩ := qea wr
           subst gS
           obtain ⟨n2, gX, rfl, qu, pm⟩ := hrel
           have JV := jaa pm uF
           go_upto_region 24 with fail
           go_cut [129] from 115 to 131 (fun x wx => Tst (n2 < H.length /\ ja1 SU n2 <= t) x /\ Bw wq wx)
           case first =>
            by_cases je : n2 < H.length
            ·obtain ⟨u, hu⟩ : ∃ u, SU[n2]? = some u := ⟨_, lgg (by rw [yC.out]; exact je)⟩
             have cu : wz.cell? ⟨g5, n2, none⟩ = some (iv u) := jaa pm (dB.cell (by omega) (CV (by omega)) (IN.out n2 u hu))
             have py : decide ((n2 : Int) < (H.length : Int)) = true := dte (by omega)
             have bU : (n2 : Int) < (H.length : Int) := by omega
             have zh := jdo hu
             by_cases cJ : u <= t
             ·have hd : decide (u <= t) = true := dte cJ
              have uq : Hid (Tst (n2 < H.length /\ ja1 SU n2 <= t) (.bool true)) := ⟨true, rfl, fun _ => ⟨je, by rw [zh]; exact cJ⟩, fun _ => rfl⟩
              clear hu zh
              go_quiet (fail)
              go_wp2
              go_meet
              exact ⟨uq.out, below_drewN pm _⟩
             ·have hd : decide (u <= t) = false := dfe cJ
              have uq : Hid (Tst (n2 < H.length /\ ja1 SU n2 <= t) (.bool false)) := ⟨false, rfl, (fun h => by cases h), fun h => absurd (by rw [<- zh]; exact h.2) cJ⟩
              clear hu zh
              go_quiet (fail)
              go_wp2
              go_meet
              exact ⟨uq.out, below_drewN pm _⟩
            ·have py : decide ((n2 : Int) < (H.length : Int)) = false := dfe (by omega)
             have uq : Hid (Tst (n2 < H.length /\ ja1 SU n2 <= t) (.bool false)) := ⟨false, rfl, (fun h => by cases h), fun h => absurd h.1 je⟩
             go_quiet (fail)
             go_wp2
             go_meet
             exact ⟨uq.out, below_drewN pm _⟩
           case rest =>
            obtain ⟨qR, jb⟩ := hcut
            obtain ⟨tb, rfl, nM⟩ := qR.ex
            obtain ⟨wy, du⟩ := qea wc
            subst du
            cases tb with
            | true =>
             obtain ⟨je, cJ⟩ := nM.mp rfl
             have jW : Hid (∀ i, i < n2 + 1 -> ja1 SU i <= t) := fun i hi => by
              by_cases e : i = n2
              ·rw [e]; exact cJ
              ·exact qu.out i (by omega)
             clear nM qR cJ
             go_wp2
             go_roundw
             case rel => exact ⟨n2 + 1, by omega, by go_num, jW, jb⟩
             case measure => simp [intOf]; omega
            | false =>
             have zG : Hid (hcnt H t = n2) := uk.out t n2 gX qu.out fun i h1 h2 => by
              have h3 : ¬ (n2 < H.length /\ ja1 SU n2 <= t) := fun h => by have := nM.mpr h; cases this
              have h4 := IM.out n2 i h1 (by omega)
              have h5 : ¬ ja1 SU n2 <= t := fun h => h3 ⟨by omega, h⟩
              omega
             clear nM qR
             have Fn : Hid (∀ i, i < n2 -> ∀ j2 t2, j + 1 <= j2 -> A[j2]? = some t2 -> ja1 SU i <= t2) := fun i hi j2 t2 h1 h2 => by
              have h3 := qu.out i hi
              have h4 := J5.out j2 t2 h1 h2
              omega
             obtain ⟨X, hX⟩ := qeb (turnE e H t)
             rw [hX] at ma
             have kJ := fun w1 h1 h2 => jpz TT X (.slice a7 m7 c7) (w.heap.size + 1 + 1 + 1 + 1) w1 h1 h2 oZ
             have fP := fun w1 (h : Za w1 a2 3 (H.map HapD.cs)) => jgp e H a2 fY t w1 h iY (by omega) (fun t => by have := (ox.out t).2; omega) jd tg (fun t => (ox.out t).1)
             rw [hX] at fP
             obtain ⟨xa, xo, xs, xb⟩ := X
             simp only [TurnD.v, EraD.v] at fP kJ
             have uG := jaa jb uF
             have uH := jaa jb Ao
             have uI := jaa jb pV
             have uJ := jaa jb Aw
             have uK := jaa jb AA
             have uL := jaa jb AF
             have uM := jaa jb AJ
             have yk := jaa jb I9
             have Ge : Zf wy (w.heap.size + 1 + 1 + 1 + 1) (.slice a7 m7 c7) TT := jad bS jb
             have vB : Mid n0 n1 w6 wy := dB.trans (Mid.of_below jb jm)
             have Dr : n1 <= wy.heap.size := Nat.le_trans jm jb.size
             have FH := FG.below jb
             have ed : Bw w wy := qtr dA jb
             have I6 : Za wy a2 3 (H.map HapD.cs) := MW.mid vB uT
             clear qu
             cases n2 with
             | zero =>
              clear hX zG
              have tl : j + 1 <= A.length := by omega
              have lE : w.heap.size + 1 + 1 + 1 + 1 <= n0 := dX
              have lm : n0 <= n1 := by omega
              have qx : Zf wy.drew (w.heap.size + 1 + 1 + 1 + 1) (.slice a7 m7 c7) TT := Ge
              have pT := FH.below (jab wy)
              have C6 : Bw w wy.drew := ed.trans ((jab wy).mono ed.size)
              go_wp2_with fail
              go_region_with (first | (go_at_call 198; refine (fP _ (I6.below (jab _))).mono ?_; rintro q7 w7 ⟨rfl, ax⟩; have An := jaa ax uH; have Ar := jaa ax uI; have Av := jaa ax uJ; have Az := jaa ax uK; have AE := jaa ax uL; have AI := jaa ax uM; have Ak := jaa ax uG; have EE := jaa ax yk; have cr : Zf w7 (w.heap.size + 1 + 1 + 1 + 1) (.slice a7 m7 c7) TT := jad qx ax; have uC := pT.below ax) | (go_at_call 196; refine (kJ _ cr (by have h1 := ax.size; have h2 : wy.drew.heap.size = wy.heap.size := rfl; omega)).mono ?_; rintro q8 w8 ⟨v8, rfl, dv, cW, jK⟩; obtain ⟨p8, m8, c8, rfl⟩ := jac dv; have kp := uC.fr cW (fun g hg => fU g hg); have Ox := kp.f1; obtain ⟨u8, yf⟩ := kp.t))
              all_goals
               obtain ⟨M9, S9, Ag, t9, zT, zN, B9⟩ := jpq vB Dr ed ax fU jM.out cW dv jK kp ⟨u8, yf⟩ lE lm ma.out
               clear dv cW jK ax cr uC kp fP kJ
               go_wp2
               go_roundw
               case rel => exact ⟨j + 1, 0, p8, m8, c8, tl, by go_num, rfl, gX, Fn, t9, zT, zN, M9, S9, Ag, B9⟩
               case measure => simp [intOf]; omega
             | succ p =>
              have gP : p < H.length := by omega
              obtain ⟨x, hx⟩ := qgg gP
              have pF : ¬ e.rules.size = 0 := fun h => by have := sE.out h; rw [this] at gP; simp at gP
              have aC : e.rules.toList.isEmpty = false := jhx pF
              have fg : jdn e x t = ⟨xa, xo, xs, xb⟩ := by
               rw [<- hX, turnE, jeo pF, zG.out]
               simp only [jdg]
               rw [hx]
               rfl
              have tH := yu.out x (lmg hx)
              have kV := fun w1 => jgq e x t w1 (by omega) (by have := tH.letter; omega) jd tg tH.save.1 tH.save.2
              rw [fg] at kV
              simp only [TurnD.v, HapD.v, EraD.v] at kV
              have PA : (p : Int) < (H.length : Int) := by omega
              have Lg : IntKind.i64.wrap ((p : Int) + 1 - 1) = p := by rw [IntKind.wrap_i64]; omega
              have Lf : IntKind.i64.wrap (p : Int) = p := by rw [IntKind.wrap_i64]; omega
              obtain ⟨bh, oh, sZ, ei⟩ := I6.at (i := p) (r := x.cs) (by rw [lgm, hx]; rfl)
              have AM : wy.cell? ⟨bh, oh + p * 3, none⟩ = some (iv x.at_) := ei 0 _ rfl
              have AN := ei 1 _ rfl
              have AO := ei 2 _ rfl
              subst sZ
              clear ei hX zG hx fg tH
              have tl : j + 1 <= A.length := by omega
              have lE : w.heap.size + 1 + 1 + 1 + 1 <= n0 := dX
              have lm : n0 <= n1 := by omega
              have qx : Zf wy.drew (w.heap.size + 1 + 1 + 1 + 1) (.slice a7 m7 c7) TT := Ge
              have pT := FH.below (jab wy)
              have C6 : Bw w wy.drew := ed.trans ((jab wy).mono ed.size)
              go_wp2_with fail
              go_region_with (first | (go_at_call 197; refine (kV _).mono ?_; rintro q7 w7 ⟨rfl, ax⟩; have An := jaa ax uH; have Ar := jaa ax uI; have Av := jaa ax uJ; have Az := jaa ax uK; have AE := jaa ax uL; have AI := jaa ax uM; have Ak := jaa ax uG; have EE := jaa ax yk; have K6 := jaa ax AM; have Kg := jaa ax AN; have Ki := jaa ax AO; have cr : Zf w7 (w.heap.size + 1 + 1 + 1 + 1) (.slice a7 m7 c7) TT := jad qx ax; have uC := pT.below ax) | (go_at_call 196; refine (kJ _ cr (by have h1 := ax.size; have h2 : wy.drew.heap.size = wy.heap.size := rfl; omega)).mono ?_; rintro q8 w8 ⟨v8, rfl, dv, cW, jK⟩; obtain ⟨p8, m8, c8, rfl⟩ := jac dv; have kp := uC.fr cW (fun g hg => fU g hg); have Ox := kp.f1; obtain ⟨u8, yf⟩ := kp.t))
              all_goals
               obtain ⟨M9, S9, Ag, t9, zT, zN, B9⟩ := jpq vB Dr ed ax fU jM.out cW dv jK kp ⟨u8, yf⟩ lE lm ma.out
               clear dv cW jK ax cr uC kp fP kJ kV
               go_wp2
               go_roundw
               case rel => exact ⟨j + 1, p + 1, p8, m8, c8, tl, by go_num, rfl, gX, Fn, t9, zT, zN, M9, S9, Ag, B9⟩
               case measure => simp [intOf]; omega
         ·have jI : j = A.length := by omega
          have mK : Hid (Zf wq (w.heap.size + 1 + 1 + 1 + 1) (.slice a7 m7 c7) (stK r E (k + 1)).1) := by rw [HS.out]; simp only; rw [jI, List.take_length] at bS; exact bS
          have nB : ¬ (j : Int) < (A.length : Int) := by omega
          have mH : Hid ((stK r E (k + 1)).2 = en) := by simp only [Hid]; rw [HS.out]
          clear jI
          go_wp2
          go_roundw
          case rel => exact ⟨k + 1, a7, m7, c7, by omega, by rw [mH.out], by go_num, I9, mK.out, sC, FG, by omega, dA⟩
          case measure => simp [intOf]; omega
    ·have hla : ¬ k + 1 = E.length := fun h => dT (.inr h)
     have g1 : ¬ b < en := fun h => dT (.inl h)
     have HS : Hid (stK r E (k + 1) = (T0, en)) := by
      have h1 := vf hla
      simp only [Hid]
      rw [gC hla, <- h1, if_neg g1]
     have hq : ((k : Int) == (E.length : Int) - 1) = false := by simp; omega
     have vu := fun w (h : Za w a2 3 (H.map HapD.cs)) => jgr H a2 fY w h iY (fun h hh => (yu.out h hh).at_)
     have Ld := qal w3 (.cells #[] 2)
     clear nc gC ve vf fh dT hla
     go_wp2
     go_loopw [13, 14] (fun Et lQ wq => ∃ j : Nat, j <= H.length /\ Et = .slice (some ⟨w3.heap.size, 0, none⟩) 0 0 /\ lQ = iv j /\ Bw w3 wq) (fun _ lQ _ => H.length - (intOf lQ).toNat)
     case atStart => exact ⟨0, by omega, rfl, rfl, Ld⟩
     case round =>
      obtain ⟨wp, DF⟩ := qea wr
      subst DF
      obtain ⟨j, hj, rfl, rfl, bl⟩ := hrel
      by_cases eY : j < H.length
      ·obtain ⟨x, hx⟩ := qgg eY
       obtain ⟨bh, oh, sZ, ei⟩ := (nY.below bl).at (i := j) (r := x.cs) (by rw [lgm, hx]; rfl)
       have e0 : wp.cell? ⟨bh, oh + j * 3, none⟩ = some (iv x.at_) := ei 0 _ rfl
       have pF : ¬ e.rules.size = 0 := fun h => by have := sE.out h; rw [this] at eY; simp at eY
       have aC : e.rules.toList.isEmpty = false := jhx pF
       have pV := jaa bl eS
       have D1 : (j : Int) < (H.length : Int) := by omega
       subst sZ
       clear ei hx
       by_cases g5 : b < x.at_
       ·have g2 : ¬ x.at_ < en := by omega
        go_wp2
        go_roundw
        case rel => exact ⟨j + 1, by omega, rfl, by go_num, bl⟩
        case measure => simp [intOf]; omega
       ·go_wp2
        go_roundw
        case rel => exact ⟨j + 1, by omega, rfl, by go_num, bl⟩
        case measure => simp [intOf]; omega
      ·have D1 : ¬ (j : Int) < (H.length : Int) := by omega
       go_wp2_with fail
       refine (vu _ (nY.below bl)).mono ?_
       rintro q w6 ⟨rfl, _, hb6⟩
       have lc : Bw w3 w6 := qtr bl hb6
       have ck := qtr ay lc
       have yG := yF.below lc
       have od := jaa lc sk
       have mK : Hid (Zf w6 (w.heap.size + 1 + 1 + 1 + 1) (.slice a6 m6 c6) (stK r E (k + 1)).1) := by rw [HS.out]; exact jad jx lc
       have mH : Hid ((stK r E (k + 1)).2 = en) := by simp only [Hid]; rw [HS.out]
       have lC : w.heap.size + 1 + 1 + 1 + 1 <= w6.heap.size := by have h1 := lc.size; omega
       clear hb6 vu
       go_wp2
       go_loopw [16, 17] (fun _ xX wq => xX = iv 0 /\ wq = w6) (fun _ _ _ => 0)
       case atStart => exact ⟨rfl, rfl⟩
       case round =>
        obtain ⟨wx, bK⟩ := qea wr
        subst bK
        obtain ⟨rfl, rA⟩ := hrel
        subst rA
        go_wp2
        go_roundw
        case rel => exact ⟨k + 1, a6, m6, c6, by omega, by rw [mH.out], by go_num, od, mK.out, sC, yG, lC, ck⟩
        case measure => simp [intOf]; omega
  ·have li : k = E.length := by omega
   have HX : Hid (tabE r E = ((stK r E k).1, decide ((stK r E k).1.length <= 600))) := by simp only [Hid, tabE]; rw [li] at j6 ⊢; rw [j6.out]; rfl
   have fi : ¬ (k : Int) < (E.length : Int) := by omega
   obtain ⟨⟨T0, b⟩, fG⟩ := qeb (stK r E k)
   rw [fG] at hT fj HX fq
   simp only at hT fj HX fq
   subst fj
   have hm : m6 = T0.length := by
    obtain ⟨a, cap, h, _⟩ := hT.seq
    injection h
   subst hm
   have Ei := bx.r0
   have Km := bx.f0
   have wk : ∀ g, (Value.slice a6 T0.length c6).ownBlock = some g -> w.heap.size + 1 + 1 + 1 + 1 <= g := fun g hg => (World.ownsRow.lt hT g hg).1
   have t0 : (wr.setCell ⟨w.heap.size + 1 + 1, 0, none⟩ (.slice a6 T0.length c6)).cell? ⟨w.heap.size + 1 + 1, 0, none⟩ = some (.slice a6 T0.length c6) := wcs _ _ _ (u := nS) Ei
   have eN : Zf (wr.drew.setCell ⟨w.heap.size + 1 + 1, 0, none⟩ (.slice a6 T0.length c6)) w.heap.size (.slice a6 T0.length c6) T0 := jck (w1 := wr.drew) (jak (w := wr.drew) hT (by omega)) (fun h => by have := wk _ h; omega)
   have eU : Bw w (wr.drew.setCell ⟨w.heap.size + 1 + 1, 0, none⟩ (.slice a6 T0.length c6)) := (hB.trans ((jab wr).mono hB.size)).setCell (show w.heap.size <= w.heap.size + 1 + 1 by omega) _
   by_cases h6 : T0.length <= 600
   ·have BT : (T0.length : Int) <= 600 := by omega
    rw [dte h6] at HX
    have HQ : Hid (TabSP r E w (.returned (.tuple #[.agg #[.slice a6 T0.length c6], .bool true])) (wr.drew.setCell ⟨w.heap.size + 1 + 1, 0, none⟩ (.slice a6 T0.length c6))) := ⟨_, _, T0, rfl, eN, by rw [HX.out], fun _ => by rw [HX.out], eU⟩
    clear li fG hT eN eU HX
    go_wp2_with fail
    go_region
    all_goals
     go_wp2
     exact bodyPost_ret (v := .tuple #[.agg #[.slice a6 T0.length c6], .bool true]) (by simp [results, Tryz.results154, go_sem, t0]) rfl HQ.out
   ·have BT : ¬ (T0.length : Int) <= 600 := by omega
    rw [dfe h6] at HX
    have HQ : Hid (TabSP r E w (.returned (.tuple #[.agg #[.slice a6 T0.length c6], .bool false])) (wr.drew.setCell ⟨w.heap.size + 1 + 1, 0, none⟩ (.slice a6 T0.length c6))) := ⟨_, _, T0, rfl, eN, by rw [HX.out], (fun h => by cases h), eU⟩
    clear li fG hT eN eU HX
    go_wp2_with fail
    go_region
    all_goals
     go_wp2
     exact bodyPost_ret (v := .tuple #[.agg #[.slice a6 T0.length c6], .bool false]) (by simp [results, Tryz.results154, go_sem, t0]; omega) rfl HQ.out
end Go.Proofs.YtgiieknbckhofaaGreatDoor
