/- Packed. -/
import Derived.Test.YtgiieknbckhofaaGreatDoorSt37u
import Derived.Test.YtgiieknbckhofaaGreatDoorTsTu
set_option maxRecDepth 100000
set_option maxHeartbeats 20000000
set_option linter.unusedSimpArgs false
namespace Go.Proofs.YtgiieknbckhofaaGreatDoor
section
open Go.RowKit
theorem jmk {S S2 : Nat -> Prop} {w w1 w2 : World} (h : Fr S w w1) (h2 : Fr S2 w1 w2) (hs : ∀ b, b < w.heap.size -> S2 b -> S b) : Fr S w w2 :=
 ⟨h2.os.trans h.os, h2.tape.trans h.tape, h2.output.trans h.output, Nat.le_trans h.size h2.size, fun b hb hn => (h2.block b (Nat.lt_of_lt_of_le hb h.size) (fun e => hn (hs b hb e))).trans (h.block b hb hn)⟩
theorem jzx : ∃ i : TypeInfo, Tryz.prog.info? 9 = some i /\ i.zero = some (.string ⟨#[]⟩) /\ i.size = 1 /\ i.bytes = 16 := ⟨_, rfl, rfl, rfl, rfl⟩
theorem jzw : ∃ i : TypeInfo, Tryz.prog.info? 185 = some i /\ i.zero = some (.agg #[nS, iv 0]) /\ i.size = 2 /\ i.bytes = 32 := ⟨_, rfl, rfl, rfl, rfl⟩
theorem jni {w : World} {base : Nat} {e : TypeId} {size : Nat} {v : Value} {n : Nat} {xs : List Value} (h : w.ownsRow base e size v n xs) : ∃ a c, v = .slice a n c /\ (0 < n -> ∃ g, a = some (ad g 0)) := by
 rcases h.2 with ⟨rfl, rfl⟩ | ⟨g, cap, cur, rfl, _⟩
 ·exact ⟨none, 0, rfl, fun h => by omega⟩
 ·exact ⟨_, cap, rfl, fun _ => ⟨g, rfl⟩⟩
theorem jyo {w : World} {B g n c : Nat} {ts : List TOut} (h : w.ownsRow B 185 2 (so g n c) n (ts.map TOut.cs).flatten) {j : Nat} {t : TOut} (hj : ts[j]? = some t) (hn : ts.length = n) : w.cell? (ad g (j * 2)) = some (.slice t.a t.n t.c) /\ w.cell? (ad g (j * 2 + 1)) = some (iv t.code) := by
 have hl := (List.getElem?_eq_some_iff.1 hj).1
 have hr : (ts.map TOut.cs)[j]? = some t.cs := by rw [lgm, hj]; rfl
 have h0 := jbh jkt (i := j) (j := 0) hr rfl
 have h1 := jbh jkt (i := j) (j := 1) hr rfl
 exact ⟨by rw [h.cellAt (j * 2) (by omega)]; exact h0, by rw [h.cellAt (j * 2 + 1) (by omega)]; exact h1⟩
structure NewZ (w0 w wx : World) (B p : Nat) (r : RelD) (a b c : Option Addr) (ca cb cc : Nat) (zv tv : Value) (zs : List ByteArray) (ts : List TOut) (z : ByteArray) (E : List Value) (n : Nat) : Prop where
 ex : ∃ g1 aE, Zk wx B p r a b c ca cb cc (so g1 (n + 1) aE) tv (zs ++ [z]) ts /\ (zv.ownBlock = some g1 \/ w.heap.size <= g1)
 ev : Ze wx w.heap.size E
 fr : Fr (InC p zv tv) w wx
 bel : Bw w0 wx
 lo : B <= wx.heap.size
structure DoneC (w wx : World) (B p : Nat) (r : RelD) (a b c : Option Addr) (ca cb cc : Nat) (zv tv : Value) (zs : List ByteArray) (z : ByteArray) (E : List Value) (j : Nat) : Prop where
 ex : ∃ oV gt nt ct nC nv t, Zk wx B p r a b c ca cb cc oV (so gt nt ct) nC nv /\ nC[j]? = some z /\ nv[j]? = some t /\ nv.length = nt /\ nC.length = nt /\ nt <= zs.length + 1 /\ ∀ g, InC p oV (so gt nt ct) g -> InC p zv tv g \/ w.heap.size <= g
 ev : Ze wx w.heap.size E
 fr : Fr (InC p zv tv) w wx
structure EvR (e : EventD) : Prop where
 zone : e.zone.size <= 8000
 w1 : -62135596800 <= e.wall
 w2 : e.wall <= 253402300799
 g1 : 0 <= e.gap
 g2 : e.gap <= 2
 f1 : 0 <= e.fold
 f2 : e.fold <= 2
theorem jgu (w0 : World) (B p : Nat) (r : RelD) (a b c : Option Addr) (ca cb cc : Nat) (zv tv : Value) (zs : List ByteArray) (ts : List TOut) (ev : EventD) (w : World) (hv : Zd w0 (.agg #[.slice a r.rules.length ca, .slice b r.zones.length cb, .slice c r.links.length cc]) r) (bel : Bw w0 w) (ag : w0.heap.size <= B) (eP : B <= w.heap.size) (ok : Jp r) (hr : relB r = true) (hA : Zk w B p r a b c ca cb cc zv tv zs ts) (hl : ts.length = zs.length) (hn : zs.length <= 1000) (qA : EvR ev) :
  Cl 89 #[.pointer (some (ad p 0)), ev.v] w (InstP B p r a b c ca cb cc zv tv zs ev w) := by
 obtain ⟨id, name, zone, wall, gap, fold⟩ := ev
 obtain ⟨k1, k2, k3, k4, k5, k6, k7⟩ := qA
 simp only [EventD.v] at *
 obtain ⟨pz, cz, rfl, vB⟩ := jni hA.zo
 obtain ⟨pt, ct, rfl, kO⟩ := jni hA.to_
 rw [hl] at kO
 have GZ := hA.zo
 have CH := hA.to_
 rw [hl] at CH hA ⊢
 obtain ⟨N, hN⟩ := qeb zs.length
 rw [hN] at hl hn vB kO GZ CH hA ⊢
 have HN := hid hN
 have HL := hid hl
 clear hN hl
 have b0 : Bw w (w.alloc (.cells #[iv id, .string name, .string zone, iv wall, iv gap, iv fold] 79)) := qal _ _
 have E0 : Ze (w.alloc (.cells #[iv id, .string name, .string zone, iv wall, iv gap, iv fold] 79)) w.heap.size [iv id, .string name, .string zone, iv wall, iv gap, iv fold] := Ze.new w [iv id, .string name, .string zone, iv wall, iv gap, iv fold] 79
 have eM := hA.below b0
 have vy := jks hA.typ
 have HA := hid hA
 have HV := hid hv
 have tl := hid bel
 have EP := hid vB
 have oY := hid kO
 clear hA hv bel vB kO GZ CH
 go_enter Tryz.func89, Tryz.ntmps89
 go_wp2
 have dK : (w.alloc (.cells #[iv id, .string name, .string zone, iv wall, iv gap, iv fold] 79)).heap.size = w.heap.size + 1 := by simp
 generalize (w.alloc (.cells #[iv id, .string name, .string zone, iv wall, iv gap, iv fold] 79)) = wA at *
 have xm := hid dK
 clear dK
 go_loopw [6, 7] (fun s6 s7 wr => ∃ i : Nat, i <= N /\ s7 = iv i /\ s6 = iv (jeq zs zone i) /\ Bw wA wr) (fun _ s7 _ => N - (intOf s7).toNat)
 case atStart => exact ⟨0, by omega, rfl, rfl, brf _ _⟩
 case round =>
  obtain ⟨wa, eW⟩ := qea wr
  subst eW
  obtain ⟨i, hi, rfl, rfl, aM⟩ := hrel
  have fW := eM.below aM
  have Er := E0.below aM
  have p3 := fW.v.c 3 (u := (.slice pz N cz)) rfl
  have e2 := Er.c 2 (u := .string zone) rfl
  by_cases hlt : i < N
  ·have i1 : (i : Int) < (N : Int) := by omega
   have i0 : (0 : Int) <= (i : Int) := by omega
   obtain ⟨y, hy⟩ : ∃ y, zs[i]? = some y := ⟨_, lgg (by have := HN.out; omega)⟩
   obtain ⟨gz, rfl⟩ := EP.out (by omega)
   have CW := fW.zo
   rw [HN.out] at CW
   have y0 : wa.cell? (ad gz i) = some (.string y) := by rw [CW.cellAt i (by omega), lgm, hy]; rfl
   have xc := hid aM
   have HY := hid hy
   clear hy CW fW Er aM eM E0
   cases hb : (y.toList == zone.toList)
   ·have HK : Hid (jeq zs zone (i + 1) = jeq zs zone i) := jr3 HY.out hb
    generalize jeq zs zone i = k0 at *
    go_wp2_with fail
    go_quiet (fail)
    go_wp2
    go_roundw
    case rel => exact ⟨i + 1, by omega, by go_num, by rw [HK.out], xc.out.trans (⟨rfl, rfl, rfl, nlr _, fun _ _ => rfl⟩)⟩
    case measure => simp [intOf]; omega
   ·have HK : Hid (jeq zs zone (i + 1) = i) := jod HY.out hb
    generalize jeq zs zone i = k0 at *
    go_wp2_with fail
    go_quiet (fail)
    go_wp2
    go_roundw
    case rel => exact ⟨i + 1, by omega, by go_num, by rw [HK.out], xc.out.trans (⟨rfl, rfl, rfl, nlr _, fun _ _ => rfl⟩)⟩
    case measure => simp [intOf]; omega
  ·obtain rfl : i = N := by omega
   have ew : Bw w wa := b0.trans (aM.mono (by have := xm.out; omega))
   have tw := hid ew
   have oW := hid fW
   have yE := hid Er
   have GN : p < wa.heap.size := jks fW.typ
   have vd : w.heap.size < wa.heap.size := qbl e2
   have Ka : B <= wa.heap.size := Nat.le_trans eP ew.size
   have CB := vy
   have lh := hid e2
   clear ew aM fW Er eM E0 b0 vy e2
   go_upto_if 30 with fail
   go_cut [6] from 29 to 62 (fun s6 wx => ∃ j : Nat, s6 = iv j /\ DoneC w wx B p r a b c ca cb cc (.slice pz i cz) (.slice pt i ct) zs zone [iv id, .string name, .string zone, iv wall, iv gap, iv fold] j)
   case first =>
    rcases jl9 zs zone i with h | ⟨j, h, hj⟩
    ·rw [h]
     clear h
     obtain ⟨is, KQ, dK, cH, et⟩ := jzx
     obtain ⟨it, sH, Lo, Lp, eI⟩ := jzw
     have ba : ∀ o, Bw wa (wa.drew.alloc o) := fun o => (show Bw wa wa.drew from jac wa).alloc (nlr _) o
     have Gi : wa.ownsRow B 9 1 (.slice pz i cz) i (zs.map Value.string) := by have := oW.out.zo; rw [HN.out] at this; exact this
     have Ho := oW.out.v.f 3 (u := .slice pz i cz) rfl
     have e2 := lh.out
     have az : some p ≠ (Value.slice pz i cz).ownBlock := jgv oW.out.zo oW.out.typ (by decide)
     have oC : some w.heap.size ≠ (Value.slice pz i cz).ownBlock := fun e => by have := (World.ownsRow.lt HA.out.zo _ e.symm).2; omega
     go_upto_region 9 with fail
     go_cut [] from 36 to 46 (fun wx => NewZ w0 w wx B p r a b c ca cb cc (.slice pz i cz) (.slice pt i ct) zs ts zone [iv id, .string name, .string zone, iv wall, iv gap, iv fold] i)
     case first =>
      go_region_law (refine step_append_lies _ (by rfl) (.tmp 40) (.tmp 43) 140 (by rfl) B 9 is (.string ⟨#[]⟩) 1 16 Tryz.underlying140 KQ dK cH et rfl (by omega) (.slice pz i cz) i (zs.map Value.string) (by rfl) (woa (w := wa.drew) Gi _) (ad wa.heap.size 0) 1 1 [.string zone] (by rfl) rfl (jag _ _ _) (by intro u hu; simp at hu; subst hu; rfl) (by omega) (by unfold maxLen; omega) (by omega) (by simp; omega) _ rfl ?_; intro g1 aE w2 aw af bF hlt1; have r1 := af.cell (a := (ad p 3)) (jaa (ba _) p3) az; have r2 := (af.frozen_far (ad p 3) (by simp; omega) az).trans (((jaf (ba _)).2 _ _ GN).trans Ho))
      all_goals
       have h3 := (oW.out.below (ba _)).pushZ (by rw [HL.out, HN.out]) af (by rw [HN.out]; exact aw)
       have f1 : Fr (InC p (.slice pz i cz) (.slice pt i ct)) w (wa.drew.alloc (.cells #[.string zone] 9)) := Fr.of_below (tw.out.trans ((ba _).mono tw.out.size))
       have f2 := jmk f1 h3.2 (fun _ _ h => h)
       have HZ : Hid (NewZ w0 w (w2.setCell (ad p 3) (so g1 (i + 1) aE)) B p r a b c ca cb cc (.slice pz i cz) (.slice pt i ct) zs ts zone [iv id, .string name, .string zone, iv wall, iv gap, iv fold] i) := by
        refine ⟨⟨g1, aE, h3.1, bF.imp_right fun e => ?_⟩, ?_, f2, ?_, ?_⟩
        ·rw [e]; exact Nat.le_trans tw.out.size (ba (.cells #[.string zone] 9)).size
        ·exact ((yE.out.below (ba _)).fr (Fr.of_grown af) (fun e => oC e.symm)).other (by omega) _
        ·exact tl.out.trans (f2.below (fun g hg => Nat.le_trans ag (HA.out.low hg)) tl.out.size)
        ·exact Nat.le_trans eP f2.size
       clear h3 f1 f2 aw af bF hlt1 r1 r2
       go_wp2
       go_meet
       exact HZ.out
     case rest =>
      obtain ⟨w3, gH⟩ := qea wc
      subst gH
      obtain ⟨g1, aE, ks, cU⟩ := hcut.ex
      have E3 := hcut.ev
      have xd := hid hcut.fr
      have av := hcut.bel
      have jx := hcut.lo
      clear hcut
      have z0 := ks.v.c 0 (u := .slice a r.rules.length ca) rfl
      have z1 := ks.v.c 1 (u := .slice b r.zones.length cb) rfl
      have z2 := ks.v.c 2 (u := .slice c r.links.length cc) rfl
      have z4 := ks.v.c 4 (u := .slice pt i ct) rfl
      have Ot := ks.v.f 4 (u := .slice pt i ct) rfl
      have y2 := E3.c 2 (u := .string zone) rfl
      have hC := js4 tabC r (.agg #[.slice a r.rules.length ca, .slice b r.zones.length cb, .slice c r.links.length cc]) zone w3.drew (HV.out.below (av.trans ((jac w3).mono av.size))) ok.sm ok.on k1 hr
      have I6 := hid ks
      have yD := hid E3
      have EE := hid cU
      have eH : w3.ownsRow B 185 2 (.slice pt i ct) i (ts.map TOut.cs).flatten := by have := ks.to_; rw [HL.out] at this; exact this
      have mJ : some p ≠ (Value.slice pt i ct).ownBlock := jgv ks.to_ ks.typ (by decide)
      have GM : p < w3.heap.size := jks ks.typ
      have d0 : w3.drew.cell? (ad p 0) = some (.slice a r.rules.length ca) := z0
      have d1 : w3.drew.cell? (ad p 1) = some (.slice b r.zones.length cb) := z1
      have d2 : w3.drew.cell? (ad p 2) = some (.slice c r.links.length cc) := z2
      have d4 : w3.drew.cell? (ad p 4) = some (.slice pt i ct) := z4
      have dy : w3.drew.cell? (ad w.heap.size 2) = some (.string zone) := y2
      have GP : p ≠ w.heap.size := by omega
      clear ks E3 cU av p3 e2 Ho Gi ba az oC
      go_wp2_with fail
      go_region_law (first | (go_simp; go_at_call 122; refine hC.mono ?_; rintro q w7 fi; obtain ⟨v7, yh, cC, aC⟩ := fi.ex; obtain ⟨a7, m7, d7, rfl⟩ := jab cC; obtain ⟨k9, Gz⟩ := qeb ((tabD r zone).1); rw [Gz] at yh; subst yh; clear fi; have m0 := jaa aC d0; have m1 := jaa aC d1; have m2 := jaa aC d2; have m4 := jaa aC d4; have my := jaa aC dy; have LP := ((jaf aC).2 _ _ GM).trans Ot; have ms := jad eH (show Bw w3 w7 from (jac w3).trans (aC.mono (nlr _))); have ff : w3.heap.size <= w7.heap.size := aC.size; have CA : p < w7.heap.size := Nat.lt_of_lt_of_le GM ff; have nQ := qal w7 (.cells #[.slice a7 m7 d7, iv k9] 185); have Q8 := jaa nQ m4) | (refine step_append_lies _ (by rfl) (.tmp 51) (.tmp 59) 153 (by rfl) B 185 it (.agg #[nS, iv 0]) 2 32 Tryz.underlying153 sH Lo Lp eI rfl (by omega) (.slice pt i ct) i (ts.map TOut.cs).flatten (by rfl) (woa (w := w7) ms _) (ad w7.heap.size 0) 1 1 [.slice a7 m7 d7, iv k9] (by rfl) rfl (jag _ _ _) (by intro u hu; simp at hu; rcases hu with rfl | rfl <;> rfl) (by omega) (by unfold maxLen; omega) (by omega) (by simp; omega) _ rfl ?_; intro g2 bP w8 ax af bF hlt2; have s1 := af.cell (a := (ad p 4)) (jaa nQ m4) mJ; have s2 := (af.frozen_far (ad p 4) (by simp; omega) mJ).trans (((jaf nQ).2 _ _ CA).trans LP)))
      all_goals
       have yl : Bw w3 w7 := (jac w3).trans (aC.mono (nlr _))
       have Fu := (I6.out.below yl).below nQ
       have FC : Jh w7 ⟨a7, m7, d7, k9⟩ (tabD r zone) := by have h := ju4 (x := tabD r zone) cC; rw [Gz] at h; exact h
       have h3 := Fu.pushT (t := ⟨a7, m7, d7, k9⟩) (by rw [HL.out, HN.out]) (FC.below nQ) af (by rw [HL.out]; exact ax)
       have f3 := jmk (jmk xd.out (Fr.of_below (S := fun _ => False) (qtr yl nQ)) (fun _ _ h => h.elim)) h3.2 (fun g hg h => by
        rcases h with h | h | h
        ·exact .inl h
        ·injection h with h
         have h : g1 = g := h
         subst h
         rcases EE.out with h2 | h2
         ·exact .inr (.inl h2)
         ·omega
        ·exact .inr (.inr h))
       have HD : Hid (DoneC w (w8.setCell (ad p 4) (so g2 (i + 1) bP)) B p r a b c ca cb cc (.slice pz i cz) (.slice pt i ct) zs zone [iv id, .string name, .string zone, iv wall, iv gap, iv fold] i) := by
        refine ⟨⟨so g1 (i + 1) aE, g2, i + 1, bP, zs ++ [zone], ts ++ [⟨a7, m7, d7, k9⟩], ⟨a7, m7, d7, k9⟩, h3.1, ?_, ?_, by rw [lla, HL.out]; rfl, by rw [lla, HN.out]; rfl, by rw [HN.out]; omega, fun g hg => ?_⟩, ?_, f3⟩
        ·rw [List.getElem?_append_right (by rw [HN.out]; omega), HN.out, Nat.sub_self]; rfl
        ·rw [List.getElem?_append_right (by rw [HL.out]; omega), HL.out, Nat.sub_self]; rfl
        ·rcases hg with hg | hg | hg
         ·exact .inl (.inl hg)
         ·injection hg with hg
          have hg : g1 = g := hg
          subst hg
          exact EE.out.imp (fun h => .inr (.inl h)) (fun h => h)
         ·injection hg with hg
          have hg : g2 = g := hg
          subst hg
          refine bF.imp (fun h => .inr (.inr h)) (fun h => ?_)
          rw [h]
          exact Nat.le_trans (Nat.le_trans xd.out.size ff) nQ.size
        ·refine Ze.other (Ze.fr ((yD.out.below yl).below nQ) (Fr.of_grown af) (fun e => ?_)) (by omega) _
         have := (World.ownsRow.lt HA.out.to_ _ e).2
         omega
       clear h3 f3 Fu FC yl ax af bF hlt2 s1 s2 cC aC ms
       go_wp2
       go_meet
       exact ⟨i, rfl, HD.out⟩
    ·rw [h]
     clear h
     have KS : j < i := by have h1 := (List.getElem?_eq_some_iff.1 hj).1; have := HN.out; omega
     obtain ⟨t, sO⟩ : ∃ t, ts[j]? = some t := ⟨_, lgg (by have := HL.out; omega)⟩
     obtain ⟨gt, rfl⟩ := oY.out (by omega)
     have j2 : ¬ (j : Int) < 0 := by omega
     have HD : Hid (DoneC w wa B p r a b c ca cb cc (.slice pz i cz) (so gt i ct) zs zone [iv id, .string name, .string zone, iv wall, iv gap, iv fold] j) := ⟨⟨_, gt, i, ct, zs, ts, t, oW.out, hj, sO, HL.out, HN.out, by have := HN.out; omega, fun g hg => .inl hg⟩, yE.out, Fr.of_below tw.out⟩
     clear hj sO
     go_wp2
     go_meet
     exact ⟨j, rfl, HD.out⟩
   case rest =>
    obtain ⟨j, rfl, hcut⟩ := hcut
    obtain ⟨wt, LA⟩ := qea wc
    subst LA
    obtain ⟨oV, gt, nt, zi, nC, nv, ⟨ta, tn, tc, tk⟩, cT, hj, sO, fK, aG, gO, hin⟩ := hcut.ex
    have Er := hcut.ev
    have yF := hid hcut.fr
    clear hcut
    have KS : j < nt := by have h1 := (List.getElem?_eq_some_iff.1 hj).1; omega
    have CI := cT.to_
    rw [fK] at CI
    obtain ⟨r0, r1⟩ := jyo CI sO fK
    dsimp only at r0 r1
    have nO : Hid (Jh wt ⟨ta, tn, tc, tk⟩ (tabD r zone)) := cT.tab j zone _ hj sO
    have q4 := cT.v.c 4 (u := so gt nt zi) rfl
    have e3 := Er.c 3 (u := iv wall) rfl
    have e4 := Er.c 4 (u := iv gap) rfl
    have e5 := Er.c 5 (u := iv fold) rfl
    have j1 : (j : Int) < (nt : Int) := by omega
    have j0 : (0 : Int) <= (j : Int) := by omega
    have tt : Hid (∀ w' n7 b7, Bw wt w' -> momR r ⟨id, name, zone, wall, gap, fold⟩ = (n7, b7) -> InstP B p r a b c ca cb cc (.slice pz i cz) (.slice pt i ct) zs ⟨id, name, zone, wall, gap, fold⟩ w (.returned (.tuple #[iv n7, .bool b7])) w') := fun w' n7 b7 hb hm => by
     exact ⟨by rw [hm], ⟨oV, so gt nt zi, nC, nv, cT.below hb, by omega, by omega, hin⟩, jmk yF.out (Fr.of_below (S := fun _ => False) hb) (fun _ _ h => h.elim)⟩
    clear cT Er CI hj sO hin fK aG gO p3 GN vd oW yE tw lh EP oY HA
    by_cases hk : tk = 0
    ·subst hk
     have hd : (tabD r zone).1 = 0 := nO.out.code.symm
     have oH := (jm6 hd).2.2.2.right
     have HM : Hid (momR r ⟨id, name, zone, wall, gap, fold⟩ = ((resR (tabD r zone).2 wall gap fold).1, decide ((resR (tabD r zone).2 wall gap fold).2 = 0))) := by
      simp only [Hid]
      unfold momR
      rw [jrs hd, jrl oH (jma k2 k3) (jma k4 k5) (jma k6 k7)]
     have jz := nO.out.n
     have j9 := nO.out.seq
     dsimp only at jz j9
     obtain ⟨l, io⟩ := qeb ((tabD r zone).2)
     rw [io] at oH HM jz j9
     subst jz
     clear io hd
     have hR := fun W h => jh7 l (.agg #[.slice ta l.length tc]) wall gap fold W h (j02 oH) k2 k3 k4 k5 k6 k7
     have bA := jac wt
     have bB : Bw wt (wt.alloc (.cells #[iv 0, iv 0] 188)).drew := (qal wt _).trans ((jac _).mono (by simp))
     have TA : Zz wt.drew (.agg #[.slice ta l.length tc]) l := ⟨ta, tc, rfl, j9.below bA⟩
     have TB : Zz (wt.alloc (.cells #[iv 0, iv 0] 188)).drew (.agg #[.slice ta l.length tc]) l := ⟨ta, tc, rfl, j9.below bB⟩
     obtain ⟨⟨n7, c7⟩, sK⟩ := qeb (resR l wall gap fold)
     rw [sK] at hR HM
     simp only [outV] at hR
     clear sK j9 oH
     have Dn := jaa bA q4
     have Do := jaa bB q4
     have := World.new_ne wt _ q4
     have Dq := jaa bA r0
     have Dr := jaa bB r0
     have := World.new_ne wt _ r0
     have zR := jaa bA e3
     have zS := jaa bB e3
     have := World.new_ne wt _ e3
     have zU := jaa bA e4
     have zV := jaa bB e4
     have := World.new_ne wt _ e4
     have zX := jaa bA e5
     have zY := jaa bB e5
     have := World.new_ne wt _ e5
     obtain ⟨yt, yu, Ai, Aj⟩ : (fun z : World => z.cell? (ad wt.heap.size 0) = some (iv 0) /\ z.cell? (ad wt.heap.size 1) = some (iv 0) /\ z.frozen? (ad wt.heap.size 0) = false /\ z.frozen? (ad wt.heap.size 1) = false) ((wt.alloc (.cells #[iv 0, iv 0] 188)).drew) := by simp [go_sem]
     go_wp2_with fail
     go_region_held3 (fun w' => w'.cell? (ad p 4) = some (so gt (nt) zi) /\ w'.cell? (ad gt (j * 2)) = some (.slice ta l.length tc) /\ w'.cell? (ad w.heap.size 3) = some (iv wall) /\ w'.cell? (ad w.heap.size 4) = some (iv gap) /\ w'.cell? (ad w.heap.size 5) = some (iv fold)) (go_keep) (first | (go_at_call 123; refine (hR _ TA).mono ?_; rintro q w7 ⟨rfl, aC⟩; have dE := qtr bA aC; have Dm := jaa aC Dn; have Dp := jaa aC Dq; have zQ := jaa aC zR; have zT := jaa aC zU; have zW := jaa aC zX) | (go_at_call 123; refine (hR _ TB).mono ?_; rintro q w7 ⟨rfl, aC⟩; have dE := qtr bB aC; have Dm := jaa aC Do; have Dp := jaa aC Dr; have zQ := jaa aC zS; have zT := jaa aC zV; have zW := jaa aC zY; have wI := jaa aC yt; have wJ := jaa aC yu; have kp := qfz aC yt Ai; have kq := qfz aC yu Aj))
     ·skip
      have B9 : Bw wt (w7.alloc (.cells #[iv n7, iv c7] 188)) := dE.alloc dE.size _
      obtain ⟨t0, t1⟩ : (fun z : World => z.cell? (ad w7.heap.size 0) = some (iv n7) /\ z.cell? (ad w7.heap.size 1) = some (iv c7)) (w7.alloc (.cells #[iv n7, iv c7] 188)) := by simp [go_sem]
      have lc := hid B9
      clear B9 dE aC
      clear hR TA TB Dm Dn Do Dp Dq Dr zQ zR zS zT zU zV zW zX zY yt yu Ai Aj bA bB
      generalize (w7.alloc (.cells #[iv n7, iv c7] 188)) = w9 at *
      by_cases hc : c7 = 0
      ·subst hc
       go_wp2_with fail
       go_quiet (fail)
       go_wp2
       go_ret2
       exact tt.out _ _ _ (lc.out.trans (⟨rfl, rfl, rfl, nlr _, fun _ _ => rfl⟩)) (by rw [HM.out]; rfl)
      ·have cY : (c7 == 0) = false := by simp [hc]
       go_wp2_with fail
       go_quiet (fail)
       go_wp2
       go_ret2
       exact tt.out _ _ _ (lc.out.trans (⟨rfl, rfl, rfl, nlr _, fun _ _ => rfl⟩)) (by rw [HM.out, dfe hc])
     ·skip
      have B9 : Bw wt ((w7.setCell (ad wt.heap.size 0) (iv n7)).setCell (ad wt.heap.size 1) (iv c7)) := (dE.setCell (nlr _) _).setCell (nlr _) _
      obtain ⟨t0, t1⟩ := jam (v0 := iv n7) (v1 := iv c7) wI wJ
      have lc := hid B9
      clear B9 dE aC
      clear hR TA TB Dm Dn Do Dp Dq Dr zQ zR zS zT zU zV zW zX zY yt yu Ai Aj bA bB wI wJ kp kq
      generalize ((w7.setCell (ad wt.heap.size 0) (iv n7)).setCell (ad wt.heap.size 1) (iv c7)) = w9 at *
      by_cases hc : c7 = 0
      ·subst hc
       go_wp2_with fail
       go_quiet (fail)
       go_wp2
       go_ret2
       exact tt.out _ _ _ (lc.out.trans (⟨rfl, rfl, rfl, nlr _, fun _ _ => rfl⟩)) (by rw [HM.out]; rfl)
      ·have cY : (c7 == 0) = false := by simp [hc]
       go_wp2_with fail
       go_quiet (fail)
       go_wp2
       go_ret2
       exact tt.out _ _ _ (lc.out.trans (⟨rfl, rfl, rfl, nlr _, fun _ _ => rfl⟩)) (by rw [HM.out, dfe hc])
    ·have eU : (tk == 0) = false := by simp [hk]
     go_wp2
     go_ret2
     exact tt.out _ _ _ (brf _ _) (by unfold momR; rw [jv3 (by rw [<- nO.out.code]; exact hk)])
end
section
open Go.RowKit
structure Jn (s : StoreD) (w wr : World) (B pn pw h : Nat) (a b c d e f : Option Addr) (ca cb cc cd ce cf : Nat) (V : List Value) (L : List EventD) (lv : Value) (X : List EntryD) (i : Nat) (out : Value) : Prop where
 ex : ∃ nG nA nD oS nH nB nE oT, Zk wr B pn s.now a b c ca cb cc nG nA nD oS /\ oS.length = nD.length /\ nD.length <= i /\ Zk wr B pw s.was d e f cd ce cf nH nB nE oT /\ oT.length = nE.length /\ nE.length <= i /\ ∀ g, InC pn nG nA g -> ¬ InC pw nH nB g
 own : ∃ g m k, out = so g m k /\ Zl wr (h + 1) out X /\ X.length = m /\ m <= k
 live : Zm wr (h + 1) lv L
 sv : Ze wr h V
 bel : Bw w wr
 lo : B <= wr.heap.size
theorem Jn.below {s : StoreD} {w wr ti : World} {B pn pw h : Nat} {a b c d e f : Option Addr} {ca cb cc cd ce cf : Nat} {V : List Value} {L : List EventD} {lv : Value} {X X2 : List EntryD} {i : Nat} {out qU : Value} (hR : Jn s w wr B pn pw h a b c d e f ca cb cc cd ce cf V L lv X i out) (hb : Bw wr ti) (ho : ∃ g m k, qU = so g m k /\ Zl ti (h + 1) qU X2 /\ X2.length = m /\ m <= k) : Jn s w ti B pn pw h a b c d e f ca cb cc cd ce cf V L lv X2 i qU := by
 obtain ⟨nG, nA, nD, oS, nH, nB, nE, oT, h1, h2, h3, h4, h5, h6, h7⟩ := hR.ex
 exact ⟨⟨nG, nA, nD, oS, nH, nB, nE, oT, h1.below hb, h2, h3, h4.below hb, h5, h6, h7⟩, ho, jad hR.live hb, hR.sv.below hb, hR.bel.trans (hb.mono hR.bel.size), Nat.le_trans hR.lo hb.size⟩
theorem Jn.same {s : StoreD} {w wr ti : World} {B pn pw h : Nat} {a b c d e f : Option Addr} {ca cb cc cd ce cf : Nat} {V : List Value} {L : List EventD} {lv : Value} {X : List EntryD} {i : Nat} {out : Value} (hR : Jn s w wr B pn pw h a b c d e f ca cb cc cd ce cf V L lv X i out) (hb : Bw wr ti) : Jn s w ti B pn pw h a b c d e f ca cb cc cd ce cf V L lv X i out := by
 obtain ⟨g, m, k, h1, h2, h3⟩ := hR.own
 exact hR.below hb ⟨g, m, k, h1, jad h2 hb, h3⟩
theorem Jn.ask_n {s : StoreD} {w wr : World} {B pn pw h : Nat} {a b c d e f : Option Addr} {ca cb cc cd ce cf : Nat} {V : List Value} {L : List EventD} {lv : Value} {X : List EntryD} {i : Nat} {out : Value} (hR : Jn s w wr B pn pw h a b c d e f ca cb cc cd ce cf V L lv X i out) (hh : h < B) (ja : w.heap.size <= B) (ev : EventD)
  (hC : ∀ zv tv zs ts, Zk wr B pn s.now a b c ca cb cc zv tv zs ts -> ts.length = zs.length -> zs.length <= i -> Cl 89 #[.pointer (some (ad pn 0)), ev.v] wr (InstP B pn s.now a b c ca cb cc zv tv zs ev wr)) :
  Cl 89 #[.pointer (some (ad pn 0)), ev.v] wr fun q w2 => q = .returned (.tuple #[iv (momR s.now ev).1, .bool (momR s.now ev).2]) /\ Jn s w w2 B pn pw h a b c d e f ca cb cc cd ce cf V L lv X (i + 1) out := by
 obtain ⟨nG, nA, nD, oS, nH, nB, nE, oT, h1, h2, h3, h4, h5, h6, h7⟩ := hR.ex
 refine (hC nG nA nD oS h1 h2 h3).mono fun q w2 hP => ⟨hP.ex, ?_⟩
 have hf := hP.fr
 obtain ⟨oV, DO, nC, nv, k1, k2, k3, k4⟩ := hP.cache
 obtain ⟨g, m, k, o1, o2, o3⟩ := hR.own
 have fI : ∀ g, (∃ cs, wr.heap[g]? = some (.cells cs 220 (0, 0))) -> ¬ InC pn nG nA g := fun g hg => h1.not hg (by decide) (by decide) (by decide)
 have uW := jc7 o2 hf (fun g hg => h1.not (jcc o2 hg) (by decide) (by decide) (by decide))
 have Br := jc7 hR.live hf (fun g hg => h1.not (jcc hR.live hg) (by decide) (by decide) (by decide))
 have BO := hR.sv.fr hf (fun e => by have := h1.low e; omega)
 have dv : Bw w w2 := hR.bel.trans (hf.below (fun g hg => Nat.le_trans ja (h1.low hg)) hR.bel.size)
 have hO := h4.fr hf (fun g hg hx => h7 g hx hg) fI
 refine ⟨⟨oV, DO, nC, nv, nH, nB, nE, oT, k1, k2, by omega, hO, h5, by omega, fun g hg hx => ?_⟩, ⟨g, m, k, o1, uW, o3⟩, Br, BO, dv, Nat.le_trans hR.lo hf.size⟩
 rcases k4 g hg with hg | hg
 ·exact h7 g hg hx
 ·obtain ⟨t, ht, _⟩ := h4.kind hx
  have := jks ht
  omega
theorem Jn.ask_w {s : StoreD} {w wr : World} {B pn pw h : Nat} {a b c d e f : Option Addr} {ca cb cc cd ce cf : Nat} {V : List Value} {L : List EventD} {lv : Value} {X : List EntryD} {i : Nat} {out : Value} (hR : Jn s w wr B pn pw h a b c d e f ca cb cc cd ce cf V L lv X i out) (hh : h < B) (ja : w.heap.size <= B) (ev : EventD)
  (hC : ∀ zv tv zs ts, Zk wr B pw s.was d e f cd ce cf zv tv zs ts -> ts.length = zs.length -> zs.length <= i -> Cl 89 #[.pointer (some (ad pw 0)), ev.v] wr (InstP B pw s.was d e f cd ce cf zv tv zs ev wr)) :
  Cl 89 #[.pointer (some (ad pw 0)), ev.v] wr fun q w2 => q = .returned (.tuple #[iv (momR s.was ev).1, .bool (momR s.was ev).2]) /\ Jn s w w2 B pn pw h a b c d e f ca cb cc cd ce cf V L lv X (i + 1) out := by
 obtain ⟨nG, nA, nD, oS, nH, nB, nE, oT, h1, h2, h3, h4, h5, h6, h7⟩ := hR.ex
 refine (hC nH nB nE oT h4 h5 h6).mono fun q w2 hP => ⟨hP.ex, ?_⟩
 have hf := hP.fr
 obtain ⟨oV, DO, nC, nv, k1, k2, k3, k4⟩ := hP.cache
 obtain ⟨g, m, k, o1, o2, o3⟩ := hR.own
 have fI : ∀ g, (∃ cs, wr.heap[g]? = some (.cells cs 220 (0, 0))) -> ¬ InC pw nH nB g := fun g hg => h4.not hg (by decide) (by decide) (by decide)
 have uW := jc7 o2 hf (fun g hg => h4.not (jcc o2 hg) (by decide) (by decide) (by decide))
 have Br := jc7 hR.live hf (fun g hg => h4.not (jcc hR.live hg) (by decide) (by decide) (by decide))
 have BO := hR.sv.fr hf (fun e => by have := h4.low e; omega)
 have dv : Bw w w2 := hR.bel.trans (hf.below (fun g hg => Nat.le_trans ja (h4.low hg)) hR.bel.size)
 have hO := h1.fr hf (fun g hg hx => h7 g hg hx) fI
 refine ⟨⟨nG, nA, nD, oS, oV, DO, nC, nv, hO, h2, by omega, k1, k2, by omega, fun g hg hx => ?_⟩, ⟨g, m, k, o1, uW, o3⟩, Br, BO, dv, Nat.le_trans hR.lo hf.size⟩
 rcases k4 g hx with hx | hx
 ·exact h7 g hg hx
 ·obtain ⟨t, ht, _⟩ := h1.kind hg
  have := jks ht
  omega
theorem jrt {s : StoreD} {e : EventD} (h : s.cur = 0 \/ e.id < s.cur) : momS s e = momR s.now e := if_pos h
theorem jzk {s : StoreD} {e : EventD} (h : ¬ (s.cur = 0 \/ e.id < s.cur)) : momS s e = momR s.was e := if_neg h
end
section
open Go.RowKit
theorem jpb {w2 : World} {B p : Nat} {r : RelD} {a b c : Option Addr} {ca cb cc : Nat} (hv : Ze w2 p [.slice a r.rules.length ca, .slice b r.zones.length cb, .slice c r.links.length cc, nS, nS]) (ht : ∃ cs, w2.heap[p]? = some (.cells cs 155 (0, 0))) (hp : B <= p) : Zk w2 B p r a b c ca cb cc nS nS [] [] :=
 ⟨hv, ht, hp, World.ownsRow_nil _ _ _ _, World.ownsRow_nil _ _ _ _, fun i z t hz => by simp at hz⟩
theorem hidE {p : Prop} (h : p) : Hid p := h
theorem jwq {p g : Nat} (h : InC p nS nS g) : g = p := by
 rcases h with h | h | h
 ·exact h
 ·cases h
 ·cases h
theorem jmm {w : World} {B g n c : Nat} {L : List EventD} (h : Zm w B (so g n c) L) {i : Nat} {x : EventD} (hx : L[i]? = some x) : w.cell? (ad g (i * 6)) = some (iv x.id) /\ w.cell? (ad g (i * 6 + 1)) = some (.string x.name) /\ w.cell? (ad g (i * 6 + 2)) = some (.string x.zone) /\ w.cell? (ad g (i * 6 + 3)) = some (iv x.wall) /\ w.cell? (ad g (i * 6 + 4)) = some (iv x.gap) /\ w.cell? (ad g (i * 6 + 5)) = some (iv x.fold) := by
 have hr : (L.map EventD.cs)[i]? = some x.cs := by rw [lgm, hx]; rfl
 have hl : ∀ r ∈ L.map EventD.cs, r.length = 6 := fun r hr => by obtain ⟨y, _, rfl⟩ := List.mem_map.1 hr; rfl
 exact ⟨h.cell (jbh hl (i := i) (j := 0) hr rfl), h.cell (jbh hl (i := i) (j := 1) hr rfl), h.cell (jbh hl (i := i) (j := 2) hr rfl), h.cell (jbh hl (i := i) (j := 3) hr rfl), h.cell (jbh hl (i := i) (j := 4) hr rfl), h.cell (jbh hl (i := i) (j := 5) hr rfl)⟩
abbrev stL (s : StoreD) (a b c d e f va ia : Option Addr) (ca cb cc cd ce cf cv ci : Nat) : List Value :=
 [iv s.tx, .slice a s.now.rules.length ca, .slice b s.now.zones.length cb, .slice c s.now.links.length cc, .slice d s.was.rules.length cd, .slice e s.was.zones.length ce, .slice f s.was.links.length cf, iv s.cur, .slice va s.vs.length cv, .slice ia s.ix.length ci]
theorem j1b (w : World) (o p : Obj) : (w.alloc o).heap.size = w.heap.size + 1 /\ ((w.alloc o).alloc p).heap.size = w.heap.size + 1 + 1 /\ Bw w ((w.alloc o).alloc p) := ⟨by simp, by simp, (qal _ _).alloc (by simp) _⟩
theorem j1t (w : World) (L : List Value) (t : TypeId) : ∃ x, (w.alloc (.cells L.toArray t)).alloc (.cells #[] 101) = x /\ Bw w x /\ Ze x w.heap.size L /\ Zl x (w.heap.size + 1) (.slice (some (ad (w.heap.size + 1) 0)) 0 0) [] /\ x.heap.size = w.heap.size + 1 + 1 := by
 obtain ⟨e, z, b⟩ := j1b w (.cells L.toArray t) (.cells #[] 101)
 have h := ja4 (w.alloc (.cells L.toArray t)) 101 2
 rw [e] at h
 exact ⟨_, rfl, b, (Ze.new w L t).below (qal _ _), h, z⟩
theorem jsu (w : World) (L M : List Value) : ∃ x, (w.alloc (.cells L.toArray 155)).alloc (.cells M.toArray 155) = x /\ Bw w x /\ Ze x w.heap.size L /\ Ze x (w.heap.size + 1) M /\ (∃ cs, x.heap[w.heap.size]? = some (.cells cs 155 (0, 0))) /\ (∃ cs, x.heap[w.heap.size + 1]? = some (.cells cs 155 (0, 0))) /\ x.heap.size = w.heap.size + 1 + 1 := by
 obtain ⟨e, z, b⟩ := j1b w (.cells L.toArray 155) (.cells M.toArray 155)
 have h := Ze.new (w.alloc (.cells L.toArray 155)) M 155
 have g := heap_alloc_new (w.alloc (.cells L.toArray 155)) (.cells M.toArray 155)
 have bW : Below _ _ ((w.alloc (.cells L.toArray 155)).alloc (.cells M.toArray 155)) := qal _ _
 rw [e] at h g
 exact ⟨_, rfl, b, (Ze.new w L _).below bW, h, ⟨_, (bW.block _ (by simp)).trans (heap_alloc_new w _)⟩, ⟨_, g⟩, z⟩
theorem jh5 (s : StoreD) (v : Value) (w : World) (hv : Je w v s) (ok : Zv s) (qL : relB s.now = true) (dA : relB s.was = true) (CN : s.vs.length <= 1000) (hL : (ja1 s.vs).length <= 1000) (nZ : ∀ e ∈ ja1 s.vs, EvR e) :
  Cl 53 #[v] w fun q w' => ∃ x, q = .returned x /\ Zl w' w.heap.size x (entF (momS s) (ja1 s.vs)) /\ Bw w w' := by
 obtain ⟨a, b, c, d, e, f, va, ia, ca, cb, cc, cd, ce, cf, cv, ci, rfl, hN, hW, hV, hX, _, _⟩ := hv.form
 obtain ⟨wA, df, b1, A1, O1, z1⟩ := j1t w [iv s.tx, .slice a s.now.rules.length ca, .slice b s.now.zones.length cb, .slice c s.now.links.length cc, .slice d s.was.rules.length cd, .slice e s.was.zones.length ce, .slice f s.was.links.length cf, iv s.cur, .slice va s.vs.length cv, .slice ia s.ix.length ci] 42
 have x4 := A1.c 8 (u := .slice va s.vs.length cv) rfl
 rw [<- df] at x4
 have mh := jd1 s.vs va s.vs.length cv wA (hV.below b1) rfl CN
 have HN := hid hN
 have HW := hid hW
 have HA := hid df
 clear hN hW hV hX hv df
 go_enter Tryz.func53, Tryz.ntmps53
 go_wp2_with fail
 rw [HA.out]
 clear HA x4
 refine mh.mono ?_
 rintro q w2 ⟨lv, rfl, br, ac⟩
 rw [z1] at br
 obtain ⟨pl, cl, rfl, gE⟩ := jni br
 have A2 := A1.below ac
 have O2 : Zl w2 (w.heap.size + 1) (.slice (some (ad (w.heap.size + 1) 0)) 0 0) [] := jad O1 ac
 have b2 := qtr b1 ac
 have y1 := A2.c 1 (u := .slice a s.now.rules.length ca) rfl
 have y2 := A2.c 2 (u := .slice b s.now.zones.length cb) rfl
 have y3 := A2.c 3 (u := .slice c s.now.links.length cc) rfl
 have y4 := A2.c 4 (u := .slice d s.was.rules.length cd) rfl
 have y5 := A2.c 5 (u := .slice e s.was.zones.length ce) rfl
 have y6 := A2.c 6 (u := .slice f s.was.links.length cf) rfl
 obtain ⟨L, lx⟩ := qeb (ja1 s.vs)
 rw [lx] at hL nZ br gE ⊢
 have nJ := hid lx
 obtain ⟨nl, jz⟩ := qeb L.length
 have nL := hid jz
 rw [jz] at gE hL ⊢
 have et : w.heap.size + 1 + 1 <= w2.heap.size := by have := ac.size; omega
 obtain ⟨w4, GV, tA, KN, KW, TN, TW, z4⟩ := jsu w2 [.slice a s.now.rules.length ca, .slice b s.now.zones.length cb, .slice c s.now.links.length cc, nS, nS] [.slice d s.was.rules.length cd, .slice e s.was.zones.length ce, .slice f s.was.links.length cf, nS, nS]
 have uH : Zm w2 (w.heap.size + 1) (.slice pl nl cl) L := by rw [jz] at br; exact jak br (by omega)
 obtain ⟨B, dS⟩ := qeb w2.heap.size
 have bC : Jn s w w4 w2.heap.size w2.heap.size (w2.heap.size + 1) w.heap.size a b c d e f ca cb cc cd ce cf (stL s a b c d e f va ia ca cb cc cd ce cf cv ci) L (.slice pl nl cl) (entF (momS s) (L.take 0)) 0 (.slice (some (ad (w.heap.size + 1) 0)) 0 0) :=
  ⟨⟨_, _, [], [], _, _, [], [], jpb KN TN (nlr _), rfl, nlr _, jpb KW TW (by omega), rfl, nlr _, fun g h1 h2 => by (have := jwq h1; have := jwq h2; omega)⟩, ⟨_, 0, 0, rfl, jad O2 tA, rfl, nlr _⟩, jad uH tA, A2.below tA, (qtr b2 tA), by rw [z4]; omega⟩
 have rT : Hid (Jn s w w4 B B (B + 1) w.heap.size a b c d e f ca cb cc cd ce cf (stL s a b c d e f va ia ca cb cc cd ce cf cv ci) L (.slice pl nl cl) (entF (momS s) (L.take 0)) 0 (.slice (some (ad (w.heap.size + 1) 0)) 0 0)) := by simp only [Hid]; rw [<- dS]; exact bC
 have HA := hid GV
 have ja : w.heap.size < B := by omega
 have yS := hid gE
 clear bC KN KW TN TW GV tA br uH O2 A2 b2 ac A1 O1 b1 z1 mh jz lx gE z4
 go_wp2
 rw [HA.out]
 clear HA
 try simp only [dS]
 clear dS et y1 y2 y3 y4 y5 y6
 go_loopw [3, 7, 8, 9] (fun s3 s7 _ _ wr => ∃ i : Nat, i <= nl /\ s7 = iv i /\ Hid (Jn s w wr B B (B + 1) w.heap.size a b c d e f ca cb cc cd ce cf (stL s a b c d e f va ia ca cb cc cd ce cf cv ci) L (.slice pl nl cl) (entF (momS s) (L.take i)) i s3)) (fun _ s7 _ _ _ => nl - (intOf s7).toNat)
 case atStart => exact ⟨0, by omega, rfl, rT⟩
 case round =>
  obtain ⟨wa, eW⟩ := qea wr
  subst eW
  obtain ⟨i, hi, rfl, HR⟩ := hrel
  clear rT
  obtain ⟨go, mo, co, Cx, uJ, jo, yd⟩ := HR.out.own
  subst Cx
  by_cases hlt : i < nl
  ·have i1 : (i : Int) < (nl : Int) := by omega
   have i0 : (0 : Int) <= (i : Int) := by omega
   obtain ⟨gl, rfl⟩ := yS.out (by omega)
   obtain ⟨ev, qA⟩ : ∃ x, L[i]? = some x := ⟨_, lgg (by have := nL.out; omega)⟩
   have hR := nZ ev (lmg qA)
   have HT : Hid (entF (momS s) (L.take (i + 1)) = entAdd (momS s) (entF (momS s) (L.take i)) ev) := jxj qA
   have If := hid qA
   obtain ⟨c0, c1, c2, c3, c4, c5⟩ := jmm HR.out.live qA
   have s7 := HR.out.sv.c 7 (u := iv s.cur) rfl
   have Ov := hid uJ
   have Gb : mo <= 1000 := by have h1 := jmn (momS s) (L.take i); rw [List.length_take] at h1; omega
   have HC : Hid (∀ wx, Jn s w wx B B (B + 1) w.heap.size a b c d e f ca cb cc cd ce cf (stL s a b c d e f va ia ca cb cc cd ce cf cv ci) L (so gl nl cl) (entF (momS s) (L.take i)) i (so go mo co) -> (∀ zv tv zs ts, Zk wx B B s.now a b c ca cb cc zv tv zs ts -> ts.length = zs.length -> zs.length <= i -> Cl 89 #[.pointer (some (ad B 0)), ev.v] wx (InstP B B s.now a b c ca cb cc zv tv zs ev wx)) /\ (∀ zv tv zs ts, Zk wx B (B + 1) s.was d e f cd ce cf zv tv zs ts -> ts.length = zs.length -> zs.length <= i -> Cl 89 #[.pointer (some (ad (B + 1) 0)), ev.v] wx (InstP B (B + 1) s.was d e f cd ce cf zv tv zs ev wx))) := fun wx h => ⟨fun zv tv zs ts k1 k2 k3 => jgu w B B s.now a b c ca cb cc zv tv zs ts ev wx HN.out h.bel (by omega) h.lo ok.now qL k1 k2 (by omega) hR, fun zv tv zs ts k1 k2 k3 => jgu w B (B + 1) s.was d e f cd ce cf zv tv zs ts ev wx HW.out h.bel (by omega) h.lo ok.was dA k1 k2 (by omega) hR⟩
   have li : Hid (∀ wx, Jn s w wx B B (B + 1) w.heap.size a b c d e f ca cb cc cd ce cf (stL s a b c d e f va ia ca cb cc cd ce cf cv ci) L (so gl nl cl) (entF (momS s) (L.take i)) (i + 1) (so go mo co) -> wx.cell? (ad gl (i * 6)) = some (iv ev.id)) := fun wx h => (jmm h.live If.out).1
   clear qA hR uJ nZ
   go_upto_region 9 with fail
   go_cut [40] from 28 to 39 (fun MM wx => ∃ (bo : Bool) (nq : Nat), MM = .bool bo /\ wx = wa.drewN nq /\ Hid (momS s ev = if bo = true then momR s.was ev else momR s.now ev))
   case first =>
    by_cases h1 : s.cur = 0
    ·have HM : Hid (momS s ev = momR s.now ev) := jrt (.inl h1)
     rw [h1] at s7
     clear h1
     go_quiet (fail)
     go_wp2
     go_meet
     exact ⟨false, nq, rfl, rfl, HM.out⟩
    have Fo : (s.cur != 0) = true := by simp [h1]
    by_cases h2 : ev.id < s.cur
    ·have HM : Hid (momS s ev = momR s.now ev) := jrt (.inr h2)
     have tY : decide (s.cur <= ev.id) = false := by simp; omega
     clear h1 h2
     go_quiet (fail)
     go_wp2
     go_meet
     exact ⟨false, nq, rfl, rfl, HM.out⟩
    ·have HM : Hid (momS s ev = momR s.was ev) := jzk (fun h => h.elim h1 h2)
     have tY : decide (s.cur <= ev.id) = true := by simp; omega
     clear h1 h2
     go_quiet (fail)
     go_wp2
     go_meet
     exact ⟨true, nq, rfl, rfl, HM.out⟩
   case rest =>
    obtain ⟨bo, nq, rfl, rfl, xg⟩ := hcut
    have uP := HR.out.same (show Bw wa (wa.drewN nq) from ⟨rfl, rfl, rfl, nlr _, fun _ _ => rfl⟩)
    have d0 : (wa.drewN nq).cell? (ad gl (i * 6)) = some (iv ev.id) := c0
    have d1 : (wa.drewN nq).cell? (ad gl (i * 6 + 1)) = some (.string ev.name) := c1
    have d2 : (wa.drewN nq).cell? (ad gl (i * 6 + 2)) = some (.string ev.zone) := c2
    have d3 : (wa.drewN nq).cell? (ad gl (i * 6 + 3)) = some (iv ev.wall) := c3
    have d4 : (wa.drewN nq).cell? (ad gl (i * 6 + 4)) = some (iv ev.gap) := c4
    have d5 : (wa.drewN nq).cell? (ad gl (i * 6 + 5)) = some (iv ev.fold) := c5
    have ui := uP.ask_n (by omega) (by omega) ev (HC.out _ uP).1
    have uj := uP.ask_w (by omega) (by omega) ev (HC.out _ uP).2
    clear uP HC c0 c1 c2 c3 c4 c5 s7
    simp only [EventD.v] at ui uj
    generalize wa.drewN nq = wq at *
    cases bo
    ·have oX : Hid (momS s ev = momR s.now ev) := xg.out.trans (if_neg (by simp))
     obtain ⟨⟨M1, M2⟩, hM⟩ := qeb (momR s.now ev)
     rw [hM] at ui
     have HM : Hid (momS s ev = (M1, M2)) := by simp only [Hid]; rw [oX.out]; exact hM
     clear hM xg oX
     go_wp2_with fail
     refine ui.mono ?_
     rintro q w5 ⟨rfl, eG⟩
     have f0 := li.out w5 eG
     have jV := hidE eG
     clear eG ui uj d0 d1 d2 d3 d4 d5
     cases M2
     ·have rU : Hid (Jn s w w5 B B (B + 1) w.heap.size a b c d e f ca cb cc cd ce cf (stL s a b c d e f va ia ca cb cc cd ce cf cv ci) L (so gl nl cl) (entF (momS s) (L.take (i + 1))) (i + 1) (so go mo co)) := by
       simp only [Hid]
       rw [HT.out, entAdd, HM.out, if_neg (by simp)]
       exact jV.out
      go_wp2
      go_roundw
      case rel => exact ⟨i + 1, by omega, by go_num, rU⟩
      case measure => simp [intOf]; omega
     ·obtain ⟨g5, m5, k5, Cv, gN, qE, Cg⟩ := jV.out.own
      injection Cv with h1 h2 h3
      injection h1 with h1
      injection h1 with h1
      subst h1 h2 h3
      have kt := jh6 (entF (momS s) (L.take i)) ⟨M1, ev.id⟩ go mo co (w.heap.size + 1) w5 gN qE Cg Gb
      have yG := hidE qE
      clear gN qE
      go_wp2_with fail
      refine kt.mono ?_
      rintro q w6 ⟨g6, c6, rfl, qu, iN, hb6⟩
      have yT : Hid (Jn s w w6 B B (B + 1) w.heap.size a b c d e f ca cb cc cd ce cf (stL s a b c d e f va ia ca cb cc cd ce cf cv ci) L (so gl nl cl) (entF (momS s) (L.take (i + 1))) (i + 1) (so g6 (mo + 1) c6)) := by
       simp only [Hid]
       rw [HT.out, entAdd, HM.out, if_pos rfl]
       exact jV.out.below hb6 ⟨g6, mo + 1, c6, rfl, jak iN (Nat.le_trans (by omega) jV.out.lo), by rw [jbd, yG.out], qu⟩
      clear iN hb6 kt
      go_wp2
      go_roundw
      case rel => exact ⟨i + 1, by omega, by go_num, yT⟩
      case measure => simp [intOf]; omega
    ·have oX : Hid (momS s ev = momR s.was ev) := xg.out.trans (if_pos rfl)
     obtain ⟨⟨M1, M2⟩, hM⟩ := qeb (momR s.was ev)
     rw [hM] at uj
     have HM : Hid (momS s ev = (M1, M2)) := by simp only [Hid]; rw [oX.out]; exact hM
     clear hM xg oX
     go_wp2_with fail
     refine uj.mono ?_
     rintro q w5 ⟨rfl, eG⟩
     have f0 := li.out w5 eG
     have jV := hidE eG
     clear eG ui uj d0 d1 d2 d3 d4 d5
     cases M2
     ·have rU : Hid (Jn s w w5 B B (B + 1) w.heap.size a b c d e f ca cb cc cd ce cf (stL s a b c d e f va ia ca cb cc cd ce cf cv ci) L (so gl nl cl) (entF (momS s) (L.take (i + 1))) (i + 1) (so go mo co)) := by
       simp only [Hid]
       rw [HT.out, entAdd, HM.out, if_neg (by simp)]
       exact jV.out
      go_wp2
      go_roundw
      case rel => exact ⟨i + 1, by omega, by go_num, rU⟩
      case measure => simp [intOf]; omega
     ·obtain ⟨g5, m5, k5, Cv, gN, qE, Cg⟩ := jV.out.own
      injection Cv with h1 h2 h3
      injection h1 with h1
      injection h1 with h1
      subst h1 h2 h3
      have kt := jh6 (entF (momS s) (L.take i)) ⟨M1, ev.id⟩ go mo co (w.heap.size + 1) w5 gN qE Cg Gb
      have yG := hidE qE
      clear gN qE
      go_wp2_with fail
      refine kt.mono ?_
      rintro q w6 ⟨g6, c6, rfl, qu, iN, hb6⟩
      have yT : Hid (Jn s w w6 B B (B + 1) w.heap.size a b c d e f ca cb cc cd ce cf (stL s a b c d e f va ia ca cb cc cd ce cf cv ci) L (so gl nl cl) (entF (momS s) (L.take (i + 1))) (i + 1) (so g6 (mo + 1) c6)) := by
       simp only [Hid]
       rw [HT.out, entAdd, HM.out, if_pos rfl]
       exact jV.out.below hb6 ⟨g6, mo + 1, c6, rfl, jak iN (Nat.le_trans (by omega) jV.out.lo), by rw [jbd, yG.out], qu⟩
      clear iN hb6 kt
      go_wp2
      go_roundw
      case rel => exact ⟨i + 1, by omega, by go_num, yT⟩
      case measure => simp [intOf]; omega
  ·obtain rfl : i = nl := by omega
   have HF : Hid (Zl wa w.heap.size (so go mo co) (entF (momS s) L)) := by
    rw [List.take_of_length_le (by rw [nL.out]; exact nlr _)] at uJ
    exact jak uJ (by omega)
   have KA := HR.out.bel
   clear uJ
   go_wp2
   go_ret
   exact ⟨so go mo co, rfl, by rw [nJ.out]; exact HF.out, KA⟩
end
end Go.Proofs.YtgiieknbckhofaaGreatDoor
