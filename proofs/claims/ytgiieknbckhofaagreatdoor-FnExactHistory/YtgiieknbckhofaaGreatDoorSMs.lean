/- Packed. -/
import Derived.Test.YtgiieknbckhofaaGreatDoorSt37s
import Derived.Test.YtgiieknbckhofaaGreatDoorTsTs
set_option maxRecDepth 100000
set_option maxHeartbeats 20000000
set_option linter.unusedSimpArgs false
namespace Go.Proofs.YtgiieknbckhofaaGreatDoor
section
open Go.RowKit
theorem jmp {S S2 : Nat -> Prop} {w w1 w2 : World} (h : Fr S w w1) (h2 : Fr S2 w1 w2) (hs : ∀ b, b < w.heap.size -> S2 b -> S b) : Fr S w w2 :=
 ⟨h2.os.trans h.os, h2.tape.trans h.tape, h2.output.trans h.output, Nat.le_trans h.size h2.size, fun b hb hn => (h2.block b (Nat.lt_of_lt_of_le hb h.size) (fun e => hn (hs b hb e))).trans (h.block b hb hn)⟩
theorem jzy : ∃ i : TypeInfo, Tryz.prog.info? 9 = some i /\ i.zero = some (.string ⟨#[]⟩) /\ i.size = 1 /\ i.bytes = 16 := ⟨_, rfl, rfl, rfl, rfl⟩
theorem jzx : ∃ i : TypeInfo, Tryz.prog.info? 185 = some i /\ i.zero = some (.agg #[nS, iv 0]) /\ i.size = 2 /\ i.bytes = 32 := ⟨_, rfl, rfl, rfl, rfl⟩
theorem jnr {w : World} {base : Nat} {e : TypeId} {size : Nat} {v : Value} {n : Nat} {xs : List Value} (h : w.ownsRow base e size v n xs) : ∃ a c, v = .slice a n c /\ (0 < n -> ∃ g, a = some ⟨g, 0, none⟩) := by
 rcases h.2 with ⟨rfl, rfl⟩ | ⟨g, cap, cur, rfl, _⟩
 ·exact ⟨none, 0, rfl, fun h => by omega⟩
 ·exact ⟨_, cap, rfl, fun _ => ⟨g, rfl⟩⟩
theorem jyo {w : World} {B g n c : Nat} {ts : List TOut} (h : w.ownsRow B 185 2 (.slice (some ⟨g, 0, none⟩) n c) n (ts.map TOut.cs).flatten) {j : Nat} {t : TOut} (hj : ts[j]? = some t) (hn : ts.length = n) : w.cell? ⟨g, j * 2, none⟩ = some (.slice t.a t.n t.c) /\ w.cell? ⟨g, j * 2 + 1, none⟩ = some (iv t.code) := by
 have hl := (List.getElem?_eq_some_iff.1 hj).1
 have hr : (ts.map TOut.cs)[j]? = some t.cs := by rw [lgm, hj]; rfl
 have h0 := jbi jkw (i := j) (j := 0) hr rfl
 have h1 := jbi jkw (i := j) (j := 1) hr rfl
 exact ⟨by rw [h.cellAt (j * 2) (by omega)]; exact h0, by rw [h.cellAt (j * 2 + 1) (by omega)]; exact h1⟩
structure NewZ (w0 w wx : World) (B p : Nat) (r : RelD) (a b c : Option Addr) (ca cb cc : Nat) (zv tv : Value) (zs : List ByteArray) (ts : List TOut) (z : ByteArray) (E : List Value) (n : Nat) : Prop where
 ex : ∃ g1 aD, Zk wx B p r a b c ca cb cc (.slice (some ⟨g1, 0, none⟩) (n + 1) aD) tv (zs ++ [z]) ts /\ (zv.ownBlock = some g1 \/ w.heap.size <= g1)
 ev : Zg wx w.heap.size E
 fr : Fr (InC p zv tv) w wx
 bel : Bw w0 wx
 lo : B <= wx.heap.size
structure DoneC (w wx : World) (B p : Nat) (r : RelD) (a b c : Option Addr) (ca cb cc : Nat) (zv tv : Value) (zs : List ByteArray) (z : ByteArray) (E : List Value) (j : Nat) : Prop where
 ex : ∃ pO gt nt ct oq og t, Zk wx B p r a b c ca cb cc pO (.slice (some ⟨gt, 0, none⟩) nt ct) oq og /\ oq[j]? = some z /\ og[j]? = some t /\ og.length = nt /\ oq.length = nt /\ nt <= zs.length + 1 /\ ∀ g, InC p pO (.slice (some ⟨gt, 0, none⟩) nt ct) g -> InC p zv tv g \/ w.heap.size <= g
 ev : Zg wx w.heap.size E
 fr : Fr (InC p zv tv) w wx
structure EvR (e : EventD) : Prop where
 zone : e.zone.size <= 8000
 w1 : -62135596800 <= e.wall
 w2 : e.wall <= 253402300799
 g1 : 0 <= e.gap
 g2 : e.gap <= 2
 f1 : 0 <= e.fold
 f2 : e.fold <= 2
theorem jgw (w0 : World) (B p : Nat) (r : RelD) (a b c : Option Addr) (ca cb cc : Nat) (zv tv : Value) (zs : List ByteArray) (ts : List TOut) (ev : EventD) (w : World) (hv : Zd w0 (.agg #[.slice a r.rules.length ca, .slice b r.zones.length cb, .slice c r.links.length cc]) r) (bel : Bw w0 w) (ag : w0.heap.size <= B) (eW : B <= w.heap.size) (ok : Jq r) (hr : relB r = true) (hA : Zk w B p r a b c ca cb cc zv tv zs ts) (hl : ts.length = zs.length) (hn : zs.length <= 1000) (r9 : EvR ev) :
  Cl 89 #[.pointer (some ⟨p, 0, none⟩), ev.v] w (InstP B p r a b c ca cb cc zv tv zs ev w) := by
 obtain ⟨id, name, zone, wall, gap, fold⟩ := ev
 obtain ⟨k1, k2, k3, k4, k5, k6, k7⟩ := r9
 simp only [EventD.v] at *
 obtain ⟨pz, cz, rfl, wN⟩ := jnr hA.zo
 obtain ⟨pt, ct, rfl, lu⟩ := jnr hA.to_
 rw [hl] at lu
 have Hk := hA.zo
 have Dv := hA.to_
 rw [hl] at Dv hA ⊢
 obtain ⟨N, hN⟩ := qeb zs.length
 rw [hN] at hl hn wN lu Hk Dv hA ⊢
 have HN := hid hN
 have HL := hid hl
 clear hN hl
 have b0 : Bw w (w.alloc (.cells #[iv id, .string name, .string zone, iv wall, iv gap, iv fold] 79)) := qal _ _
 have E0 : Zg (w.alloc (.cells #[iv id, .string name, .string zone, iv wall, iv gap, iv fold] 79)) w.heap.size [iv id, .string name, .string zone, iv wall, iv gap, iv fold] := Zg.new w [iv id, .string name, .string zone, iv wall, iv gap, iv fold] 79
 have et := hA.below b0
 have wL := jkv hA.typ
 have HA := hid hA
 have HV := hid hv
 have ui := hid bel
 have Fq := hid wN
 have pR := hid lu
 clear hA hv bel wN lu Hk Dv
 go_enter Tryz.func89, Tryz.ntmps89
 go_wp2
 have dN : (w.alloc (.cells #[iv id, .string name, .string zone, iv wall, iv gap, iv fold] 79)).heap.size = w.heap.size + 1 := by simp
 generalize (w.alloc (.cells #[iv id, .string name, .string zone, iv wall, iv gap, iv fold] 79)) = wA at *
 have yB := hid dN
 clear dN
 go_loopw [6, 7] (fun s6 s7 wr => ∃ i : Nat, i <= N /\ s7 = iv i /\ s6 = iv (jet zs zone i) /\ Bw wA wr) (fun _ s7 _ => N - (intOf s7).toNat)
 case atStart => exact ⟨0, by omega, rfl, rfl, brf _ _⟩
 case round =>
  obtain ⟨wa, dY⟩ := qea wr
  subst dY
  obtain ⟨i, hi, rfl, rfl, aH⟩ := hrel
  have gn := et.below aH
  have Er := E0.below aH
  have p3 := gn.v.c 3 (u := (.slice pz N cz)) rfl
  have e2 := Er.c 2 (u := .string zone) rfl
  by_cases hlt : i < N
  ·have i1 : (i : Int) < (N : Int) := by omega
   have i0 : (0 : Int) <= (i : Int) := by omega
   obtain ⟨y, hy⟩ : ∃ y, zs[i]? = some y := ⟨_, lgg (by have := HN.out; omega)⟩
   obtain ⟨gz, rfl⟩ := Fq.out (by omega)
   have DK := gn.zo
   rw [HN.out] at DK
   have y0 : wa.cell? ⟨gz, i, none⟩ = some (.string y) := by rw [DK.cellAt i (by omega), lgm, hy]; rfl
   have yr := hid aH
   have HY := hid hy
   clear hy DK gn Er aH et E0
   cases hb : (y.toList == zone.toList)
   ·have HK : Hid (jet zs zone (i + 1) = jet zs zone i) := jsb HY.out hb
    generalize jet zs zone i = k0 at *
    go_wp2_with fail
    go_quiet (fail)
    go_wp2
    go_roundw
    case rel => exact ⟨i + 1, by omega, by go_num, by rw [HK.out], yr.out.trans (⟨rfl, rfl, rfl, nlr _, fun _ _ => rfl⟩)⟩
    case measure => simp [intOf]; omega
   ·have HK : Hid (jet zs zone (i + 1) = i) := joi HY.out hb
    generalize jet zs zone i = k0 at *
    go_wp2_with fail
    go_quiet (fail)
    go_wp2
    go_roundw
    case rel => exact ⟨i + 1, by omega, by go_num, by rw [HK.out], yr.out.trans (⟨rfl, rfl, rfl, nlr _, fun _ _ => rfl⟩)⟩
    case measure => simp [intOf]; omega
  ·obtain rfl : i = N := by omega
   have dO : Bw w wa := b0.trans (aH.mono (by have := yB.out; omega))
   have ur := hid dO
   have pP := hid gn
   have zJ := hid Er
   have Hb : p < wa.heap.size := jkv gn.typ
   have vZ : w.heap.size < wa.heap.size := qbl e2
   have KQ : B <= wa.heap.size := Nat.le_trans eW dO.size
   have PB := wL
   have lY := hid e2
   clear dO aH gn Er et E0 b0 wL e2
   go_upto_if 30 with fail
   go_cut [6] from 29 to 62 (fun s6 wx => ∃ j : Nat, s6 = iv j /\ DoneC w wx B p r a b c ca cb cc (.slice pz i cz) (.slice pt i ct) zs zone [iv id, .string name, .string zone, iv wall, iv gap, iv fold] j)
   case first =>
    rcases jmf zs zone i with h | ⟨j, h, hj⟩
    ·rw [h]
     clear h
     obtain ⟨is, Lt, dN, cH, eG⟩ := jzy
     obtain ⟨it, tj, LX, LY, eQ⟩ := jzx
     have ba : ∀ o, Bw wa (wa.drew.alloc o) := fun o => (show Bw wa wa.drew from jab wa).alloc (nlr _) o
     have Gz : wa.ownsRow B 9 1 (.slice pz i cz) i (zs.map Value.string) := by have := pP.out.zo; rw [HN.out] at this; exact this
     have Hz := pP.out.v.f 3 (u := .slice pz i cz) rfl
     have e2 := lY.out
     have aC : some p ≠ (Value.slice pz i cz).ownBlock := jgx pP.out.zo pP.out.typ (by decide)
     have pm : some w.heap.size ≠ (Value.slice pz i cz).ownBlock := fun e => by have := (World.ownsRow.lt HA.out.zo _ e.symm).2; omega
     go_upto_region 9 with fail
     go_cut [] from 36 to 46 (fun wx => NewZ w0 w wx B p r a b c ca cb cc (.slice pz i cz) (.slice pt i ct) zs ts zone [iv id, .string name, .string zone, iv wall, iv gap, iv fold] i)
     case first =>
      go_region_law (refine step_append_lies _ (by rfl) (.tmp 40) (.tmp 43) 140 (by rfl) B 9 is (.string ⟨#[]⟩) 1 16 Tryz.underlying140 Lt dN cH eG rfl (by omega) (.slice pz i cz) i (zs.map Value.string) (by rfl) (woa (w := wa.drew) Gz _) ⟨wa.heap.size, 0, none⟩ 1 1 [.string zone] (by rfl) rfl (jaf _ _ _) (by intro u hu; simp at hu; subst hu; rfl) (by omega) (by unfold maxLen; omega) (by omega) (by simp; omega) _ rfl ?_; intro g1 aD w2 aw af bI hlt1; have r1 := af.cell (a := ⟨p, 3, none⟩) (jaa (ba _) p3) aC; have r2 := (af.frozen_far ⟨p, 3, none⟩ (by simp; omega) aC).trans (((jag (ba _)).2 _ _ Hb).trans Hz))
      all_goals
       have h3 := (pP.out.below (ba _)).pushZ (by rw [HL.out, HN.out]) af (by rw [HN.out]; exact aw)
       have f1 : Fr (InC p (.slice pz i cz) (.slice pt i ct)) w (wa.drew.alloc (.cells #[.string zone] 9)) := Fr.of_below (ur.out.trans ((ba _).mono ur.out.size))
       have f2 := jmp f1 h3.2 (fun _ _ h => h)
       have HZ : Hid (NewZ w0 w (w2.setCell ⟨p, 3, none⟩ (.slice (some ⟨g1, 0, none⟩) (i + 1) aD)) B p r a b c ca cb cc (.slice pz i cz) (.slice pt i ct) zs ts zone [iv id, .string name, .string zone, iv wall, iv gap, iv fold] i) := by
        refine ⟨⟨g1, aD, h3.1, bI.imp_right fun e => ?_⟩, ?_, f2, ?_, ?_⟩
        ·rw [e]; exact Nat.le_trans ur.out.size (ba (.cells #[.string zone] 9)).size
        ·exact ((zJ.out.below (ba _)).fr (Fr.of_grown af) (fun e => pm e.symm)).other (by omega) _
        ·exact ui.out.trans (f2.below (fun g hg => Nat.le_trans ag (HA.out.low hg)) ui.out.size)
        ·exact Nat.le_trans eW f2.size
       clear h3 f1 f2 aw af bI hlt1 r1 r2
       go_wp2
       go_meet
       exact HZ.out
     case rest =>
      obtain ⟨w3, gR⟩ := qea wc
      subst gR
      obtain ⟨g1, aD, kI, cV⟩ := hcut.ex
      have E3 := hcut.ev
      have yt := hid hcut.fr
      have ar := hcut.bel
      have jL := hcut.lo
      clear hcut
      have z0 := kI.v.c 0 (u := .slice a r.rules.length ca) rfl
      have z1 := kI.v.c 1 (u := .slice b r.zones.length cb) rfl
      have z2 := kI.v.c 2 (u := .slice c r.links.length cc) rfl
      have z4 := kI.v.c 4 (u := .slice pt i ct) rfl
      have Ow := kI.v.f 4 (u := .slice pt i ct) rfl
      have y2 := E3.c 2 (u := .string zone) rfl
      have hC := jtc tabC r (.agg #[.slice a r.rules.length ca, .slice b r.zones.length cb, .slice c r.links.length cc]) zone w3.drew (HV.out.below (ar.trans ((jab w3).mono ar.size))) ok.sm ok.on k1 hr
      have Iv := hid kI
      have zI := hid E3
      have Fi := hid cV
      have eP : w3.ownsRow B 185 2 (.slice pt i ct) i (ts.map TOut.cs).flatten := by have := kI.to_; rw [HL.out] at this; exact this
      have nG : some p ≠ (Value.slice pt i ct).ownBlock := jgx kI.to_ kI.typ (by decide)
      have Ha : p < w3.heap.size := jkv kI.typ
      have d0 : w3.drew.cell? ⟨p, 0, none⟩ = some (.slice a r.rules.length ca) := z0
      have d1 : w3.drew.cell? ⟨p, 1, none⟩ = some (.slice b r.zones.length cb) := z1
      have d2 : w3.drew.cell? ⟨p, 2, none⟩ = some (.slice c r.links.length cc) := z2
      have d4 : w3.drew.cell? ⟨p, 4, none⟩ = some (.slice pt i ct) := z4
      have dy : w3.drew.cell? ⟨w.heap.size, 2, none⟩ = some (.string zone) := y2
      have Hc : p ≠ w.heap.size := by omega
      clear kI E3 cV ar p3 e2 Hz Gz ba aC pm
      go_wp2_with fail
      go_region_law (first | (go_simp; go_at_call 122; refine hC.mono ?_; rintro q w7 fp; obtain ⟨v7, zk, cr, ax⟩ := fp.ex; obtain ⟨a7, m7, d7, rfl⟩ := jac cr; obtain ⟨k9, GO⟩ := qeb ((tabD r zone).1); rw [GO] at zk; subst zk; clear fp; have m0 := jaa ax d0; have m1 := jaa ax d1; have m2 := jaa ax d2; have m4 := jaa ax d4; have my := jaa ax dy; have Mr := ((jag ax).2 _ _ Ha).trans Ow; have ka := jad eP (show Bw w3 w7 from (jab w3).trans (ax.mono (nlr _))); have fj : w3.heap.size <= w7.heap.size := ax.size; have Dm : p < w7.heap.size := Nat.lt_of_lt_of_le Ha fj; have oF := qal w7 (.cells #[.slice a7 m7 d7, iv k9] 185); have PP := jaa oF m4) | (refine step_append_lies _ (by rfl) (.tmp 51) (.tmp 59) 153 (by rfl) B 185 it (.agg #[nS, iv 0]) 2 32 Tryz.underlying153 tj LX LY eQ rfl (by omega) (.slice pt i ct) i (ts.map TOut.cs).flatten (by rfl) (woa (w := w7) ka _) ⟨w7.heap.size, 0, none⟩ 1 1 [.slice a7 m7 d7, iv k9] (by rfl) rfl (jaf _ _ _) (by intro u hu; simp at hu; rcases hu with rfl | rfl <;> rfl) (by omega) (by unfold maxLen; omega) (by omega) (by simp; omega) _ rfl ?_; intro g2 bP w8 av af bI hlt2; have s1 := af.cell (a := ⟨p, 4, none⟩) (jaa oF m4) nG; have s2 := (af.frozen_far ⟨p, 4, none⟩ (by simp; omega) nG).trans (((jag oF).2 _ _ Dm).trans Mr)))
      all_goals
       have zm : Bw w3 w7 := (jab w3).trans (ax.mono (nlr _))
       have FJ := (Iv.out.below zm).below oF
       have G1 : Jh w7 ⟨a7, m7, d7, k9⟩ (tabD r zone) := by have h := ju8 (x := tabD r zone) cr; rw [GO] at h; exact h
       have h3 := FJ.pushT (t := ⟨a7, m7, d7, k9⟩) (by rw [HL.out, HN.out]) (G1.below oF) af (by rw [HL.out]; exact av)
       have f3 := jmp (jmp yt.out (Fr.of_below (S := fun _ => False) (qtr zm oF)) (fun _ _ h => h.elim)) h3.2 (fun g hg h => by
        rcases h with h | h | h
        ·exact .inl h
        ·injection h with h
         have h : g1 = g := h
         subst h
         rcases Fi.out with h2 | h2
         ·exact .inr (.inl h2)
         ·omega
        ·exact .inr (.inr h))
       have HD : Hid (DoneC w (w8.setCell ⟨p, 4, none⟩ (.slice (some ⟨g2, 0, none⟩) (i + 1) bP)) B p r a b c ca cb cc (.slice pz i cz) (.slice pt i ct) zs zone [iv id, .string name, .string zone, iv wall, iv gap, iv fold] i) := by
        refine ⟨⟨.slice (some ⟨g1, 0, none⟩) (i + 1) aD, g2, i + 1, bP, zs ++ [zone], ts ++ [⟨a7, m7, d7, k9⟩], ⟨a7, m7, d7, k9⟩, h3.1, ?_, ?_, by rw [lla, HL.out]; rfl, by rw [lla, HN.out]; rfl, by rw [HN.out]; omega, fun g hg => ?_⟩, ?_, f3⟩
        ·rw [List.getElem?_append_right (by rw [HN.out]; omega), HN.out, Nat.sub_self]; rfl
        ·rw [List.getElem?_append_right (by rw [HL.out]; omega), HL.out, Nat.sub_self]; rfl
        ·rcases hg with hg | hg | hg
         ·exact .inl (.inl hg)
         ·injection hg with hg
          have hg : g1 = g := hg
          subst hg
          exact Fi.out.imp (fun h => .inr (.inl h)) (fun h => h)
         ·injection hg with hg
          have hg : g2 = g := hg
          subst hg
          refine bI.imp (fun h => .inr (.inr h)) (fun h => ?_)
          rw [h]
          exact Nat.le_trans (Nat.le_trans yt.out.size fj) oF.size
        ·refine Zg.other (Zg.fr ((zI.out.below zm).below oF) (Fr.of_grown af) (fun e => ?_)) (by omega) _
         have := (World.ownsRow.lt HA.out.to_ _ e).2
         omega
       clear h3 f3 FJ G1 zm av af bI hlt2 s1 s2 cr ax ka
       go_wp2
       go_meet
       exact ⟨i, rfl, HD.out⟩
    ·rw [h]
     clear h
     have Lv : j < i := by have h1 := (List.getElem?_eq_some_iff.1 hj).1; have := HN.out; omega
     obtain ⟨t, tw⟩ : ∃ t, ts[j]? = some t := ⟨_, lgg (by have := HL.out; omega)⟩
     obtain ⟨gt, rfl⟩ := pR.out (by omega)
     have j2 : ¬ (j : Int) < 0 := by omega
     have HD : Hid (DoneC w wa B p r a b c ca cb cc (.slice pz i cz) (.slice (some ⟨gt, 0, none⟩) i ct) zs zone [iv id, .string name, .string zone, iv wall, iv gap, iv fold] j) := ⟨⟨_, gt, i, ct, zs, ts, t, pP.out, hj, tw, HL.out, HN.out, by have := HN.out; omega, fun g hg => .inl hg⟩, zJ.out, Fr.of_below ur.out⟩
     clear hj tw
     go_wp2
     go_meet
     exact ⟨j, rfl, HD.out⟩
   case rest =>
    obtain ⟨j, rfl, hcut⟩ := hcut
    obtain ⟨wt, Mc⟩ := qea wc
    subst Mc
    obtain ⟨pO, gt, nt, Aj, oq, og, ⟨ta, tn, tc, tk⟩, cU, hj, tw, fS, aF, gX, hin⟩ := hcut.ex
    have Er := hcut.ev
    have zK := hid hcut.fr
    clear hcut
    have Lv : j < nt := by have h1 := (List.getElem?_eq_some_iff.1 hj).1; omega
    have Dw := cU.to_
    rw [fS] at Dw
    obtain ⟨r0, r1⟩ := jyo Dw tw fS
    dsimp only at r0 r1
    have oD : Hid (Jh wt ⟨ta, tn, tc, tk⟩ (tabD r zone)) := cU.tab j zone _ hj tw
    have q4 := cU.v.c 4 (u := .slice (some ⟨gt, 0, none⟩) nt Aj) rfl
    have e3 := Er.c 3 (u := iv wall) rfl
    have e4 := Er.c 4 (u := iv gap) rfl
    have e5 := Er.c 5 (u := iv fold) rfl
    have j1 : (j : Int) < (nt : Int) := by omega
    have j0 : (0 : Int) <= (j : Int) := by omega
    have un : Hid (∀ w' n7 b7, Bw wt w' -> momR r ⟨id, name, zone, wall, gap, fold⟩ = (n7, b7) -> InstP B p r a b c ca cb cc (.slice pz i cz) (.slice pt i ct) zs ⟨id, name, zone, wall, gap, fold⟩ w (.returned (.tuple #[iv n7, .bool b7])) w') := fun w' n7 b7 hb hm => by
     exact ⟨by rw [hm], ⟨pO, .slice (some ⟨gt, 0, none⟩) nt Aj, oq, og, cU.below hb, by omega, by omega, hin⟩, jmp zK.out (Fr.of_below (S := fun _ => False) hb) (fun _ _ h => h.elim)⟩
    clear cU Er Dw hj tw hin fS aF gX p3 Hb vZ pP zJ ur lY Fq pR HA
    by_cases hk : tk = 0
    ·subst hk
     have hd : (tabD r zone).1 = 0 := oD.out.code.symm
     have py := (jnc hd).2.2.2.right
     have HM : Hid (momR r ⟨id, name, zone, wall, gap, fold⟩ = ((resR (tabD r zone).2 wall gap fold).1, decide ((resR (tabD r zone).2 wall gap fold).2 = 0))) := by
      simp only [Hid]
      unfold momR
      rw [jr0 hd, jrt py (jmg k2 k3) (jmg k4 k5) (jmg k6 k7)]
     have jN := oD.out.n
     have jm := oD.out.seq
     dsimp only at jN jm
     obtain ⟨l, iC⟩ := qeb ((tabD r zone).2)
     rw [iC] at py HM jN jm
     subst jN
     clear iC hd
     have hR := fun W h => jid l (.agg #[.slice ta l.length tc]) wall gap fold W h (j02 py) k2 k3 k4 k5 k6 k7
     have bA := jab wt
     have bB : Bw wt (wt.alloc (.cells #[iv 0, iv 0] 188)).drew := (qal wt _).trans ((jab _).mono (by simp))
     have TA : Ja wt.drew (.agg #[.slice ta l.length tc]) l := ⟨ta, tc, rfl, jm.below bA⟩
     have TB : Ja (wt.alloc (.cells #[iv 0, iv 0] 188)).drew (.agg #[.slice ta l.length tc]) l := ⟨ta, tc, rfl, jm.below bB⟩
     obtain ⟨⟨n7, c7⟩, tq⟩ := qeb (resR l wall gap fold)
     rw [tq] at hR HM
     simp only [outV] at hR
     clear tq jm py
     have Ed := jaa bA q4
     have Ee := jaa bB q4
     have := World.new_ne wt _ q4
     have Eg := jaa bA r0
     have Eh := jaa bB r0
     have := World.new_ne wt _ r0
     have AQ := jaa bA e3
     have AR := jaa bB e3
     have := World.new_ne wt _ e3
     have AT := jaa bA e4
     have AU := jaa bB e4
     have := World.new_ne wt _ e4
     have AW := jaa bA e5
     have AX := jaa bB e5
     have := World.new_ne wt _ e5
     obtain ⟨zA, zB, Bh, Bi⟩ : (fun z : World => z.cell? ⟨wt.heap.size, 0, none⟩ = some (iv 0) /\ z.cell? ⟨wt.heap.size, 1, none⟩ = some (iv 0) /\ z.frozen? ⟨wt.heap.size, 0, none⟩ = false /\ z.frozen? ⟨wt.heap.size, 1, none⟩ = false) ((wt.alloc (.cells #[iv 0, iv 0] 188)).drew) := by simp [go_sem]
     go_wp2_with fail
     go_region_held3 (fun w' => w'.cell? ⟨p, 4, none⟩ = some (.slice (some ⟨gt, 0, none⟩) (nt) Aj) /\ w'.cell? ⟨gt, j * 2, none⟩ = some (.slice ta l.length tc) /\ w'.cell? ⟨w.heap.size, 3, none⟩ = some (iv wall) /\ w'.cell? ⟨w.heap.size, 4, none⟩ = some (iv gap) /\ w'.cell? ⟨w.heap.size, 5, none⟩ = some (iv fold)) (go_keep) (first | (go_at_call 123; refine (hR _ TA).mono ?_; rintro q w7 ⟨rfl, ax⟩; have dI := qtr bA ax; have Ec := jaa ax Ed; have Ef := jaa ax Eg; have AP := jaa ax AQ; have AS := jaa ax AT; have AV := jaa ax AW) | (go_at_call 123; refine (hR _ TB).mono ?_; rintro q w7 ⟨rfl, ax⟩; have dI := qtr bB ax; have Ec := jaa ax Ee; have Ef := jaa ax Eh; have AP := jaa ax AR; have AS := jaa ax AU; have AV := jaa ax AX; have yb := jaa ax zA; have yc := jaa ax zB; have kF := qfz ax zA Bh; have kG := qfz ax zB Bi))
     ·skip
      have B9 : Bw wt (w7.alloc (.cells #[iv n7, iv c7] 188)) := dI.alloc dI.size _
      obtain ⟨t0, t1⟩ : (fun z : World => z.cell? ⟨w7.heap.size, 0, none⟩ = some (iv n7) /\ z.cell? ⟨w7.heap.size, 1, none⟩ = some (iv c7)) (w7.alloc (.cells #[iv n7, iv c7] 188)) := by simp [go_sem]
      have lX := hid B9
      clear B9 dI ax
      clear hR TA TB Ec Ed Ee Ef Eg Eh AP AQ AR AS AT AU AV AW AX zA zB Bh Bi bA bB
      generalize (w7.alloc (.cells #[iv n7, iv c7] 188)) = w9 at *
      by_cases hc : c7 = 0
      ·subst hc
       go_wp2_with fail
       go_quiet (fail)
       go_wp2
       go_ret2
       exact un.out _ _ _ (lX.out.trans (⟨rfl, rfl, rfl, nlr _, fun _ _ => rfl⟩)) (by rw [HM.out]; rfl)
      ·have cZ : (c7 == 0) = false := by simp [hc]
       go_wp2_with fail
       go_quiet (fail)
       go_wp2
       go_ret2
       exact un.out _ _ _ (lX.out.trans (⟨rfl, rfl, rfl, nlr _, fun _ _ => rfl⟩)) (by rw [HM.out, dfe hc])
     ·skip
      have B9 : Bw wt ((w7.setCell ⟨wt.heap.size, 0, none⟩ (iv n7)).setCell ⟨wt.heap.size, 1, none⟩ (iv c7)) := (dI.setCell (nlr _) _).setCell (nlr _) _
      obtain ⟨t0, t1⟩ := jav (v0 := iv n7) (v1 := iv c7) yb yc
      have lX := hid B9
      clear B9 dI ax
      clear hR TA TB Ec Ed Ee Ef Eg Eh AP AQ AR AS AT AU AV AW AX zA zB Bh Bi bA bB yb yc kF kG
      generalize ((w7.setCell ⟨wt.heap.size, 0, none⟩ (iv n7)).setCell ⟨wt.heap.size, 1, none⟩ (iv c7)) = w9 at *
      by_cases hc : c7 = 0
      ·subst hc
       go_wp2_with fail
       go_quiet (fail)
       go_wp2
       go_ret2
       exact un.out _ _ _ (lX.out.trans (⟨rfl, rfl, rfl, nlr _, fun _ _ => rfl⟩)) (by rw [HM.out]; rfl)
      ·have cZ : (c7 == 0) = false := by simp [hc]
       go_wp2_with fail
       go_quiet (fail)
       go_wp2
       go_ret2
       exact un.out _ _ _ (lX.out.trans (⟨rfl, rfl, rfl, nlr _, fun _ _ => rfl⟩)) (by rw [HM.out, dfe hc])
    ·have f8 : (tk == 0) = false := by simp [hk]
     go_wp2
     go_ret2
     exact un.out _ _ _ (brf _ _) (by unfold momR; rw [jv8 (by rw [<- oD.out.code]; exact hk)])
end
section
open Go.RowKit
structure Jo (s : StoreD) (w wr : World) (B pn pw h : Nat) (a b c d e f : Option Addr) (ca cb cc cd ce cf : Nat) (V : List Value) (L : List EventD) (lv : Value) (X : List EntryD) (i : Nat) (out : Value) : Prop where
 ex : ∃ ov oj ot pL ow ol ou pM, Zk wr B pn s.now a b c ca cb cc ov oj ot pL /\ pL.length = ot.length /\ ot.length <= i /\ Zk wr B pw s.was d e f cd ce cf ow ol ou pM /\ pM.length = ou.length /\ ou.length <= i /\ ∀ g, InC pn ov oj g -> ¬ InC pw ow ol g
 own : ∃ g m k, out = .slice (some ⟨g, 0, none⟩) m k /\ Zl wr (h + 1) out X /\ X.length = m /\ m <= k
 live : Zn wr (h + 1) lv L
 sv : Zg wr h V
 bel : Bw w wr
 lo : B <= wr.heap.size
theorem Jo.below {s : StoreD} {w wr tZ : World} {B pn pw h : Nat} {a b c d e f : Option Addr} {ca cb cc cd ce cf : Nat} {V : List Value} {L : List EventD} {lv : Value} {X X2 : List EntryD} {i : Nat} {out rI : Value} (hR : Jo s w wr B pn pw h a b c d e f ca cb cc cd ce cf V L lv X i out) (hb : Bw wr tZ) (ho : ∃ g m k, rI = .slice (some ⟨g, 0, none⟩) m k /\ Zl tZ (h + 1) rI X2 /\ X2.length = m /\ m <= k) : Jo s w tZ B pn pw h a b c d e f ca cb cc cd ce cf V L lv X2 i rI := by
 obtain ⟨ov, oj, ot, pL, ow, ol, ou, pM, h1, h2, h3, h4, h5, h6, h7⟩ := hR.ex
 exact ⟨⟨ov, oj, ot, pL, ow, ol, ou, pM, h1.below hb, h2, h3, h4.below hb, h5, h6, h7⟩, ho, jad hR.live hb, hR.sv.below hb, hR.bel.trans (hb.mono hR.bel.size), Nat.le_trans hR.lo hb.size⟩
theorem Jo.same {s : StoreD} {w wr tZ : World} {B pn pw h : Nat} {a b c d e f : Option Addr} {ca cb cc cd ce cf : Nat} {V : List Value} {L : List EventD} {lv : Value} {X : List EntryD} {i : Nat} {out : Value} (hR : Jo s w wr B pn pw h a b c d e f ca cb cc cd ce cf V L lv X i out) (hb : Bw wr tZ) : Jo s w tZ B pn pw h a b c d e f ca cb cc cd ce cf V L lv X i out := by
 obtain ⟨g, m, k, h1, h2, h3⟩ := hR.own
 exact hR.below hb ⟨g, m, k, h1, jad h2 hb, h3⟩
theorem Jo.ask_n {s : StoreD} {w wr : World} {B pn pw h : Nat} {a b c d e f : Option Addr} {ca cb cc cd ce cf : Nat} {V : List Value} {L : List EventD} {lv : Value} {X : List EntryD} {i : Nat} {out : Value} (hR : Jo s w wr B pn pw h a b c d e f ca cb cc cd ce cf V L lv X i out) (hh : h < B) (jn : w.heap.size <= B) (ev : EventD)
  (hC : ∀ zv tv zs ts, Zk wr B pn s.now a b c ca cb cc zv tv zs ts -> ts.length = zs.length -> zs.length <= i -> Cl 89 #[.pointer (some ⟨pn, 0, none⟩), ev.v] wr (InstP B pn s.now a b c ca cb cc zv tv zs ev wr)) :
  Cl 89 #[.pointer (some ⟨pn, 0, none⟩), ev.v] wr fun q w2 => q = .returned (.tuple #[iv (momR s.now ev).1, .bool (momR s.now ev).2]) /\ Jo s w w2 B pn pw h a b c d e f ca cb cc cd ce cf V L lv X (i + 1) out := by
 obtain ⟨ov, oj, ot, pL, ow, ol, ou, pM, h1, h2, h3, h4, h5, h6, h7⟩ := hR.ex
 refine (hC ov oj ot pL h1 h2 h3).mono fun q w2 hP => ⟨hP.ex, ?_⟩
 have hf := hP.fr
 obtain ⟨pO, EF, oq, og, k1, k2, k3, k4⟩ := hP.cache
 obtain ⟨g, m, k, o1, o2, o3⟩ := hR.own
 have fP : ∀ g, (∃ cs, wr.heap[g]? = some (.cells cs 220 (0, 0))) -> ¬ InC pn ov oj g := fun g hg => h1.not hg (by decide) (by decide) (by decide)
 have vT := jc5 o2 hf (fun g hg => h1.not (jca o2 hg) (by decide) (by decide) (by decide))
 have Cp := jc5 hR.live hf (fun g hg => h1.not (jca hR.live hg) (by decide) (by decide) (by decide))
 have CF := hR.sv.fr hf (fun e => by have := h1.low e; omega)
 have dz : Bw w w2 := hR.bel.trans (hf.below (fun g hg => Nat.le_trans jn (h1.low hg)) hR.bel.size)
 have hO := h4.fr hf (fun g hg hx => h7 g hx hg) fP
 refine ⟨⟨pO, EF, oq, og, ow, ol, ou, pM, k1, k2, by omega, hO, h5, by omega, fun g hg hx => ?_⟩, ⟨g, m, k, o1, vT, o3⟩, Cp, CF, dz, Nat.le_trans hR.lo hf.size⟩
 rcases k4 g hg with hg | hg
 ·exact h7 g hg hx
 ·obtain ⟨t, ht, _⟩ := h4.kind hx
  have := jkv ht
  omega
theorem Jo.ask_w {s : StoreD} {w wr : World} {B pn pw h : Nat} {a b c d e f : Option Addr} {ca cb cc cd ce cf : Nat} {V : List Value} {L : List EventD} {lv : Value} {X : List EntryD} {i : Nat} {out : Value} (hR : Jo s w wr B pn pw h a b c d e f ca cb cc cd ce cf V L lv X i out) (hh : h < B) (jn : w.heap.size <= B) (ev : EventD)
  (hC : ∀ zv tv zs ts, Zk wr B pw s.was d e f cd ce cf zv tv zs ts -> ts.length = zs.length -> zs.length <= i -> Cl 89 #[.pointer (some ⟨pw, 0, none⟩), ev.v] wr (InstP B pw s.was d e f cd ce cf zv tv zs ev wr)) :
  Cl 89 #[.pointer (some ⟨pw, 0, none⟩), ev.v] wr fun q w2 => q = .returned (.tuple #[iv (momR s.was ev).1, .bool (momR s.was ev).2]) /\ Jo s w w2 B pn pw h a b c d e f ca cb cc cd ce cf V L lv X (i + 1) out := by
 obtain ⟨ov, oj, ot, pL, ow, ol, ou, pM, h1, h2, h3, h4, h5, h6, h7⟩ := hR.ex
 refine (hC ow ol ou pM h4 h5 h6).mono fun q w2 hP => ⟨hP.ex, ?_⟩
 have hf := hP.fr
 obtain ⟨pO, EF, oq, og, k1, k2, k3, k4⟩ := hP.cache
 obtain ⟨g, m, k, o1, o2, o3⟩ := hR.own
 have fP : ∀ g, (∃ cs, wr.heap[g]? = some (.cells cs 220 (0, 0))) -> ¬ InC pw ow ol g := fun g hg => h4.not hg (by decide) (by decide) (by decide)
 have vT := jc5 o2 hf (fun g hg => h4.not (jca o2 hg) (by decide) (by decide) (by decide))
 have Cp := jc5 hR.live hf (fun g hg => h4.not (jca hR.live hg) (by decide) (by decide) (by decide))
 have CF := hR.sv.fr hf (fun e => by have := h4.low e; omega)
 have dz : Bw w w2 := hR.bel.trans (hf.below (fun g hg => Nat.le_trans jn (h4.low hg)) hR.bel.size)
 have hO := h1.fr hf (fun g hg hx => h7 g hg hx) fP
 refine ⟨⟨ov, oj, ot, pL, pO, EF, oq, og, hO, h2, by omega, k1, k2, by omega, fun g hg hx => ?_⟩, ⟨g, m, k, o1, vT, o3⟩, Cp, CF, dz, Nat.le_trans hR.lo hf.size⟩
 rcases k4 g hx with hx | hx
 ·exact h7 g hg hx
 ·obtain ⟨t, ht, _⟩ := h1.kind hg
  have := jkv ht
  omega
theorem jr1 {s : StoreD} {e : EventD} (h : s.cur = 0 \/ e.id < s.cur) : momS s e = momR s.now e := if_pos h
theorem jzk {s : StoreD} {e : EventD} (h : ¬ (s.cur = 0 \/ e.id < s.cur)) : momS s e = momR s.was e := if_neg h
end
section
open Go.RowKit
theorem jpj {w2 : World} {B p : Nat} {r : RelD} {a b c : Option Addr} {ca cb cc : Nat} (hv : Zg w2 p [.slice a r.rules.length ca, .slice b r.zones.length cb, .slice c r.links.length cc, nS, nS]) (ht : ∃ cs, w2.heap[p]? = some (.cells cs 155 (0, 0))) (hp : B <= p) : Zk w2 B p r a b c ca cb cc nS nS [] [] :=
 ⟨hv, ht, hp, World.ownsRow_nil _ _ _ _, World.ownsRow_nil _ _ _ _, fun i z t hz => by simp at hz⟩
theorem hidE {p : Prop} (h : p) : Hid p := h
theorem jwt {p g : Nat} (h : InC p nS nS g) : g = p := by
 rcases h with h | h | h
 ·exact h
 ·cases h
 ·cases h
theorem jmr {w : World} {B g n c : Nat} {L : List EventD} (h : Zn w B (.slice (some ⟨g, 0, none⟩) n c) L) {i : Nat} {x : EventD} (hx : L[i]? = some x) : w.cell? ⟨g, i * 6, none⟩ = some (iv x.id) /\ w.cell? ⟨g, i * 6 + 1, none⟩ = some (.string x.name) /\ w.cell? ⟨g, i * 6 + 2, none⟩ = some (.string x.zone) /\ w.cell? ⟨g, i * 6 + 3, none⟩ = some (iv x.wall) /\ w.cell? ⟨g, i * 6 + 4, none⟩ = some (iv x.gap) /\ w.cell? ⟨g, i * 6 + 5, none⟩ = some (iv x.fold) := by
 have hr : (L.map EventD.cs)[i]? = some x.cs := by rw [lgm, hx]; rfl
 have hl : ∀ r ∈ L.map EventD.cs, r.length = 6 := fun r hr => by obtain ⟨y, _, rfl⟩ := List.mem_map.1 hr; rfl
 exact ⟨h.cell (jbi hl (i := i) (j := 0) hr rfl), h.cell (jbi hl (i := i) (j := 1) hr rfl), h.cell (jbi hl (i := i) (j := 2) hr rfl), h.cell (jbi hl (i := i) (j := 3) hr rfl), h.cell (jbi hl (i := i) (j := 4) hr rfl), h.cell (jbi hl (i := i) (j := 5) hr rfl)⟩
abbrev stL (s : StoreD) (a b c d e f va ia : Option Addr) (ca cb cc cd ce cf cv ci : Nat) : List Value :=
 [iv s.tx, .slice a s.now.rules.length ca, .slice b s.now.zones.length cb, .slice c s.now.links.length cc, .slice d s.was.rules.length cd, .slice e s.was.zones.length ce, .slice f s.was.links.length cf, iv s.cur, .slice va s.vs.length cv, .slice ia s.ix.length ci]
theorem j1b (w : World) (o p : Obj) : (w.alloc o).heap.size = w.heap.size + 1 /\ ((w.alloc o).alloc p).heap.size = w.heap.size + 1 + 1 /\ Bw w ((w.alloc o).alloc p) := ⟨by simp, by simp, (qal _ _).alloc (by simp) _⟩
theorem j1s (w : World) (L : List Value) (t : TypeId) : ∃ x, (w.alloc (.cells L.toArray t)).alloc (.cells #[] 101) = x /\ Bw w x /\ Zg x w.heap.size L /\ Zl x (w.heap.size + 1) (.slice (some ⟨w.heap.size + 1, 0, none⟩) 0 0) [] /\ x.heap.size = w.heap.size + 1 + 1 := by
 obtain ⟨e, z, b⟩ := j1b w (.cells L.toArray t) (.cells #[] 101)
 have h := jau (w.alloc (.cells L.toArray t)) 101 2
 rw [e] at h
 exact ⟨_, rfl, b, (Zg.new w L t).below (qal _ _), h, z⟩
theorem js4 (w : World) (L M : List Value) : ∃ x, (w.alloc (.cells L.toArray 155)).alloc (.cells M.toArray 155) = x /\ Bw w x /\ Zg x w.heap.size L /\ Zg x (w.heap.size + 1) M /\ (∃ cs, x.heap[w.heap.size]? = some (.cells cs 155 (0, 0))) /\ (∃ cs, x.heap[w.heap.size + 1]? = some (.cells cs 155 (0, 0))) /\ x.heap.size = w.heap.size + 1 + 1 := by
 obtain ⟨e, z, b⟩ := j1b w (.cells L.toArray 155) (.cells M.toArray 155)
 have h := Zg.new (w.alloc (.cells L.toArray 155)) M 155
 have g := heap_alloc_new (w.alloc (.cells L.toArray 155)) (.cells M.toArray 155)
 have bW : Below _ _ ((w.alloc (.cells L.toArray 155)).alloc (.cells M.toArray 155)) := qal _ _
 rw [e] at h g
 exact ⟨_, rfl, b, (Zg.new w L _).below bW, h, ⟨_, (bW.block _ (by simp)).trans (heap_alloc_new w _)⟩, ⟨_, g⟩, z⟩
theorem jib (s : StoreD) (v : Value) (w : World) (hv : Zx w v s) (ok : Zt s) (rt : relB s.now = true) (dE : relB s.was = true) (DD : s.vs.length <= 1000) (hL : (ja5 s.vs).length <= 1000) (oN : ∀ e ∈ ja5 s.vs, EvR e) :
  Cl 53 #[v] w fun q w' => ∃ x, q = .returned x /\ Zl w' w.heap.size x (entF (momS s) (ja5 s.vs)) /\ Bw w w' := by
 obtain ⟨a, b, c, d, e, f, va, ia, ca, cb, cc, cd, ce, cf, cv, ci, rfl, hN, hW, hV, hX, _, _⟩ := hv.form
 obtain ⟨wA, dg, b1, A1, O1, z1⟩ := j1s w [iv s.tx, .slice a s.now.rules.length ca, .slice b s.now.zones.length cb, .slice c s.now.links.length cc, .slice d s.was.rules.length cd, .slice e s.was.zones.length ce, .slice f s.was.links.length cf, iv s.cur, .slice va s.vs.length cv, .slice ia s.ix.length ci] 42
 have x4 := A1.c 8 (u := .slice va s.vs.length cv) rfl
 rw [<- dg] at x4
 have mX := jd2 s.vs va s.vs.length cv wA (hV.below b1) rfl DD
 have HN := hid hN
 have HW := hid hW
 have HA := hid dg
 clear hN hW hV hX hv dg
 go_enter Tryz.func53, Tryz.ntmps53
 go_wp2_with fail
 rw [HA.out]
 clear HA x4
 refine mX.mono ?_
 rintro q w2 ⟨lv, rfl, bC, ac⟩
 rw [z1] at bC
 obtain ⟨pl, cl, rfl, gP⟩ := jnr bC
 have A2 := A1.below ac
 have O2 : Zl w2 (w.heap.size + 1) (.slice (some ⟨w.heap.size + 1, 0, none⟩) 0 0) [] := jad O1 ac
 have b2 := qtr b1 ac
 have y1 := A2.c 1 (u := .slice a s.now.rules.length ca) rfl
 have y2 := A2.c 2 (u := .slice b s.now.zones.length cb) rfl
 have y3 := A2.c 3 (u := .slice c s.now.links.length cc) rfl
 have y4 := A2.c 4 (u := .slice d s.was.rules.length cd) rfl
 have y5 := A2.c 5 (u := .slice e s.was.zones.length ce) rfl
 have y6 := A2.c 6 (u := .slice f s.was.links.length cf) rfl
 obtain ⟨L, gV⟩ := qeb (ja5 s.vs)
 rw [gV] at hL oN bC gP ⊢
 have oy := hid gV
 obtain ⟨nl, jN⟩ := qeb L.length
 have oA := hid jN
 rw [jN] at gP hL ⊢
 have eG : w.heap.size + 1 + 1 <= w2.heap.size := by have := ac.size; omega
 obtain ⟨w4, Hh, uw, KN, KW, TN, TW, z4⟩ := js4 w2 [.slice a s.now.rules.length ca, .slice b s.now.zones.length cb, .slice c s.now.links.length cc, nS, nS] [.slice d s.was.rules.length cd, .slice e s.was.zones.length ce, .slice f s.was.links.length cf, nS, nS]
 have vE : Zn w2 (w.heap.size + 1) (.slice pl nl cl) L := by rw [jN] at bC; exact jak bC (by omega)
 obtain ⟨B, dV⟩ := qeb w2.heap.size
 have bE : Jo s w w4 w2.heap.size w2.heap.size (w2.heap.size + 1) w.heap.size a b c d e f ca cb cc cd ce cf (stL s a b c d e f va ia ca cb cc cd ce cf cv ci) L (.slice pl nl cl) (entF (momS s) (L.take 0)) 0 (.slice (some ⟨w.heap.size + 1, 0, none⟩) 0 0) :=
  ⟨⟨_, _, [], [], _, _, [], [], jpj KN TN (nlr _), rfl, nlr _, jpj KW TW (by omega), rfl, nlr _, fun g h1 h2 => by (have := jwt h1; have := jwt h2; omega)⟩, ⟨_, 0, 0, rfl, jad O2 uw, rfl, nlr _⟩, jad vE uw, A2.below uw, (qtr b2 uw), by rw [z4]; omega⟩
 have sE : Hid (Jo s w w4 B B (B + 1) w.heap.size a b c d e f ca cb cc cd ce cf (stL s a b c d e f va ia ca cb cc cd ce cf cv ci) L (.slice pl nl cl) (entF (momS s) (L.take 0)) 0 (.slice (some ⟨w.heap.size + 1, 0, none⟩) 0 0)) := by simp only [Hid]; rw [<- dV]; exact bE
 have HA := hid Hh
 have jn : w.heap.size < B := by omega
 have zX := hid gP
 clear bE KN KW TN TW Hh uw bC vE O2 A2 b2 ac A1 O1 b1 z1 mX jN gV gP z4
 go_wp2
 rw [HA.out]
 clear HA
 try simp only [dV]
 clear dV eG y1 y2 y3 y4 y5 y6
 go_loopw [3, 7, 8, 9] (fun s3 s7 _ _ wr => ∃ i : Nat, i <= nl /\ s7 = iv i /\ Hid (Jo s w wr B B (B + 1) w.heap.size a b c d e f ca cb cc cd ce cf (stL s a b c d e f va ia ca cb cc cd ce cf cv ci) L (.slice pl nl cl) (entF (momS s) (L.take i)) i s3)) (fun _ s7 _ _ _ => nl - (intOf s7).toNat)
 case atStart => exact ⟨0, by omega, rfl, sE⟩
 case round =>
  obtain ⟨wa, dY⟩ := qea wr
  subst dY
  obtain ⟨i, hi, rfl, HR⟩ := hrel
  clear sE
  obtain ⟨go, mo, co, Dj, vG, jC, zi⟩ := HR.out.own
  subst Dj
  by_cases hlt : i < nl
  ·have i1 : (i : Int) < (nl : Int) := by omega
   have i0 : (0 : Int) <= (i : Int) := by omega
   obtain ⟨gl, rfl⟩ := zX.out (by omega)
   obtain ⟨ev, r9⟩ : ∃ x, L[i]? = some x := ⟨_, lgg (by have := oA.out; omega)⟩
   have hR := oN ev (lmg r9)
   have HT : Hid (entF (momS s) (L.take (i + 1)) = entAdd (momS s) (entF (momS s) (L.take i)) ev) := jxk r9
   have ID := hid r9
   obtain ⟨c0, c1, c2, c3, c4, c5⟩ := jmr HR.out.live r9
   have s7 := HR.out.sv.c 7 (u := iv s.cur) rfl
   have Oz := hid vG
   have Gr : mo <= 1000 := by have h1 := jms (momS s) (L.take i); rw [List.length_take] at h1; omega
   have HC : Hid (∀ wx, Jo s w wx B B (B + 1) w.heap.size a b c d e f ca cb cc cd ce cf (stL s a b c d e f va ia ca cb cc cd ce cf cv ci) L (.slice (some ⟨gl, 0, none⟩) nl cl) (entF (momS s) (L.take i)) i (.slice (some ⟨go, 0, none⟩) mo co) -> (∀ zv tv zs ts, Zk wx B B s.now a b c ca cb cc zv tv zs ts -> ts.length = zs.length -> zs.length <= i -> Cl 89 #[.pointer (some ⟨B, 0, none⟩), ev.v] wx (InstP B B s.now a b c ca cb cc zv tv zs ev wx)) /\ (∀ zv tv zs ts, Zk wx B (B + 1) s.was d e f cd ce cf zv tv zs ts -> ts.length = zs.length -> zs.length <= i -> Cl 89 #[.pointer (some ⟨B + 1, 0, none⟩), ev.v] wx (InstP B (B + 1) s.was d e f cd ce cf zv tv zs ev wx))) := fun wx h => ⟨fun zv tv zs ts k1 k2 k3 => jgw w B B s.now a b c ca cb cc zv tv zs ts ev wx HN.out h.bel (by omega) h.lo ok.now rt k1 k2 (by omega) hR, fun zv tv zs ts k1 k2 k3 => jgw w B (B + 1) s.was d e f cd ce cf zv tv zs ts ev wx HW.out h.bel (by omega) h.lo ok.was dE k1 k2 (by omega) hR⟩
   have lZ : Hid (∀ wx, Jo s w wx B B (B + 1) w.heap.size a b c d e f ca cb cc cd ce cf (stL s a b c d e f va ia ca cb cc cd ce cf cv ci) L (.slice (some ⟨gl, 0, none⟩) nl cl) (entF (momS s) (L.take i)) (i + 1) (.slice (some ⟨go, 0, none⟩) mo co) -> wx.cell? ⟨gl, i * 6, none⟩ = some (iv ev.id)) := fun wx h => (jmr h.live ID.out).1
   clear r9 hR vG oN
   go_upto_region 9 with fail
   go_cut [40] from 28 to 39 (fun MT wx => ∃ (bo : Bool) (nq : Nat), MT = .bool bo /\ wx = wa.drewN nq /\ Hid (momS s ev = if bo = true then momR s.was ev else momR s.now ev))
   case first =>
    by_cases h1 : s.cur = 0
    ·have HM : Hid (momS s ev = momR s.now ev) := jr1 (.inl h1)
     rw [h1] at s7
     clear h1
     go_quiet (fail)
     go_wp2
     go_meet
     exact ⟨false, nq, rfl, rfl, HM.out⟩
    have FP : (s.cur != 0) = true := by simp [h1]
    by_cases h2 : ev.id < s.cur
    ·have HM : Hid (momS s ev = momR s.now ev) := jr1 (.inr h2)
     have uT : decide (s.cur <= ev.id) = false := by simp; omega
     clear h1 h2
     go_quiet (fail)
     go_wp2
     go_meet
     exact ⟨false, nq, rfl, rfl, HM.out⟩
    ·have HM : Hid (momS s ev = momR s.was ev) := jzk (fun h => h.elim h1 h2)
     have uT : decide (s.cur <= ev.id) = true := by simp; omega
     clear h1 h2
     go_quiet (fail)
     go_wp2
     go_meet
     exact ⟨true, nq, rfl, rfl, HM.out⟩
   case rest =>
    obtain ⟨bo, nq, rfl, rfl, yx⟩ := hcut
    have vN := HR.out.same (show Bw wa (wa.drewN nq) from ⟨rfl, rfl, rfl, nlr _, fun _ _ => rfl⟩)
    have d0 : (wa.drewN nq).cell? ⟨gl, i * 6, none⟩ = some (iv ev.id) := c0
    have d1 : (wa.drewN nq).cell? ⟨gl, i * 6 + 1, none⟩ = some (.string ev.name) := c1
    have d2 : (wa.drewN nq).cell? ⟨gl, i * 6 + 2, none⟩ = some (.string ev.zone) := c2
    have d3 : (wa.drewN nq).cell? ⟨gl, i * 6 + 3, none⟩ = some (iv ev.wall) := c3
    have d4 : (wa.drewN nq).cell? ⟨gl, i * 6 + 4, none⟩ = some (iv ev.gap) := c4
    have d5 : (wa.drewN nq).cell? ⟨gl, i * 6 + 5, none⟩ = some (iv ev.fold) := c5
    have vc := vN.ask_n (by omega) (by omega) ev (HC.out _ vN).1
    have vd := vN.ask_w (by omega) (by omega) ev (HC.out _ vN).2
    clear vN HC c0 c1 c2 c3 c4 c5 s7
    simp only [EventD.v] at vc vd
    generalize wa.drewN nq = wq at *
    cases bo
    ·have pQ : Hid (momS s ev = momR s.now ev) := yx.out.trans (if_neg (by simp))
     obtain ⟨⟨M1, M2⟩, hM⟩ := qeb (momR s.now ev)
     rw [hM] at vc
     have HM : Hid (momS s ev = (M1, M2)) := by simp only [Hid]; rw [pQ.out]; exact hM
     clear hM yx pQ
     go_wp2_with fail
     refine vc.mono ?_
     rintro q w5 ⟨rfl, eO⟩
     have f0 := lZ.out w5 eO
     have km := hidE eO
     clear eO vc vd d0 d1 d2 d3 d4 d5
     cases M2
     ·have sF : Hid (Jo s w w5 B B (B + 1) w.heap.size a b c d e f ca cb cc cd ce cf (stL s a b c d e f va ia ca cb cc cd ce cf cv ci) L (.slice (some ⟨gl, 0, none⟩) nl cl) (entF (momS s) (L.take (i + 1))) (i + 1) (.slice (some ⟨go, 0, none⟩) mo co)) := by
       simp only [Hid]
       rw [HT.out, entAdd, HM.out, if_neg (by simp)]
       exact km.out
      go_wp2
      go_roundw
      case rel => exact ⟨i + 1, by omega, by go_num, sF⟩
      case measure => simp [intOf]; omega
     ·obtain ⟨g5, m5, k5, Dh, gW, rh, D4⟩ := km.out.own
      injection Dh with h1 h2 h3
      injection h1 with h1
      injection h1 with h1
      subst h1 h2 h3
      have kJ := jic (entF (momS s) (L.take i)) ⟨M1, ev.id⟩ go mo co (w.heap.size + 1) w5 gW rh D4 Gr
      have zL := hidE rh
      clear gW rh
      go_wp2_with fail
      refine kJ.mono ?_
      rintro q w6 ⟨g6, c6, rfl, qW, j5, hb6⟩
      have zY : Hid (Jo s w w6 B B (B + 1) w.heap.size a b c d e f ca cb cc cd ce cf (stL s a b c d e f va ia ca cb cc cd ce cf cv ci) L (.slice (some ⟨gl, 0, none⟩) nl cl) (entF (momS s) (L.take (i + 1))) (i + 1) (.slice (some ⟨g6, 0, none⟩) (mo + 1) c6)) := by
       simp only [Hid]
       rw [HT.out, entAdd, HM.out, if_pos rfl]
       exact km.out.below hb6 ⟨g6, mo + 1, c6, rfl, jak j5 (Nat.le_trans (by omega) km.out.lo), by rw [jbe, zL.out], qW⟩
      clear j5 hb6 kJ
      go_wp2
      go_roundw
      case rel => exact ⟨i + 1, by omega, by go_num, zY⟩
      case measure => simp [intOf]; omega
    ·have pQ : Hid (momS s ev = momR s.was ev) := yx.out.trans (if_pos rfl)
     obtain ⟨⟨M1, M2⟩, hM⟩ := qeb (momR s.was ev)
     rw [hM] at vd
     have HM : Hid (momS s ev = (M1, M2)) := by simp only [Hid]; rw [pQ.out]; exact hM
     clear hM yx pQ
     go_wp2_with fail
     refine vd.mono ?_
     rintro q w5 ⟨rfl, eO⟩
     have f0 := lZ.out w5 eO
     have km := hidE eO
     clear eO vc vd d0 d1 d2 d3 d4 d5
     cases M2
     ·have sF : Hid (Jo s w w5 B B (B + 1) w.heap.size a b c d e f ca cb cc cd ce cf (stL s a b c d e f va ia ca cb cc cd ce cf cv ci) L (.slice (some ⟨gl, 0, none⟩) nl cl) (entF (momS s) (L.take (i + 1))) (i + 1) (.slice (some ⟨go, 0, none⟩) mo co)) := by
       simp only [Hid]
       rw [HT.out, entAdd, HM.out, if_neg (by simp)]
       exact km.out
      go_wp2
      go_roundw
      case rel => exact ⟨i + 1, by omega, by go_num, sF⟩
      case measure => simp [intOf]; omega
     ·obtain ⟨g5, m5, k5, Dh, gW, rh, D4⟩ := km.out.own
      injection Dh with h1 h2 h3
      injection h1 with h1
      injection h1 with h1
      subst h1 h2 h3
      have kJ := jic (entF (momS s) (L.take i)) ⟨M1, ev.id⟩ go mo co (w.heap.size + 1) w5 gW rh D4 Gr
      have zL := hidE rh
      clear gW rh
      go_wp2_with fail
      refine kJ.mono ?_
      rintro q w6 ⟨g6, c6, rfl, qW, j5, hb6⟩
      have zY : Hid (Jo s w w6 B B (B + 1) w.heap.size a b c d e f ca cb cc cd ce cf (stL s a b c d e f va ia ca cb cc cd ce cf cv ci) L (.slice (some ⟨gl, 0, none⟩) nl cl) (entF (momS s) (L.take (i + 1))) (i + 1) (.slice (some ⟨g6, 0, none⟩) (mo + 1) c6)) := by
       simp only [Hid]
       rw [HT.out, entAdd, HM.out, if_pos rfl]
       exact km.out.below hb6 ⟨g6, mo + 1, c6, rfl, jak j5 (Nat.le_trans (by omega) km.out.lo), by rw [jbe, zL.out], qW⟩
      clear j5 hb6 kJ
      go_wp2
      go_roundw
      case rel => exact ⟨i + 1, by omega, by go_num, zY⟩
      case measure => simp [intOf]; omega
  ·obtain rfl : i = nl := by omega
   have HF : Hid (Zl wa w.heap.size (.slice (some ⟨go, 0, none⟩) mo co) (entF (momS s) L)) := by
    rw [List.take_of_length_le (by rw [oA.out]; exact nlr _)] at vG
    exact jak vG (by omega)
   have Le := HR.out.bel
   clear vG
   go_wp2
   go_ret
   exact ⟨.slice (some ⟨go, 0, none⟩) mo co, rfl, by rw [oy.out]; exact HF.out, Le⟩
end
end Go.Proofs.YtgiieknbckhofaaGreatDoor
