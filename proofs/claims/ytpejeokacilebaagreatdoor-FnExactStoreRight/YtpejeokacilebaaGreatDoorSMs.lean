/- Packed. -/
import Derived.Test.YtpejeokacilebaaGreatDoorSt37s
import Derived.Test.YtpejeokacilebaaGreatDoorTsTs
import Derived.Test.YtpejeokacilebaaGreatDoorStrTs
import Derived.BigQuiet
import Derived.Deep.RegionHeld3
import Derived.Deep.AppendLies
import Derived.Deep.RegionLaw
import Derived.Test.YtpejeokacilebaaGreatDoorSEs
set_option maxRecDepth 100000
set_option maxHeartbeats 20000000
set_option linter.unusedSimpArgs false
namespace Go.Proofs.YtpejeokacilebaaGreatDoor
section
open Go.RowKit
theorem fr_then {S S2 : Nat -> Prop} {w w1 w2 : World} (h : Fr S w w1) (h2 : Fr S2 w1 w2) (hs : ∀ b, b < w.heap.size -> S2 b -> S b) : Fr S w w2 :=
 ⟨h2.os.trans h.os, h2.tape.trans h.tape, h2.output.trans h.output, Nat.le_trans h.size h2.size, fun b hb hn => (h2.block b (Nat.lt_of_lt_of_le hb h.size) (fun e => hn (hs b hb e))).trans (h.block b hb hn)⟩
theorem infoStrI : ∃ i : TypeInfo, Tryz.prog.info? 9 = some i /\ i.zero = some (.string ⟨#[]⟩) /\ i.size = 1 /\ i.bytes = 16 := ⟨_, rfl, rfl, rfl, rfl⟩
theorem infoTabO : ∃ i : TypeInfo, Tryz.prog.info? 140 = some i /\ i.zero = some (.agg #[.slice none 0 0, .int .i64 0]) /\ i.size = 2 /\ i.bytes = 32 := ⟨_, rfl, rfl, rfl, rfl⟩
theorem row_is {w : World} {base : Nat} {e : TypeId} {size : Nat} {v : Value} {n : Nat} {xs : List Value} (h : w.ownsRow base e size v n xs) : ∃ a c, v = .slice a n c /\ (0 < n -> ∃ g, a = some ⟨g, 0, none⟩) := by
 rcases h.2 with ⟨rfl, rfl⟩ | ⟨g, cap, cur, rfl, _⟩
 ·exact ⟨none, 0, rfl, fun h => by omega⟩
 ·exact ⟨_, cap, rfl, fun _ => ⟨g, rfl⟩⟩
theorem tab_cell {w : World} {B g n c : Nat} {ts : List TOut} (h : w.ownsRow B 140 2 (.slice (some ⟨g, 0, none⟩) n c) n (ts.map TOut.cs).flatten) {j : Nat} {t : TOut} (hj : ts[j]? = some t) (hn : ts.length = n) : w.cell? ⟨g, j * 2, none⟩ = some (.slice t.a t.n t.c) /\ w.cell? ⟨g, j * 2 + 1, none⟩ = some (.int .i64 t.code) := by
 have hl := (List.getElem?_eq_some_iff.1 hj).1
 have hr : (ts.map TOut.cs)[j]? = some t.cs := by rw [List.getElem?_map, hj]; rfl
 have h0 := jbe toutCs_len (i := j) (j := 0) hr rfl
 have h1 := jbe toutCs_len (i := j) (j := 1) hr rfl
 exact ⟨by rw [h.cellAt (j * 2) (by omega)]; exact h0, by rw [h.cellAt (j * 2 + 1) (by omega)]; exact h1⟩
structure NewZ (w0 w wx : World) (B p : Nat) (r : RelD) (a b c : Option Addr) (ca cb cc : Nat) (zv tv : Value) (zs : List ByteArray) (ts : List TOut) (z : ByteArray) (E : List Value) (n : Nat) : Prop where
 ex : ∃ g1 cap1, Zh wx B p r a b c ca cb cc (.slice (some ⟨g1, 0, none⟩) (n + 1) cap1) tv (zs ++ [z]) ts /\ (zv.ownBlock = some g1 \/ w.heap.size <= g1)
 ev : Zd wx w.heap.size E
 fr : Fr (InC p zv tv) w wx
 bel : Below w0.heap.size w0 wx
 lo : B <= wx.heap.size
structure DoneC (w wx : World) (B p : Nat) (r : RelD) (a b c : Option Addr) (ca cb cc : Nat) (zv tv : Value) (zs : List ByteArray) (z : ByteArray) (E : List Value) (j : Nat) : Prop where
 ex : ∃ zv2 gt nt ct zs2 ts2 t, Zh wx B p r a b c ca cb cc zv2 (.slice (some ⟨gt, 0, none⟩) nt ct) zs2 ts2 /\ zs2[j]? = some z /\ ts2[j]? = some t /\ ts2.length = nt /\ zs2.length = nt /\ nt <= zs.length + 1 /\ ∀ g, InC p zv2 (.slice (some ⟨gt, 0, none⟩) nt ct) g -> InC p zv tv g \/ w.heap.size <= g
 ev : Zd wx w.heap.size E
 fr : Fr (InC p zv tv) w wx
structure EvR (e : EventD) : Prop where
 zone : e.zone.size <= 8000
 w1 : -62135596800 <= e.wall
 w2 : e.wall <= 253402300799
 g1 : 0 <= e.gap
 g2 : e.gap <= 2
 f1 : 0 <= e.fold
 f2 : e.fold <= 2
theorem spec_instant (w0 : World) (B p : Nat) (r : RelD) (a b c : Option Addr) (ca cb cc : Nat) (zv tv : Value) (zs : List ByteArray) (ts : List TOut) (ev : EventD) (w : World) (hv : Zb w0 (.agg #[.slice a r.rules.length ca, .slice b r.zones.length cb, .slice c r.links.length cc]) r) (bel : Below w0.heap.size w0 w) (hB0 : w0.heap.size <= B) (hBw : B <= w.heap.size) (ok : Jj r) (hr : relB r = true) (hA : Zh w B p r a b c ca cb cc zv tv zs ts) (hl : ts.length = zs.length) (hn : zs.length <= 1000) (hev : EvR ev) :
  Calls Tryz.prog 37 #[.pointer (some ⟨p, 0, none⟩), ev.v] w (InstP B p r a b c ca cb cc zv tv zs ev w) := by
 obtain ⟨id, name, zone, wall, gap, fold⟩ := ev
 obtain ⟨k1, k2, k3, k4, k5, k6, k7⟩ := hev
 simp only [EventD.v] at *
 obtain ⟨pz, cz, rfl, hpz⟩ := row_is hA.zo
 obtain ⟨pt, ct, rfl, hpt⟩ := row_is hA.to_
 rw [hl] at hpt
 have hzo := hA.zo
 have hto := hA.to_
 rw [hl] at hto hA ⊢
 obtain ⟨N, hN⟩ : ∃ N, zs.length = N := ⟨_, rfl⟩
 rw [hN] at hl hn hpz hpt hzo hto hA ⊢
 have HN := hid hN
 have HL := hid hl
 clear hN hl
 have b0 : Below w.heap.size w (w.alloc (.cells #[.int .i64 id, .string name, .string zone, .int .i64 wall, .int .i64 gap, .int .i64 fold] 54)) := qal _ _
 have E0 : Zd (w.alloc (.cells #[.int .i64 id, .string name, .string zone, .int .i64 wall, .int .i64 gap, .int .i64 fold] 54)) w.heap.size [.int .i64 id, .string name, .string zone, .int .i64 wall, .int .i64 gap, .int .i64 fold] := Zd.new w [.int .i64 id, .string name, .string zone, .int .i64 wall, .int .i64 gap, .int .i64 fold] 54
 have hA0 := hA.below b0
 have hplt := typ_lt hA.typ
 have HA := hid hA
 have HV := hid hv
 have HBel := hid bel
 have HPZ := hid hpz
 have HPT := hid hpt
 clear hA hv bel hpz hpt hzo hto
 go_enter Tryz.func37, Tryz.ntmps37
 go_wp2
 have hs0 : (w.alloc (.cells #[.int .i64 id, .string name, .string zone, .int .i64 wall, .int .i64 gap, .int .i64 fold] 54)).heap.size = w.heap.size + 1 := by simp
 generalize (w.alloc (.cells #[.int .i64 id, .string name, .string zone, .int .i64 wall, .int .i64 gap, .int .i64 fold] 54)) = wA at *
 have HS0 := hid hs0
 clear hs0
 go_loopw [6, 7] (fun s6 s7 wr => ∃ i : Nat, i <= N /\ s7 = .int .i64 i /\ s6 = .int .i64 (lastZ zs zone i) /\ Below wA.heap.size wA wr) (fun _ s7 _ => N - (intOf s7).toNat)
 case atStart => exact ⟨0, by omega, rfl, rfl, Below.refl _ _⟩
 case round =>
  obtain ⟨wa, hwa⟩ : ∃ x : World, x = wr := ⟨_, rfl⟩
  subst hwa
  obtain ⟨i, hi, rfl, rfl, hBr⟩ := hrel
  have hAr := hA0.below hBr
  have Er := E0.below hBr
  have p3 := hAr.v.c 3 (u := (.slice pz N cz)) rfl
  have e2 := Er.c 2 (u := .string zone) rfl
  by_cases hlt : i < N
  ·have i1 : (i : Int) < (N : Int) := by omega
   have i0 : (0 : Int) <= (i : Int) := by omega
   obtain ⟨y, hy⟩ : ∃ y, zs[i]? = some y := ⟨_, List.getElem?_eq_getElem (by have := HN.out; omega)⟩
   obtain ⟨gz, rfl⟩ := HPZ.out (by omega)
   have hzr := hAr.zo
   rw [HN.out] at hzr
   have y0 : wa.cell? ⟨gz, i, none⟩ = some (.string y) := by rw [hzr.cellAt i (by omega), List.getElem?_map, hy]; rfl
   have HBr := hid hBr
   have HY := hid hy
   clear hy hzr hAr Er hBr hA0 E0
   cases hb : (y.toList == zone.toList)
   ·have HK : Hid (lastZ zs zone (i + 1) = lastZ zs zone i) := lastZ_no HY.out hb
    generalize lastZ zs zone i = k0 at *
    go_wp2_with fail
    go_quiet (fail)
    go_wp2
    go_roundw
    case rel => exact ⟨i + 1, by omega, by go_num, by rw [HK.out], HBr.out.trans (⟨rfl, rfl, rfl, Nat.le_refl _, fun _ _ => rfl⟩)⟩
    case measure => simp [intOf]; omega
   ·have HK : Hid (lastZ zs zone (i + 1) = i) := lastZ_yes HY.out hb
    generalize lastZ zs zone i = k0 at *
    go_wp2_with fail
    go_quiet (fail)
    go_wp2
    go_roundw
    case rel => exact ⟨i + 1, by omega, by go_num, by rw [HK.out], HBr.out.trans (⟨rfl, rfl, rfl, Nat.le_refl _, fun _ _ => rfl⟩)⟩
    case measure => simp [intOf]; omega
  ·obtain rfl : i = N := by omega
   have hw1 : Below w.heap.size w wa := b0.trans (hBr.mono (by have := HS0.out; omega))
   have HW1 := hid hw1
   have HAr := hid hAr
   have HEr := hid Er
   have hpa : p < wa.heap.size := typ_lt hAr.typ
   have hel : w.heap.size < wa.heap.size := qbl e2
   have hBwa : B <= wa.heap.size := Nat.le_trans hBw hw1.size
   have hpw := hplt
   have HE2 := hid e2
   clear hw1 hBr hAr Er hA0 E0 b0 hplt e2
   go_upto_if 30 with fail
   go_cut [6] from 29 to 62 (fun s6 wx => ∃ j : Nat, s6 = .int .i64 j /\ DoneC w wx B p r a b c ca cb cc (.slice pz i cz) (.slice pt i ct) zs zone [.int .i64 id, .string name, .string zone, .int .i64 wall, .int .i64 gap, .int .i64 fold] j)
   case first =>
    rcases lastZ_is zs zone i with h | ⟨j, h, hj⟩
    ·rw [h]
     clear h
     obtain ⟨is, his, hs0, hs1, hs2⟩ := infoStrI
     obtain ⟨it, hit, ht0, ht1, ht2⟩ := infoTabO
     have ba : ∀ o, Below wa.heap.size wa (wa.drew.alloc o) := fun o => (show Below wa.heap.size wa wa.drew from jab wa).alloc (Nat.le_refl _) o
     have hZZ : wa.ownsRow B 9 1 (.slice pz i cz) i (zs.map Value.string) := by have := HAr.out.zo; rw [HN.out] at this; exact this
     have pf3 := HAr.out.v.f 3 (u := .slice pz i cz) rfl
     have e2 := HE2.out
     have hne : some p ≠ (Value.slice pz i cz).ownBlock := row_ne HAr.out.zo HAr.out.typ (by decide)
     have hbz : some w.heap.size ≠ (Value.slice pz i cz).ownBlock := fun e => by have := (World.ownsRow.lt HA.out.zo _ e.symm).2; omega
     go_upto_region 9 with fail
     go_cut [] from 36 to 46 (fun wx => NewZ w0 w wx B p r a b c ca cb cc (.slice pz i cz) (.slice pt i ct) zs ts zone [.int .i64 id, .string name, .string zone, .int .i64 wall, .int .i64 gap, .int .i64 fold] i)
     case first =>
      go_region_law (refine step_append_lies _ (by rfl) (.tmp 40) (.tmp 43) 74 (by rfl) B 9 is (.string ⟨#[]⟩) 1 16 Tryz.underlying74 his hs0 hs1 hs2 rfl (by omega) (.slice pz i cz) i (zs.map Value.string) (by rfl) (World.ownsRow.alloc (w := wa.drew) hZZ _) ⟨wa.heap.size, 0, none⟩ 1 1 [.string zone] (by rfl) rfl (jah _ _ _) (by intro u hu; simp at hu; subst hu; rfl) (by omega) (by unfold maxLen; omega) (by omega) (by simp; omega) _ rfl ?_; intro g1 cap1 w2 hown1 hgrow hat hlt1; have r1 := hgrow.cell (a := ⟨p, 3, none⟩) (jaa (ba _) p3) hne; have r2 := (hgrow.frozen_far ⟨p, 3, none⟩ (by simp; omega) hne).trans (((jaf (ba _)).2 _ _ hpa).trans pf3))
      all_goals
       have h3 := (HAr.out.below (ba _)).pushZ (by rw [HL.out, HN.out]) hgrow (by rw [HN.out]; exact hown1)
       have f1 : Fr (InC p (.slice pz i cz) (.slice pt i ct)) w (wa.drew.alloc (.cells #[.string zone] 9)) := Fr.of_below (HW1.out.trans ((ba _).mono HW1.out.size))
       have f2 := fr_then f1 h3.2 (fun _ _ h => h)
       have HZ : Hid (NewZ w0 w (w2.setCell ⟨p, 3, none⟩ (.slice (some ⟨g1, 0, none⟩) (i + 1) cap1)) B p r a b c ca cb cc (.slice pz i cz) (.slice pt i ct) zs ts zone [.int .i64 id, .string name, .string zone, .int .i64 wall, .int .i64 gap, .int .i64 fold] i) := by
        refine ⟨⟨g1, cap1, h3.1, hat.imp_right fun e => ?_⟩, ?_, f2, ?_, ?_⟩
        ·rw [e]; exact Nat.le_trans HW1.out.size (ba (.cells #[.string zone] 9)).size
        ·exact ((HEr.out.below (ba _)).fr (Fr.of_grown hgrow) (fun e => hbz e.symm)).other (by omega) _
        ·exact HBel.out.trans (f2.below (fun g hg => Nat.le_trans hB0 (HA.out.low hg)) HBel.out.size)
        ·exact Nat.le_trans hBw f2.size
       clear h3 f1 f2 hown1 hgrow hat hlt1 r1 r2
       go_wp2
       go_meet
       exact HZ.out
     case rest =>
      obtain ⟨w3, hw3⟩ : ∃ x : World, x = wc := ⟨_, rfl⟩
      subst hw3
      obtain ⟨g1, cap1, hA3, hg1⟩ := hcut.ex
      have E3 := hcut.ev
      have HF3 := hid hcut.fr
      have hb3 := hcut.bel
      have hlo := hcut.lo
      clear hcut
      have z0 := hA3.v.c 0 (u := .slice a r.rules.length ca) rfl
      have z1 := hA3.v.c 1 (u := .slice b r.zones.length cb) rfl
      have z2 := hA3.v.c 2 (u := .slice c r.links.length cc) rfl
      have z4 := hA3.v.c 4 (u := .slice pt i ct) rfl
      have zf4 := hA3.v.f 4 (u := .slice pt i ct) rfl
      have y2 := E3.c 2 (u := .string zone) rfl
      have hC := spec_l03Of tabC r (.agg #[.slice a r.rules.length ca, .slice b r.zones.length cb, .slice c r.links.length cc]) zone w3.drew (HV.out.below (hb3.trans ((jab w3).mono hb3.size))) ok.sm ok.on k1 hr
      have HA3 := hid hA3
      have HE3 := hid E3
      have HG1 := hid hg1
      have hTT : w3.ownsRow B 140 2 (.slice pt i ct) i (ts.map TOut.cs).flatten := by have := hA3.to_; rw [HL.out] at this; exact this
      have hne2 : some p ≠ (Value.slice pt i ct).ownBlock := row_ne hA3.to_ hA3.typ (by decide)
      have hp3 : p < w3.heap.size := typ_lt hA3.typ
      have d0 : w3.drew.cell? ⟨p, 0, none⟩ = some (.slice a r.rules.length ca) := z0
      have d1 : w3.drew.cell? ⟨p, 1, none⟩ = some (.slice b r.zones.length cb) := z1
      have d2 : w3.drew.cell? ⟨p, 2, none⟩ = some (.slice c r.links.length cc) := z2
      have d4 : w3.drew.cell? ⟨p, 4, none⟩ = some (.slice pt i ct) := z4
      have dy : w3.drew.cell? ⟨w.heap.size, 2, none⟩ = some (.string zone) := y2
      have hpn : p ≠ w.heap.size := by omega
      clear hA3 E3 hg1 hb3 p3 e2 pf3 hZZ ba hne hbz
      go_wp2_with fail
      go_region_law (first | (go_simp; go_at_call 70; refine hC.mono ?_; rintro q w7 hP7; obtain ⟨v7, hq7, hO7, hb7⟩ := hP7.ex; obtain ⟨a7, m7, d7, rfl⟩ := jac hO7; obtain ⟨k9, hk9⟩ : ∃ x, (tabD r zone).1 = x := ⟨_, rfl⟩; rw [hk9] at hq7; subst hq7; clear hP7; have m0 := jaa hb7 d0; have m1 := jaa hb7 d1; have m2 := jaa hb7 d2; have m4 := jaa hb7 d4; have my := jaa hb7 dy; have mf4 := ((jaf hb7).2 _ _ hp3).trans zf4; have hT7 := jae hTT (show Below w3.heap.size w3 w7 from (jab w3).trans (hb7.mono (Nat.le_refl _))); have hs7 : w3.heap.size <= w7.heap.size := hb7.size; have hpp7 : p < w7.heap.size := Nat.lt_of_lt_of_le hp3 hs7; have ba7 := qal w7 (.cells #[.slice a7 m7 d7, .int .i64 k9] 140); have ma4 := jaa ba7 m4) | (refine step_append_lies _ (by rfl) (.tmp 51) (.tmp 59) 92 (by rfl) B 140 it (.agg #[.slice none 0 0, .int .i64 0]) 2 32 Tryz.underlying92 hit ht0 ht1 ht2 rfl (by omega) (.slice pt i ct) i (ts.map TOut.cs).flatten (by rfl) (World.ownsRow.alloc (w := w7) hT7 _) ⟨w7.heap.size, 0, none⟩ 1 1 [.slice a7 m7 d7, .int .i64 k9] (by rfl) rfl (jah _ _ _) (by intro u hu; simp at hu; rcases hu with rfl | rfl <;> rfl) (by omega) (by unfold maxLen; omega) (by omega) (by simp; omega) _ rfl ?_; intro g2 cap2 w8 hown2 hgrow hat hlt2; have s1 := hgrow.cell (a := ⟨p, 4, none⟩) (jaa ba7 m4) hne2; have s2 := (hgrow.frozen_far ⟨p, 4, none⟩ (by simp; omega) hne2).trans (((jaf ba7).2 _ _ hpp7).trans mf4)))
      all_goals
       have hw7 : Below w3.heap.size w3 w7 := (jab w3).trans (hb7.mono (Nat.le_refl _))
       have hA7 := (HA3.out.below hw7).below ba7
       have hE7 : Jc w7 ⟨a7, m7, d7, k9⟩ (tabD r zone) := by have h := tabE_of (x := tabD r zone) hO7; rw [hk9] at h; exact h
       have h3 := hA7.pushT (t := ⟨a7, m7, d7, k9⟩) (by rw [HL.out, HN.out]) (hE7.below ba7) hgrow (by rw [HL.out]; exact hown2)
       have f3 := fr_then (fr_then HF3.out (Fr.of_below (S := fun _ => False) (qtr hw7 ba7)) (fun _ _ h => h.elim)) h3.2 (fun g hg h => by
        rcases h with h | h | h
        ·exact .inl h
        ·injection h with h
         have h : g1 = g := h
         subst h
         rcases HG1.out with h2 | h2
         ·exact .inr (.inl h2)
         ·omega
        ·exact .inr (.inr h))
       have HD : Hid (DoneC w (w8.setCell ⟨p, 4, none⟩ (.slice (some ⟨g2, 0, none⟩) (i + 1) cap2)) B p r a b c ca cb cc (.slice pz i cz) (.slice pt i ct) zs zone [.int .i64 id, .string name, .string zone, .int .i64 wall, .int .i64 gap, .int .i64 fold] i) := by
        refine ⟨⟨.slice (some ⟨g1, 0, none⟩) (i + 1) cap1, g2, i + 1, cap2, zs ++ [zone], ts ++ [⟨a7, m7, d7, k9⟩], ⟨a7, m7, d7, k9⟩, h3.1, ?_, ?_, by rw [List.length_append, HL.out]; rfl, by rw [List.length_append, HN.out]; rfl, by rw [HN.out]; omega, fun g hg => ?_⟩, ?_, f3⟩
        ·rw [List.getElem?_append_right (by rw [HN.out]; omega), HN.out, Nat.sub_self]; rfl
        ·rw [List.getElem?_append_right (by rw [HL.out]; omega), HL.out, Nat.sub_self]; rfl
        ·rcases hg with hg | hg | hg
         ·exact .inl (.inl hg)
         ·injection hg with hg
          have hg : g1 = g := hg
          subst hg
          exact HG1.out.imp (fun h => .inr (.inl h)) (fun h => h)
         ·injection hg with hg
          have hg : g2 = g := hg
          subst hg
          refine hat.imp (fun h => .inr (.inr h)) (fun h => ?_)
          rw [h]
          exact Nat.le_trans (Nat.le_trans HF3.out.size hs7) ba7.size
        ·refine Zd.other (Zd.fr ((HE3.out.below hw7).below ba7) (Fr.of_grown hgrow) (fun e => ?_)) (by omega) _
         have := (World.ownsRow.lt HA.out.to_ _ e).2
         omega
       clear h3 f3 hA7 hE7 hw7 hown2 hgrow hat hlt2 s1 s2 hO7 hb7 hT7
       go_wp2
       go_meet
       exact ⟨i, rfl, HD.out⟩
    ·rw [h]
     clear h
     have hjN : j < i := by have h1 := (List.getElem?_eq_some_iff.1 hj).1; have := HN.out; omega
     obtain ⟨t, htj⟩ : ∃ t, ts[j]? = some t := ⟨_, List.getElem?_eq_getElem (by have := HL.out; omega)⟩
     obtain ⟨gt, rfl⟩ := HPT.out (by omega)
     have j2 : ¬ (j : Int) < 0 := by omega
     have HD : Hid (DoneC w wa B p r a b c ca cb cc (.slice pz i cz) (.slice (some ⟨gt, 0, none⟩) i ct) zs zone [.int .i64 id, .string name, .string zone, .int .i64 wall, .int .i64 gap, .int .i64 fold] j) := ⟨⟨_, gt, i, ct, zs, ts, t, HAr.out, hj, htj, HL.out, HN.out, by have := HN.out; omega, fun g hg => .inl hg⟩, HEr.out, Fr.of_below HW1.out⟩
     clear hj htj
     go_wp2
     go_meet
     exact ⟨j, rfl, HD.out⟩
   case rest =>
    obtain ⟨j, rfl, hcut⟩ := hcut
    obtain ⟨wt, hwt⟩ : ∃ x : World, x = wc := ⟨_, rfl⟩
    subst hwt
    obtain ⟨zv2, gt, nt, ct2, zs2, ts2, ⟨ta, tn, tc, tk⟩, hA2, hj, htj, hl2, hz2, hn2, hin⟩ := hcut.ex
    have Er := hcut.ev
    have HF2 := hid hcut.fr
    clear hcut
    have hjN : j < nt := by have h1 := (List.getElem?_eq_some_iff.1 hj).1; omega
    have htr := hA2.to_
    rw [hl2] at htr
    obtain ⟨r0, r1⟩ := tab_cell htr htj hl2
    dsimp only at r0 r1
    have HTE : Hid (Jc wt ⟨ta, tn, tc, tk⟩ (tabD r zone)) := hA2.tab j zone _ hj htj
    have q4 := hA2.v.c 4 (u := .slice (some ⟨gt, 0, none⟩) nt ct2) rfl
    have e3 := Er.c 3 (u := .int .i64 wall) rfl
    have e4 := Er.c 4 (u := .int .i64 gap) rfl
    have e5 := Er.c 5 (u := .int .i64 fold) rfl
    have j1 : (j : Int) < (nt : Int) := by omega
    have j0 : (0 : Int) <= (j : Int) := by omega
    have HPO : Hid (∀ w' n7 b7, Below wt.heap.size wt w' -> momR r ⟨id, name, zone, wall, gap, fold⟩ = (n7, b7) -> InstP B p r a b c ca cb cc (.slice pz i cz) (.slice pt i ct) zs ⟨id, name, zone, wall, gap, fold⟩ w (.returned (.tuple #[.int .i64 n7, .bool b7])) w') := fun w' n7 b7 hb hm => by
     exact ⟨by rw [hm], ⟨zv2, .slice (some ⟨gt, 0, none⟩) nt ct2, zs2, ts2, hA2.below hb, by omega, by omega, hin⟩, fr_then HF2.out (Fr.of_below (S := fun _ => False) hb) (fun _ _ h => h.elim)⟩
    clear hA2 Er htr hj htj hin hl2 hz2 hn2 p3 hpa hel HAr HEr HW1 HE2 HPZ HPT HA
    by_cases hk : tk = 0
    ·subst hk
     have hd : (tabD r zone).1 = 0 := HTE.out.code.symm
     have hgd := (tabD_good hd).2.2.2.right
     have HM : Hid (momR r ⟨id, name, zone, wall, gap, fold⟩ = ((resR (tabD r zone).2 wall gap fold).1, decide ((resR (tabD r zone).2 wall gap fold).2 = 0))) := by
      simp only [Hid]
      unfold momR
      rw [momT_yes hd, resD_yes hgd (isB_t k2 k3) (isB_t k4 k5) (isB_t k6 k7)]
     have hnl := HTE.out.n
     have hsq := HTE.out.seq
     dsimp only at hnl hsq
     obtain ⟨l, hll⟩ : ∃ x, (tabD r zone).2 = x := ⟨_, rfl⟩
     rw [hll] at hgd HM hnl hsq
     subst hnl
     clear hll hd
     have hR := fun W h => spec_l04Resolve l (.agg #[.slice ta l.length tc]) wall gap fold W h (tab_of hgd) k2 k3 k4 k5 k6 k7
     have bA := jab wt
     have bB : Below wt.heap.size wt (wt.alloc (.cells #[.int .i64 0, .int .i64 0] 143)).drew := (qal wt _).trans ((jab _).mono (by simp))
     have TA : Zt wt.drew (.agg #[.slice ta l.length tc]) l := ⟨ta, tc, rfl, hsq.below bA⟩
     have TB : Zt (wt.alloc (.cells #[.int .i64 0, .int .i64 0] 143)).drew (.agg #[.slice ta l.length tc]) l := ⟨ta, tc, rfl, hsq.below bB⟩
     obtain ⟨⟨n7, c7⟩, hnc⟩ : ∃ x, resR l wall gap fold = x := ⟨_, rfl⟩
     rw [hnc] at hR HM
     simp only [outV] at hR
     clear hnc hsq hgd
     have q4A := jaa bA q4
     have q4B := jaa bB q4
     have := World.new_ne wt _ q4
     have r0A := jaa bA r0
     have r0B := jaa bB r0
     have := World.new_ne wt _ r0
     have e3A := jaa bA e3
     have e3B := jaa bB e3
     have := World.new_ne wt _ e3
     have e4A := jaa bA e4
     have e4B := jaa bB e4
     have := World.new_ne wt _ e4
     have e5A := jaa bA e5
     have e5B := jaa bB e5
     have := World.new_ne wt _ e5
     obtain ⟨tB0, tB1, fB0, fB1⟩ : (fun z : World => z.cell? ⟨wt.heap.size, 0, none⟩ = some (.int .i64 0) /\ z.cell? ⟨wt.heap.size, 1, none⟩ = some (.int .i64 0) /\ z.frozen? ⟨wt.heap.size, 0, none⟩ = false /\ z.frozen? ⟨wt.heap.size, 1, none⟩ = false) ((wt.alloc (.cells #[.int .i64 0, .int .i64 0] 143)).drew) := by simp [go_sem]
     go_wp2_with fail
     go_region_held3 (fun w' => w'.cell? ⟨p, 4, none⟩ = some (.slice (some ⟨gt, 0, none⟩) (nt) ct2) /\ w'.cell? ⟨gt, j * 2, none⟩ = some (.slice ta l.length tc) /\ w'.cell? ⟨w.heap.size, 3, none⟩ = some (.int .i64 wall) /\ w'.cell? ⟨w.heap.size, 4, none⟩ = some (.int .i64 gap) /\ w'.cell? ⟨w.heap.size, 5, none⟩ = some (.int .i64 fold)) (go_keep) (first | (go_at_call 71; refine (hR _ TA).mono ?_; rintro q w7 ⟨rfl, hb7⟩; have hB7 := qtr bA hb7; have q47 := jaa hb7 q4A; have r07 := jaa hb7 r0A; have e37 := jaa hb7 e3A; have e47 := jaa hb7 e4A; have e57 := jaa hb7 e5A) | (go_at_call 71; refine (hR _ TB).mono ?_; rintro q w7 ⟨rfl, hb7⟩; have hB7 := qtr bB hb7; have q47 := jaa hb7 q4B; have r07 := jaa hb7 r0B; have e37 := jaa hb7 e3B; have e47 := jaa hb7 e4B; have e57 := jaa hb7 e5B; have t0_7 := jaa hb7 tB0; have t1_7 := jaa hb7 tB1; have f0_7 := qfz hb7 tB0 fB0; have f1_7 := qfz hb7 tB1 fB1))
     ·skip
      have B9 : Below wt.heap.size wt (w7.alloc (.cells #[.int .i64 n7, .int .i64 c7] 143)) := hB7.alloc hB7.size _
      obtain ⟨t0, t1⟩ : (fun z : World => z.cell? ⟨w7.heap.size, 0, none⟩ = some (.int .i64 n7) /\ z.cell? ⟨w7.heap.size, 1, none⟩ = some (.int .i64 c7)) (w7.alloc (.cells #[.int .i64 n7, .int .i64 c7] 143)) := by simp [go_sem]
      have HB9 := hid B9
      clear B9 hB7 hb7
      clear hR TA TB q47 q4A q4B r07 r0A r0B e37 e3A e3B e47 e4A e4B e57 e5A e5B tB0 tB1 fB0 fB1 bA bB
      generalize (w7.alloc (.cells #[.int .i64 n7, .int .i64 c7] 143)) = w9 at *
      by_cases hc : c7 = 0
      ·subst hc
       go_wp2_with fail
       go_quiet (fail)
       go_wp2
       go_ret2
       exact HPO.out _ _ _ (HB9.out.trans (⟨rfl, rfl, rfl, Nat.le_refl _, fun _ _ => rfl⟩)) (by rw [HM.out]; rfl)
      ·have hc2 : (c7 == 0) = false := by simp [hc]
       go_wp2_with fail
       go_quiet (fail)
       go_wp2
       go_ret2
       exact HPO.out _ _ _ (HB9.out.trans (⟨rfl, rfl, rfl, Nat.le_refl _, fun _ _ => rfl⟩)) (by rw [HM.out, decide_eq_false hc])
     ·skip
      have B9 : Below wt.heap.size wt ((w7.setCell ⟨wt.heap.size, 0, none⟩ (.int .i64 n7)).setCell ⟨wt.heap.size, 1, none⟩ (.int .i64 c7)) := (hB7.setCell (Nat.le_refl _) _).setCell (Nat.le_refl _) _
      obtain ⟨t0, t1⟩ := jat (v0 := .int .i64 n7) (v1 := .int .i64 c7) t0_7 t1_7
      have HB9 := hid B9
      clear B9 hB7 hb7
      clear hR TA TB q47 q4A q4B r07 r0A r0B e37 e3A e3B e47 e4A e4B e57 e5A e5B tB0 tB1 fB0 fB1 bA bB t0_7 t1_7 f0_7 f1_7
      generalize ((w7.setCell ⟨wt.heap.size, 0, none⟩ (.int .i64 n7)).setCell ⟨wt.heap.size, 1, none⟩ (.int .i64 c7)) = w9 at *
      by_cases hc : c7 = 0
      ·subst hc
       go_wp2_with fail
       go_quiet (fail)
       go_wp2
       go_ret2
       exact HPO.out _ _ _ (HB9.out.trans (⟨rfl, rfl, rfl, Nat.le_refl _, fun _ _ => rfl⟩)) (by rw [HM.out]; rfl)
      ·have hc2 : (c7 == 0) = false := by simp [hc]
       go_wp2_with fail
       go_quiet (fail)
       go_wp2
       go_ret2
       exact HPO.out _ _ _ (HB9.out.trans (⟨rfl, rfl, rfl, Nat.le_refl _, fun _ _ => rfl⟩)) (by rw [HM.out, decide_eq_false hc])
    ·have hk2 : (tk == 0) = false := by simp [hk]
     go_wp2
     go_ret2
     exact HPO.out _ _ _ (Below.refl _ _) (by unfold momR; rw [momT_no (by rw [<- HTE.out.code]; exact hk)])
end
section
open Go.RowKit
structure Jg (s : StoreD) (w wr : World) (B pn pw h : Nat) (a b c d e f : Option Addr) (ca cb cc cd ce cf : Nat) (V : List Value) (L : List EventD) (lv : Value) (X : List EntryD) (i : Nat) (out : Value) : Prop where
 ex : ∃ zvN tvN zsN tsN zvW tvW zsW tsW, Zh wr B pn s.now a b c ca cb cc zvN tvN zsN tsN /\ tsN.length = zsN.length /\ zsN.length <= i /\ Zh wr B pw s.was d e f cd ce cf zvW tvW zsW tsW /\ tsW.length = zsW.length /\ zsW.length <= i /\ ∀ g, InC pn zvN tvN g -> ¬ InC pw zvW tvW g
 own : ∃ g m k, out = .slice (some ⟨g, 0, none⟩) m k /\ Zg wr (h + 1) out X /\ X.length = m /\ m <= k
 live : Ja wr (h + 1) lv L
 sv : Zd wr h V
 bel : Below w.heap.size w wr
 lo : B <= wr.heap.size
theorem Jg.below {s : StoreD} {w wr wr2 : World} {B pn pw h : Nat} {a b c d e f : Option Addr} {ca cb cc cd ce cf : Nat} {V : List Value} {L : List EventD} {lv : Value} {X X2 : List EntryD} {i : Nat} {out out2 : Value} (hR : Jg s w wr B pn pw h a b c d e f ca cb cc cd ce cf V L lv X i out) (hb : Below wr.heap.size wr wr2) (ho : ∃ g m k, out2 = .slice (some ⟨g, 0, none⟩) m k /\ Zg wr2 (h + 1) out2 X2 /\ X2.length = m /\ m <= k) : Jg s w wr2 B pn pw h a b c d e f ca cb cc cd ce cf V L lv X2 i out2 := by
 obtain ⟨zvN, tvN, zsN, tsN, zvW, tvW, zsW, tsW, h1, h2, h3, h4, h5, h6, h7⟩ := hR.ex
 exact ⟨⟨zvN, tvN, zsN, tsN, zvW, tvW, zsW, tsW, h1.below hb, h2, h3, h4.below hb, h5, h6, h7⟩, ho, jae hR.live hb, hR.sv.below hb, hR.bel.trans (hb.mono hR.bel.size), Nat.le_trans hR.lo hb.size⟩
theorem Jg.same {s : StoreD} {w wr wr2 : World} {B pn pw h : Nat} {a b c d e f : Option Addr} {ca cb cc cd ce cf : Nat} {V : List Value} {L : List EventD} {lv : Value} {X : List EntryD} {i : Nat} {out : Value} (hR : Jg s w wr B pn pw h a b c d e f ca cb cc cd ce cf V L lv X i out) (hb : Below wr.heap.size wr wr2) : Jg s w wr2 B pn pw h a b c d e f ca cb cc cd ce cf V L lv X i out := by
 obtain ⟨g, m, k, h1, h2, h3⟩ := hR.own
 exact hR.below hb ⟨g, m, k, h1, jae h2 hb, h3⟩
theorem Jg.ask_n {s : StoreD} {w wr : World} {B pn pw h : Nat} {a b c d e f : Option Addr} {ca cb cc cd ce cf : Nat} {V : List Value} {L : List EventD} {lv : Value} {X : List EntryD} {i : Nat} {out : Value} (hR : Jg s w wr B pn pw h a b c d e f ca cb cc cd ce cf V L lv X i out) (hh : h < B) (hwB : w.heap.size <= B) (ev : EventD)
  (hC : ∀ zv tv zs ts, Zh wr B pn s.now a b c ca cb cc zv tv zs ts -> ts.length = zs.length -> zs.length <= i -> Calls Tryz.prog 37 #[.pointer (some ⟨pn, 0, none⟩), ev.v] wr (InstP B pn s.now a b c ca cb cc zv tv zs ev wr)) :
  Calls Tryz.prog 37 #[.pointer (some ⟨pn, 0, none⟩), ev.v] wr fun q w2 => q = .returned (.tuple #[.int .i64 (momR s.now ev).1, .bool (momR s.now ev).2]) /\ Jg s w w2 B pn pw h a b c d e f ca cb cc cd ce cf V L lv X (i + 1) out := by
 obtain ⟨zvN, tvN, zsN, tsN, zvW, tvW, zsW, tsW, h1, h2, h3, h4, h5, h6, h7⟩ := hR.ex
 refine (hC zvN tvN zsN tsN h1 h2 h3).mono fun q w2 hP => ⟨hP.ex, ?_⟩
 have hf := hP.fr
 obtain ⟨zv2, tv2, zs2, ts2, k1, k2, k3, k4⟩ := hP.cache
 obtain ⟨g, m, k, o1, o2, o3⟩ := hR.own
 have hTn : ∀ g, (∃ cs, wr.heap[g]? = some (.cells cs 167 (0, 0))) -> ¬ InC pn zvN tvN g := fun g hg => h1.not hg (by decide) (by decide) (by decide)
 have hXn := jc0 o2 hf (fun g hg => h1.not (jb6 o2 hg) (by decide) (by decide) (by decide))
 have hLn := jc0 hR.live hf (fun g hg => h1.not (jb6 hR.live hg) (by decide) (by decide) (by decide))
 have hVn := hR.sv.fr hf (fun e => by have := h1.low e; omega)
 have hBn : Below w.heap.size w w2 := hR.bel.trans (hf.below (fun g hg => Nat.le_trans hwB (h1.low hg)) hR.bel.size)
 have hO := h4.fr hf (fun g hg hx => h7 g hx hg) hTn
 refine ⟨⟨zv2, tv2, zs2, ts2, zvW, tvW, zsW, tsW, k1, k2, by omega, hO, h5, by omega, fun g hg hx => ?_⟩, ⟨g, m, k, o1, hXn, o3⟩, hLn, hVn, hBn, Nat.le_trans hR.lo hf.size⟩
 rcases k4 g hg with hg | hg
 ·exact h7 g hg hx
 ·obtain ⟨t, ht, _⟩ := h4.kind hx
  have := typ_lt ht
  omega
theorem Jg.ask_w {s : StoreD} {w wr : World} {B pn pw h : Nat} {a b c d e f : Option Addr} {ca cb cc cd ce cf : Nat} {V : List Value} {L : List EventD} {lv : Value} {X : List EntryD} {i : Nat} {out : Value} (hR : Jg s w wr B pn pw h a b c d e f ca cb cc cd ce cf V L lv X i out) (hh : h < B) (hwB : w.heap.size <= B) (ev : EventD)
  (hC : ∀ zv tv zs ts, Zh wr B pw s.was d e f cd ce cf zv tv zs ts -> ts.length = zs.length -> zs.length <= i -> Calls Tryz.prog 37 #[.pointer (some ⟨pw, 0, none⟩), ev.v] wr (InstP B pw s.was d e f cd ce cf zv tv zs ev wr)) :
  Calls Tryz.prog 37 #[.pointer (some ⟨pw, 0, none⟩), ev.v] wr fun q w2 => q = .returned (.tuple #[.int .i64 (momR s.was ev).1, .bool (momR s.was ev).2]) /\ Jg s w w2 B pn pw h a b c d e f ca cb cc cd ce cf V L lv X (i + 1) out := by
 obtain ⟨zvN, tvN, zsN, tsN, zvW, tvW, zsW, tsW, h1, h2, h3, h4, h5, h6, h7⟩ := hR.ex
 refine (hC zvW tvW zsW tsW h4 h5 h6).mono fun q w2 hP => ⟨hP.ex, ?_⟩
 have hf := hP.fr
 obtain ⟨zv2, tv2, zs2, ts2, k1, k2, k3, k4⟩ := hP.cache
 obtain ⟨g, m, k, o1, o2, o3⟩ := hR.own
 have hTn : ∀ g, (∃ cs, wr.heap[g]? = some (.cells cs 167 (0, 0))) -> ¬ InC pw zvW tvW g := fun g hg => h4.not hg (by decide) (by decide) (by decide)
 have hXn := jc0 o2 hf (fun g hg => h4.not (jb6 o2 hg) (by decide) (by decide) (by decide))
 have hLn := jc0 hR.live hf (fun g hg => h4.not (jb6 hR.live hg) (by decide) (by decide) (by decide))
 have hVn := hR.sv.fr hf (fun e => by have := h4.low e; omega)
 have hBn : Below w.heap.size w w2 := hR.bel.trans (hf.below (fun g hg => Nat.le_trans hwB (h4.low hg)) hR.bel.size)
 have hO := h1.fr hf (fun g hg hx => h7 g hg hx) hTn
 refine ⟨⟨zvN, tvN, zsN, tsN, zv2, tv2, zs2, ts2, hO, h2, by omega, k1, k2, by omega, fun g hg hx => ?_⟩, ⟨g, m, k, o1, hXn, o3⟩, hLn, hVn, hBn, Nat.le_trans hR.lo hf.size⟩
 rcases k4 g hx with hx | hx
 ·exact h7 g hg hx
 ·obtain ⟨t, ht, _⟩ := h1.kind hg
  have := typ_lt ht
  omega
theorem momS_now {s : StoreD} {e : EventD} (h : s.cur = 0 \/ e.id < s.cur) : momS s e = momR s.now e := if_pos h
theorem momS_was {s : StoreD} {e : EventD} (h : ¬ (s.cur = 0 \/ e.id < s.cur)) : momS s e = momR s.was e := if_neg h
end
section
open Go.RowKit
theorem cache_new {w2 : World} {B p : Nat} {r : RelD} {a b c : Option Addr} {ca cb cc : Nat} (hv : Zd w2 p [.slice a r.rules.length ca, .slice b r.zones.length cb, .slice c r.links.length cc, .slice none 0 0, .slice none 0 0]) (ht : ∃ cs, w2.heap[p]? = some (.cells cs 94 (0, 0))) (hp : B <= p) : Zh w2 B p r a b c ca cb cc (.slice none 0 0) (.slice none 0 0) [] [] :=
 ⟨hv, ht, hp, World.ownsRow_nil _ _ _ _, World.ownsRow_nil _ _ _ _, fun i z t hz => by simp at hz⟩
theorem hidE {p : Prop} (h : p) : Hid p := h
theorem inC_nil {p g : Nat} (h : InC p (.slice none 0 0) (.slice none 0 0) g) : g = p := by
 rcases h with h | h | h
 ·exact h
 ·cases h
 ·cases h
theorem ev_cells {w : World} {B g n c : Nat} {L : List EventD} (h : Ja w B (.slice (some ⟨g, 0, none⟩) n c) L) {i : Nat} {x : EventD} (hx : L[i]? = some x) : w.cell? ⟨g, i * 6, none⟩ = some (.int .i64 x.id) /\ w.cell? ⟨g, i * 6 + 1, none⟩ = some (.string x.name) /\ w.cell? ⟨g, i * 6 + 2, none⟩ = some (.string x.zone) /\ w.cell? ⟨g, i * 6 + 3, none⟩ = some (.int .i64 x.wall) /\ w.cell? ⟨g, i * 6 + 4, none⟩ = some (.int .i64 x.gap) /\ w.cell? ⟨g, i * 6 + 5, none⟩ = some (.int .i64 x.fold) := by
 have hr : (L.map EventD.cs)[i]? = some x.cs := by rw [List.getElem?_map, hx]; rfl
 have hl : ∀ r ∈ L.map EventD.cs, r.length = 6 := fun r hr => by obtain ⟨y, _, rfl⟩ := List.mem_map.1 hr; rfl
 exact ⟨h.cell (jbe hl (i := i) (j := 0) hr rfl), h.cell (jbe hl (i := i) (j := 1) hr rfl), h.cell (jbe hl (i := i) (j := 2) hr rfl), h.cell (jbe hl (i := i) (j := 3) hr rfl), h.cell (jbe hl (i := i) (j := 4) hr rfl), h.cell (jbe hl (i := i) (j := 5) hr rfl)⟩
abbrev stL (s : StoreD) (a b c d e f va ia : Option Addr) (ca cb cc cd ce cf cv ci : Nat) : List Value :=
 [.int .i64 s.tx, .slice a s.now.rules.length ca, .slice b s.now.zones.length cb, .slice c s.now.links.length cc, .slice d s.was.rules.length cd, .slice e s.was.zones.length ce, .slice f s.was.links.length cf, .int .i64 s.cur, .slice va s.vs.length cv, .slice ia s.ix.length ci]
theorem new_at (w : World) (o p : Obj) : (w.alloc o).heap.size = w.heap.size + 1 /\ ((w.alloc o).alloc p).heap.size = w.heap.size + 1 + 1 /\ Below w.heap.size w ((w.alloc o).alloc p) := ⟨by simp, by simp, (qal _ _).alloc (by simp) _⟩
theorem two_new (w : World) (L : List Value) (t : TypeId) : ∃ x, (w.alloc (.cells L.toArray t)).alloc (.cells #[] 57) = x /\ Below w.heap.size w x /\ Zd x w.heap.size L /\ Zg x (w.heap.size + 1) (.slice (some ⟨w.heap.size + 1, 0, none⟩) 0 0) [] /\ x.heap.size = w.heap.size + 1 + 1 := by
 obtain ⟨e, z, b⟩ := new_at w (.cells L.toArray t) (.cells #[] 57)
 have h := ja3 (w.alloc (.cells L.toArray t)) 57 2
 rw [e] at h
 exact ⟨_, rfl, b, (Zd.new w L t).below (qal _ _), h, z⟩
theorem two_caches (w : World) (L M : List Value) : ∃ x, (w.alloc (.cells L.toArray 94)).alloc (.cells M.toArray 94) = x /\ Below w.heap.size w x /\ Zd x w.heap.size L /\ Zd x (w.heap.size + 1) M /\ (∃ cs, x.heap[w.heap.size]? = some (.cells cs 94 (0, 0))) /\ (∃ cs, x.heap[w.heap.size + 1]? = some (.cells cs 94 (0, 0))) /\ x.heap.size = w.heap.size + 1 + 1 := by
 obtain ⟨e, z, b⟩ := new_at w (.cells L.toArray 94) (.cells M.toArray 94)
 have h := Zd.new (w.alloc (.cells L.toArray 94)) M 94
 have g := heap_alloc_new (w.alloc (.cells L.toArray 94)) (.cells M.toArray 94)
 have bW : Below _ _ ((w.alloc (.cells L.toArray 94)).alloc (.cells M.toArray 94)) := qal _ _
 rw [e] at h g
 exact ⟨_, rfl, b, (Zd.new w L _).below bW, h, ⟨_, (bW.block _ (by simp)).trans (heap_alloc_new w _)⟩, ⟨_, g⟩, z⟩
theorem spec_l06Entries (s : StoreD) (v : Value) (w : World) (hv : Jh w v s) (ok : Zu s) (hr1 : relB s.now = true) (hr2 : relB s.was = true) (hvl : s.vs.length <= 1000) (hL : (jba s.vs).length <= 1000) (hEv : ∀ e ∈ jba s.vs, EvR e) :
  Calls Tryz.prog 18 #[v] w fun q w' => ∃ x, q = .returned x /\ Zg w' w.heap.size x (entF (momS s) (jba s.vs)) /\ Below w.heap.size w w' := by
 obtain ⟨a, b, c, d, e, f, va, ia, ca, cb, cc, cd, ce, cf, cv, ci, rfl, hN, hW, hV, hX, _, _⟩ := hv.form
 obtain ⟨wA, hwA, b1, A1, O1, z1⟩ := two_new w [.int .i64 s.tx, .slice a s.now.rules.length ca, .slice b s.now.zones.length cb, .slice c s.now.links.length cc, .slice d s.was.rules.length cd, .slice e s.was.zones.length ce, .slice f s.was.links.length cf, .int .i64 s.cur, .slice va s.vs.length cv, .slice ia s.ix.length ci] 41
 have x4 := A1.c 8 (u := .slice va s.vs.length cv) rfl
 rw [<- hwA] at x4
 have hLv := spec_l06Live s.vs va s.vs.length cv wA (hV.below b1) rfl hvl
 have HN := hid hN
 have HW := hid hW
 have HA := hid hwA
 clear hN hW hV hX hv hwA
 go_enter Tryz.func18, Tryz.ntmps18
 go_wp2_with fail
 rw [HA.out]
 clear HA x4
 refine hLv.mono ?_
 rintro q w2 ⟨lv, rfl, hO2, hb2⟩
 rw [z1] at hO2
 obtain ⟨pl, cl, rfl, hpl⟩ := row_is hO2
 have A2 := A1.below hb2
 have O2 : Zg w2 (w.heap.size + 1) (.slice (some ⟨w.heap.size + 1, 0, none⟩) 0 0) [] := jae O1 hb2
 have b2 := qtr b1 hb2
 have y1 := A2.c 1 (u := .slice a s.now.rules.length ca) rfl
 have y2 := A2.c 2 (u := .slice b s.now.zones.length cb) rfl
 have y3 := A2.c 3 (u := .slice c s.now.links.length cc) rfl
 have y4 := A2.c 4 (u := .slice d s.was.rules.length cd) rfl
 have y5 := A2.c 5 (u := .slice e s.was.zones.length ce) rfl
 have y6 := A2.c 6 (u := .slice f s.was.links.length cf) rfl
 obtain ⟨L, hLL⟩ : ∃ L, jba s.vs = L := ⟨_, rfl⟩
 rw [hLL] at hL hEv hO2 hpl ⊢
 have HLL := hid hLL
 obtain ⟨nl, hnl⟩ : ∃ n, L.length = n := ⟨_, rfl⟩
 have HNL := hid hnl
 rw [hnl] at hpl hL ⊢
 have hs2 : w.heap.size + 1 + 1 <= w2.heap.size := by have := hb2.size; omega
 obtain ⟨w4, hw4, b24, KN, KW, TN, TW, z4⟩ := two_caches w2 [.slice a s.now.rules.length ca, .slice b s.now.zones.length cb, .slice c s.now.links.length cc, .slice none 0 0, .slice none 0 0] [.slice d s.was.rules.length cd, .slice e s.was.zones.length ce, .slice f s.was.links.length cf, .slice none 0 0, .slice none 0 0]
 have hO2b : Ja w2 (w.heap.size + 1) (.slice pl nl cl) L := by rw [hnl] at hO2; exact jak hO2 (by omega)
 obtain ⟨B, hBB⟩ : ∃ B, w2.heap.size = B := ⟨_, rfl⟩
 have hR0 : Jg s w w4 w2.heap.size w2.heap.size (w2.heap.size + 1) w.heap.size a b c d e f ca cb cc cd ce cf (stL s a b c d e f va ia ca cb cc cd ce cf cv ci) L (.slice pl nl cl) (entF (momS s) (L.take 0)) 0 (.slice (some ⟨w.heap.size + 1, 0, none⟩) 0 0) :=
  ⟨⟨_, _, [], [], _, _, [], [], cache_new KN TN (Nat.le_refl _), rfl, Nat.le_refl _, cache_new KW TW (by omega), rfl, Nat.le_refl _, fun g h1 h2 => by (have := inC_nil h1; have := inC_nil h2; omega)⟩, ⟨_, 0, 0, rfl, jae O2 b24, rfl, Nat.le_refl _⟩, jae hO2b b24, A2.below b24, (qtr b2 b24), by rw [z4]; omega⟩
 have HR0 : Hid (Jg s w w4 B B (B + 1) w.heap.size a b c d e f ca cb cc cd ce cf (stL s a b c d e f va ia ca cb cc cd ce cf cv ci) L (.slice pl nl cl) (entF (momS s) (L.take 0)) 0 (.slice (some ⟨w.heap.size + 1, 0, none⟩) 0 0)) := by simp only [Hid]; rw [<- hBB]; exact hR0
 have HA := hid hw4
 have hwB : w.heap.size < B := by omega
 have HPL := hid hpl
 clear hR0 KN KW TN TW hw4 b24 hO2 hO2b O2 A2 b2 hb2 A1 O1 b1 z1 hLv hnl hLL hpl z4
 go_wp2
 rw [HA.out]
 clear HA
 try simp only [hBB]
 clear hBB hs2 y1 y2 y3 y4 y5 y6
 go_loopw [3, 7, 8, 9] (fun s3 s7 _ _ wr => ∃ i : Nat, i <= nl /\ s7 = .int .i64 i /\ Hid (Jg s w wr B B (B + 1) w.heap.size a b c d e f ca cb cc cd ce cf (stL s a b c d e f va ia ca cb cc cd ce cf cv ci) L (.slice pl nl cl) (entF (momS s) (L.take i)) i s3)) (fun _ s7 _ _ _ => nl - (intOf s7).toNat)
 case atStart => exact ⟨0, by omega, rfl, HR0⟩
 case round =>
  obtain ⟨wa, hwa⟩ : ∃ x : World, x = wr := ⟨_, rfl⟩
  subst hwa
  obtain ⟨i, hi, rfl, HR⟩ := hrel
  clear HR0
  obtain ⟨go, mo, co, hout, hOX, hXl, hmc⟩ := HR.out.own
  subst hout
  by_cases hlt : i < nl
  ·have i1 : (i : Int) < (nl : Int) := by omega
   have i0 : (0 : Int) <= (i : Int) := by omega
   obtain ⟨gl, rfl⟩ := HPL.out (by omega)
   obtain ⟨ev, hev⟩ : ∃ x, L[i]? = some x := ⟨_, List.getElem?_eq_getElem (by have := HNL.out; omega)⟩
   have hR := hEv ev (List.mem_of_getElem? hev)
   have HT : Hid (entF (momS s) (L.take (i + 1)) = entAdd (momS s) (entF (momS s) (L.take i)) ev) := entF_take hev
   have HEV := hid hev
   obtain ⟨c0, c1, c2, c3, c4, c5⟩ := ev_cells HR.out.live hev
   have s7 := HR.out.sv.c 7 (u := .int .i64 s.cur) rfl
   have HOX := hid hOX
   have hXL : mo <= 1000 := by have h1 := entF_len (momS s) (L.take i); rw [List.length_take] at h1; omega
   have HC : Hid (∀ wx, Jg s w wx B B (B + 1) w.heap.size a b c d e f ca cb cc cd ce cf (stL s a b c d e f va ia ca cb cc cd ce cf cv ci) L (.slice (some ⟨gl, 0, none⟩) nl cl) (entF (momS s) (L.take i)) i (.slice (some ⟨go, 0, none⟩) mo co) -> (∀ zv tv zs ts, Zh wx B B s.now a b c ca cb cc zv tv zs ts -> ts.length = zs.length -> zs.length <= i -> Calls Tryz.prog 37 #[.pointer (some ⟨B, 0, none⟩), ev.v] wx (InstP B B s.now a b c ca cb cc zv tv zs ev wx)) /\ (∀ zv tv zs ts, Zh wx B (B + 1) s.was d e f cd ce cf zv tv zs ts -> ts.length = zs.length -> zs.length <= i -> Calls Tryz.prog 37 #[.pointer (some ⟨B + 1, 0, none⟩), ev.v] wx (InstP B (B + 1) s.was d e f cd ce cf zv tv zs ev wx))) := fun wx h => ⟨fun zv tv zs ts k1 k2 k3 => spec_instant w B B s.now a b c ca cb cc zv tv zs ts ev wx HN.out h.bel (by omega) h.lo ok.now hr1 k1 k2 (by omega) hR, fun zv tv zs ts k1 k2 k3 => spec_instant w B (B + 1) s.was d e f cd ce cf zv tv zs ts ev wx HW.out h.bel (by omega) h.lo ok.was hr2 k1 k2 (by omega) hR⟩
   have HL2 : Hid (∀ wx, Jg s w wx B B (B + 1) w.heap.size a b c d e f ca cb cc cd ce cf (stL s a b c d e f va ia ca cb cc cd ce cf cv ci) L (.slice (some ⟨gl, 0, none⟩) nl cl) (entF (momS s) (L.take i)) (i + 1) (.slice (some ⟨go, 0, none⟩) mo co) -> wx.cell? ⟨gl, i * 6, none⟩ = some (.int .i64 ev.id)) := fun wx h => (ev_cells h.live HEV.out).1
   clear hev hR hOX hEv
   go_upto_region 9 with fail
   go_cut [40] from 28 to 39 (fun s40 wx => ∃ (bo : Bool) (nq : Nat), s40 = .bool bo /\ wx = wa.drewN nq /\ Hid (momS s ev = if bo = true then momR s.was ev else momR s.now ev))
   case first =>
    by_cases h1 : s.cur = 0
    ·have HM : Hid (momS s ev = momR s.now ev) := momS_now (.inl h1)
     rw [h1] at s7
     clear h1
     go_quiet (fail)
     go_wp2
     go_meet
     exact ⟨false, nq, rfl, rfl, HM.out⟩
    have h1b : (s.cur != 0) = true := by simp [h1]
    by_cases h2 : ev.id < s.cur
    ·have HM : Hid (momS s ev = momR s.now ev) := momS_now (.inr h2)
     have h2b : decide (s.cur <= ev.id) = false := by simp; omega
     clear h1 h2
     go_quiet (fail)
     go_wp2
     go_meet
     exact ⟨false, nq, rfl, rfl, HM.out⟩
    ·have HM : Hid (momS s ev = momR s.was ev) := momS_was (fun h => h.elim h1 h2)
     have h2b : decide (s.cur <= ev.id) = true := by simp; omega
     clear h1 h2
     go_quiet (fail)
     go_wp2
     go_meet
     exact ⟨true, nq, rfl, rfl, HM.out⟩
   case rest =>
    obtain ⟨bo, nq, rfl, rfl, HM0⟩ := hcut
    have hRq := HR.out.same (show Below wa.heap.size wa (wa.drewN nq) from ⟨rfl, rfl, rfl, Nat.le_refl _, fun _ _ => rfl⟩)
    have d0 : (wa.drewN nq).cell? ⟨gl, i * 6, none⟩ = some (.int .i64 ev.id) := c0
    have d1 : (wa.drewN nq).cell? ⟨gl, i * 6 + 1, none⟩ = some (.string ev.name) := c1
    have d2 : (wa.drewN nq).cell? ⟨gl, i * 6 + 2, none⟩ = some (.string ev.zone) := c2
    have d3 : (wa.drewN nq).cell? ⟨gl, i * 6 + 3, none⟩ = some (.int .i64 ev.wall) := c3
    have d4 : (wa.drewN nq).cell? ⟨gl, i * 6 + 4, none⟩ = some (.int .i64 ev.gap) := c4
    have d5 : (wa.drewN nq).cell? ⟨gl, i * 6 + 5, none⟩ = some (.int .i64 ev.fold) := c5
    have hCn := hRq.ask_n (by omega) (by omega) ev (HC.out _ hRq).1
    have hCw := hRq.ask_w (by omega) (by omega) ev (HC.out _ hRq).2
    clear hRq HC c0 c1 c2 c3 c4 c5 s7
    simp only [EventD.v] at hCn hCw
    generalize wa.drewN nq = wq at *
    cases bo
    ·have HM1 : Hid (momS s ev = momR s.now ev) := HM0.out.trans (if_neg (by simp))
     obtain ⟨⟨M1, M2⟩, hM⟩ : ∃ M, momR s.now ev = M := ⟨_, rfl⟩
     rw [hM] at hCn
     have HM : Hid (momS s ev = (M1, M2)) := by simp only [Hid]; rw [HM1.out]; exact hM
     clear hM HM0 HM1
     go_wp2_with fail
     refine hCn.mono ?_
     rintro q w5 ⟨rfl, hR5⟩
     have f0 := HL2.out w5 hR5
     have HR5 := hidE hR5
     clear hR5 hCn hCw d0 d1 d2 d3 d4 d5
     cases M2
     ·have HR6 : Hid (Jg s w w5 B B (B + 1) w.heap.size a b c d e f ca cb cc cd ce cf (stL s a b c d e f va ia ca cb cc cd ce cf cv ci) L (.slice (some ⟨gl, 0, none⟩) nl cl) (entF (momS s) (L.take (i + 1))) (i + 1) (.slice (some ⟨go, 0, none⟩) mo co)) := by
       simp only [Hid]
       rw [HT.out, entAdd, HM.out, if_neg (by simp)]
       exact HR5.out
      go_wp2
      go_roundw
      case rel => exact ⟨i + 1, by omega, by go_num, HR6⟩
      case measure => simp [intOf]; omega
     ·obtain ⟨g5, m5, k5, ho5, hO5, hl5, hk5⟩ := HR5.out.own
      injection ho5 with h1 h2 h3
      injection h1 with h1
      injection h1 with h1
      subst h1 h2 h3
      have hAd := spec_l06Add (entF (momS s) (L.take i)) ⟨M1, ev.id⟩ go mo co (w.heap.size + 1) w5 hO5 hl5 hk5 hXL
      have HL5 := hidE hl5
      clear hO5 hl5
      go_wp2_with fail
      refine hAd.mono ?_
      rintro q w6 ⟨g6, c6, rfl, hc6, hO6, hb6⟩
      have HR7 : Hid (Jg s w w6 B B (B + 1) w.heap.size a b c d e f ca cb cc cd ce cf (stL s a b c d e f va ia ca cb cc cd ce cf cv ci) L (.slice (some ⟨gl, 0, none⟩) nl cl) (entF (momS s) (L.take (i + 1))) (i + 1) (.slice (some ⟨g6, 0, none⟩) (mo + 1) c6)) := by
       simp only [Hid]
       rw [HT.out, entAdd, HM.out, if_pos rfl]
       exact HR5.out.below hb6 ⟨g6, mo + 1, c6, rfl, jak hO6 (Nat.le_trans (by omega) HR5.out.lo), by rw [jbb, HL5.out], hc6⟩
      clear hO6 hb6 hAd
      go_wp2
      go_roundw
      case rel => exact ⟨i + 1, by omega, by go_num, HR7⟩
      case measure => simp [intOf]; omega
    ·have HM1 : Hid (momS s ev = momR s.was ev) := HM0.out.trans (if_pos rfl)
     obtain ⟨⟨M1, M2⟩, hM⟩ : ∃ M, momR s.was ev = M := ⟨_, rfl⟩
     rw [hM] at hCw
     have HM : Hid (momS s ev = (M1, M2)) := by simp only [Hid]; rw [HM1.out]; exact hM
     clear hM HM0 HM1
     go_wp2_with fail
     refine hCw.mono ?_
     rintro q w5 ⟨rfl, hR5⟩
     have f0 := HL2.out w5 hR5
     have HR5 := hidE hR5
     clear hR5 hCn hCw d0 d1 d2 d3 d4 d5
     cases M2
     ·have HR6 : Hid (Jg s w w5 B B (B + 1) w.heap.size a b c d e f ca cb cc cd ce cf (stL s a b c d e f va ia ca cb cc cd ce cf cv ci) L (.slice (some ⟨gl, 0, none⟩) nl cl) (entF (momS s) (L.take (i + 1))) (i + 1) (.slice (some ⟨go, 0, none⟩) mo co)) := by
       simp only [Hid]
       rw [HT.out, entAdd, HM.out, if_neg (by simp)]
       exact HR5.out
      go_wp2
      go_roundw
      case rel => exact ⟨i + 1, by omega, by go_num, HR6⟩
      case measure => simp [intOf]; omega
     ·obtain ⟨g5, m5, k5, ho5, hO5, hl5, hk5⟩ := HR5.out.own
      injection ho5 with h1 h2 h3
      injection h1 with h1
      injection h1 with h1
      subst h1 h2 h3
      have hAd := spec_l06Add (entF (momS s) (L.take i)) ⟨M1, ev.id⟩ go mo co (w.heap.size + 1) w5 hO5 hl5 hk5 hXL
      have HL5 := hidE hl5
      clear hO5 hl5
      go_wp2_with fail
      refine hAd.mono ?_
      rintro q w6 ⟨g6, c6, rfl, hc6, hO6, hb6⟩
      have HR7 : Hid (Jg s w w6 B B (B + 1) w.heap.size a b c d e f ca cb cc cd ce cf (stL s a b c d e f va ia ca cb cc cd ce cf cv ci) L (.slice (some ⟨gl, 0, none⟩) nl cl) (entF (momS s) (L.take (i + 1))) (i + 1) (.slice (some ⟨g6, 0, none⟩) (mo + 1) c6)) := by
       simp only [Hid]
       rw [HT.out, entAdd, HM.out, if_pos rfl]
       exact HR5.out.below hb6 ⟨g6, mo + 1, c6, rfl, jak hO6 (Nat.le_trans (by omega) HR5.out.lo), by rw [jbb, HL5.out], hc6⟩
      clear hO6 hb6 hAd
      go_wp2
      go_roundw
      case rel => exact ⟨i + 1, by omega, by go_num, HR7⟩
      case measure => simp [intOf]; omega
  ·obtain rfl : i = nl := by omega
   have HF : Hid (Zg wa w.heap.size (.slice (some ⟨go, 0, none⟩) mo co) (entF (momS s) L)) := by
    rw [List.take_of_length_le (by rw [HNL.out]; exact Nat.le_refl _)] at hOX
    exact jak hOX (by omega)
   have hbf := HR.out.bel
   clear hOX
   go_wp2
   go_ret
   exact ⟨.slice (some ⟨go, 0, none⟩) mo co, rfl, by rw [HLL.out]; exact HF.out, hbf⟩
end
end Go.Proofs.YtpejeokacilebaaGreatDoor
