/- Packed. -/
import Derived.Test.YtgiieknbckhofaaGreatDoorSLu
import Derived.Test.YtgiieknbckhofaaGreatDoorSEu
set_option maxRecDepth 20000
set_option maxHeartbeats 20000000
set_option linter.unusedSimpArgs false
namespace Go.Proofs.YtgiieknbckhofaaGreatDoor
section
open Go.RowKit
theorem js7 {w : World} {a : Option Addr} {zs : List ZoneD} (h : Zo w a zs) : ∃ rows : List (List Value), rows.length = zs.length /\ Za w a 2 rows /\ (∀ r ∈ rows, r.length = 2) /\ (∀ u ∈ rows.flatten, u.oneCell' = true) /\ ∀ (j : Nat) z, zs[j]? = some z -> ∃ v, rows[j]? = some [.string z.name, v] /\ Jg w v z.eras := by
 rcases h with rfl | ⟨b, o, ha, hc⟩
 ·exact ⟨[], rfl, .inl rfl, fun r hr => by simp at hr, fun u hu => by simp at hu, fun j z hz => by simp at hz⟩
 obtain ⟨rows, hl, hp⟩ := je8 (P := fun i r => ∃ z v, zs[i]? = some z /\ r = [Value.string z.name, v] /\ w.cell? (ad b (o + i * 2)) = some (.string z.name) /\ w.cell? (ad b (o + i * 2 + 1)) = some v /\ Jg w v z.eras) zs.length (fun i hi => by
  have hz : zs[i]? = some zs[i] := lgg hi
  obtain ⟨c0, v, c1, hE⟩ := hc i _ hz
  exact ⟨_, zs[i], v, hz, rfl, c0, c1, hE⟩)
 refine ⟨rows, hl, .inr ⟨b, o, ha, fun i j r c hr hj => ?_⟩, fun r hr => ?_, fun u hu => ?_, fun j z hz => ?_⟩
 ·obtain ⟨z, v, _, rfl, c0, c1, _⟩ := hp i r hr
  match j, hj with
  | 0, hj => simp at hj; subst hj; exact c0
  | 1, hj => simp at hj; subst hj; exact c1
  | j + 2, hj => simp at hj
 ·obtain ⟨i, hi⟩ := lgo hr
  obtain ⟨z, v, _, rfl, _⟩ := hp i r hi
  rfl
 ·obtain ⟨r, hr, GR⟩ := List.mem_flatten.mp hu
  obtain ⟨i, hi⟩ := lgo hr
  obtain ⟨z, v, _, rfl, _, _, a2, c2, rfl, _⟩ := hp i r hi
  simp at GR
  rcases GR with rfl | rfl <;> rfl
 ·have hj := (List.getElem?_eq_some_iff.1 hz).1
  have hr : rows[j]? = some rows[j] := lgg (by omega)
  obtain ⟨z2, v, aG, he, _, _, hE⟩ := hp j _ hr
  rw [hz] at aG
  obtain rfl := osi aG
  exact ⟨v, by rw [hr, he], hE⟩
theorem js6 {L : List RuleD} : ∀ u ∈ (L.map RuleD.cs).flatten, u.oneCell' = true := fun u hu => by
 simp only [List.mem_flatten, List.mem_map] at hu
 obtain ⟨r, ⟨t, _, rfl⟩, hr⟩ := hu
 simp [RuleD.cs] at hr
 rcases hr with rfl | rfl | rfl | rfl | rfl | rfl | rfl | rfl | rfl <;> rfl
theorem jto {L : List LinkD} : ∀ u ∈ (L.map LinkD.cs).flatten, u.oneCell' = true := fun u hu => by
 simp only [List.mem_flatten, List.mem_map] at hu
 obtain ⟨r, ⟨t, _, rfl⟩, hr⟩ := hu
 simp [LinkD.cs] at hr
 rcases hr with rfl | rfl <;> rfl
theorem jxh {L : List EraD} : ∀ u ∈ (L.map EraD.cs).flatten, u.oneCell' = true := fun u hu => by
 simp only [List.mem_flatten, List.mem_map] at hu
 obtain ⟨r, ⟨t, _, rfl⟩, hr⟩ := hu
 simp [EraD.cs] at hr
 rcases hr with rfl | rfl | rfl | rfl | rfl | rfl <;> rfl
theorem jla {α : Type} {cs : α -> List Value} {k : Nat} (h : ∀ x, (cs x).length = k) (L : List α) : ∀ r ∈ L.map cs, r.length = k := fun r hr => by
 obtain ⟨x, _, rfl⟩ := List.mem_map.1 hr
 exact h x
structure ZonP (w wr : World) (zs : List ZoneD) (B i : Nat) (v : Value) (n : Nat) : Prop where
 own : ∃ xs, wr.ownsRow B 146 2 v n xs /\ ∀ (j : Nat) z, i <= j -> zs[j]? = some z -> ∃ u, xs[j * 2 + 1]? = some u /\ Jg w u z.eras
structure CopP (w : World) (q : Ending) (w' : World) : Prop where
 ex : ∃ a n c a2 n2 c2 a3 n3 c3, q = .returned (.agg #[.slice a n c, .slice a2 n2 c2, .slice a3 n3 c3])
 bel : Bw w w'
theorem jc6 (r : RelD) (a b c : Option Addr) (ca cb cc : Nat) (w : World) (hv : Zd w (.agg #[.slice a r.rules.length ca, .slice b r.zones.length cb, .slice c r.links.length cc]) r) (sm : r.small) :
  Cl 99 #[.agg #[.slice a r.rules.length ca, .slice b r.zones.length cb, .slice c r.links.length cc]] w (CopP w) := by
 obtain ⟨a', b', c', OM, OO, OQ, he, hA, hZ, hC⟩ := hv.form
 injection he with he
 simp only [List.toArray_inj, List.cons.injEq, Value.slice.injEq, true_and, and_true, Array.mk.injEq] at he
 obtain ⟨⟨rfl, rfl⟩, ⟨rfl, rfl⟩, rfl, rfl⟩ := he
 obtain ⟨m1, m2, m3, m4⟩ := sm
 obtain ⟨rs, zs, ls⟩ := r
 simp only at *
 obtain ⟨rows, hl, hq, r2, r1, ap⟩ := js7 hZ
 have ag : Bw w ((w.alloc (.cells #[.slice a rs.length ca, .slice b zs.length cb, .slice c ls.length cc] 38)).alloc (.cells #[nS, nS, nS] 38)) := (qal _ _).alloc (by simp) _
 have X0 : Ze ((w.alloc (.cells #[.slice a rs.length ca, .slice b zs.length cb, .slice c ls.length cc] 38)).alloc (.cells #[nS, nS, nS] 38)) w.heap.size [.slice a rs.length ca, .slice b zs.length cb, .slice c ls.length cc] := (Ze.new w [.slice a rs.length ca, .slice b zs.length cb, .slice c ls.length cc] 38).below (qal _ _)
 have O0 : Ze ((w.alloc (.cells #[.slice a rs.length ca, .slice b zs.length cb, .slice c ls.length cc] 38)).alloc (.cells #[nS, nS, nS] 38)) (w.heap.size + 1) [nS, nS, nS] := by
  have h := Ze.new (w.alloc (.cells #[.slice a rs.length ca, .slice b zs.length cb, .slice c ls.length cc] 38)) [nS, nS, nS] 38
  simpa using h
 have dK : ((w.alloc (.cells #[.slice a rs.length ca, .slice b zs.length cb, .slice c ls.length cc] 38)).alloc (.cells #[nS, nS, nS] 38)).heap.size = w.heap.size + 1 + 1 := by simp
 have uh := fun w h => jua rows r2 r1 b zs.length cb w h hl m2
 have ug := fun w h => jub (rs.map RuleD.cs) (jla (cs := RuleD.cs) (fun _ => rfl) rs) js6 a rs.length ca w h (by simp) m1
 have Bb := fun w h => juc (ls.map LinkD.cs) (jla (cs := LinkD.cs) (fun _ => rfl) ls) jto c ls.length cc w h (by simp) m3
 have HR := hid ap
 have HM := hid m4
 have HA := hid hA
 have HC := hid hC
 have HF : Hid (∀ (j : Nat) z v, zs[j]? = some z -> rows[j]? = some [.string z.name, v] -> rows.flatten[j * 2 + 1]? = some v) := fun j z v _ hr => jbh r2 hr rfl
 have x1 := X0.c 1 (u := .slice b zs.length cb) rfl
 have sN := hq.below ag
 clear hv hZ hA hC ap m4 hq r1 r2 hl
 generalize Cu : zs.length = nz at *
 have HN := hid Cu
 clear Cu
 go_enter Tryz.func99, Tryz.ntmps99
 go_wp2_with fail
 refine (uh _ sN).mono ?_
 rintro q w1 ⟨zv, rfl, gZ, hb1⟩
 rw [dK] at gZ
 obtain ⟨pz, mz, cz, rfl⟩ := jab gZ
 have L3 : mz = nz := by
  rcases gZ.2 with ⟨h1, h2⟩ | ⟨_, _, _, h1, _⟩
  ·injection h1 with _ h1 _; omega
  ·injection h1
 subst L3
 have aj := qtr ag hb1
 have X1 := X0.below hb1
 have O1 := O0.below hb1
 have jp : ZonP w w1 zs (w.heap.size + 1 + 1) 0 (.slice pz mz cz) mz := ⟨_, gZ, fun j z _ hz => by
  obtain ⟨v, hr, hE⟩ := HR.out j z hz
  exact ⟨v, HF.out j z v hz hr, hE⟩⟩
 have HX := hid X1
 have HO := hid O1
 clear uh sN gZ hb1 x1 X0 O0 dK HR HF X1 O1 ag
 go_wp2
 go_loopw [4, 10] (fun _ wj wr => ∃ i : Nat, i <= mz /\ wj = iv i /\ Hid (ZonP w wr zs (w.heap.size + 1 + 1) i (.slice pz mz cz) mz) /\ Hid (Ze wr w.heap.size [.slice a rs.length ca, .slice b mz cb, .slice c ls.length cc]) /\ Hid (Ze wr (w.heap.size + 1) [nS, nS, nS]) /\ Bw w wr /\ Hid (w.heap.size + 1 + 1 <= wr.heap.size)) (fun _ wj _ => mz - (intOf wj).toNat)
 case atStart => exact ⟨0, by omega, rfl, jp, HX, HO, aj, by have := qbl (HO.out.c 0 (u := nS) rfl); exact this⟩
 case round =>
  obtain ⟨wa, eW⟩ := qea wr
  subst eW
  obtain ⟨i, hi, rfl, HZ, tz, xh, iK, HS⟩ := hrel
  clear jp HX HO aj
  by_cases hlt : i < mz
  ·have a1 : (i : Int) < (mz : Int) := by omega
   have a0 : (0 : Int) <= (i : Int) := by omega
   obtain ⟨z, hz⟩ : ∃ z, zs[i]? = some z := ⟨_, lgg (by have := HN.out; omega)⟩
   obtain ⟨xs, hO, hx⟩ := HZ.out.own
   obtain ⟨u, hu, ea, ec, Ls, hE⟩ := hx i z (nlr _) hz
   subst Ls
   have vB : ∃ g, pz = some (ad g 0) := by
    rcases hO.2 with ⟨h1, h2⟩ | ⟨g, _, _, h1, _⟩
    ·omega
    ·injection h1 with h1 _ _; exact ⟨g, h1⟩
   obtain ⟨g, rfl⟩ := vB
   have hc : wa.cell? (ad g (i * 2 + 1)) = some (.slice ea z.eras.length ec) := by rw [hO.cellAt (i * 2 + 1) (by omega)]; exact hu
   have KO := (World.ownsRow.lt hO g rfl).1
   have uf := jxu (z.eras.map EraD.cs) (jla (cs := EraD.cs) (fun _ => rfl) z.eras) jxh ea z.eras.length ec wa (hE.below iK) (by simp) (HM.out z (lmg hz))
   have yW := hid hx
   have yQ := hid hO
   clear hx hO hu hE hz
   generalize z.eras.length = ne at *
   go_wp2_with fail
   refine uf.mono ?_
   rintro q w2 ⟨v2, rfl, br, ac⟩
   obtain ⟨p2, td, c2, rfl⟩ := jab br
   have uL := jad yQ.out ac
   have cY := jaa ac hc
   have ep := uL.frozenAt (i * 2 + 1)
   have fp := uL.stored (i * 2 + 1) (.slice p2 td c2)
   have ao := qtr iK ac
   have IS : Hid (ZonP w (w2.setCell (ad g (i * 2 + 1)) (.slice p2 td c2)) zs (w.heap.size + 1 + 1) (i + 1) (so g mz cz) mz) := ⟨_, fp.1, fun j z hj hz => by
    obtain ⟨u, h1, h2⟩ := yW.out j z (by omega) hz
    exact ⟨u, by rw [List.getElem?_set_ne (by omega)]; exact h1, h2⟩⟩
   have IL : Hid (Ze (w2.setCell (ad g (i * 2 + 1)) (.slice p2 td c2)) w.heap.size [.slice a rs.length ca, .slice b mz cb, .slice c ls.length cc]) := (tz.out.below ac).other (by omega) _
   have Iu : Hid (Ze (w2.setCell (ad g (i * 2 + 1)) (.slice p2 td c2)) (w.heap.size + 1) [nS, nS, nS]) := (xh.out.below ac).other (by omega) _
   have ay : Bw w (w2.setCell (ad g (i * 2 + 1)) (.slice p2 td c2)) := ao.setCell (show w.heap.size <= g by omega) _
   have yU : Hid (w.heap.size + 1 + 1 <= (w2.setCell (ad g (i * 2 + 1)) (.slice p2 td c2)).heap.size) := by have h1 := HS.out; have h2 := ac.size; simp only [Hid, World.size_setCell]; omega
   clear fp uL br ac ao iK hc uf tz xh HZ
   go_wp2
   go_roundw
   case rel => exact ⟨i + 1, by omega, by go_num, IS, IL, Iu, ay, yU⟩
   case measure => simp [intOf]; omega
  ·obtain rfl : i = mz := by omega
   have x0 : wa.drew.cell? (ad w.heap.size 0) = some (.slice a rs.length ca) := tz.out.c 0 (u := .slice a rs.length ca) rfl
   have x2 : wa.drew.cell? (ad w.heap.size 2) = some (.slice c ls.length cc) := tz.out.c 2 (u := .slice c ls.length cc) rfl
   have Iw : Hid (Ze wa.drew (w.heap.size + 1) [nS, nS, nS]) := xh.out.below (jac wa)
   have ch : Bw w wa.drew := iK.trans ((jac wa).mono iK.size)
   have Kb := ug wa.drew (HA.out.below ch)
   have jJ := hid ch
   clear ch iK ug tz xh HZ
   go_wp2_with fail
   go_region_held3 (fun w' => w'.cell? (ad w.heap.size 0) = some (.slice a rs.length ca) /\ w'.cell? (ad w.heap.size 2) = some (.slice c ls.length cc)) (go_keep) (first | (go_at_call 140; refine Kb.mono ?_; rintro q w3 ⟨v3, rfl, jj, av⟩; obtain ⟨p3, Df, c3, rfl⟩ := jab jj; clear jj; have Nx := jaa av x0; have NA := jaa av x2; have nW := Bb w3 (HC.out.below (qtr jJ.out av))) | (go_at_call 141; refine nW.mono ?_; rintro q w4 ⟨v4, rfl, dX, aD⟩; obtain ⟨p4, Dg, c4, rfl⟩ := jab dX; clear dX; have QB := jaa aD Nx; have QD := jaa aD NA; have O4 := (Iw.out.below av).below aD; have o0 := O4.c 0 (u := nS) rfl; have o1 := O4.c 1 (u := nS) rfl; have o2 := O4.c 2 (u := nS) rfl; have f0 := O4.f 0 (u := nS) rfl; have f1 := O4.f 1 (u := nS) rfl; have f2 := O4.f 2 (u := nS) rfl))
   all_goals
    have ay := qtr jJ.out av
    have aS := qtr ay aD
    obtain ⟨t0, t1, t2⟩ := jnh (v0 := .slice p3 Df c3) (v1 := .slice pz i cz) (v2 := .slice p4 Dg c4) o0 o1 o2
    have lO : Hid (Bw w (((w4.setCell (ad (w.heap.size + 1) 0) (.slice p3 Df c3)).setCell (ad (w.heap.size + 1) 1) (.slice pz i cz)).setCell (ad (w.heap.size + 1) 2) (.slice p4 Dg c4))) := ((aS.setCell (show w.heap.size <= w.heap.size + 1 by omega) _).setCell (show w.heap.size <= w.heap.size + 1 by omega) _).setCell (show w.heap.size <= w.heap.size + 1 by omega) _
    clear ay aS av aD nW O4
    go_wp2
    exact bpr (v := .agg #[.slice p3 Df c3, .slice pz i cz, .slice p4 Dg c4]) (by simp [results, Tryz.results99, go_sem, t0, t1, t2]) rfl ⟨⟨_, _, _, _, _, _, _, _, _, rfl⟩, lO.out⟩
end
section
open Go.RowKit
theorem jut {L : List VersionD} : ∀ u ∈ (L.map VersionD.cs).flatten, u.oneCell' = true := fun u hu => by
 simp only [List.mem_flatten, List.mem_map] at hu
 obtain ⟨r, ⟨t, _, rfl⟩, hr⟩ := hu
 simp [VersionD.cs] at hr
 rcases hr with rfl | rfl | rfl | rfl | rfl | rfl | rfl | rfl <;> rfl
theorem Za.set {w : World} {a : Option Addr} {k b i : Nat} {v : Value} {rows : List (List Value)} (h : Za w a k rows) (hn : ∀ g o, a = some (ad g o) -> g ≠ b) : Za (w.setCell (ad b i) v) a k rows := by
 rcases h with h | ⟨g, o, rfl, h⟩
 ·exact .inl h
 ·exact .inr ⟨g, o, rfl, fun x y r c hx hy => (wco _ _ _ _ (fun e => by injection e with e; exact hn g o rfl e.symm)).trans (h x y r c hx hy)⟩
structure CopS (s : StoreD) (w : World) (q : Ending) (w' : World) : Prop where
 ex : ∃ a1 n1 c1 a2 n2 c2 a3 n3 c3 a4 n4 c4 a5 n5 c5 a6 n6 c6 a8 n8 c8 a9 n9 c9, q = .returned (.agg #[iv s.tx, .slice a1 n1 c1, .slice a2 n2 c2, .slice a3 n3 c3, .slice a4 n4 c4, .slice a5 n5 c5, .slice a6 n6 c6, iv s.cur, .slice a8 n8 c8, .slice a9 n9 c9]) /\ n8 = s.vs.length /\ Za w' a8 8 (s.vs.map VersionD.cs) /\ s.vs.length <= c8
 bel : Bw w w'
theorem jqw (s : StoreD) (v : Value) (w : World) (hv : Je w v s) (hm : Zv s) :
  Cl 64 #[v] w (CopS s w) := by
 obtain ⟨a, b, c, d, e, f, va, ia, ca, cb, cc, cd, ce, cf, cv, ci, rfl, hN, hW, hV, hX, _, _⟩ := hv.form
 obtain ⟨tx, now, was, cur, vs, ix⟩ := s
 obtain ⟨m1, m2, m3, m4, m5⟩ := hm
 simp only at *
 have ag : Bw w ((w.alloc (.cells (stA ⟨tx, now, was, cur, vs, ix⟩ a b c d e f va ia ca cb cc cd ce cf cv ci).toArray 42)).alloc (.cells #[iv 0, nS, nS, nS, nS, nS, nS, iv 0, nS, nS] 42)) := (qal _ _).alloc (by simp) _
 have A0 : Ze ((w.alloc (.cells (stA ⟨tx, now, was, cur, vs, ix⟩ a b c d e f va ia ca cb cc cd ce cf cv ci).toArray 42)).alloc (.cells #[iv 0, nS, nS, nS, nS, nS, nS, iv 0, nS, nS] 42)) w.heap.size (stA ⟨tx, now, was, cur, vs, ix⟩ a b c d e f va ia ca cb cc cd ce cf cv ci) := (Ze.new w (stA ⟨tx, now, was, cur, vs, ix⟩ a b c d e f va ia ca cb cc cd ce cf cv ci) 42).below (qal _ _)
 have R0 : Ze ((w.alloc (.cells (stA ⟨tx, now, was, cur, vs, ix⟩ a b c d e f va ia ca cb cc cd ce cf cv ci).toArray 42)).alloc (.cells #[iv 0, nS, nS, nS, nS, nS, nS, iv 0, nS, nS] 42)) (w.heap.size + 1) [iv 0, nS, nS, nS, nS, nS, nS, iv 0, nS, nS] := by have h := Ze.new (w.alloc (.cells (stA ⟨tx, now, was, cur, vs, ix⟩ a b c d e f va ia ca cb cc cd ce cf cv ci).toArray 42)) [iv 0, nS, nS, nS, nS, nS, nS, iv 0, nS, nS] 42; simpa using h
 have q1 := fun w h => jc6 now a b c ca cb cc w h m1.sm
 have q2 := fun w h => jc6 was d e f cd ce cf w h m2.sm
 have q3 := fun w h => jms (vs.map VersionD.cs) (jla (cs := VersionD.cs) (fun _ => rfl) vs) jut va vs.length cv w h (by simp) m4
 have q4 := fun w h => jq9 (ix.map EntryD.cs) (jla (cs := EntryD.cs) (fun _ => rfl) ix) jbn ia ix.length ci w h (by simp) m5
 clear m1 m2 m3 hv
 have HN := hid hN
 have HW := hid hW
 have HV := hid hV
 have HX := hid hX
 clear hN hW hV hX
 go_enter Tryz.func64, Tryz.ntmps64
 have Ak := A0.c 1 rfl
 have pm := A0.f 1 rfl
 have Al := A0.c 2 rfl
 have po := A0.f 2 rfl
 have Am := A0.c 3 rfl
 have pp := A0.f 3 rfl
 go_wp2_with fail
 refine (q1 _ (HN.out.below ag)).mono ?_
 rintro e w1 hP
 obtain ⟨a1, n1, c1, a2, n2, c2, a3, n3, c3, hq⟩ := hP.ex
 subst hq
 have aX := hP.bel
 have aj := qtr ag aX
 have A1 := A0.below aX
 have R1 := R0.below aX
 clear A0 R0 ag aX
 clear Ak pm Al po Am pp
 have Ak := A1.c 1 rfl
 have pm := A1.f 1 rfl
 have Al := A1.c 2 rfl
 have po := A1.f 2 rfl
 have Am := A1.c 3 rfl
 have pp := A1.f 3 rfl
 have JO := A1.c 4 rfl
 have As := A1.f 4 rfl
 have JP := A1.c 5 rfl
 have Au := A1.f 5 rfl
 have JQ := A1.c 6 rfl
 have Av := A1.f 6 rfl
 go_wp2_with fail
 clear Ak pm Al po Am pp JO As JP Au JQ Av
 have A2 := (((A1.set (j := 1) (.slice a1 n1 c1)).set (j := 2) (.slice a2 n2 c2)).set (j := 3) (.slice a3 n3 c3))
 have R2 := (((R1.other (b2 := w.heap.size) (j := 1) (by omega) (.slice a1 n1 c1)).other (b2 := w.heap.size) (j := 2) (by omega) (.slice a2 n2 c2)).other (b2 := w.heap.size) (j := 3) (by omega) (.slice a3 n3 c3))
 have ao := (bst (w.heap.size) 3 (.slice a3 n3 c3) (by omega) (bst (w.heap.size) 2 (.slice a2 n2 c2) (by omega) (bst (w.heap.size) 1 (.slice a1 n1 c1) (by omega) aj)))
 clear A1 R1 aj
 generalize (((w1.setCell (ad w.heap.size 1) (.slice a1 n1 c1)).setCell (ad w.heap.size 2) (.slice a2 n2 c2)).setCell (ad w.heap.size 3) (.slice a3 n3 c3)) = wB at *
 refine (q2 _ (HW.out.below ao)).mono ?_
 rintro e w2 gg
 obtain ⟨a4, n4, c4, a5, n5, c5, a6, n6, c6, hq⟩ := gg.ex
 subst hq
 have ac := gg.bel
 have ay := qtr ao ac
 have A3 := A2.below ac
 have R3 := R2.below ac
 clear A2 R2 ao ac
 have JJ := A3.c 4 rfl
 have An := A3.f 4 rfl
 have JK := A3.c 5 rfl
 have Ao := A3.f 5 rfl
 have JL := A3.c 6 rfl
 have Ap := A3.f 6 rfl
 have JR := A3.c 8 rfl
 have Aw := A3.f 8 rfl
 go_wp2_with fail
 clear JJ An JK Ao JL Ap JR Aw
 have A4 := (((A3.set (j := 4) (.slice a4 n4 c4)).set (j := 5) (.slice a5 n5 c5)).set (j := 6) (.slice a6 n6 c6))
 have R4 := (((R3.other (b2 := w.heap.size) (j := 4) (by omega) (.slice a4 n4 c4)).other (b2 := w.heap.size) (j := 5) (by omega) (.slice a5 n5 c5)).other (b2 := w.heap.size) (j := 6) (by omega) (.slice a6 n6 c6))
 have aS := (bst (w.heap.size) 6 (.slice a6 n6 c6) (by omega) (bst (w.heap.size) 5 (.slice a5 n5 c5) (by omega) (bst (w.heap.size) 4 (.slice a4 n4 c4) (by omega) ay)))
 clear A3 R3 ay
 generalize (((w2.setCell (ad w.heap.size 4) (.slice a4 n4 c4)).setCell (ad w.heap.size 5) (.slice a5 n5 c5)).setCell (ad w.heap.size 6) (.slice a6 n6 c6)) = wC at *
 refine (q3 _ (HV.out.below aS)).mono ?_
 rintro e w3 ⟨v3, rfl, yg, aD⟩
 obtain ⟨a8, c8, GS, s8, sC⟩ := jbc (rows := vs.map VersionD.cs) (by rw [llm]; exact yg) (jla (cs := VersionD.cs) (fun _ => rfl) vs)
 rw [llm] at GS sC
 subst GS
 obtain ⟨n8, Cq⟩ := qeb vs.length
 have EK : Hid (n8 = vs.length /\ vs.length <= c8) := ⟨Cq.symm, sC⟩
 rw [Cq] at yg ⊢
 have e8 : ∀ g o, a8 = some (ad g o) -> w.heap.size + 1 < g := fun g o h => by
  have h1 := (World.ownsRow.lt yg g (by rw [h]; rfl)).1
  have h2 : w.heap.size + 1 < _ := qbl (R4.c 0 rfl)
  omega
 clear yg Cq sC
 have bQ := qtr aS aD
 have A5 := A4.below aD
 have R5 := R4.below aD
 clear A4 R4 aS aD
 have JM := A5.c 8 rfl
 have Aq := A5.f 8 rfl
 have JS := A5.c 9 rfl
 have Ax := A5.f 9 rfl
 go_wp2_with fail
 clear JM Aq JS Ax
 have A6 := (A5.set (j := 8) (.slice a8 n8 c8))
 have R6 := (R5.other (b2 := w.heap.size) (j := 8) (by omega) (.slice a8 n8 c8))
 have cG := (bst (w.heap.size) 8 (.slice a8 n8 c8) (by omega) bQ)
 have S6 := s8.set (b := w.heap.size) (i := 8) (v := .slice a8 n8 c8) (fun g o h => by have := e8 g o h; omega)
 clear s8
 clear A5 R5 bQ
 generalize (w3.setCell (ad w.heap.size 8) (.slice a8 n8 c8)) = wD at *
 refine (q4 _ (HX.out.below cG)).mono ?_
 rintro e w4 ⟨v4, rfl, GK, hb6⟩
 obtain ⟨a9, n9, c9, rfl⟩ := jab GK
 clear GK
 have dE := qtr cG hb6
 have A7 := A6.below hb6
 have S7 := S6.below hb6
 clear S6
 have R7 := R6.below hb6
 clear A6 R6 cG hb6
 have Po := A7.c 9 rfl
 have JN := A7.f 9 rfl
 have OZ := A7.set (j := 9) (.slice a9 n9 c9)
 have RZ := R7.other (b2 := w.heap.size) (j := 9) (by omega) (.slice a9 n9 c9)
 have z0 := OZ.c 0 rfl
 have y0 := RZ.c 0 rfl
 have Oe := RZ.f 0 rfl
 have z1 := OZ.c 1 rfl
 have y1 := RZ.c 1 rfl
 have Of := RZ.f 1 rfl
 have z2 := OZ.c 2 rfl
 have y2 := RZ.c 2 rfl
 have Og := RZ.f 2 rfl
 have z3 := OZ.c 3 rfl
 have y3 := RZ.c 3 rfl
 have Oh := RZ.f 3 rfl
 have z4 := OZ.c 4 rfl
 have y4 := RZ.c 4 rfl
 have Oi := RZ.f 4 rfl
 have z5 := OZ.c 5 rfl
 have y5 := RZ.c 5 rfl
 have Oj := RZ.f 5 rfl
 have z6 := OZ.c 6 rfl
 have y6 := RZ.c 6 rfl
 have Ok := RZ.f 6 rfl
 have z7 := OZ.c 7 rfl
 have y7 := RZ.c 7 rfl
 have Ol := RZ.f 7 rfl
 have z8 := OZ.c 8 rfl
 have y8 := RZ.c 8 rfl
 have Om := RZ.f 8 rfl
 have z9 := OZ.c 9 rfl
 have y9 := RZ.c 9 rfl
 have On := RZ.f 9 rfl
 have RF := ((((((((((RZ.set (j := 0) (iv tx)).set (j := 1) (.slice a1 n1 c1)).set (j := 2) (.slice a2 n2 c2)).set (j := 3) (.slice a3 n3 c3)).set (j := 4) (.slice a4 n4 c4)).set (j := 5) (.slice a5 n5 c5)).set (j := 6) (.slice a6 n6 c6)).set (j := 7) (iv cur)).set (j := 8) (.slice a8 n8 c8)).set (j := 9) (.slice a9 n9 c9))
 have z8 : ∀ g o, a8 = some (ad g o) -> g ≠ w.heap.size + 1 := fun g o h => by have := e8 g o h; omega
 have IC : Hid (Za _ a8 8 (vs.map VersionD.cs)) := ((((((((((S7.set (b := w.heap.size) (i := 9) (v := .slice a9 n9 c9) (fun g o h => by have := e8 g o h; omega)).set (b := w.heap.size + 1) (i := 0) (v := iv tx) z8).set (b := w.heap.size + 1) (i := 1) (v := .slice a1 n1 c1) z8).set (b := w.heap.size + 1) (i := 2) (v := .slice a2 n2 c2) z8).set (b := w.heap.size + 1) (i := 3) (v := .slice a3 n3 c3) z8).set (b := w.heap.size + 1) (i := 4) (v := .slice a4 n4 c4) z8).set (b := w.heap.size + 1) (i := 5) (v := .slice a5 n5 c5) z8).set (b := w.heap.size + 1) (i := 6) (v := .slice a6 n6 c6) z8).set (b := w.heap.size + 1) (i := 7) (v := iv cur) z8).set (b := w.heap.size + 1) (i := 8) (v := .slice a8 n8 c8) z8).set (b := w.heap.size + 1) (i := 9) (v := .slice a9 n9 c9) z8
 have yA : Hid (Bw w _) := (bst (w.heap.size + 1) 9 (.slice a9 n9 c9) (by omega) (bst (w.heap.size + 1) 8 (.slice a8 n8 c8) (by omega) (bst (w.heap.size + 1) 7 (iv cur) (by omega) (bst (w.heap.size + 1) 6 (.slice a6 n6 c6) (by omega) (bst (w.heap.size + 1) 5 (.slice a5 n5 c5) (by omega) (bst (w.heap.size + 1) 4 (.slice a4 n4 c4) (by omega) (bst (w.heap.size + 1) 3 (.slice a3 n3 c3) (by omega) (bst (w.heap.size + 1) 2 (.slice a2 n2 c2) (by omega) (bst (w.heap.size + 1) 1 (.slice a1 n1 c1) (by omega) (bst (w.heap.size + 1) 0 (iv tx) (by omega) (bst (w.heap.size) 9 (.slice a9 n9 c9) (by omega) dE)))))))))))
 obtain ⟨t0, t1, t2, t3, t4, t5, t6, t7, t8, t9⟩ := RF.ten
 clear RF OZ RZ A7 R7 dE S7
 go_wp2
 exact bpr (v := .agg #[iv tx, .slice a1 n1 c1, .slice a2 n2 c2, .slice a3 n3 c3, .slice a4 n4 c4, .slice a5 n5 c5, .slice a6 n6 c6, iv cur, .slice a8 n8 c8, .slice a9 n9 c9]) (by simp [results, Tryz.results64, go_sem, t0, t1, t2, t3, t4, t5, t6, t7, t8, t9]) rfl ⟨⟨_, _, _, _, _, _, _, _, _, _, _, _, _, _, _, _, _, _, _, _, _, _, _, _, rfl, EK.out.1, IC.out, EK.out.2⟩, yA.out⟩
end
end Go.Proofs.YtgiieknbckhofaaGreatDoor
