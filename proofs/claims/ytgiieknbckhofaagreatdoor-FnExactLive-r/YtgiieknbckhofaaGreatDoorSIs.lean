/- Packed. -/
import Derived.Test.YtgiieknbckhofaaGreatDoorSLs
import Derived.Test.YtgiieknbckhofaaGreatDoorSEs
set_option maxRecDepth 20000
set_option maxHeartbeats 20000000
set_option linter.unusedSimpArgs false
namespace Go.Proofs.YtgiieknbckhofaaGreatDoor
section
open Go.RowKit
theorem jtf {w : World} {a : Option Addr} {zs : List ZoneD} (h : Zo w a zs) : ∃ rows : List (List Value), rows.length = zs.length /\ Za w a 2 rows /\ (∀ r ∈ rows, r.length = 2) /\ (∀ u ∈ rows.flatten, u.oneCell' = true) /\ ∀ (j : Nat) z, zs[j]? = some z -> ∃ v, rows[j]? = some [.string z.name, v] /\ Jg w v z.eras := by
 rcases h with rfl | ⟨b, o, ha, hc⟩
 ·exact ⟨[], rfl, .inl rfl, fun r hr => by simp at hr, fun u hu => by simp at hu, fun j z hz => by simp at hz⟩
 obtain ⟨rows, hl, hp⟩ := jfc (P := fun i r => ∃ z v, zs[i]? = some z /\ r = [Value.string z.name, v] /\ w.cell? (ad b (o + i * 2)) = some (.string z.name) /\ w.cell? (ad b (o + i * 2 + 1)) = some v /\ Jg w v z.eras) zs.length (fun i hi => by
  have hz : zs[i]? = some zs[i] := lgg hi
  obtain ⟨c0, v, c1, hE⟩ := hc i _ hz
  exact ⟨_, zs[i], v, hz, rfl, c0, c1, hE⟩)
 refine ⟨rows, hl, .inr ⟨b, o, ha, fun i j r c hr hj => ?_⟩, fun r hr => ?_, fun u hu => ?_, fun j z hz => ?_⟩
 ·obtain ⟨z, v, _, rfl, c0, c1, _⟩ := hp i r hr
  match j, hj with
  | 0, hj => simp at hj; subst hj; exact c0
  | 1, hj => simp at hj; subst hj; exact c1
  | j + 2, hj => simp at hj
 ·obtain ⟨i, hi⟩ := lgo hr
  obtain ⟨z, v, _, rfl, _⟩ := hp i r hi
  rfl
 ·obtain ⟨r, hr, He⟩ := List.mem_flatten.mp hu
  obtain ⟨i, hi⟩ := lgo hr
  obtain ⟨z, v, _, rfl, _, _, a2, c2, rfl, _⟩ := hp i r hi
  simp at He
  rcases He with rfl | rfl <;> rfl
 ·have hj := (List.getElem?_eq_some_iff.1 hz).1
  have hr : rows[j]? = some rows[j] := lgg (by omega)
  obtain ⟨z2, v, aF, he, _, _, hE⟩ := hp j _ hr
  rw [hz] at aF
  obtain rfl := osi aF
  exact ⟨v, by rw [hr, he], hE⟩
theorem jte {L : List RuleD} : ∀ u ∈ (L.map RuleD.cs).flatten, u.oneCell' = true := fun u hu => by
 simp only [List.mem_flatten, List.mem_map] at hu
 obtain ⟨r, ⟨t, _, rfl⟩, hr⟩ := hu
 simp [RuleD.cs] at hr
 rcases hr with rfl | rfl | rfl | rfl | rfl | rfl | rfl | rfl | rfl <;> rfl
theorem jtv {L : List LinkD} : ∀ u ∈ (L.map LinkD.cs).flatten, u.oneCell' = true := fun u hu => by
 simp only [List.mem_flatten, List.mem_map] at hu
 obtain ⟨r, ⟨t, _, rfl⟩, hr⟩ := hu
 simp [LinkD.cs] at hr
 rcases hr with rfl | rfl <;> rfl
theorem jxi {L : List EraD} : ∀ u ∈ (L.map EraD.cs).flatten, u.oneCell' = true := fun u hu => by
 simp only [List.mem_flatten, List.mem_map] at hu
 obtain ⟨r, ⟨t, _, rfl⟩, hr⟩ := hu
 simp [EraD.cs] at hr
 rcases hr with rfl | rfl | rfl | rfl | rfl | rfl <;> rfl
theorem jpe {α : Type} {cs : α -> List Value} {k : Nat} (h : ∀ x, (cs x).length = k) (L : List α) : ∀ r ∈ L.map cs, r.length = k := fun r hr => by
 obtain ⟨x, _, rfl⟩ := List.mem_map.1 hr
 exact h x
structure ZonP (w wr : World) (zs : List ZoneD) (B i : Nat) (v : Value) (n : Nat) : Prop where
 own : ∃ xs, wr.ownsRow B 146 2 v n xs /\ ∀ (j : Nat) z, i <= j -> zs[j]? = some z -> ∃ u, xs[j * 2 + 1]? = some u /\ Jg w u z.eras
structure CopP (w : World) (q : Ending) (w' : World) : Prop where
 ex : ∃ a n c a2 n2 c2 a3 n3 c3, q = .returned (.agg #[.slice a n c, .slice a2 n2 c2, .slice a3 n3 c3])
 bel : Bw w w'
theorem jc4 (r : RelD) (a b c : Option Addr) (ca cb cc : Nat) (w : World) (hv : Zd w (.agg #[.slice a r.rules.length ca, .slice b r.zones.length cb, .slice c r.links.length cc]) r) (sm : r.small) :
  Cl 99 #[.agg #[.slice a r.rules.length ca, .slice b r.zones.length cb, .slice c r.links.length cc]] w (CopP w) := by
 obtain ⟨a', b', c', OQ, OR, OS, he, hA, hZ, hC⟩ := hv.form
 injection he with he
 simp only [List.toArray_inj, List.cons.injEq, Value.slice.injEq, true_and, and_true, Array.mk.injEq] at he
 obtain ⟨⟨rfl, rfl⟩, ⟨rfl, rfl⟩, rfl, rfl⟩ := he
 obtain ⟨m1, m2, m3, m4⟩ := sm
 obtain ⟨rs, zs, ls⟩ := r
 simp only at *
 obtain ⟨rows, hl, hq, r2, r1, ao⟩ := jtf hZ
 have ag : Bw w ((w.alloc (.cells #[.slice a rs.length ca, .slice b zs.length cb, .slice c ls.length cc] 38)).alloc (.cells #[nS, nS, nS] 38)) := (qal _ _).alloc (by simp) _
 have X0 : Zg ((w.alloc (.cells #[.slice a rs.length ca, .slice b zs.length cb, .slice c ls.length cc] 38)).alloc (.cells #[nS, nS, nS] 38)) w.heap.size [.slice a rs.length ca, .slice b zs.length cb, .slice c ls.length cc] := (Zg.new w [.slice a rs.length ca, .slice b zs.length cb, .slice c ls.length cc] 38).below (qal _ _)
 have O0 : Zg ((w.alloc (.cells #[.slice a rs.length ca, .slice b zs.length cb, .slice c ls.length cc] 38)).alloc (.cells #[nS, nS, nS] 38)) (w.heap.size + 1) [nS, nS, nS] := by
  have h := Zg.new (w.alloc (.cells #[.slice a rs.length ca, .slice b zs.length cb, .slice c ls.length cc] 38)) [nS, nS, nS] 38
  simpa using h
 have dN : ((w.alloc (.cells #[.slice a rs.length ca, .slice b zs.length cb, .slice c ls.length cc] 38)).alloc (.cells #[nS, nS, nS] 38)).heap.size = w.heap.size + 1 + 1 := by simp
 have uZ := fun w h => juf rows r2 r1 b zs.length cb w h hl m2
 have uY := fun w h => jug (rs.map RuleD.cs) (jpe (cs := RuleD.cs) (fun _ => rfl) rs) jte a rs.length ca w h (by simp) m1
 have C7 := fun w h => juh (ls.map LinkD.cs) (jpe (cs := LinkD.cs) (fun _ => rfl) ls) jtv c ls.length cc w h (by simp) m3
 have HR := hid ao
 have HM := hid m4
 have HA := hid hA
 have HC := hid hC
 have HF : Hid (∀ (j : Nat) z v, zs[j]? = some z -> rows[j]? = some [.string z.name, v] -> rows.flatten[j * 2 + 1]? = some v) := fun j z v _ hr => jbi r2 hr rfl
 have x1 := X0.c 1 (u := .slice b zs.length cb) rfl
 have tu := hq.below ag
 clear hv hZ hA hC ao m4 hq r1 r2 hl
 generalize Dg : zs.length = nz at *
 have HN := hid Dg
 clear Dg
 go_enter Tryz.func99, Tryz.ntmps99
 go_wp2_with fail
 refine (uZ _ tu).mono ?_
 rintro q w1 ⟨zv, rfl, fO, hb1⟩
 rw [dN] at fO
 obtain ⟨pz, mz, cz, rfl⟩ := jac fO
 have LE : mz = nz := by
  rcases fO.2 with ⟨h1, h2⟩ | ⟨_, _, _, h1, _⟩
  ·injection h1 with _ h1 _; omega
  ·injection h1
 subst LE
 have aj := qtr ag hb1
 have X1 := X0.below hb1
 have O1 := O0.below hb1
 have jD : ZonP w w1 zs (w.heap.size + 1 + 1) 0 (.slice pz mz cz) mz := ⟨_, fO, fun j z _ hz => by
  obtain ⟨v, hr, hE⟩ := HR.out j z hz
  exact ⟨v, HF.out j z v hz hr, hE⟩⟩
 have HX := hid X1
 have HO := hid O1
 clear uZ tu fO hb1 x1 X0 O0 dN HR HF X1 O1 ag
 go_wp2
 go_loopw [4, 10] (fun _ xV wr => ∃ i : Nat, i <= mz /\ xV = iv i /\ Hid (ZonP w wr zs (w.heap.size + 1 + 1) i (.slice pz mz cz) mz) /\ Hid (Zg wr w.heap.size [.slice a rs.length ca, .slice b mz cb, .slice c ls.length cc]) /\ Hid (Zg wr (w.heap.size + 1) [nS, nS, nS]) /\ Bw w wr /\ Hid (w.heap.size + 1 + 1 <= wr.heap.size)) (fun _ xV _ => mz - (intOf xV).toNat)
 case atStart => exact ⟨0, by omega, rfl, jD, HX, HO, aj, by have := qbl (HO.out.c 0 (u := nS) rfl); exact this⟩
 case round =>
  obtain ⟨wa, dY⟩ := qea wr
  subst dY
  obtain ⟨i, hi, rfl, HZ, uu, yy, iW, HS⟩ := hrel
  clear jD HX HO aj
  by_cases hlt : i < mz
  ·have a1 : (i : Int) < (mz : Int) := by omega
   have a0 : (0 : Int) <= (i : Int) := by omega
   obtain ⟨z, hz⟩ : ∃ z, zs[i]? = some z := ⟨_, lgg (by have := HN.out; omega)⟩
   obtain ⟨xs, hO, hx⟩ := HZ.out.own
   obtain ⟨u, hu, ea, ec, M3, hE⟩ := hx i z (nlr _) hz
   subst M3
   have wN : ∃ g, pz = some (ad g 0) := by
    rcases hO.2 with ⟨h1, h2⟩ | ⟨g, _, _, h1, _⟩
    ·omega
    ·injection h1 with h1 _ _; exact ⟨g, h1⟩
   obtain ⟨g, rfl⟩ := wN
   have hc : wa.cell? (ad g (i * 2 + 1)) = some (.slice ea z.eras.length ec) := by rw [hO.cellAt (i * 2 + 1) (by omega)]; exact hu
   have Lr := (World.ownsRow.lt hO g rfl).1
   have uX := jxv (z.eras.map EraD.cs) (jpe (cs := EraD.cs) (fun _ => rfl) z.eras) jxi ea z.eras.length ec wa (hE.below iW) (by simp) (HM.out z (lmg hz))
   have Ad := hid hx
   have zV := hid hO
   clear hx hO hu hE hz
   generalize z.eras.length = ne at *
   go_wp2_with fail
   refine uX.mono ?_
   rintro q w2 ⟨v2, rfl, bC, ac⟩
   obtain ⟨p2, tM, c2, rfl⟩ := jac bC
   have vI := jad zV.out ac
   have cZ := jaa ac hc
   have eF := vI.frozenAt (i * 2 + 1)
   have fG := vI.stored (i * 2 + 1) (.slice p2 tM c2)
   have an := qtr iW ac
   have JC : Hid (ZonP w (w2.setCell (ad g (i * 2 + 1)) (.slice p2 tM c2)) zs (w.heap.size + 1 + 1) (i + 1) (.slice (some (ad g 0)) mz cz) mz) := ⟨_, fG.1, fun j z hj hz => by
    obtain ⟨u, h1, h2⟩ := Ad.out j z (by omega) hz
    exact ⟨u, by rw [List.getElem?_set_ne (by omega)]; exact h1, h2⟩⟩
   have J9 : Hid (Zg (w2.setCell (ad g (i * 2 + 1)) (.slice p2 tM c2)) w.heap.size [.slice a rs.length ca, .slice b mz cb, .slice c ls.length cc]) := (uu.out.below ac).other (by omega) _
   have IT : Hid (Zg (w2.setCell (ad g (i * 2 + 1)) (.slice p2 tM c2)) (w.heap.size + 1) [nS, nS, nS]) := (yy.out.below ac).other (by omega) _
   have ay : Bw w (w2.setCell (ad g (i * 2 + 1)) (.slice p2 tM c2)) := an.setCell (show w.heap.size <= g by omega) _
   have zZ : Hid (w.heap.size + 1 + 1 <= (w2.setCell (ad g (i * 2 + 1)) (.slice p2 tM c2)).heap.size) := by have h1 := HS.out; have h2 := ac.size; simp only [Hid, World.size_setCell]; omega
   clear fG vI bC ac an iW hc uX uu yy HZ
   go_wp2
   go_roundw
   case rel => exact ⟨i + 1, by omega, by go_num, JC, J9, IT, ay, zZ⟩
   case measure => simp [intOf]; omega
  ·obtain rfl : i = mz := by omega
   have x0 : wa.drew.cell? (ad w.heap.size 0) = some (.slice a rs.length ca) := uu.out.c 0 (u := .slice a rs.length ca) rfl
   have x2 : wa.drew.cell? (ad w.heap.size 2) = some (.slice c ls.length cc) := uu.out.c 2 (u := .slice c ls.length cc) rfl
   have IV : Hid (Zg wa.drew (w.heap.size + 1) [nS, nS, nS]) := yy.out.below (jab wa)
   have cj : Bw w wa.drew := iW.trans ((jab wa).mono iW.size)
   have KR := uY wa.drew (HA.out.below cj)
   have gU := hid cj
   clear cj iW uY uu yy HZ
   go_wp2_with fail
   go_region_held3 (fun w' => w'.cell? (ad w.heap.size 0) = some (.slice a rs.length ca) /\ w'.cell? (ad w.heap.size 2) = some (.slice c ls.length cc)) (go_keep) (first | (go_at_call 140; refine KR.mono ?_; rintro q w3 ⟨v3, rfl, jx, ar⟩; obtain ⟨p3, E7, c3, rfl⟩ := jac jx; clear jx; have NA := jaa ar x0; have ND := jaa ar x2; have oK := C7 w3 (HC.out.below (qtr gU.out ar))) | (go_at_call 141; refine oK.mono ?_; rintro q w4 ⟨v4, rfl, dC, az⟩; obtain ⟨p4, E8, c4, rfl⟩ := jac dC; clear dC; have Qd := jaa az NA; have Qf := jaa az ND; have O4 := (IV.out.below ar).below az; have o0 := O4.c 0 (u := nS) rfl; have o1 := O4.c 1 (u := nS) rfl; have o2 := O4.c 2 (u := nS) rfl; have f0 := O4.f 0 (u := nS) rfl; have f1 := O4.f 1 (u := nS) rfl; have f2 := O4.f 2 (u := nS) rfl))
   all_goals
    have ay := qtr gU.out ar
    have aR := qtr ay az
    obtain ⟨t0, t1, t2⟩ := jnq (v0 := .slice p3 E7 c3) (v1 := .slice pz i cz) (v2 := .slice p4 E8 c4) o0 o1 o2
    have mG : Hid (Bw w (((w4.setCell (ad (w.heap.size + 1) 0) (.slice p3 E7 c3)).setCell (ad (w.heap.size + 1) 1) (.slice pz i cz)).setCell (ad (w.heap.size + 1) 2) (.slice p4 E8 c4))) := ((aR.setCell (show w.heap.size <= w.heap.size + 1 by omega) _).setCell (show w.heap.size <= w.heap.size + 1 by omega) _).setCell (show w.heap.size <= w.heap.size + 1 by omega) _
    clear ay aR ar az oK O4
    go_wp2
    exact bodyPost_ret (v := .agg #[.slice p3 E7 c3, .slice pz i cz, .slice p4 E8 c4]) (by simp [results, Tryz.results99, go_sem, t0, t1, t2]) rfl ⟨⟨_, _, _, _, _, _, _, _, _, rfl⟩, mG.out⟩
end
section
open Go.RowKit
theorem juy {L : List VersionD} : ∀ u ∈ (L.map VersionD.cs).flatten, u.oneCell' = true := fun u hu => by
 simp only [List.mem_flatten, List.mem_map] at hu
 obtain ⟨r, ⟨t, _, rfl⟩, hr⟩ := hu
 simp [VersionD.cs] at hr
 rcases hr with rfl | rfl | rfl | rfl | rfl | rfl | rfl | rfl <;> rfl
structure CopS (s : StoreD) (w : World) (q : Ending) (w' : World) : Prop where
 ex : ∃ a1 n1 c1 a2 n2 c2 a3 n3 c3 a4 n4 c4 a5 n5 c5 a6 n6 c6 a8 n8 c8 a9 n9 c9, q = .returned (.agg #[iv s.tx, .slice a1 n1 c1, .slice a2 n2 c2, .slice a3 n3 c3, .slice a4 n4 c4, .slice a5 n5 c5, .slice a6 n6 c6, iv s.cur, .slice a8 n8 c8, .slice a9 n9 c9])
 bel : Bw w w'
theorem jq5 (s : StoreD) (v : Value) (w : World) (hv : Zx w v s) (hm : Zt s) :
  Cl 64 #[v] w (CopS s w) := by
 obtain ⟨a, b, c, d, e, f, va, ia, ca, cb, cc, cd, ce, cf, cv, ci, rfl, hN, hW, hV, hX, _, _⟩ := hv.form
 obtain ⟨tx, now, was, cur, vs, ix⟩ := s
 obtain ⟨m1, m2, m3, m4, m5⟩ := hm
 simp only at *
 have ag : Bw w ((w.alloc (.cells #[iv tx, .slice a now.rules.length ca, .slice b now.zones.length cb, .slice c now.links.length cc, .slice d was.rules.length cd, .slice e was.zones.length ce, .slice f was.links.length cf, iv cur, .slice va vs.length cv, .slice ia ix.length ci] 42)).alloc (.cells #[iv 0, nS, nS, nS, nS, nS, nS, iv 0, nS, nS] 42)) := (qal _ _).alloc (by simp) _
 have A0 : Zg ((w.alloc (.cells #[iv tx, .slice a now.rules.length ca, .slice b now.zones.length cb, .slice c now.links.length cc, .slice d was.rules.length cd, .slice e was.zones.length ce, .slice f was.links.length cf, iv cur, .slice va vs.length cv, .slice ia ix.length ci] 42)).alloc (.cells #[iv 0, nS, nS, nS, nS, nS, nS, iv 0, nS, nS] 42)) w.heap.size [iv tx, .slice a now.rules.length ca, .slice b now.zones.length cb, .slice c now.links.length cc, .slice d was.rules.length cd, .slice e was.zones.length ce, .slice f was.links.length cf, iv cur, .slice va vs.length cv, .slice ia ix.length ci] := (Zg.new w [iv tx, .slice a now.rules.length ca, .slice b now.zones.length cb, .slice c now.links.length cc, .slice d was.rules.length cd, .slice e was.zones.length ce, .slice f was.links.length cf, iv cur, .slice va vs.length cv, .slice ia ix.length ci] 42).below (qal _ _)
 have R0 : Zg ((w.alloc (.cells #[iv tx, .slice a now.rules.length ca, .slice b now.zones.length cb, .slice c now.links.length cc, .slice d was.rules.length cd, .slice e was.zones.length ce, .slice f was.links.length cf, iv cur, .slice va vs.length cv, .slice ia ix.length ci] 42)).alloc (.cells #[iv 0, nS, nS, nS, nS, nS, nS, iv 0, nS, nS] 42)) (w.heap.size + 1) [iv 0, nS, nS, nS, nS, nS, nS, iv 0, nS, nS] := by have h := Zg.new (w.alloc (.cells #[iv tx, .slice a now.rules.length ca, .slice b now.zones.length cb, .slice c now.links.length cc, .slice d was.rules.length cd, .slice e was.zones.length ce, .slice f was.links.length cf, iv cur, .slice va vs.length cv, .slice ia ix.length ci] 42)) [iv 0, nS, nS, nS, nS, nS, nS, iv 0, nS, nS] 42; simpa using h
 have q1 := fun w h => jc4 now a b c ca cb cc w h m1.sm
 have q2 := fun w h => jc4 was d e f cd ce cf w h m2.sm
 have q3 := fun w h => jmx (vs.map VersionD.cs) (jpe (cs := VersionD.cs) (fun _ => rfl) vs) juy va vs.length cv w h (by simp) m4
 have q4 := fun w h => jrh (ix.map EntryD.cs) (jpe (cs := EntryD.cs) (fun _ => rfl) ix) jbo ia ix.length ci w h (by simp) m5
 clear m1 m2 m3 hv
 have HN := hid hN
 have HW := hid hW
 have HV := hid hV
 have HX := hid hX
 clear hN hW hV hX
 go_enter Tryz.func64, Tryz.ntmps64
 have Bj := A0.c 1 rfl
 have pZ := A0.f 1 rfl
 have Bk := A0.c 2 rfl
 have q9 := A0.f 2 rfl
 have Bl := A0.c 3 rfl
 have qa := A0.f 3 rfl
 go_wp2_with fail
 refine (q1 _ (HN.out.below ag)).mono ?_
 rintro e w1 hP
 obtain ⟨a1, n1, c1, a2, n2, c2, a3, n3, c3, hq⟩ := hP.ex
 subst hq
 have bg := hP.bel
 have aj := qtr ag bg
 have A1 := A0.below bg
 have R1 := R0.below bg
 clear A0 R0 ag bg
 clear Bj pZ Bk q9 Bl qa
 have Bj := A1.c 1 rfl
 have pZ := A1.f 1 rfl
 have Bk := A1.c 2 rfl
 have q9 := A1.f 2 rfl
 have Bl := A1.c 3 rfl
 have qa := A1.f 3 rfl
 have Kv := A1.c 4 rfl
 have Bu := A1.f 4 rfl
 have Kw := A1.c 5 rfl
 have Bv := A1.f 5 rfl
 have Kx := A1.c 6 rfl
 have By := A1.f 6 rfl
 go_wp2_with fail
 clear Bj pZ Bk q9 Bl qa Kv Bu Kw Bv Kx By
 have A2 := (((A1.set (j := 1) (.slice a1 n1 c1)).set (j := 2) (.slice a2 n2 c2)).set (j := 3) (.slice a3 n3 c3))
 have R2 := (((R1.other (b2 := w.heap.size) (j := 1) (by omega) (.slice a1 n1 c1)).other (b2 := w.heap.size) (j := 2) (by omega) (.slice a2 n2 c2)).other (b2 := w.heap.size) (j := 3) (by omega) (.slice a3 n3 c3))
 have an := (bst (w.heap.size) 3 (.slice a3 n3 c3) (by omega) (bst (w.heap.size) 2 (.slice a2 n2 c2) (by omega) (bst (w.heap.size) 1 (.slice a1 n1 c1) (by omega) aj)))
 clear A1 R1 aj
 generalize (((w1.setCell (ad w.heap.size 1) (.slice a1 n1 c1)).setCell (ad w.heap.size 2) (.slice a2 n2 c2)).setCell (ad w.heap.size 3) (.slice a3 n3 c3)) = wB at *
 refine (q2 _ (HW.out.below an)).mono ?_
 rintro e w2 gu
 obtain ⟨a4, n4, c4, a5, n5, c5, a6, n6, c6, hq⟩ := gu.ex
 subst hq
 have ac := gu.bel
 have ay := qtr an ac
 have A3 := A2.below ac
 have R3 := R2.below ac
 clear A2 R2 an ac
 have Kq := A3.c 4 rfl
 have Bn := A3.f 4 rfl
 have Kr := A3.c 5 rfl
 have Bo := A3.f 5 rfl
 have Ks := A3.c 6 rfl
 have Bp := A3.f 6 rfl
 have Ky := A3.c 8 rfl
 have Bz := A3.f 8 rfl
 go_wp2_with fail
 clear Kq Bn Kr Bo Ks Bp Ky Bz
 have A4 := (((A3.set (j := 4) (.slice a4 n4 c4)).set (j := 5) (.slice a5 n5 c5)).set (j := 6) (.slice a6 n6 c6))
 have R4 := (((R3.other (b2 := w.heap.size) (j := 4) (by omega) (.slice a4 n4 c4)).other (b2 := w.heap.size) (j := 5) (by omega) (.slice a5 n5 c5)).other (b2 := w.heap.size) (j := 6) (by omega) (.slice a6 n6 c6))
 have aR := (bst (w.heap.size) 6 (.slice a6 n6 c6) (by omega) (bst (w.heap.size) 5 (.slice a5 n5 c5) (by omega) (bst (w.heap.size) 4 (.slice a4 n4 c4) (by omega) ay)))
 clear A3 R3 ay
 generalize (((w2.setCell (ad w.heap.size 4) (.slice a4 n4 c4)).setCell (ad w.heap.size 5) (.slice a5 n5 c5)).setCell (ad w.heap.size 6) (.slice a6 n6 c6)) = wC at *
 refine (q3 _ (HV.out.below aR)).mono ?_
 rintro e w3 ⟨v3, rfl, GZ, az⟩
 obtain ⟨a8, n8, c8, rfl⟩ := jac GZ
 clear GZ
 have bG := qtr aR az
 have A5 := A4.below az
 have R5 := R4.below az
 clear A4 R4 aR az
 have Kt := A5.c 8 rfl
 have Br := A5.f 8 rfl
 have Kz := A5.c 9 rfl
 have BC := A5.f 9 rfl
 go_wp2_with fail
 clear Kt Br Kz BC
 have A6 := (A5.set (j := 8) (.slice a8 n8 c8))
 have R6 := (R5.other (b2 := w.heap.size) (j := 8) (by omega) (.slice a8 n8 c8))
 have ck := (bst (w.heap.size) 8 (.slice a8 n8 c8) (by omega) bG)
 clear A5 R5 bG
 generalize (w3.setCell (ad w.heap.size 8) (.slice a8 n8 c8)) = wD at *
 refine (q4 _ (HX.out.below ck)).mono ?_
 rintro e w4 ⟨v4, rfl, H8, hb6⟩
 obtain ⟨a9, n9, c9, rfl⟩ := jac H8
 clear H8
 have dI := qtr ck hb6
 have A7 := A6.below hb6
 have R7 := R6.below hb6
 clear A6 R6 ck hb6
 have P8 := A7.c 9 rfl
 have Ku := A7.f 9 rfl
 have OZ := A7.set (j := 9) (.slice a9 n9 c9)
 have RZ := R7.other (b2 := w.heap.size) (j := 9) (by omega) (.slice a9 n9 c9)
 have z0 := OZ.c 0 rfl
 have y0 := RZ.c 0 rfl
 have Oh := RZ.f 0 rfl
 have z1 := OZ.c 1 rfl
 have y1 := RZ.c 1 rfl
 have Oi := RZ.f 1 rfl
 have z2 := OZ.c 2 rfl
 have y2 := RZ.c 2 rfl
 have Oj := RZ.f 2 rfl
 have z3 := OZ.c 3 rfl
 have y3 := RZ.c 3 rfl
 have Ok := RZ.f 3 rfl
 have z4 := OZ.c 4 rfl
 have y4 := RZ.c 4 rfl
 have Ol := RZ.f 4 rfl
 have z5 := OZ.c 5 rfl
 have y5 := RZ.c 5 rfl
 have Om := RZ.f 5 rfl
 have z6 := OZ.c 6 rfl
 have y6 := RZ.c 6 rfl
 have On := RZ.f 6 rfl
 have z7 := OZ.c 7 rfl
 have y7 := RZ.c 7 rfl
 have Oo := RZ.f 7 rfl
 have z8 := OZ.c 8 rfl
 have y8 := RZ.c 8 rfl
 have Oq := RZ.f 8 rfl
 have z9 := OZ.c 9 rfl
 have y9 := RZ.c 9 rfl
 have Ot := RZ.f 9 rfl
 have RF := ((((((((((RZ.set (j := 0) (iv tx)).set (j := 1) (.slice a1 n1 c1)).set (j := 2) (.slice a2 n2 c2)).set (j := 3) (.slice a3 n3 c3)).set (j := 4) (.slice a4 n4 c4)).set (j := 5) (.slice a5 n5 c5)).set (j := 6) (.slice a6 n6 c6)).set (j := 7) (iv cur)).set (j := 8) (.slice a8 n8 c8)).set (j := 9) (.slice a9 n9 c9))
 have zF : Hid (Bw w _) := (bst (w.heap.size + 1) 9 (.slice a9 n9 c9) (by omega) (bst (w.heap.size + 1) 8 (.slice a8 n8 c8) (by omega) (bst (w.heap.size + 1) 7 (iv cur) (by omega) (bst (w.heap.size + 1) 6 (.slice a6 n6 c6) (by omega) (bst (w.heap.size + 1) 5 (.slice a5 n5 c5) (by omega) (bst (w.heap.size + 1) 4 (.slice a4 n4 c4) (by omega) (bst (w.heap.size + 1) 3 (.slice a3 n3 c3) (by omega) (bst (w.heap.size + 1) 2 (.slice a2 n2 c2) (by omega) (bst (w.heap.size + 1) 1 (.slice a1 n1 c1) (by omega) (bst (w.heap.size + 1) 0 (iv tx) (by omega) (bst (w.heap.size) 9 (.slice a9 n9 c9) (by omega) dI)))))))))))
 obtain ⟨t0, t1, t2, t3, t4, t5, t6, t7, t8, t9⟩ := RF.ten
 clear RF OZ RZ A7 R7 dI
 go_wp2
 exact bodyPost_ret (v := .agg #[iv tx, .slice a1 n1 c1, .slice a2 n2 c2, .slice a3 n3 c3, .slice a4 n4 c4, .slice a5 n5 c5, .slice a6 n6 c6, iv cur, .slice a8 n8 c8, .slice a9 n9 c9]) (by simp [results, Tryz.results64, go_sem, t0, t1, t2, t3, t4, t5, t6, t7, t8, t9]) rfl ⟨⟨_, _, _, _, _, _, _, _, _, _, _, _, _, _, _, _, _, _, _, _, _, _, _, _, rfl⟩, zF.out⟩
end
end Go.Proofs.YtgiieknbckhofaaGreatDoor
