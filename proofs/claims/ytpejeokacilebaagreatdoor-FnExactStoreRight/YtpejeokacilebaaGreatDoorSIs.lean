/- Packed. -/
import Derived.Test.YtpejeokacilebaaGreatDoorSBs
import Derived.Test.YtpejeokacilebaaGreatDoorSLs
import Derived.Deep.RegionHeld3
import Derived.Test.YtpejeokacilebaaGreatDoorSEs
set_option maxRecDepth 20000
set_option maxHeartbeats 20000000
set_option linter.unusedSimpArgs false
namespace Go.Proofs.YtpejeokacilebaaGreatDoor
section
open Go.RowKit
theorem rows_zones {w : World} {a : Option Addr} {zs : List ZoneD} (h : Zj w a zs) : ∃ rows : List (List Value), rows.length = zs.length /\ Za w a 2 rows /\ (∀ r ∈ rows, r.length = 2) /\ (∀ u ∈ rows.flatten, u.oneCell' = true) /\ ∀ (j : Nat) z, zs[j]? = some z -> ∃ v, rows[j]? = some [.string z.name, v] /\ Jb w v z.eras := by
 rcases h with rfl | ⟨b, o, ha, hc⟩
 ·exact ⟨[], rfl, .inl rfl, fun r hr => by simp at hr, fun u hu => by simp at hu, fun j z hz => by simp at hz⟩
 obtain ⟨rows, hl, hp⟩ := list_of (P := fun i r => ∃ z v, zs[i]? = some z /\ r = [Value.string z.name, v] /\ w.cell? ⟨b, o + i * 2, none⟩ = some (.string z.name) /\ w.cell? ⟨b, o + i * 2 + 1, none⟩ = some v /\ Jb w v z.eras) zs.length (fun i hi => by
  have hz : zs[i]? = some zs[i] := List.getElem?_eq_getElem hi
  obtain ⟨c0, v, c1, hE⟩ := hc i _ hz
  exact ⟨_, zs[i], v, hz, rfl, c0, c1, hE⟩)
 refine ⟨rows, hl, .inr ⟨b, o, ha, fun i j r c hr hj => ?_⟩, fun r hr => ?_, fun u hu => ?_, fun j z hz => ?_⟩
 ·obtain ⟨z, v, _, rfl, c0, c1, _⟩ := hp i r hr
  match j, hj with
  | 0, hj => simp at hj; subst hj; exact c0
  | 1, hj => simp at hj; subst hj; exact c1
  | j + 2, hj => simp at hj
 ·obtain ⟨i, hi⟩ := List.getElem?_of_mem hr
  obtain ⟨z, v, _, rfl, _⟩ := hp i r hi
  rfl
 ·obtain ⟨r, hr, hur⟩ := List.mem_flatten.mp hu
  obtain ⟨i, hi⟩ := List.getElem?_of_mem hr
  obtain ⟨z, v, _, rfl, _, _, a2, c2, rfl, _⟩ := hp i r hi
  simp at hur
  rcases hur with rfl | rfl <;> rfl
 ·have hj := (List.getElem?_eq_some_iff.1 hz).1
  have hr : rows[j]? = some rows[j] := List.getElem?_eq_getElem (by omega)
  obtain ⟨z2, v, hz2, he, _, _, hE⟩ := hp j _ hr
  rw [hz] at hz2
  obtain rfl := Option.some.inj hz2
  exact ⟨v, by rw [hr, he], hE⟩
theorem ruleCs_one {L : List RuleD} : ∀ u ∈ (L.map RuleD.cs).flatten, u.oneCell' = true := fun u hu => by
 simp only [List.mem_flatten, List.mem_map] at hu
 obtain ⟨r, ⟨t, _, rfl⟩, hr⟩ := hu
 simp [RuleD.cs] at hr
 rcases hr with rfl | rfl | rfl | rfl | rfl | rfl | rfl | rfl | rfl <;> rfl
theorem linkCs_one {L : List LinkD} : ∀ u ∈ (L.map LinkD.cs).flatten, u.oneCell' = true := fun u hu => by
 simp only [List.mem_flatten, List.mem_map] at hu
 obtain ⟨r, ⟨t, _, rfl⟩, hr⟩ := hu
 simp [LinkD.cs] at hr
 rcases hr with rfl | rfl <;> rfl
theorem eraCs_one {L : List EraD} : ∀ u ∈ (L.map EraD.cs).flatten, u.oneCell' = true := fun u hu => by
 simp only [List.mem_flatten, List.mem_map] at hu
 obtain ⟨r, ⟨t, _, rfl⟩, hr⟩ := hu
 simp [EraD.cs] at hr
 rcases hr with rfl | rfl | rfl | rfl | rfl | rfl <;> rfl
theorem cs_len {α : Type} {cs : α -> List Value} {k : Nat} (h : ∀ x, (cs x).length = k) (L : List α) : ∀ r ∈ L.map cs, r.length = k := fun r hr => by
 obtain ⟨x, _, rfl⟩ := List.mem_map.1 hr
 exact h x
structure ZonP (w wr : World) (zs : List ZoneD) (B i : Nat) (v : Value) (n : Nat) : Prop where
 own : ∃ xs, wr.ownsRow B 81 2 v n xs /\ ∀ (j : Nat) z, i <= j -> zs[j]? = some z -> ∃ u, xs[j * 2 + 1]? = some u /\ Jb w u z.eras
structure CopP (w : World) (q : Ending) (w' : World) : Prop where
 ex : ∃ a n c a2 n2 c2 a3 n3 c3, q = .returned (.agg #[.slice a n c, .slice a2 n2 c2, .slice a3 n3 c3])
 bel : Below w.heap.size w w'
theorem jcz (r : RelD) (a b c : Option Addr) (ca cb cc : Nat) (w : World) (hv : Zb w (.agg #[.slice a r.rules.length ca, .slice b r.zones.length cb, .slice c r.links.length cc]) r) (sm : r.small) :
  Calls Tryz.prog 80 #[.agg #[.slice a r.rules.length ca, .slice b r.zones.length cb, .slice c r.links.length cc]] w (CopP w) := by
 obtain ⟨a', b', c', ca', cb', cc', he, hA, hZ, hC⟩ := hv.form
 injection he with he
 simp only [List.toArray_inj, List.cons.injEq, Value.slice.injEq, true_and, and_true, Array.mk.injEq] at he
 obtain ⟨⟨rfl, rfl⟩, ⟨rfl, rfl⟩, rfl, rfl⟩ := he
 obtain ⟨m1, m2, m3, m4⟩ := sm
 obtain ⟨rs, zs, ls⟩ := r
 simp only at *
 obtain ⟨rows, hl, hq, r2, r1, hrow⟩ := rows_zones hZ
 have hB0 : Below w.heap.size w ((w.alloc (.cells #[.slice a rs.length ca, .slice b zs.length cb, .slice c ls.length cc] 37)).alloc (.cells #[.slice none 0 0, .slice none 0 0, .slice none 0 0] 37)) := (qal _ _).alloc (by simp) _
 have X0 : Zd ((w.alloc (.cells #[.slice a rs.length ca, .slice b zs.length cb, .slice c ls.length cc] 37)).alloc (.cells #[.slice none 0 0, .slice none 0 0, .slice none 0 0] 37)) w.heap.size [.slice a rs.length ca, .slice b zs.length cb, .slice c ls.length cc] := (Zd.new w [.slice a rs.length ca, .slice b zs.length cb, .slice c ls.length cc] 37).below (qal _ _)
 have O0 : Zd ((w.alloc (.cells #[.slice a rs.length ca, .slice b zs.length cb, .slice c ls.length cc] 37)).alloc (.cells #[.slice none 0 0, .slice none 0 0, .slice none 0 0] 37)) (w.heap.size + 1) [.slice none 0 0, .slice none 0 0, .slice none 0 0] := by
  have h := Zd.new (w.alloc (.cells #[.slice a rs.length ca, .slice b zs.length cb, .slice c ls.length cc] 37)) [.slice none 0 0, .slice none 0 0, .slice none 0 0] 37
  simpa using h
 have hs0 : ((w.alloc (.cells #[.slice a rs.length ca, .slice b zs.length cb, .slice c ls.length cc] 37)).alloc (.cells #[.slice none 0 0, .slice none 0 0, .slice none 0 0] 37)).heap.size = w.heap.size + 1 + 1 := by simp
 have hClZ := fun w h => clone_Zone rows r2 r1 b zs.length cb w h hl m2
 have hClR := fun w h => clone_Rule (rs.map RuleD.cs) (cs_len (cs := RuleD.cs) (fun _ => rfl) rs) ruleCs_one a rs.length ca w h (by simp) m1
 have hClL := fun w h => clone_Link (ls.map LinkD.cs) (cs_len (cs := LinkD.cs) (fun _ => rfl) ls) linkCs_one c ls.length cc w h (by simp) m3
 have HR := hid hrow
 have HM := hid m4
 have HA := hid hA
 have HC := hid hC
 have HF : Hid (∀ (j : Nat) z v, zs[j]? = some z -> rows[j]? = some [.string z.name, v] -> rows.flatten[j * 2 + 1]? = some v) := fun j z v _ hr => jbe r2 hr rfl
 have x1 := X0.c 1 (u := .slice b zs.length cb) rfl
 have hq0 := hq.below hB0
 clear hv hZ hA hC hrow m4 hq r1 r2 hl
 generalize hnz : zs.length = nz at *
 have HN := hid hnz
 clear hnz
 go_enter Tryz.func80, Tryz.ntmps80
 go_wp2_with fail
 refine (hClZ _ hq0).mono ?_
 rintro q w1 ⟨zv, rfl, hO1, hb1⟩
 rw [hs0] at hO1
 obtain ⟨pz, mz, cz, rfl⟩ := jac hO1
 have hmz : mz = nz := by
  rcases hO1.2 with ⟨h1, h2⟩ | ⟨_, _, _, h1, _⟩
  ·injection h1 with _ h1 _; omega
  ·injection h1
 subst hmz
 have hB1 := qtr hB0 hb1
 have X1 := X0.below hb1
 have O1 := O0.below hb1
 have hZ1 : ZonP w w1 zs (w.heap.size + 1 + 1) 0 (.slice pz mz cz) mz := ⟨_, hO1, fun j z _ hz => by
  obtain ⟨v, hr, hE⟩ := HR.out j z hz
  exact ⟨v, HF.out j z v hz hr, hE⟩⟩
 have HX := hid X1
 have HO := hid O1
 clear hClZ hq0 hO1 hb1 x1 X0 O0 hs0 HR HF X1 O1 hB0
 go_wp2
 go_loopw [4, 10] (fun _ s10 wr => ∃ i : Nat, i <= mz /\ s10 = .int .i64 i /\ Hid (ZonP w wr zs (w.heap.size + 1 + 1) i (.slice pz mz cz) mz) /\ Hid (Zd wr w.heap.size [.slice a rs.length ca, .slice b mz cb, .slice c ls.length cc]) /\ Hid (Zd wr (w.heap.size + 1) [.slice none 0 0, .slice none 0 0, .slice none 0 0]) /\ Below w.heap.size w wr /\ Hid (w.heap.size + 1 + 1 <= wr.heap.size)) (fun _ s10 _ => mz - (intOf s10).toNat)
 case atStart => exact ⟨0, by omega, rfl, hZ1, HX, HO, hB1, by have := qbl (HO.out.c 0 (u := .slice none 0 0) rfl); exact this⟩
 case round =>
  obtain ⟨wa, hwa⟩ : ∃ x : World, x = wr := ⟨_, rfl⟩
  subst hwa
  obtain ⟨i, hi, rfl, HZ, HXa, HOa, hBa, HS⟩ := hrel
  clear hZ1 HX HO hB1
  by_cases hlt : i < mz
  ·have a1 : (i : Int) < (mz : Int) := by omega
   have a0 : (0 : Int) <= (i : Int) := by omega
   obtain ⟨z, hz⟩ : ∃ z, zs[i]? = some z := ⟨_, List.getElem?_eq_getElem (by have := HN.out; omega)⟩
   obtain ⟨xs, hO, hx⟩ := HZ.out.own
   obtain ⟨u, hu, ea, ec, hue, hE⟩ := hx i z (Nat.le_refl _) hz
   subst hue
   have hpz : ∃ g, pz = some ⟨g, 0, none⟩ := by
    rcases hO.2 with ⟨h1, h2⟩ | ⟨g, _, _, h1, _⟩
    ·omega
    ·injection h1 with h1 _ _; exact ⟨g, h1⟩
   obtain ⟨g, rfl⟩ := hpz
   have hc : wa.cell? ⟨g, i * 2 + 1, none⟩ = some (.slice ea z.eras.length ec) := by rw [hO.cellAt (i * 2 + 1) (by omega)]; exact hu
   have hge := (World.ownsRow.lt hO g rfl).1
   have hClE := clone_Era (z.eras.map EraD.cs) (cs_len (cs := EraD.cs) (fun _ => rfl) z.eras) eraCs_one ea z.eras.length ec wa (hE.below hBa) (by simp) (HM.out z (List.mem_of_getElem? hz))
   have HX2 := hid hx
   have HOw := hid hO
   clear hx hO hu hE hz
   generalize z.eras.length = ne at *
   go_wp2_with fail
   refine hClE.mono ?_
   rintro q w2 ⟨v2, rfl, hO2, hb2⟩
   obtain ⟨p2, m2', c2, rfl⟩ := jac hO2
   have hOz := jae HOw.out hb2
   have hc2 := jaa hb2 hc
   have hf2 := hOz.frozenAt (i * 2 + 1)
   have hst := hOz.stored (i * 2 + 1) (.slice p2 m2' c2)
   have hB2 := qtr hBa hb2
   have HZ3 : Hid (ZonP w (w2.setCell ⟨g, i * 2 + 1, none⟩ (.slice p2 m2' c2)) zs (w.heap.size + 1 + 1) (i + 1) (.slice (some ⟨g, 0, none⟩) mz cz) mz) := ⟨_, hst.1, fun j z hj hz => by
    obtain ⟨u, h1, h2⟩ := HX2.out j z (by omega) hz
    exact ⟨u, by rw [List.getElem?_set_ne (by omega)]; exact h1, h2⟩⟩
   have HX3 : Hid (Zd (w2.setCell ⟨g, i * 2 + 1, none⟩ (.slice p2 m2' c2)) w.heap.size [.slice a rs.length ca, .slice b mz cb, .slice c ls.length cc]) := (HXa.out.below hb2).other (by omega) _
   have HO3 : Hid (Zd (w2.setCell ⟨g, i * 2 + 1, none⟩ (.slice p2 m2' c2)) (w.heap.size + 1) [.slice none 0 0, .slice none 0 0, .slice none 0 0]) := (HOa.out.below hb2).other (by omega) _
   have hB3 : Below w.heap.size w (w2.setCell ⟨g, i * 2 + 1, none⟩ (.slice p2 m2' c2)) := hB2.setCell (show w.heap.size <= g by omega) _
   have HS3 : Hid (w.heap.size + 1 + 1 <= (w2.setCell ⟨g, i * 2 + 1, none⟩ (.slice p2 m2' c2)).heap.size) := by have h1 := HS.out; have h2 := hb2.size; simp only [Hid, World.size_setCell]; omega
   clear hst hOz hO2 hb2 hB2 hBa hc hClE HXa HOa HZ
   go_wp2
   go_roundw
   case rel => exact ⟨i + 1, by omega, by go_num, HZ3, HX3, HO3, hB3, HS3⟩
   case measure => simp [intOf]; omega
  ·obtain rfl : i = mz := by omega
   have x0 : wa.drew.cell? ⟨w.heap.size, 0, none⟩ = some (.slice a rs.length ca) := HXa.out.c 0 (u := .slice a rs.length ca) rfl
   have x2 : wa.drew.cell? ⟨w.heap.size, 2, none⟩ = some (.slice c ls.length cc) := HXa.out.c 2 (u := .slice c ls.length cc) rfl
   have HOD : Hid (Zd wa.drew (w.heap.size + 1) [.slice none 0 0, .slice none 0 0, .slice none 0 0]) := HOa.out.below (jab wa)
   have hBD : Below w.heap.size w wa.drew := hBa.trans ((jab wa).mono hBa.size)
   have hC1 := hClR wa.drew (HA.out.below hBD)
   have HBD := hid hBD
   clear hBD hBa hClR HXa HOa HZ
   go_wp2_with fail
   go_region_held3 (fun w' => w'.cell? ⟨w.heap.size, 0, none⟩ = some (.slice a rs.length ca) /\ w'.cell? ⟨w.heap.size, 2, none⟩ = some (.slice c ls.length cc)) (go_keep) (first | (go_at_call 111; refine hC1.mono ?_; rintro q w3 ⟨v3, rfl, hO3, hb3⟩; obtain ⟨p3, m3', c3, rfl⟩ := jac hO3; clear hO3; have x0c := jaa hb3 x0; have x2c := jaa hb3 x2; have hC2 := hClL w3 (HC.out.below (qtr HBD.out hb3))) | (go_at_call 112; refine hC2.mono ?_; rintro q w4 ⟨v4, rfl, hO4, hb4⟩; obtain ⟨p4, m4', c4, rfl⟩ := jac hO4; clear hO4; have x0d := jaa hb4 x0c; have x2d := jaa hb4 x2c; have O4 := (HOD.out.below hb3).below hb4; have o0 := O4.c 0 (u := .slice none 0 0) rfl; have o1 := O4.c 1 (u := .slice none 0 0) rfl; have o2 := O4.c 2 (u := .slice none 0 0) rfl; have f0 := O4.f 0 (u := .slice none 0 0) rfl; have f1 := O4.f 1 (u := .slice none 0 0) rfl; have f2 := O4.f 2 (u := .slice none 0 0) rfl))
   all_goals
    have hB3 := qtr HBD.out hb3
    have hB4 := qtr hB3 hb4
    obtain ⟨t0, t1, t2⟩ := set_three (v0 := .slice p3 m3' c3) (v1 := .slice pz i cz) (v2 := .slice p4 m4' c4) o0 o1 o2
    have HB5 : Hid (Below w.heap.size w (((w4.setCell ⟨w.heap.size + 1, 0, none⟩ (.slice p3 m3' c3)).setCell ⟨w.heap.size + 1, 1, none⟩ (.slice pz i cz)).setCell ⟨w.heap.size + 1, 2, none⟩ (.slice p4 m4' c4))) := ((hB4.setCell (show w.heap.size <= w.heap.size + 1 by omega) _).setCell (show w.heap.size <= w.heap.size + 1 by omega) _).setCell (show w.heap.size <= w.heap.size + 1 by omega) _
    clear hB3 hB4 hb3 hb4 hC2 O4
    go_wp2
    exact bodyPost_ret (v := .agg #[.slice p3 m3' c3, .slice pz i cz, .slice p4 m4' c4]) (by simp [results, Tryz.results80, go_sem, t0, t1, t2]) rfl ⟨⟨_, _, _, _, _, _, _, _, _, rfl⟩, HB5.out⟩
end
section
open Go.RowKit
theorem verCs_one {L : List VersionD} : ∀ u ∈ (L.map VersionD.cs).flatten, u.oneCell' = true := fun u hu => by
 simp only [List.mem_flatten, List.mem_map] at hu
 obtain ⟨r, ⟨t, _, rfl⟩, hr⟩ := hu
 simp [VersionD.cs] at hr
 rcases hr with rfl | rfl | rfl | rfl | rfl | rfl | rfl | rfl <;> rfl
structure CopS (s : StoreD) (w : World) (q : Ending) (w' : World) : Prop where
 ex : ∃ a1 n1 c1 a2 n2 c2 a3 n3 c3 a4 n4 c4 a5 n5 c5 a6 n6 c6 a8 n8 c8 a9 n9 c9, q = .returned (.agg #[.int .i64 s.tx, .slice a1 n1 c1, .slice a2 n2 c2, .slice a3 n3 c3, .slice a4 n4 c4, .slice a5 n5 c5, .slice a6 n6 c6, .int .i64 s.cur, .slice a8 n8 c8, .slice a9 n9 c9])
 bel : Below w.heap.size w w'
theorem impl_copied (s : StoreD) (v : Value) (w : World) (hv : Jh w v s) (hm : Zu s) :
  Calls Tryz.prog 48 #[v] w (CopS s w) := by
 obtain ⟨a, b, c, d, e, f, va, ia, ca, cb, cc, cd, ce, cf, cv, ci, rfl, hN, hW, hV, hX, _, _⟩ := hv.form
 obtain ⟨tx, now, was, cur, vs, ix⟩ := s
 obtain ⟨m1, m2, m3, m4, m5⟩ := hm
 simp only at *
 have hB0 : Below w.heap.size w ((w.alloc (.cells #[.int .i64 tx, .slice a now.rules.length ca, .slice b now.zones.length cb, .slice c now.links.length cc, .slice d was.rules.length cd, .slice e was.zones.length ce, .slice f was.links.length cf, .int .i64 cur, .slice va vs.length cv, .slice ia ix.length ci] 41)).alloc (.cells #[.int .i64 0, .slice none 0 0, .slice none 0 0, .slice none 0 0, .slice none 0 0, .slice none 0 0, .slice none 0 0, .int .i64 0, .slice none 0 0, .slice none 0 0] 41)) := (qal _ _).alloc (by simp) _
 have A0 : Zd ((w.alloc (.cells #[.int .i64 tx, .slice a now.rules.length ca, .slice b now.zones.length cb, .slice c now.links.length cc, .slice d was.rules.length cd, .slice e was.zones.length ce, .slice f was.links.length cf, .int .i64 cur, .slice va vs.length cv, .slice ia ix.length ci] 41)).alloc (.cells #[.int .i64 0, .slice none 0 0, .slice none 0 0, .slice none 0 0, .slice none 0 0, .slice none 0 0, .slice none 0 0, .int .i64 0, .slice none 0 0, .slice none 0 0] 41)) w.heap.size [.int .i64 tx, .slice a now.rules.length ca, .slice b now.zones.length cb, .slice c now.links.length cc, .slice d was.rules.length cd, .slice e was.zones.length ce, .slice f was.links.length cf, .int .i64 cur, .slice va vs.length cv, .slice ia ix.length ci] := (Zd.new w [.int .i64 tx, .slice a now.rules.length ca, .slice b now.zones.length cb, .slice c now.links.length cc, .slice d was.rules.length cd, .slice e was.zones.length ce, .slice f was.links.length cf, .int .i64 cur, .slice va vs.length cv, .slice ia ix.length ci] 41).below (qal _ _)
 have R0 : Zd ((w.alloc (.cells #[.int .i64 tx, .slice a now.rules.length ca, .slice b now.zones.length cb, .slice c now.links.length cc, .slice d was.rules.length cd, .slice e was.zones.length ce, .slice f was.links.length cf, .int .i64 cur, .slice va vs.length cv, .slice ia ix.length ci] 41)).alloc (.cells #[.int .i64 0, .slice none 0 0, .slice none 0 0, .slice none 0 0, .slice none 0 0, .slice none 0 0, .slice none 0 0, .int .i64 0, .slice none 0 0, .slice none 0 0] 41)) (w.heap.size + 1) [.int .i64 0, .slice none 0 0, .slice none 0 0, .slice none 0 0, .slice none 0 0, .slice none 0 0, .slice none 0 0, .int .i64 0, .slice none 0 0, .slice none 0 0] := by have h := Zd.new (w.alloc (.cells #[.int .i64 tx, .slice a now.rules.length ca, .slice b now.zones.length cb, .slice c now.links.length cc, .slice d was.rules.length cd, .slice e was.zones.length ce, .slice f was.links.length cf, .int .i64 cur, .slice va vs.length cv, .slice ia ix.length ci] 41)) [.int .i64 0, .slice none 0 0, .slice none 0 0, .slice none 0 0, .slice none 0 0, .slice none 0 0, .slice none 0 0, .int .i64 0, .slice none 0 0, .slice none 0 0] 41; simpa using h
 have q1 := fun w h => jcz now a b c ca cb cc w h m1.sm
 have q2 := fun w h => jcz was d e f cd ce cf w h m2.sm
 have q3 := fun w h => clone_Version (vs.map VersionD.cs) (cs_len (cs := VersionD.cs) (fun _ => rfl) vs) verCs_one va vs.length cv w h (by simp) m4
 have q4 := fun w h => clone_Entry (ix.map EntryD.cs) (cs_len (cs := EntryD.cs) (fun _ => rfl) ix) jbl ia ix.length ci w h (by simp) m5
 clear m1 m2 m3 hv
 have HN := hid hN
 have HW := hid hW
 have HV := hid hV
 have HX := hid hX
 clear hN hW hV hX
 go_enter Tryz.func48, Tryz.ntmps48
 have fa1 := A0.c 1 (u := .slice a now.rules.length ca) rfl
 have faf1 := A0.f 1 (u := .slice a now.rules.length ca) rfl
 have fa2 := A0.c 2 (u := .slice b now.zones.length cb) rfl
 have faf2 := A0.f 2 (u := .slice b now.zones.length cb) rfl
 have fa3 := A0.c 3 (u := .slice c now.links.length cc) rfl
 have faf3 := A0.f 3 (u := .slice c now.links.length cc) rfl
 go_wp2_with fail
 refine (q1 _ (HN.out.below hB0)).mono ?_
 rintro e w1 hP
 obtain ⟨a1, n1, c1, a2, n2, c2, a3, n3, c3, hq⟩ := hP.ex
 subst hq
 have hb0 := hP.bel
 have hB1 := qtr hB0 hb0
 have A1 := A0.below hb0
 have R1 := R0.below hb0
 clear A0 R0 hB0 hb0
 clear fa1 faf1 fa2 faf2 fa3 faf3
 have fa1 := A1.c 1 (u := .slice a now.rules.length ca) rfl
 have faf1 := A1.f 1 (u := .slice a now.rules.length ca) rfl
 have fa2 := A1.c 2 (u := .slice b now.zones.length cb) rfl
 have faf2 := A1.f 2 (u := .slice b now.zones.length cb) rfl
 have fa3 := A1.c 3 (u := .slice c now.links.length cc) rfl
 have faf3 := A1.f 3 (u := .slice c now.links.length cc) rfl
 have fb4 := A1.c 4 (u := .slice d was.rules.length cd) rfl
 have fbf4 := A1.f 4 (u := .slice d was.rules.length cd) rfl
 have fb5 := A1.c 5 (u := .slice e was.zones.length ce) rfl
 have fbf5 := A1.f 5 (u := .slice e was.zones.length ce) rfl
 have fb6 := A1.c 6 (u := .slice f was.links.length cf) rfl
 have fbf6 := A1.f 6 (u := .slice f was.links.length cf) rfl
 go_wp2_with fail
 clear fa1 faf1 fa2 faf2 fa3 faf3 fb4 fbf4 fb5 fbf5 fb6 fbf6
 have A2 := (((A1.set (j := 1) (.slice a1 n1 c1)).set (j := 2) (.slice a2 n2 c2)).set (j := 3) (.slice a3 n3 c3))
 have R2 := (((R1.other (b2 := w.heap.size) (j := 1) (by omega) (.slice a1 n1 c1)).other (b2 := w.heap.size) (j := 2) (by omega) (.slice a2 n2 c2)).other (b2 := w.heap.size) (j := 3) (by omega) (.slice a3 n3 c3))
 have hB2 := (bst (w.heap.size) 3 (.slice a3 n3 c3) (by omega) (bst (w.heap.size) 2 (.slice a2 n2 c2) (by omega) (bst (w.heap.size) 1 (.slice a1 n1 c1) (by omega) hB1)))
 clear A1 R1 hB1
 generalize (((w1.setCell ⟨w.heap.size, 1, none⟩ (.slice a1 n1 c1)).setCell ⟨w.heap.size, 2, none⟩ (.slice a2 n2 c2)).setCell ⟨w.heap.size, 3, none⟩ (.slice a3 n3 c3)) = wB at *
 refine (q2 _ (HW.out.below hB2)).mono ?_
 rintro e w2 hP2
 obtain ⟨a4, n4, c4, a5, n5, c5, a6, n6, c6, hq⟩ := hP2.ex
 subst hq
 have hb2 := hP2.bel
 have hB3 := qtr hB2 hb2
 have A3 := A2.below hb2
 have R3 := R2.below hb2
 clear A2 R2 hB2 hb2
 have fa4 := A3.c 4 (u := .slice d was.rules.length cd) rfl
 have faf4 := A3.f 4 (u := .slice d was.rules.length cd) rfl
 have fa5 := A3.c 5 (u := .slice e was.zones.length ce) rfl
 have faf5 := A3.f 5 (u := .slice e was.zones.length ce) rfl
 have fa6 := A3.c 6 (u := .slice f was.links.length cf) rfl
 have faf6 := A3.f 6 (u := .slice f was.links.length cf) rfl
 have fb8 := A3.c 8 (u := .slice va vs.length cv) rfl
 have fbf8 := A3.f 8 (u := .slice va vs.length cv) rfl
 go_wp2_with fail
 clear fa4 faf4 fa5 faf5 fa6 faf6 fb8 fbf8
 have A4 := (((A3.set (j := 4) (.slice a4 n4 c4)).set (j := 5) (.slice a5 n5 c5)).set (j := 6) (.slice a6 n6 c6))
 have R4 := (((R3.other (b2 := w.heap.size) (j := 4) (by omega) (.slice a4 n4 c4)).other (b2 := w.heap.size) (j := 5) (by omega) (.slice a5 n5 c5)).other (b2 := w.heap.size) (j := 6) (by omega) (.slice a6 n6 c6))
 have hB4 := (bst (w.heap.size) 6 (.slice a6 n6 c6) (by omega) (bst (w.heap.size) 5 (.slice a5 n5 c5) (by omega) (bst (w.heap.size) 4 (.slice a4 n4 c4) (by omega) hB3)))
 clear A3 R3 hB3
 generalize (((w2.setCell ⟨w.heap.size, 4, none⟩ (.slice a4 n4 c4)).setCell ⟨w.heap.size, 5, none⟩ (.slice a5 n5 c5)).setCell ⟨w.heap.size, 6, none⟩ (.slice a6 n6 c6)) = wC at *
 refine (q3 _ (HV.out.below hB4)).mono ?_
 rintro e w3 ⟨v3, rfl, ho3, hb4⟩
 obtain ⟨a8, n8, c8, rfl⟩ := jac ho3
 clear ho3
 have hB5 := qtr hB4 hb4
 have A5 := A4.below hb4
 have R5 := R4.below hb4
 clear A4 R4 hB4 hb4
 have fa8 := A5.c 8 (u := .slice va vs.length cv) rfl
 have faf8 := A5.f 8 (u := .slice va vs.length cv) rfl
 have fb9 := A5.c 9 (u := .slice ia ix.length ci) rfl
 have fbf9 := A5.f 9 (u := .slice ia ix.length ci) rfl
 go_wp2_with fail
 clear fa8 faf8 fb9 fbf9
 have A6 := (A5.set (j := 8) (.slice a8 n8 c8))
 have R6 := (R5.other (b2 := w.heap.size) (j := 8) (by omega) (.slice a8 n8 c8))
 have hB6 := (bst (w.heap.size) 8 (.slice a8 n8 c8) (by omega) hB5)
 clear A5 R5 hB5
 generalize (w3.setCell ⟨w.heap.size, 8, none⟩ (.slice a8 n8 c8)) = wD at *
 refine (q4 _ (HX.out.below hB6)).mono ?_
 rintro e w4 ⟨v4, rfl, ho4, hb6⟩
 obtain ⟨a9, n9, c9, rfl⟩ := jac ho4
 clear ho4
 have hB7 := qtr hB6 hb6
 have A7 := A6.below hb6
 have R7 := R6.below hb6
 clear A6 R6 hB6 hb6
 have fa9 := A7.c 9 (u := .slice ia ix.length ci) rfl
 have faf9 := A7.f 9 (u := .slice ia ix.length ci) rfl
 have OZ := A7.set (j := 9) (.slice a9 n9 c9)
 have RZ := R7.other (b2 := w.heap.size) (j := 9) (by omega) (.slice a9 n9 c9)
 have z0 := OZ.c 0 (u := .int .i64 tx) rfl
 have y0 := RZ.c 0 (u := .int .i64 0) rfl
 have yf0 := RZ.f 0 (u := .int .i64 0) rfl
 have z1 := OZ.c 1 (u := .slice a1 n1 c1) rfl
 have y1 := RZ.c 1 (u := .slice none 0 0) rfl
 have yf1 := RZ.f 1 (u := .slice none 0 0) rfl
 have z2 := OZ.c 2 (u := .slice a2 n2 c2) rfl
 have y2 := RZ.c 2 (u := .slice none 0 0) rfl
 have yf2 := RZ.f 2 (u := .slice none 0 0) rfl
 have z3 := OZ.c 3 (u := .slice a3 n3 c3) rfl
 have y3 := RZ.c 3 (u := .slice none 0 0) rfl
 have yf3 := RZ.f 3 (u := .slice none 0 0) rfl
 have z4 := OZ.c 4 (u := .slice a4 n4 c4) rfl
 have y4 := RZ.c 4 (u := .slice none 0 0) rfl
 have yf4 := RZ.f 4 (u := .slice none 0 0) rfl
 have z5 := OZ.c 5 (u := .slice a5 n5 c5) rfl
 have y5 := RZ.c 5 (u := .slice none 0 0) rfl
 have yf5 := RZ.f 5 (u := .slice none 0 0) rfl
 have z6 := OZ.c 6 (u := .slice a6 n6 c6) rfl
 have y6 := RZ.c 6 (u := .slice none 0 0) rfl
 have yf6 := RZ.f 6 (u := .slice none 0 0) rfl
 have z7 := OZ.c 7 (u := .int .i64 cur) rfl
 have y7 := RZ.c 7 (u := .int .i64 0) rfl
 have yf7 := RZ.f 7 (u := .int .i64 0) rfl
 have z8 := OZ.c 8 (u := .slice a8 n8 c8) rfl
 have y8 := RZ.c 8 (u := .slice none 0 0) rfl
 have yf8 := RZ.f 8 (u := .slice none 0 0) rfl
 have z9 := OZ.c 9 (u := .slice a9 n9 c9) rfl
 have y9 := RZ.c 9 (u := .slice none 0 0) rfl
 have yf9 := RZ.f 9 (u := .slice none 0 0) rfl
 have RF := ((((((((((RZ.set (j := 0) (.int .i64 tx)).set (j := 1) (.slice a1 n1 c1)).set (j := 2) (.slice a2 n2 c2)).set (j := 3) (.slice a3 n3 c3)).set (j := 4) (.slice a4 n4 c4)).set (j := 5) (.slice a5 n5 c5)).set (j := 6) (.slice a6 n6 c6)).set (j := 7) (.int .i64 cur)).set (j := 8) (.slice a8 n8 c8)).set (j := 9) (.slice a9 n9 c9))
 have HBF : Hid (Below w.heap.size w _) := (bst (w.heap.size + 1) 9 (.slice a9 n9 c9) (by omega) (bst (w.heap.size + 1) 8 (.slice a8 n8 c8) (by omega) (bst (w.heap.size + 1) 7 (.int .i64 cur) (by omega) (bst (w.heap.size + 1) 6 (.slice a6 n6 c6) (by omega) (bst (w.heap.size + 1) 5 (.slice a5 n5 c5) (by omega) (bst (w.heap.size + 1) 4 (.slice a4 n4 c4) (by omega) (bst (w.heap.size + 1) 3 (.slice a3 n3 c3) (by omega) (bst (w.heap.size + 1) 2 (.slice a2 n2 c2) (by omega) (bst (w.heap.size + 1) 1 (.slice a1 n1 c1) (by omega) (bst (w.heap.size + 1) 0 (.int .i64 tx) (by omega) (bst (w.heap.size) 9 (.slice a9 n9 c9) (by omega) hB7)))))))))))
 have t0 := RF.c 0 (u := .int .i64 tx) rfl
 have t1 := RF.c 1 (u := .slice a1 n1 c1) rfl
 have t2 := RF.c 2 (u := .slice a2 n2 c2) rfl
 have t3 := RF.c 3 (u := .slice a3 n3 c3) rfl
 have t4 := RF.c 4 (u := .slice a4 n4 c4) rfl
 have t5 := RF.c 5 (u := .slice a5 n5 c5) rfl
 have t6 := RF.c 6 (u := .slice a6 n6 c6) rfl
 have t7 := RF.c 7 (u := .int .i64 cur) rfl
 have t8 := RF.c 8 (u := .slice a8 n8 c8) rfl
 have t9 := RF.c 9 (u := .slice a9 n9 c9) rfl
 clear RF OZ RZ A7 R7 hB7
 go_wp2
 exact bodyPost_ret (v := .agg #[.int .i64 tx, .slice a1 n1 c1, .slice a2 n2 c2, .slice a3 n3 c3, .slice a4 n4 c4, .slice a5 n5 c5, .slice a6 n6 c6, .int .i64 cur, .slice a8 n8 c8, .slice a9 n9 c9]) (by simp [results, Tryz.results48, go_sem, t0, t1, t2, t3, t4, t5, t6, t7, t8, t9]) rfl ⟨⟨_, _, _, _, _, _, _, _, _, _, _, _, _, _, _, _, _, _, _, _, _, _, _, _, rfl⟩, HBF.out⟩
end
end Go.Proofs.YtpejeokacilebaaGreatDoor
