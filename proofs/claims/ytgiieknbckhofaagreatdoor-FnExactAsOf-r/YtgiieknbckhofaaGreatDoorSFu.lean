/- Packed. -/
import Derived.Test.YtgiieknbckhofaaGreatDoorSDu
import Derived.Test.YtgiieknbckhofaaGreatDoorTbSu
set_option maxRecDepth 20000
set_option maxHeartbeats 20000000
set_option linter.unusedSimpArgs false
namespace Go.Proofs.YtgiieknbckhofaaGreatDoor
section
open Go.RowKit Go.ChangeMaps Go.MapKept Go.WideMaps
structure TOut where
 a : Option Addr
 n : Nat
 c : Nat
 code : Int
def TOut.v (t : TOut) : Value := .agg #[.slice t.a t.n t.c, iv t.code]
def jrf : Value -> Option (DataW TOut × List MemPlace)
 | .agg ⟨[.slice a n c, .int .i64 k]⟩ => some (.held ⟨a, n, c, k⟩, [])
 | _ => none
theorem jm5 (t : TOut) : jrf t.v = some (.held t, []) := by cases t; rfl
theorem jsx {v : Value} {z : DataW TOut × List MemPlace} (h : jrf v = some z) : ∃ t : TOut, v = t.v /\ z = (.held t, []) := by
 unfold jrf at h
 split at h
 ·cases h; exact ⟨_, rfl, rfl⟩
 ·cases h
structure Jh (w : World) (t : TOut) (x : Int × List TurnD) : Prop where
 code : t.code = x.1
 n : t.n = x.2.length
 seq : Za w t.a 4 (x.2.map TurnD.cs)
 typ : ∀ b o, t.a = some (ad b o) -> ∃ cs, w.heap[b]? = some (.cells cs 220 (0, 0))
theorem jrw {w : World} {b : Nat} {es : Array MapEntry} {bl : Nat} (h : w.heap[b]? = some (.map es bl)) (o : Nat) : w.cell? (ad b o) = none := by
 simp [World.cell?, h]
theorem j0l {u s : ByteArray} (h : u.data.toList = s.data.toList) : u = s := by
 have h2 := Array.toList_inj.mp h
 cases u; cases s
 simp only at h2
 rw [h2]
theorem Jh.grown {w w' : World} {row : Option Nat} {t : TOut} {x : Int × List TurnD} (h : Jh w t x) (hg : w.grownBy w' row) (az : ∀ b cs, w.heap[b]? = some (.cells cs 220 (0, 0)) -> some b ≠ row) : Jh w' t x := by
 refine ⟨h.code, h.n, ?_, fun b o hb => ?_⟩
 ·rcases h.seq with h0 | ⟨b, o, ha, hc⟩
  ·exact .inl h0
  ·obtain ⟨cs, oF⟩ := h.typ b o ha
   exact .inr ⟨b, o, ha, fun i j r c hr hj => hg.cell (hc i j r c hr hj) (az b cs oF)⟩
 ·obtain ⟨cs, oF⟩ := h.typ b o hb
  exact ⟨cs, (hg.block b (Array.getElem?_eq_some_iff.1 oF).1 (az b cs oF)).trans oF⟩
theorem Jh.below {w w' : World} {t : TOut} {x : Int × List TurnD} (h : Jh w t x) (hb : Bw w w') : Jh w' t x := h.grown (jap hb) (fun _ _ _ => by simp)
structure Zh (w : World) (b n : Nat) (r : RelD) : Prop where
 own : ∃ D, w.ownsMap Tryz.prog 9 jrf b n D /\ ∀ s : ByteArray, Maps.has D (.string s.data.toList) = true -> ∃ t, (∀ z, D.atKey (.string s.data.toList) z = .held t) /\ Jh w t (tabD r s)
theorem j3j : Tryz.prog.underlying 71 = some (.map 9 185) := by kernel_rfl
theorem keyS : Tryz.prog.underlying 9 = some .string := by kernel_rfl
theorem juj (w : World) : (zeroValue 185).run Tryz.prog w = .ok (TOut.v ⟨none, 0, 0, 0⟩) w := by kernel_rfl
theorem Zh.made (w : World) (r : RelD) : Zh (w.alloc (.map #[] 0)) w.heap.size 0 r := ⟨_, World.ownsMap_made w _ _ _, fun s h => by cases h⟩
theorem Zh.lt {w : World} {b n : Nat} {r : RelD} (h : Zh w b n r) : b < w.heap.size := by
 obtain ⟨D, h1, _⟩ := h.own
 exact h1.lt
theorem Zh.blk {w : World} {b n : Nat} {r : RelD} (h : Zh w b n r) : ∀ b' cs, w.heap[b']? = some (.cells cs 220 (0, 0)) -> some b' ≠ some b := by
 obtain ⟨D, ⟨es, bl, hb, _⟩, _⟩ := h.own
 intro b' cs h1 h2
 injection h2 with h2
 subst h2
 rw [hb] at h1
 cases h1
theorem Zh.grown {w w' : World} {b n g : Nat} {r : RelD} (h : Zh w b n r) (hg : w.grownBy w' (some g)) (oG : b ≠ g) (az : ∀ cs, w.heap[g]? ≠ some (.cells cs 220 (0, 0))) : Zh w' b n r := by
 obtain ⟨D, h1, h2⟩ := h.own
 refine ⟨D, h1.kept hg (by simpa using oG), fun s hs => ?_⟩
 obtain ⟨t, ht, hE⟩ := h2 s hs
 exact ⟨t, ht, hE.grown hg (fun b' cs hc e => by injection e with e; subst e; exact az cs hc)⟩
theorem Zh.cell {w : World} {b n : Nat} {r : RelD} (h : Zh w b n r) (o : Nat) : w.cell? (ad b o) = none := by
 obtain ⟨D, ⟨es, bl, hb, _⟩, _⟩ := h.own
 exact jrw hb o
theorem Zh.below {w w' : World} {b n : Nat} {r : RelD} (h : Zh w b n r) (hb : Bw w w') : Zh w' b n r := by
 obtain ⟨D, h1, h2⟩ := h.own
 refine ⟨D, h1.kept (jap hb) (by simp), fun s hs => ?_⟩
 obtain ⟨t, ht, hE⟩ := h2 s hs
 exact ⟨t, ht, hE.below hb⟩
end
section
open Go.RowKit Go.ChangeMaps Go.MapKept Go.WideMaps
theorem Zh.look2 {w w2 : World} {b n : Nat} {r : RelD} (h : Zh w b n r) (hb : Bw w w2) {s : ByteArray} (hs : s.size <= maxLen) : ∃ (t : TOut) (z : Bool), (Instr.lookup 71 (.map (some b)) (.string s) true).run Tryz.prog w2 = .ok (.tuple #[t.v, .bool z]) w2 /\ (z = true -> Jh w t (tabD r s)) := by
 obtain ⟨D, h1, h2⟩ := h.own
 obtain ⟨v, ps, hr, hv⟩ := (h1.kept (jap hb) (by simp)).look_ok (Maps.string_keyed keyS) j3j (juj w2) (jm5 _) (keyOf_string_mk keyS hs)
 obtain ⟨t, rfl, he⟩ := jsx hv
 refine ⟨t, _, hr, fun hz => ?_⟩
 obtain ⟨t', ht, hE⟩ := h2 s hz
 rw [ht] at he
 have h3 := congrArg Prod.fst he
 simp only [DataW.held.injEq] at h3
 rw [<- h3]
 exact hE
theorem Zh.store2 {w W5 : World} {b n : Nat} {r : RelD} (h : Zh w b n r) (hn : n < maxLen) (hb : Bw w W5) {s : ByteArray} (hs : s.size <= maxLen) (t : TOut) : ∃ W6, (Instr.mapUpdate 71 (.map (some b)) (.string s) t.v).run Tryz.prog W5 = .ok () W6 /\ W5.mapTurned W6 b /\ ∀ W7 g, W6.grownBy W7 (some g) -> g ≠ b -> w.grownBy W7 (some b) -> Jh W7 t (tabD r s) -> Zh W7 b (n + 1) r := by
 have BV := h.blk
 obtain ⟨D, h1, h2⟩ := h.own
 have hM := h1.isMap
 have xH : WideAt.IsKeyLit (.string s.data.toList) := trivial
 obtain ⟨W6, hr, ho, ht⟩ := (h1.kept (jap hb) (by simp)).store (Maps.string_keyed keyS) j3j hn (keyOf_string_mk keyS hs) (jm5 t)
 refine ⟨W6, hr, ht, fun W7 g hg oG hw hT => ⟨_, ho.kept hg (by simp; exact fun e => oG e.symm), fun u hu => ?_⟩⟩
 by_cases e : u = s
 ·subst e
  exact ⟨t, fun z => Maps.atKey_put_same hM xH _ _, hT⟩
 ·have hk : Lit.string u.data.toList ≠ Lit.string s.data.toList := fun h => e (by
   simp only [Lit.string.injEq] at h
   exact j0l h)
  rw [Maps.has_put_other hk] at hu
  obtain ⟨t2, q1, q2⟩ := h2 u hu
  exact ⟨t2, fun z => by rw [Maps.atKey_put_other hk]; exact q1 z, q2.grown hw BV⟩
theorem jek (w : World) (g o : Nat) (u : Value) : w.grownBy (w.setCell (ad g o) u) (some g) := ⟨rfl, rfl, rfl, by simp, fun k _ hk => Below.heap_setCell _ _ _ k (fun e => hk (by rw [e]))⟩
theorem jb0 (w : World) (g : Nat) (u v : Value) : w.grownBy ((w.setCell (ad g 0) u).setCell (ad g 1) v) (some g) := (jek w g 0 u).andThen (jek _ g 1 v) (fun _ h => .inr h)
theorem ju4 {W : World} {base m d : Nat} {a : Option Addr} {x : Int × List TurnD} (h : Zg W base (.slice a m d) x.2) : Jh W ⟨a, m, d, x.1⟩ x := by
 have ht : ∀ b o, a = some (ad b o) -> ∃ cs, W.heap[b]? = some (.cells cs 220 (0, 0)) := fun b o hb => by
  rcases h.2 with ⟨h0, _⟩ | ⟨g, cap, cur, h1, _, hh, _⟩
  ·injection h0 with h0 _ _; rw [hb] at h0; cases h0
  ·injection h1 with h1 _ _; rw [hb] at h1; injection h1 with h1; injection h1 with h1; subst h1; exact ⟨cur, hh⟩
 unfold Zg at h
 have au : (x.2.map TurnD.cs).length = x.2.length := by simp
 rw [<- au] at h
 obtain ⟨a', cap, hv, hs, _⟩ := jbc h (fun r hr => by obtain ⟨y, _, rfl⟩ := List.mem_map.mp hr; rfl)
 injection hv with h1 h2 h3
 subst h1
 exact ⟨rfl, by rw [<- au]; exact h2, hs, ht⟩
structure TblP (r : RelD) (nm : ByteArray) (mb mn : Nat) (w : World) (e : Ending) (w' : World) : Prop where
 ex : ∃ t : TOut, e = .returned t.v /\ Jh w' t (tabD r (jan r nm).name)
 cache : Zh w' mb (mn + 1) r
 grown : w.grownBy w' (some mb)
theorem jkm {r : RelD} {nm : ByteArray} (h : relB r = true) : (jan r nm).name.size <= 20 := by
 cases hx : jbg r.zones (ja8 r.links nm) with
 | none => rw [jc9 hx]; exact Nat.zero_le _
 | some i =>
  have hi : i < r.zones.length := by unfold jbg at hx; exact (List.findIdx?_eq_some_iff_getElem.mp hx).1
  rw [jcu h hx (lgg hi)]
  exact (jf4 (jdd h (List.getElem_mem hi)).2).2.1
theorem Zh.mono {w : World} {b n n' : Nat} {r : RelD} (h : Zh w b n r) (hn : n <= n') : Zh w b n' r := by
 obtain ⟨D, h1, h2⟩ := h.own
 exact ⟨D, h1.mono hn, h2⟩
theorem jtv (r : RelD) (a b c : Option Addr) (ca cb cc mb mn : Nat) (nm : ByteArray) (w : World) (hE : Zy w) (hv : Zd w (.agg #[.slice a r.rules.length ca, .slice b r.zones.length cb, .slice c r.links.length cc]) r) (ok : Jp r) (hr : relB r = true) (hC : Zh w mb mn r) (lH : mn <= 1048576) :
  Cl 174 #[.agg #[.slice a r.rules.length ca, .slice b r.zones.length cb, .slice c r.links.length cc, .map (some mb)], .string nm] w (TblP r nm mb mn w) := by
 have Fy : ∀ x y, Bw w ((w.alloc x).alloc y) := fun x y => (qal _ x).alloc (by simp) y
 have aj := Fy (.cells #[.slice a r.rules.length ca, .slice b r.zones.length cb, .slice c r.links.length cc, .map (some mb)] 73) (.cells #[nS, iv 0] 185)
 have hZ := fun w hE h => je9 r (.agg #[.slice a r.rules.length ca, .slice b r.zones.length cb, .slice c r.links.length cc]) nm w hE h ok.ok ok.sm ok.on
 have Kx := jkm (nm := nm) hr
 have hT := fun w hE h => jov r (.agg #[.slice a r.rules.length ca, .slice b r.zones.length cb, .slice c r.links.length cc]) (jan r nm).name w hE h ok.ok ok.sm ok.on (by unfold maxLen; omega)
 have L2 := hC.lt
 obtain ⟨zn, ym⟩ := qeb ((jan r nm).name)
 have HX := hid ym
 rw [ym] at hZ Kx hT
 clear ym Fy
 have dC := hv.below aj
 have jN := hE.of_below aj
 have HO := hid ok
 obtain ⟨x0, x1, x2, x3, r0, r1, f0, f1⟩ : (fun z : World => z.cell? (ad w.heap.size 0) = some (.slice a r.rules.length ca) /\ z.cell? (ad w.heap.size 1) = some (.slice b r.zones.length cb) /\ z.cell? (ad w.heap.size 2) = some (.slice c r.links.length cc) /\ z.cell? (ad w.heap.size 3) = some (.map (some mb)) /\ z.cell? (ad (w.heap.size + 1) 0) = some nS /\ z.cell? (ad (w.heap.size + 1) 1) = some (iv 0) /\ z.frozen? (ad (w.heap.size + 1) 0) = false /\ z.frozen? (ad (w.heap.size + 1) 1) = false) ((w.alloc (.cells #[.slice a r.rules.length ca, .slice b r.zones.length cb, .slice c r.links.length cc, .map (some mb)] 73)).alloc (.cells #[nS, iv 0] 185)) := by simp [go_sem]
 clear hv hE ok hr
 go_enter Tryz.func174, Tryz.ntmps174
 go_wp2_with fail
 refine (hZ _ jN dC).mono ?_
 rintro q w2 ⟨vz, rfl, _, ac⟩
 have qB : ∀ w : World, (Instr.field 146 (.agg #[.string zn, vz]) 0).run Tryz.prog w = .ok (.string zn) w := fun _ => by kernel_rfl
 have ao := qtr aj ac
 have eu := dC.below ac
 have pJ := jN.of_below ac
 have y0 := jaa ac x0
 have y1 := jaa ac x1
 have y2 := jaa ac x2
 have y3 := jaa ac x3
 have s0 := jaa ac r0
 have s1 := jaa ac r1
 have g0 := qfz ac r0 f0
 have g1 := qfz ac r1 f1
 have hlt2 := qbl s0
 clear x0 x1 x2 x3 r0 r1 f0 f1 ac aj dC jN hZ
 obtain ⟨t, z, gu, hz⟩ := hC.look2 ao (s := zn) (by unfold maxLen; omega)
 have HZ := hid hz
 clear hz
 obtain ⟨ta, tn, tc, tk⟩ := t
 simp only [TOut.v] at gu
 dsimp only at hlt2
 have ay := ao.alloc ao.size (.cells #[.slice ta tn tc, iv tk] 185)
 have b3 := qal w2 (.cells #[.slice ta tn tc, iv tk] 185)
 cases z
 ·have hsz := ao.size
  have ic := hT _ (pJ.of_below b3) (eu.below b3)
  have z0 := jaa b3 y0
  have z1 := jaa b3 y1
  have z2 := jaa b3 y2
  obtain ⟨q0, q1, p0, p1⟩ : (fun z : World => z.cell? (ad w2.heap.size 0) = some (.slice ta tn tc) /\ z.cell? (ad w2.heap.size 1) = some (iv tk) /\ z.frozen? (ad w2.heap.size 0) = false /\ z.frozen? (ad w2.heap.size 1) = false) (w2.alloc (.cells #[.slice ta tn tc, iv tk] 185)) := by simp [go_sem]
  have j7 : (w2.alloc (.cells #[.slice ta tn tc, iv tk] 185)).heap.size = w2.heap.size + 1 := by simp
  clear HZ hT
  go_wp2_with fail
  refine ic.mono ?_
  rintro q W4 hP
  obtain ⟨v7, rfl, cC, aD⟩ := hP.ex
  obtain ⟨a7, m7, d7, rfl⟩ := jab cC
  have rQ := hid cC
  obtain ⟨jI, sP⟩ := qeb ((tabD r zn).1)
  have Ik := hid sP
  rw [sP]
  clear sP hP cC
  have o0 := jaa aD q0
  have o1 := jaa aD q1
  have n0 := qfz aD q0 p0
  have n1 := qfz aD q1 p1
  have b4 : Bw w2 W4 := qtr b3 aD
  have b5 : Bw w2 ((W4.setCell (ad w2.heap.size 0) (.slice a7 m7 d7)).setCell (ad w2.heap.size 1) (iv jI)) := (b4.setCell (nlr _) _).setCell (nlr _) _
  have bQ := ao.trans (b5.mono hsz)
  have c3 := jaa b5 y3
  have e0 := jaa b5 s0
  have e1 := jaa b5 s1
  have m0 := qfz b5 s0 g0
  have m1 := qfz b5 s1 g1
  obtain ⟨u0, u1⟩ := jam (v0 := .slice a7 m7 d7) (v1 := iv jI) o0 o1
  obtain ⟨W6, jC, mQ, ve⟩ := hC.store2 (by unfold maxLen; omega) bQ (s := zn) (by unfold maxLen; omega) ⟨a7, m7, d7, jI⟩
  simp only [TOut.v] at jC
  have gQ : w.heap.size <= w2.heap.size := hsz
  have i0 := mQ.grown.cell u0 (by simp; omega)
  have i1 := mQ.grown.cell u1 (by simp; omega)
  have j0 := mQ.grown.cell e0 (by simp; omega)
  have j1 := mQ.grown.cell e1 (by simp; omega)
  have l0 := (mQ.frozen (ad (w.heap.size + 1) 0)).trans m0
  have l1 := (mQ.frozen (ad (w.heap.size + 1) 1)).trans m1
  have HP : Hid (TblP r nm mb mn w (.returned (.agg #[.slice a7 m7 d7, iv jI])) ((W6.setCell (ad (w.heap.size + 1) 0) (.slice a7 m7 d7)).setCell (ad (w.heap.size + 1) 1) (iv jI))) := by
   have G7 := jb0 W6 (w.heap.size + 1) (.slice a7 m7 d7) (iv jI)
   have Gw : w.grownBy ((W6.setCell (ad (w.heap.size + 1) 0) (.slice a7 m7 d7)).setCell (ad (w.heap.size + 1) 1) (iv jI)) (some mb) := (((jap bQ).but _).andThen mQ.grown (fun _ h => .inr h)).andThen G7 (fun j h => by injection h with h; omega)
   have hO := rQ.out
   have jx := World.ownsRow.lt hO
   have hE : Jh ((W6.setCell (ad (w.heap.size + 1) 0) (.slice a7 m7 d7)).setCell (ad (w.heap.size + 1) 1) (iv jI)) ⟨a7, m7, d7, jI⟩ (tabD r zn) := by
    have k1 := World.ownsRow.kept hO (jb0 W4 w2.heap.size (.slice a7 m7 d7) (iv jI)) (.inr fun h => by have := (jx _ h).1; omega)
    have k2 := World.ownsRow.kept k1 mQ.grown (.inr fun h => by have := (jx _ h).1; omega)
    have k3 := World.ownsRow.kept k2 G7 (.inr fun h => by have := (jx _ h).1; omega)
    have k4 := ju4 (x := tabD r zn) k3
    rw [Ik.out] at k4
    exact k4
   exact ⟨⟨⟨a7, m7, d7, jI⟩, rfl, by rw [HX.out]; exact hE⟩, ve _ _ G7 (by omega) Gw hE, Gw⟩
  obtain ⟨t0, t1⟩ := jam (v0 := .slice a7 m7 d7) (v1 := iv jI) j0 j1
  clear ve mQ aD b4 j7
  go_wp2
  exact bpr (v := .agg #[.slice a7 m7 d7, iv jI]) (by simp [results, Tryz.results174, go_sem, t0, t1]) rfl HP.out
 ·have HT := HZ.out rfl
  have cU : w.heap.size <= w.heap.size + 1 := by omega
  have m9 : Bw w ((w2.setCell (ad (w.heap.size + 1) 0) (.slice ta tn tc)).setCell (ad (w.heap.size + 1) 1) (iv tk)) := (ao.setCell cU _).setCell cU _
  have aS := m9.alloc m9.size (.cells #[.slice ta tn tc, iv tk] 185)
  have HP : Hid (TblP r nm mb mn w (.returned (.agg #[.slice ta tn tc, iv tk])) (((w2.setCell (ad (w.heap.size + 1) 0) (.slice ta tn tc)).setCell (ad (w.heap.size + 1) 1) (iv tk)).alloc (.cells #[.slice ta tn tc, iv tk] 185))) := ⟨⟨⟨ta, tn, tc, tk⟩, rfl, by rw [HX.out]; exact HT.below aS⟩, (hC.below aS).mono (by omega), (jap aS).but _⟩
  obtain ⟨t0, t1⟩ := jam (v0 := .slice ta tn tc) (v1 := iv tk) s0 s1
  have b5 := (brf _ ((w2.setCell (ad (w.heap.size + 1) 0) (.slice ta tn tc)).setCell (ad (w.heap.size + 1) 1) (iv tk))).alloc (nlr _) (.cells #[.slice ta tn tc, iv tk] 185)
  have rE := jaa b5 t0
  have jH := jaa b5 t1
  clear HZ hT
  go_wp2
  exact bpr (v := .agg #[.slice ta tn tc, iv tk]) (by simp [results, Tryz.results174, go_sem, rE, jH]) rfl HP.out
end
section
open Go.RowKit Go.ChangeMaps Go.MapKept Go.WideMaps
structure ClkP (r : RelD) (a b c : Option Addr) (ca cb cc : Nat) (w : World) (q : Ending) (w' : World) : Prop where
 ex : q = .returned (.agg #[.slice a r.rules.length ca, .slice b r.zones.length cb, .slice c r.links.length cc, .map (some (w.heap.size + 1 + 1))])
 cache : Zh w' (w.heap.size + 1 + 1) 0 r
 bel : Bw w w'
theorem j2a (w : World) (r : RelD) {n : Nat} (h : w.heap.size = n) : Zh (w.alloc (.map #[] 0)) n 0 r := by subst h; exact Zh.made w r
theorem jmf (r : RelD) (a b c : Option Addr) (ca cb cc : Nat) (w : World) :
  Cl 65 #[.agg #[.slice a r.rules.length ca, .slice b r.zones.length cb, .slice c r.links.length cc]] w (ClkP r a b c ca cb cc w) := by
 have gw := @run_makeMap Tryz.prog
 go_enter Tryz.func65, Tryz.ntmps65
 go_wp2
 refine bpr (v := .agg #[.slice a r.rules.length ca, .slice b r.zones.length cb, .slice c r.links.length cc, .map (some (w.heap.size + 1 + 1))]) (by simp [results, Tryz.results65, go_sem]) rfl ⟨rfl, ?_, ?_⟩
 ·exact j2a _ r (by simp)
 ·exact ((qal _ _).alloc (by simp) _).alloc (by simp; omega) _
end
end Go.Proofs.YtgiieknbckhofaaGreatDoor
