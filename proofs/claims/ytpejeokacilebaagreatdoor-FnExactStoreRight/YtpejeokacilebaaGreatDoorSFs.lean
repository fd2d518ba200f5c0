/- Packed. -/
import Derived.Test.YtpejeokacilebaaGreatDoorSDs
import Derived.Test.YtpejeokacilebaaGreatDoorTbSs
set_option maxRecDepth 20000
set_option maxHeartbeats 20000000
set_option linter.unusedSimpArgs false
namespace Go.Proofs.YtpejeokacilebaaGreatDoor
section
open Go.RowKit Go.ChangeMaps Go.MapKept Go.WideMaps
structure TOut where
 a : Option Addr
 n : Nat
 c : Nat
 code : Int
def TOut.v (t : TOut) : Value := .agg #[.slice t.a t.n t.c, .int .i64 t.code]
def tbElem : Value -> Option (DataW TOut × List MemPlace)
 | .agg ⟨[.slice a n c, .int .i64 k]⟩ => some (.held ⟨a, n, c, k⟩, [])
 | _ => none
theorem tbElem_mk (t : TOut) : tbElem t.v = some (.held t, []) := by cases t; rfl
theorem tbElem_inv {v : Value} {z : DataW TOut × List MemPlace} (h : tbElem v = some z) : ∃ t : TOut, v = t.v /\ z = (.held t, []) := by
 unfold tbElem at h
 split at h
 ·cases h; exact ⟨_, rfl, rfl⟩
 ·cases h
structure Jc (w : World) (t : TOut) (x : Int × List TurnD) : Prop where
 code : t.code = x.1
 n : t.n = x.2.length
 seq : Za w t.a 4 (x.2.map TurnD.cs)
 typ : ∀ b o, t.a = some ⟨b, o, none⟩ -> ∃ cs, w.heap[b]? = some (.cells cs 167 (0, 0))
theorem map_cell {w : World} {b : Nat} {es : Array MapEntry} {clock : Nat} (h : w.heap[b]? = some (.map es clock)) (o : Nat) : w.cell? ⟨b, o, none⟩ = none := by
 simp [World.cell?, h]
theorem data_inj {u s : ByteArray} (h : u.data.toList = s.data.toList) : u = s := by
 have h2 := Array.toList_inj.mp h
 cases u; cases s
 simp only at h2
 rw [h2]
theorem Jc.grown {w w' : World} {row : Option Nat} {t : TOut} {x : Int × List TurnD} (h : Jc w t x) (hg : w.grownBy w' row) (hne : ∀ b cs, w.heap[b]? = some (.cells cs 167 (0, 0)) -> some b ≠ row) : Jc w' t x := by
 refine ⟨h.code, h.n, ?_, fun b o hb => ?_⟩
 ·rcases h.seq with h0 | ⟨b, o, ha, hc⟩
  ·exact .inl h0
  ·obtain ⟨cs, hcs⟩ := h.typ b o ha
   exact .inr ⟨b, o, ha, fun i j r c hr hj => hg.cell (hc i j r c hr hj) (hne b cs hcs)⟩
 ·obtain ⟨cs, hcs⟩ := h.typ b o hb
  exact ⟨cs, (hg.block b (Array.getElem?_eq_some_iff.1 hcs).1 (hne b cs hcs)).trans hcs⟩
theorem Jc.below {w w' : World} {t : TOut} {x : Int × List TurnD} (h : Jc w t x) (hb : Below w.heap.size w w') : Jc w' t x := h.grown (jan hb) (fun _ _ _ => by simp)
structure Ze (w : World) (b n : Nat) (r : RelD) : Prop where
 own : ∃ D, w.ownsMap Tryz.prog 9 tbElem b n D /\ ∀ s : ByteArray, Maps.has D (.string s.data.toList) = true -> ∃ t, (∀ z, D.atKey (.string s.data.toList) z = .held t) /\ Jc w t (tabD r s)
theorem mapTT : Tryz.prog.underlying 110 = some (.map 9 140) := by kernel_rfl
theorem keyS : Tryz.prog.underlying 9 = some .string := by kernel_rfl
theorem zeroTable (w : World) : (zeroValue 140).run Tryz.prog w = .ok (TOut.v ⟨none, 0, 0, 0⟩) w := by kernel_rfl
theorem Ze.made (w : World) (r : RelD) : Ze (w.alloc (.map #[] 0)) w.heap.size 0 r := ⟨_, World.ownsMap_made w _ _ _, fun s h => by cases h⟩
theorem Ze.lt {w : World} {b n : Nat} {r : RelD} (h : Ze w b n r) : b < w.heap.size := by
 obtain ⟨D, h1, _⟩ := h.own
 exact h1.lt
theorem Ze.blk {w : World} {b n : Nat} {r : RelD} (h : Ze w b n r) : ∀ b' cs, w.heap[b']? = some (.cells cs 167 (0, 0)) -> some b' ≠ some b := by
 obtain ⟨D, ⟨es, clock, hb, _⟩, _⟩ := h.own
 intro b' cs h1 h2
 injection h2 with h2
 subst h2
 rw [hb] at h1
 cases h1
theorem Ze.grown {w w' : World} {b n g : Nat} {r : RelD} (h : Ze w b n r) (hg : w.grownBy w' (some g)) (hgb : b ≠ g) (hne : ∀ cs, w.heap[g]? ≠ some (.cells cs 167 (0, 0))) : Ze w' b n r := by
 obtain ⟨D, h1, h2⟩ := h.own
 refine ⟨D, h1.kept hg (by simpa using hgb), fun s hs => ?_⟩
 obtain ⟨t, ht, hE⟩ := h2 s hs
 exact ⟨t, ht, hE.grown hg (fun b' cs hc e => by injection e with e; subst e; exact hne cs hc)⟩
theorem Ze.cell {w : World} {b n : Nat} {r : RelD} (h : Ze w b n r) (o : Nat) : w.cell? ⟨b, o, none⟩ = none := by
 obtain ⟨D, ⟨es, clock, hb, _⟩, _⟩ := h.own
 exact map_cell hb o
theorem Ze.below {w w' : World} {b n : Nat} {r : RelD} (h : Ze w b n r) (hb : Below w.heap.size w w') : Ze w' b n r := by
 obtain ⟨D, h1, h2⟩ := h.own
 refine ⟨D, h1.kept (jan hb) (by simp), fun s hs => ?_⟩
 obtain ⟨t, ht, hE⟩ := h2 s hs
 exact ⟨t, ht, hE.below hb⟩
end
section
open Go.RowKit Go.ChangeMaps Go.MapKept Go.WideMaps
theorem Ze.look2 {w w2 : World} {b n : Nat} {r : RelD} (h : Ze w b n r) (hb : Below w.heap.size w w2) {s : ByteArray} (hs : s.size <= maxLen) : ∃ (t : TOut) (z : Bool), (Instr.lookup 110 (.map (some b)) (.string s) true).run Tryz.prog w2 = .ok (.tuple #[t.v, .bool z]) w2 /\ (z = true -> Jc w t (tabD r s)) := by
 obtain ⟨D, h1, h2⟩ := h.own
 obtain ⟨v, ps, hr, hv⟩ := (h1.kept (jan hb) (by simp)).look_ok (Maps.string_keyed keyS) mapTT (zeroTable w2) (tbElem_mk _) (keyOf_string_mk keyS hs)
 obtain ⟨t, rfl, he⟩ := tbElem_inv hv
 refine ⟨t, _, hr, fun hz => ?_⟩
 obtain ⟨t', ht, hE⟩ := h2 s hz
 rw [ht] at he
 have h3 := congrArg Prod.fst he
 simp only [DataW.held.injEq] at h3
 rw [<- h3]
 exact hE
theorem Ze.store2 {w W5 : World} {b n : Nat} {r : RelD} (h : Ze w b n r) (hn : n < maxLen) (hb : Below w.heap.size w W5) {s : ByteArray} (hs : s.size <= maxLen) (t : TOut) : ∃ W6, (Instr.mapUpdate 110 (.map (some b)) (.string s) t.v).run Tryz.prog W5 = .ok () W6 /\ W5.mapTurned W6 b /\ ∀ W7 g, W6.grownBy W7 (some g) -> g ≠ b -> w.grownBy W7 (some b) -> Jc W7 t (tabD r s) -> Ze W7 b (n + 1) r := by
 have hblk := h.blk
 obtain ⟨D, h1, h2⟩ := h.own
 have hM := h1.isMap
 have hKL : WideAt.IsKeyLit (.string s.data.toList) := trivial
 obtain ⟨W6, hr, ho, ht⟩ := (h1.kept (jan hb) (by simp)).store (Maps.string_keyed keyS) mapTT hn (keyOf_string_mk keyS hs) (tbElem_mk t)
 refine ⟨W6, hr, ht, fun W7 g hg hgb hw hT => ⟨_, ho.kept hg (by simp; exact fun e => hgb e.symm), fun u hu => ?_⟩⟩
 by_cases e : u = s
 ·subst e
  exact ⟨t, fun z => Maps.atKey_put_same hM hKL _ _, hT⟩
 ·have hk : Lit.string u.data.toList ≠ Lit.string s.data.toList := fun h => e (by
   simp only [Lit.string.injEq] at h
   exact data_inj h)
  rw [Maps.has_put_other hk] at hu
  obtain ⟨t2, q1, q2⟩ := h2 u hu
  exact ⟨t2, fun z => by rw [Maps.atKey_put_other hk]; exact q1 z, q2.grown hw hblk⟩
theorem grown_setS (w : World) (g o : Nat) (u : Value) : w.grownBy (w.setCell ⟨g, o, none⟩ u) (some g) := ⟨rfl, rfl, rfl, by simp, fun k _ hk => Below.heap_setCell _ _ _ k (fun e => hk (by rw [e]))⟩
theorem jbw (w : World) (g : Nat) (u v : Value) : w.grownBy ((w.setCell ⟨g, 0, none⟩ u).setCell ⟨g, 1, none⟩ v) (some g) := (grown_setS w g 0 u).andThen (grown_setS _ g 1 v) (fun _ h => .inr h)
theorem tabE_of {W : World} {base m d : Nat} {a : Option Addr} {x : Int × List TurnD} (h : Zc W base (.slice a m d) x.2) : Jc W ⟨a, m, d, x.1⟩ x := by
 have ht : ∀ b o, a = some ⟨b, o, none⟩ -> ∃ cs, W.heap[b]? = some (.cells cs 167 (0, 0)) := fun b o hb => by
  rcases h.2 with ⟨h0, _⟩ | ⟨g, cap, cur, h1, _, hh, _⟩
  ·injection h0 with h0 _ _; rw [hb] at h0; cases h0
  ·injection h1 with h1 _ _; rw [hb] at h1; injection h1 with h1; injection h1 with h1; subst h1; exact ⟨cur, hh⟩
 unfold Zc at h
 have hlen : (x.2.map TurnD.cs).length = x.2.length := by simp
 rw [<- hlen] at h
 obtain ⟨a', cap, hv, hs, _⟩ := jbv h (fun r hr => by obtain ⟨y, _, rfl⟩ := List.mem_map.mp hr; rfl)
 injection hv with h1 h2 h3
 subst h1
 exact ⟨rfl, by rw [<- hlen]; exact h2, hs, ht⟩
structure TblP (r : RelD) (nm : ByteArray) (mb mn : Nat) (w : World) (e : Ending) (w' : World) : Prop where
 ex : ∃ t : TOut, e = .returned t.v /\ Jc w' t (tabD r (jam r nm).name)
 cache : Ze w' mb (mn + 1) r
 grown : w.grownBy w' (some mb)
theorem zone_short {r : RelD} {nm : ByteArray} (h : relB r = true) : (jam r nm).name.size <= 20 := by
 cases hx : jbd r.zones (ja6 r.links nm) with
 | none => rw [jc2 hx]; exact Nat.zero_le _
 | some i =>
  have hi : i < r.zones.length := by unfold jbd at hx; exact (List.findIdx?_eq_some_iff_getElem.mp hx).1
  rw [jcm h hx (List.getElem?_eq_getElem hi)]
  exact (nameB_t (jc6 h (List.getElem_mem hi)).2).2.1
theorem Ze.mono {w : World} {b n n' : Nat} {r : RelD} (h : Ze w b n r) (hn : n <= n') : Ze w b n' r := by
 obtain ⟨D, h1, h2⟩ := h.own
 exact ⟨D, h1.mono hn, h2⟩
theorem impl_table (r : RelD) (a b c : Option Addr) (ca cb cc mb mn : Nat) (nm : ByteArray) (w : World) (hE : Zw w) (hv : Zb w (.agg #[.slice a r.rules.length ca, .slice b r.zones.length cb, .slice c r.links.length cc]) r) (ok : Jj r) (hr : relB r = true) (hC : Ze w mb mn r) (hmn : mn <= 1048576) :
  Calls Tryz.prog 152 #[.agg #[.slice a r.rules.length ca, .slice b r.zones.length cb, .slice c r.links.length cc, .map (some mb)], .string nm] w (TblP r nm mb mn w) := by
 have hBe : ∀ x y, Below w.heap.size w ((w.alloc x).alloc y) := fun x y => (qal _ x).alloc (by simp) y
 have hB1 := hBe (.cells #[.slice a r.rules.length ca, .slice b r.zones.length cb, .slice c r.links.length cc, .map (some mb)] 112) (.cells #[.slice none 0 0, .int .i64 0] 140)
 have hZ := fun w hE h => impl_ZoneOf r (.agg #[.slice a r.rules.length ca, .slice b r.zones.length cb, .slice c r.links.length cc]) nm w hE h ok.ok ok.sm ok.on
 have hZn := zone_short (nm := nm) hr
 have hT := fun w hE h => impl_TableOf r (.agg #[.slice a r.rules.length ca, .slice b r.zones.length cb, .slice c r.links.length cc]) (jam r nm).name w hE h ok.ok ok.sm ok.on (by unfold maxLen; omega)
 have hmb := hC.lt
 obtain ⟨zn, hzn⟩ : ∃ x, (jam r nm).name = x := ⟨_, rfl⟩
 have HX := hid hzn
 rw [hzn] at hZ hZn hT
 clear hzn hBe
 have hv1 := hv.below hB1
 have hE1 := hE.of_below hB1
 have HO := hid ok
 obtain ⟨x0, x1, x2, x3, r0, r1, f0, f1⟩ : (fun z : World => z.cell? ⟨w.heap.size, 0, none⟩ = some (.slice a r.rules.length ca) /\ z.cell? ⟨w.heap.size, 1, none⟩ = some (.slice b r.zones.length cb) /\ z.cell? ⟨w.heap.size, 2, none⟩ = some (.slice c r.links.length cc) /\ z.cell? ⟨w.heap.size, 3, none⟩ = some (.map (some mb)) /\ z.cell? ⟨w.heap.size + 1, 0, none⟩ = some (.slice none 0 0) /\ z.cell? ⟨w.heap.size + 1, 1, none⟩ = some (.int .i64 0) /\ z.frozen? ⟨w.heap.size + 1, 0, none⟩ = false /\ z.frozen? ⟨w.heap.size + 1, 1, none⟩ = false) ((w.alloc (.cells #[.slice a r.rules.length ca, .slice b r.zones.length cb, .slice c r.links.length cc, .map (some mb)] 112)).alloc (.cells #[.slice none 0 0, .int .i64 0] 140)) := by simp [go_sem]
 clear hv hE ok hr
 go_enter Tryz.func152, Tryz.ntmps152
 go_wp2_with fail
 refine (hZ _ hE1 hv1).mono ?_
 rintro q w2 ⟨vz, rfl, _, hb2⟩
 have hfd : ∀ w : World, (Instr.field 81 (.agg #[.string zn, vz]) 0).run Tryz.prog w = .ok (.string zn) w := fun _ => by kernel_rfl
 have hB2 := qtr hB1 hb2
 have hv2 := hv1.below hb2
 have hE2 := hE1.of_below hb2
 have y0 := jaa hb2 x0
 have y1 := jaa hb2 x1
 have y2 := jaa hb2 x2
 have y3 := jaa hb2 x3
 have s0 := jaa hb2 r0
 have s1 := jaa hb2 r1
 have g0 := qfz hb2 r0 f0
 have g1 := qfz hb2 r1 f1
 have hlt2 := qbl s0
 clear x0 x1 x2 x3 r0 r1 f0 f1 hb2 hB1 hv1 hE1 hZ
 obtain ⟨t, z, hlook, hz⟩ := hC.look2 hB2 (s := zn) (by unfold maxLen; omega)
 have HZ := hid hz
 clear hz
 obtain ⟨ta, tn, tc, tk⟩ := t
 simp only [TOut.v] at hlook
 dsimp only at hlt2
 have hB3 := hB2.alloc hB2.size (.cells #[.slice ta tn tc, .int .i64 tk] 140)
 have b3 := qal w2 (.cells #[.slice ta tn tc, .int .i64 tk] 140)
 cases z
 ·have hsz := hB2.size
  have hT3 := hT _ (hE2.of_below b3) (hv2.below b3)
  have z0 := jaa b3 y0
  have z1 := jaa b3 y1
  have z2 := jaa b3 y2
  obtain ⟨q0, q1, p0, p1⟩ : (fun z : World => z.cell? ⟨w2.heap.size, 0, none⟩ = some (.slice ta tn tc) /\ z.cell? ⟨w2.heap.size, 1, none⟩ = some (.int .i64 tk) /\ z.frozen? ⟨w2.heap.size, 0, none⟩ = false /\ z.frozen? ⟨w2.heap.size, 1, none⟩ = false) (w2.alloc (.cells #[.slice ta tn tc, .int .i64 tk] 140)) := by simp [go_sem]
  have hs3 : (w2.alloc (.cells #[.slice ta tn tc, .int .i64 tk] 140)).heap.size = w2.heap.size + 1 := by simp
  clear HZ hT
  go_wp2_with fail
  refine hT3.mono ?_
  rintro q W4 hP
  obtain ⟨v7, rfl, hO7, hb4⟩ := hP.ex
  obtain ⟨a7, m7, d7, rfl⟩ := jac hO7
  have HO7 := hid hO7
  obtain ⟨tk7, htk⟩ : ∃ x, (tabD r zn).1 = x := ⟨_, rfl⟩
  have HK7 := hid htk
  rw [htk]
  clear htk hP hO7
  have o0 := jaa hb4 q0
  have o1 := jaa hb4 q1
  have n0 := qfz hb4 q0 p0
  have n1 := qfz hb4 q1 p1
  have b4 : Below w2.heap.size w2 W4 := qtr b3 hb4
  have b5 : Below w2.heap.size w2 ((W4.setCell ⟨w2.heap.size, 0, none⟩ (.slice a7 m7 d7)).setCell ⟨w2.heap.size, 1, none⟩ (.int .i64 tk7)) := (b4.setCell (Nat.le_refl _) _).setCell (Nat.le_refl _) _
  have hB5 := hB2.trans (b5.mono hsz)
  have c3 := jaa b5 y3
  have e0 := jaa b5 s0
  have e1 := jaa b5 s1
  have m0 := qfz b5 s0 g0
  have m1 := qfz b5 s1 g1
  obtain ⟨u0, u1⟩ := jat (v0 := .slice a7 m7 d7) (v1 := .int .i64 tk7) o0 o1
  obtain ⟨W6, hup, ht6, hfin⟩ := hC.store2 (by unfold maxLen; omega) hB5 (s := zn) (by unfold maxLen; omega) ⟨a7, m7, d7, tk7⟩
  simp only [TOut.v] at hup
  have hw2 : w.heap.size <= w2.heap.size := hsz
  have i0 := ht6.grown.cell u0 (by simp; omega)
  have i1 := ht6.grown.cell u1 (by simp; omega)
  have j0 := ht6.grown.cell e0 (by simp; omega)
  have j1 := ht6.grown.cell e1 (by simp; omega)
  have l0 := (ht6.frozen ⟨w.heap.size + 1, 0, none⟩).trans m0
  have l1 := (ht6.frozen ⟨w.heap.size + 1, 1, none⟩).trans m1
  have HP : Hid (TblP r nm mb mn w (.returned (.agg #[.slice a7 m7 d7, .int .i64 tk7])) ((W6.setCell ⟨w.heap.size + 1, 0, none⟩ (.slice a7 m7 d7)).setCell ⟨w.heap.size + 1, 1, none⟩ (.int .i64 tk7))) := by
   have G7 := jbw W6 (w.heap.size + 1) (.slice a7 m7 d7) (.int .i64 tk7)
   have Gw : w.grownBy ((W6.setCell ⟨w.heap.size + 1, 0, none⟩ (.slice a7 m7 d7)).setCell ⟨w.heap.size + 1, 1, none⟩ (.int .i64 tk7)) (some mb) := (((jan hB5).but _).andThen ht6.grown (fun _ h => .inr h)).andThen G7 (fun j h => by injection h with h; omega)
   have hO := HO7.out
   have hlo := World.ownsRow.lt hO
   have hE : Jc ((W6.setCell ⟨w.heap.size + 1, 0, none⟩ (.slice a7 m7 d7)).setCell ⟨w.heap.size + 1, 1, none⟩ (.int .i64 tk7)) ⟨a7, m7, d7, tk7⟩ (tabD r zn) := by
    have k1 := World.ownsRow.kept hO (jbw W4 w2.heap.size (.slice a7 m7 d7) (.int .i64 tk7)) (.inr fun h => by have := (hlo _ h).1; omega)
    have k2 := World.ownsRow.kept k1 ht6.grown (.inr fun h => by have := (hlo _ h).1; omega)
    have k3 := World.ownsRow.kept k2 G7 (.inr fun h => by have := (hlo _ h).1; omega)
    have k4 := tabE_of (x := tabD r zn) k3
    rw [HK7.out] at k4
    exact k4
   exact ⟨⟨⟨a7, m7, d7, tk7⟩, rfl, by rw [HX.out]; exact hE⟩, hfin _ _ G7 (by omega) Gw hE, Gw⟩
  obtain ⟨t0, t1⟩ := jat (v0 := .slice a7 m7 d7) (v1 := .int .i64 tk7) j0 j1
  clear hfin ht6 hb4 b4 hs3
  go_wp2
  exact bodyPost_ret (v := .agg #[.slice a7 m7 d7, .int .i64 tk7]) (by simp [results, Tryz.results152, go_sem, t0, t1]) rfl HP.out
 ·have HT := HZ.out rfl
  have hg1 : w.heap.size <= w.heap.size + 1 := by omega
  have hBs : Below w.heap.size w ((w2.setCell ⟨w.heap.size + 1, 0, none⟩ (.slice ta tn tc)).setCell ⟨w.heap.size + 1, 1, none⟩ (.int .i64 tk)) := (hB2.setCell hg1 _).setCell hg1 _
  have hB4 := hBs.alloc hBs.size (.cells #[.slice ta tn tc, .int .i64 tk] 140)
  have HP : Hid (TblP r nm mb mn w (.returned (.agg #[.slice ta tn tc, .int .i64 tk])) (((w2.setCell ⟨w.heap.size + 1, 0, none⟩ (.slice ta tn tc)).setCell ⟨w.heap.size + 1, 1, none⟩ (.int .i64 tk)).alloc (.cells #[.slice ta tn tc, .int .i64 tk] 140))) := ⟨⟨⟨ta, tn, tc, tk⟩, rfl, by rw [HX.out]; exact HT.below hB4⟩, (hC.below hB4).mono (by omega), (jan hB4).but _⟩
  obtain ⟨t0, t1⟩ := jat (v0 := .slice ta tn tc) (v1 := .int .i64 tk) s0 s1
  have b5 := (Below.refl _ ((w2.setCell ⟨w.heap.size + 1, 0, none⟩ (.slice ta tn tc)).setCell ⟨w.heap.size + 1, 1, none⟩ (.int .i64 tk))).alloc (Nat.le_refl _) (.cells #[.slice ta tn tc, .int .i64 tk] 140)
  have t0' := jaa b5 t0
  have t1' := jaa b5 t1
  clear HZ hT
  go_wp2
  exact bodyPost_ret (v := .agg #[.slice ta tn tc, .int .i64 tk]) (by simp [results, Tryz.results152, go_sem, t0', t1']) rfl HP.out
end
section
open Go.RowKit Go.ChangeMaps Go.MapKept Go.WideMaps
structure ClkP (r : RelD) (a b c : Option Addr) (ca cb cc : Nat) (w : World) (q : Ending) (w' : World) : Prop where
 ex : q = .returned (.agg #[.slice a r.rules.length ca, .slice b r.zones.length cb, .slice c r.links.length cc, .map (some (w.heap.size + 1 + 1))])
 cache : Ze w' (w.heap.size + 1 + 1) 0 r
 bel : Below w.heap.size w w'
theorem made_at (w : World) (r : RelD) {n : Nat} (h : w.heap.size = n) : Ze (w.alloc (.map #[] 0)) n 0 r := by subst h; exact Ze.made w r
theorem impl_clocksOf (r : RelD) (a b c : Option Addr) (ca cb cc : Nat) (w : World) :
  Calls Tryz.prog 49 #[.agg #[.slice a r.rules.length ca, .slice b r.zones.length cb, .slice c r.links.length cc]] w (ClkP r a b c ca cb cc w) := by
 have hmm := @run_makeMap Tryz.prog
 go_enter Tryz.func49, Tryz.ntmps49
 go_wp2
 refine bodyPost_ret (v := .agg #[.slice a r.rules.length ca, .slice b r.zones.length cb, .slice c r.links.length cc, .map (some (w.heap.size + 1 + 1))]) (by simp [results, Tryz.results49, go_sem]) rfl ⟨rfl, ?_, ?_⟩
 ·exact made_at _ r (by simp)
 ·exact ((qal _ _).alloc (by simp) _).alloc (by simp; omega) _
end
end Go.Proofs.YtpejeokacilebaaGreatDoor
