/- Packed. -/
import Derived.Test.YtgiieknbckhofaaGreatDoorSGu
import Derived.Test.YtgiieknbckhofaaGreatDoorSLu
set_option maxRecDepth 100000
set_option maxHeartbeats 20000000
set_option linter.unusedSimpArgs false
namespace Go.Proofs.YtgiieknbckhofaaGreatDoor
section
open Go.RowKit Go.ChangeMaps Go.MapKept Go.WideMaps
def momD (r : RelD) (e : EventD) : Int × Bool := momT (tabD r (jan r e.zone).name) e
def momB (s : StoreD) (e : EventD) : Int × Bool := if s.cur = 0 \/ e.id < s.cur then momD s.now e else momD s.was e
structure Zq (X : List (Nat × Value)) (w0 w : World) (s : StoreD) (bb lb nm wm nn wn : Nat) (a b c d e f : Option Addr) (ca cb cc cd ce cf : Nat) : Prop where
 bel : Bw w0 w
 cur : w.cell? (ad bb 7) = some (iv s.cur)
 live : w.cell? (ad bb 10) = some (.map (some lb))
 n0 : w.cell? (ad bb 11) = some (.slice a s.now.rules.length ca)
 n1 : w.cell? (ad bb 12) = some (.slice b s.now.zones.length cb)
 n2 : w.cell? (ad bb 13) = some (.slice c s.now.links.length cc)
 n3 : w.cell? (ad bb 14) = some (.map (some nm))
 w1 : w.cell? (ad bb 15) = some (.slice d s.was.rules.length cd)
 w2 : w.cell? (ad bb 16) = some (.slice e s.was.zones.length ce)
 w3 : w.cell? (ad bb 17) = some (.slice f s.was.links.length cf)
 w4 : w.cell? (ad bb 18) = some (.map (some wm))
 cn : Zh w nm nn s.now
 cw : Zh w wm wn s.was
 ne : nm ≠ wm
 bn : w0.heap.size <= nm
 bw : w0.heap.size <= wm
 more : ∀ p ∈ X, w.cell? (ad bb p.1) = some p.2
theorem Zq.below {X : List (Nat × Value)} {w0 w w' : World} {s : StoreD} {bb lb nm wm nn wn : Nat} {a b c d e f : Option Addr} {ca cb cc cd ce cf : Nat} (h : Zq X w0 w s bb lb nm wm nn wn a b c d e f ca cb cc cd ce cf) (hb : Bw w w') : Zq X w0 w' s bb lb nm wm nn wn a b c d e f ca cb cc cd ce cf :=
 ⟨h.bel.trans (hb.mono h.bel.size), jaa hb h.cur, jaa hb h.live, jaa hb h.n0, jaa hb h.n1, jaa hb h.n2, jaa hb h.n3, jaa hb h.w1, jaa hb h.w2, jaa hb h.w3, jaa hb h.w4, h.cn.below hb, h.cw.below hb, h.ne, h.bn, h.bw, fun p hp => jaa hb (h.more p hp)⟩
theorem Zq.ne_n {X : List (Nat × Value)} {w0 w : World} {s : StoreD} {bb lb nm wm nn wn : Nat} {a b c d e f : Option Addr} {ca cb cc cd ce cf : Nat} (h : Zq X w0 w s bb lb nm wm nn wn a b c d e f ca cb cc cd ce cf) : bb ≠ nm := fun he => by (have := h.cn.cell 7; rw [<- he, h.cur] at this; cases this)
theorem Zq.ne_w {X : List (Nat × Value)} {w0 w : World} {s : StoreD} {bb lb nm wm nn wn : Nat} {a b c d e f : Option Addr} {ca cb cc cd ce cf : Nat} (h : Zq X w0 w s bb lb nm wm nn wn a b c d e f ca cb cc cd ce cf) : bb ≠ wm := fun he => by (have := h.cw.cell 7; rw [<- he, h.cur] at this; cases this)
theorem j30 {w0 w w' : World} {g : Nat} (h : Bw w0 w) (hg : w.grownBy w' (some g)) (hb : w0.heap.size <= g) : Bw w0 w' := h.grown hg h.size (fun k hk => by injection hk with hk; omega)
theorem Zq.grown {X : List (Nat × Value)} {w0 w w' : World} {g : Nat} {s : StoreD} {bb lb nm wm nn wn : Nat} {a b c d e f : Option Addr} {ca cb cc cd ce cf : Nat} (h : Zq X w0 w s bb lb nm wm nn wn a b c d e f ca cb cc cd ce cf) (hg : w.grownBy w' (some g)) (hb : w0.heap.size <= g) (h1 : bb ≠ g) (h2 : nm ≠ g) (h3 : wm ≠ g) (az : ∀ cs, w.heap[g]? ≠ some (.cells cs 220 (0, 0))) : Zq X w0 w' s bb lb nm wm nn wn a b c d e f ca cb cc cd ce cf := by
 have k : some bb ≠ some g := by simpa using h1
 exact ⟨j30 h.bel hg hb, hg.cell h.cur k, hg.cell h.live k, hg.cell h.n0 k, hg.cell h.n1 k, hg.cell h.n2 k, hg.cell h.n3 k, hg.cell h.w1 k, hg.cell h.w2 k, hg.cell h.w3 k, hg.cell h.w4 k, h.cn.grown hg h2 az, h.cw.grown hg h3 az, h.ne, h.bn, h.bw, fun p hp => hg.cell (h.more p hp) k⟩
theorem jpd {w : World} {b n : Nat} {r : RelD} (h : Zh w b n r) : ∀ cs, w.heap[b]? ≠ some (.cells cs 220 (0, 0)) := fun cs hc => h.blk b cs hc rfl
theorem Zq.grew_n {X : List (Nat × Value)} {w0 w w' : World} {s : StoreD} {bb lb nm wm nn wn : Nat} {a b c d e f : Option Addr} {ca cb cc cd ce cf : Nat} (h : Zq X w0 w s bb lb nm wm nn wn a b c d e f ca cb cc cd ce cf) (hg : w.grownBy w' (some nm)) (hc : Zh w' nm (nn + 1) s.now) : Zq X w0 w' s bb lb nm wm (nn + 1) (wn + 1) a b c d e f ca cb cc cd ce cf := by
 have k : some bb ≠ some nm := by simpa using h.ne_n
 exact ⟨j30 h.bel hg h.bn, hg.cell h.cur k, hg.cell h.live k, hg.cell h.n0 k, hg.cell h.n1 k, hg.cell h.n2 k, hg.cell h.n3 k, hg.cell h.w1 k, hg.cell h.w2 k, hg.cell h.w3 k, hg.cell h.w4 k, hc, (h.cw.grown hg (Ne.symm h.ne) (jpd h.cn)).mono (by omega), h.ne, h.bn, h.bw, fun p hp => hg.cell (h.more p hp) k⟩
theorem Zq.grew_w {X : List (Nat × Value)} {w0 w w' : World} {s : StoreD} {bb lb nm wm nn wn : Nat} {a b c d e f : Option Addr} {ca cb cc cd ce cf : Nat} (h : Zq X w0 w s bb lb nm wm nn wn a b c d e f ca cb cc cd ce cf) (hg : w.grownBy w' (some wm)) (hc : Zh w' wm (wn + 1) s.was) : Zq X w0 w' s bb lb nm wm (nn + 1) (wn + 1) a b c d e f ca cb cc cd ce cf := by
 have k : some bb ≠ some wm := by simpa using h.ne_w
 exact ⟨j30 h.bel hg h.bw, hg.cell h.cur k, hg.cell h.live k, hg.cell h.n0 k, hg.cell h.n1 k, hg.cell h.n2 k, hg.cell h.n3 k, hg.cell h.w1 k, hg.cell h.w2 k, hg.cell h.w3 k, hg.cell h.w4 k, (h.cn.grown hg h.ne (jpd h.cw)).mono (by omega), hc, h.ne, h.bn, h.bw, fun p hp => hg.cell (h.more p hp) k⟩
structure BMomP (X : List (Nat × Value)) (w0 : World) (s : StoreD) (bb lb nm wm nn wn : Nat) (a b c d e f : Option Addr) (ca cb cc cd ce cf : Nat) (ev : EventD) (w : World) (q : Ending) (w' : World) : Prop where
 ex : q = .returned (.agg #[iv (momB s ev).1, .bool (momB s ev).2])
 book : Zq X w0 w' s bb lb nm wm (nn + 1) (wn + 1) a b c d e f ca cb cc cd ce cf
 grown : ∃ g, (g = nm \/ g = wm) /\ w.grownBy w' (some g)
theorem jru {s : StoreD} {e : EventD} (h : s.cur = 0 \/ e.id < s.cur) : momB s e = momD s.now e := if_pos h
theorem jzl {s : StoreD} {e : EventD} (h : ¬ (s.cur = 0 \/ e.id < s.cur)) : momB s e = momD s.was e := if_neg h
theorem jcn (w : World) (n : Nat) : Bw w (w.drewN n) := ⟨rfl, rfl, rfl, nlr _, fun _ _ => rfl⟩
theorem jjj {X : List (Nat × Value)} (w0 : World) (s : StoreD) (bb lb nm wm nn wn : Nat) (a b c d e f : Option Addr) (ca cb cc cd ce cf : Nat) (ev : EventD) (w : World) (hE : Zy w0) (hN : Zd w0 (.agg #[.slice a s.now.rules.length ca, .slice b s.now.zones.length cb, .slice c s.now.links.length cc]) s.now) (hW : Zd w0 (.agg #[.slice d s.was.rules.length cd, .slice e s.was.zones.length ce, .slice f s.was.links.length cf]) s.was) (ok : Jp s.now) (kU : Jp s.was) (hr : relB s.now = true) (dA : relB s.was = true) (hB : Zq X w0 w s bb lb nm wm nn wn a b c d e f ca cb cc cd ce cf) (mM : nn <= 1048576) (vM : wn <= 1048576) :
  Cl 103 #[.pointer (some (ad bb 0)), ev.v] w (BMomP X w0 s bb lb nm wm nn wn a b c d e f ca cb cc cd ce cf ev w) := by
 have HB := hid hB
 have b1 : Bw w ((w.alloc (.cells #[iv ev.id, .string ev.name, .string ev.zone, iv ev.wall, iv ev.gap, iv ev.fold] 79)).alloc (.cells #[iv 0, .bool false] 203)) := (qal _ _).alloc (by simp) _
 have aj := hB.below b1
 obtain ⟨id, name, zone, wall, gap, fold⟩ := ev
 simp only [EventD.v] at *
 have mw : bb < w.heap.size := qbl hB.cur
 have E0 : Ze ((w.alloc (.cells #[iv id, .string name, .string zone, iv wall, iv gap, iv fold] 79)).alloc (.cells #[iv 0, .bool false] 203)) w.heap.size [iv id, .string name, .string zone, iv wall, iv gap, iv fold] := (Ze.new w [iv id, .string name, .string zone, iv wall, iv gap, iv fold] 79).below (qal _ _)
 have R0 : Ze ((w.alloc (.cells #[iv id, .string name, .string zone, iv wall, iv gap, iv fold] 79)).alloc (.cells #[iv 0, .bool false] 203)) (w.heap.size + 1) [iv 0, .bool false] := by have h := Ze.new (w.alloc (.cells #[iv id, .string name, .string zone, iv wall, iv gap, iv fold] 79)) [iv 0, .bool false] 203; simpa using h
 have xY := jap b1
 have xZ : ((w.alloc (.cells #[iv id, .string name, .string zone, iv wall, iv gap, iv fold] 79)).alloc (.cells #[iv 0, .bool false] 203)).heap[w.heap.size + 1]? = some (Obj.cells #[iv 0, .bool false] 203) := by
  have h := heap_alloc_new (w.alloc (.cells #[iv id, .string name, .string zone, iv wall, iv gap, iv fold] 79)) (.cells #[iv 0, .bool false] 203)
  have e : (w.alloc (.cells #[iv id, .string name, .string zone, iv wall, iv gap, iv fold] 79)).heap.size = w.heap.size + 1 := by simp
  rw [e] at h
  exact h
 have Dh : ¬ bb = w.heap.size + 1 := by omega
 have yq : ¬ w.heap.size + 1 = bb := by omega
 have nd := hB.ne_n
 have nw := hB.ne_w
 have ln := hB.cn.lt
 have lw := hB.cw.lt
 have lH : ∀ W : World, Zq X w0 W s bb lb nm wm nn wn a b c d e f ca cb cc cd ce cf -> Cl 145 #[.agg #[.slice a s.now.rules.length ca, .slice b s.now.zones.length cb, .slice c s.now.links.length cc, .map (some nm)], .agg #[iv id, .string name, .string zone, iv wall, iv gap, iv fold]] W (MomP s.now ⟨id, name, zone, wall, gap, fold⟩ nm nn W) := fun W h => jja s.now a b c ca cb cc nm nn ⟨id, name, zone, wall, gap, fold⟩ W (hE.of_below h.bel) (hN.below h.bel) ok hr h.cn mM
 have Cp : ∀ W : World, Zq X w0 W s bb lb nm wm nn wn a b c d e f ca cb cc cd ce cf -> Cl 145 #[.agg #[.slice d s.was.rules.length cd, .slice e s.was.zones.length ce, .slice f s.was.links.length cf, .map (some wm)], .agg #[iv id, .string name, .string zone, iv wall, iv gap, iv fold]] W (MomP s.was ⟨id, name, zone, wall, gap, fold⟩ wm wn W) := fun W h => jja s.was d e f cd ce cf wm wn ⟨id, name, zone, wall, gap, fold⟩ W (hE.of_below h.bel) (hW.below h.bel) kU dA h.cw vM
 have Et := hid hB.bel.size
 clear hE hN hW ok kU hr dA hB
 have c7 := aj.cur
 have i0 := E0.c 0 rfl
 go_enter Tryz.func103, Tryz.ntmps103
 go_upto_region 1 with fail
 go_cut [20] from 5 to 19 (fun ML wx => ∃ (bo : Bool) (nq : Nat), ML = .bool bo /\ wx = ((w.alloc (.cells #[iv id, .string name, .string zone, iv wall, iv gap, iv fold] 79)).alloc (.cells #[iv 0, .bool false] 203)).drewN nq /\ Hid (momB s ⟨id, name, zone, wall, gap, fold⟩ = if bo = true then momD s.now ⟨id, name, zone, wall, gap, fold⟩ else momD s.was ⟨id, name, zone, wall, gap, fold⟩))
 case first =>
  by_cases h1 : s.cur = 0
  ·have HM : Hid (momB s ⟨id, name, zone, wall, gap, fold⟩ = momD s.now ⟨id, name, zone, wall, gap, fold⟩) := jru (.inl h1)
   rw [h1] at c7
   clear h1
   go_quiet (fail)
   go_wp2
   go_meet
   exact ⟨true, nq, rfl, rfl, HM.out⟩
  obtain ⟨cu, xW⟩ := qeb s.cur
  by_cases h2 : id < s.cur
  ·have HM : Hid (momB s ⟨id, name, zone, wall, gap, fold⟩ = momD s.now ⟨id, name, zone, wall, gap, fold⟩) := jru (.inr h2)
   rw [xW] at c7 h1 h2
   have Fo : (cu == 0) = false := by simp [h1]
   have tY : decide (id < cu) = true := by simp; omega
   clear xW h1 h2
   go_quiet (fail)
   go_wp2
   go_meet
   exact ⟨true, nq, rfl, rfl, HM.out⟩
  ·have HM : Hid (momB s ⟨id, name, zone, wall, gap, fold⟩ = momD s.was ⟨id, name, zone, wall, gap, fold⟩) := jzl (fun h => h.elim h1 h2)
   rw [xW] at c7 h1 h2
   have Fo : (cu == 0) = false := by simp [h1]
   have tY : decide (id < cu) = false := by simp; omega
   clear xW h1 h2
   go_quiet (fail)
   go_wp2
   go_meet
   exact ⟨false, nq, rfl, rfl, HM.out⟩
 case rest =>
  obtain ⟨bo, nq, rfl, rfl, HM⟩ := hcut
  cases bo
  ·replace HM : Hid (momB s ⟨id, name, zone, wall, gap, fold⟩ = momD s.was ⟨id, name, zone, wall, gap, fold⟩) := HM.out.trans (if_neg (by simp))
   go_wp2_with fail
   have ao := aj.below (jcn _ nq)
   have E2 := E0.below (jcn _ nq)
   have R2 := R0.below (jcn _ nq)
   have bU := xY.trans (jap (jcn _ nq))
   have oI : (((w.alloc (.cells #[iv id, .string name, .string zone, iv wall, iv gap, iv fold] 79)).alloc (.cells #[iv 0, .bool false] 203)).drewN nq).heap[w.heap.size + 1]? = some (Obj.cells #[iv 0, .bool false] 203) := xZ
   clear aj E0 R0 xY c7 b1 xZ
   generalize ((w.alloc (.cells #[iv id, .string name, .string zone, iv wall, iv gap, iv fold] 79)).alloc (.cells #[iv 0, .bool false] 203)).drewN nq = WA at *
   have ch : Zq X w0 WA.drew s bb lb nm wm nn wn a b c d e f ca cb cc cd ce cf := ao.below (jac WA)
   have ED : Ze WA.drew w.heap.size [iv id, .string name, .string zone, iv wall, iv gap, iv fold] := E2
   have RD : Ze WA.drew (w.heap.size + 1) [iv 0, .bool false] := R2
   have vg : w.grownBy WA.drew none := bU.trans (jap (jac WA))
   have E8 := ch.w1
   have NY := ch.w2
   have NZ := ch.w3
   have O8 := ch.w4
   have e0 := ED.c 0 rfl
   have e1 := ED.c 1 rfl
   have e2 := ED.c 2 rfl
   have e3 := ED.c 3 rfl
   have e4 := ED.c 4 rfl
   have e5 := ED.c 5 rfl
   have mW := RD.c 0 rfl
   have r9 := RD.c 1 rfl
   have A8 := RD.f 0 rfl
   have Ae := RD.f 1 rfl
   have hC := Cp _ ch
   have jJ := hid ch
   have rO := hid vg
   have HH := hid oI
   clear oI
   clear ao ch E2 R2 ED RD lH Cp bU vg HB
   obtain ⟨M, pT⟩ := qeb (momT (tabD s.was (jan s.was zone).name) ⟨id, name, zone, wall, gap, fold⟩)
   have yK : Hid (momD s.was ⟨id, name, zone, wall, gap, fold⟩ = M) := (pT)
   have nW : Cl 145 #[.agg #[.slice d s.was.rules.length cd, .slice e s.was.zones.length ce, .slice f s.was.links.length cf, .map (some wm)], .agg #[iv id, .string name, .string zone, iv wall, iv gap, iv fold]] WA.drew fun q w' => q = .returned (.agg #[iv M.1, .bool M.2]) /\ Zh w' wm (wn + 1) s.was /\ WA.drew.grownBy w' (some wm) := hC.mono fun q w' hP => ⟨by rw [hP.ex, pT], hP.cache, hP.grown⟩
   clear hC pT
   go_region_held3 (fun w' => w'.cell? (ad bb 15) = some (.slice d s.was.rules.length cd) /\ w'.cell? (ad bb 16) = some (.slice e s.was.zones.length ce) /\ w'.cell? (ad bb 17) = some (.slice f s.was.links.length cf) /\ w'.cell? (ad bb 18) = some (.map (some wm)) /\ w'.cell? (ad w.heap.size 0) = some (iv id) /\ w'.cell? (ad w.heap.size 1) = some (.string name) /\ w'.cell? (ad w.heap.size 2) = some (.string zone) /\ w'.cell? (ad w.heap.size 3) = some (iv wall) /\ w'.cell? (ad w.heap.size 4) = some (iv gap) /\ w'.cell? (ad w.heap.size 5) = some (iv fold)) (go_keep) ((go_at_call 145; refine nW.mono ?_; rintro q w4 ⟨rfl, BY, cK⟩; have I5 := cK.cell E8 (by simp; omega); have QQ := cK.cell NY (by simp; omega); have QR := cK.cell NZ (by simp; omega); have QS := cK.cell O8 (by simp; omega); have g0 := cK.cell e0 (by simp; omega); have g1 := cK.cell e1 (by simp; omega); have g2 := cK.cell e2 (by simp; omega); have g3 := cK.cell e3 (by simp; omega); have g4 := cK.cell e4 (by simp; omega); have g5 := cK.cell e5 (by simp; omega); have r0 := cK.cell mW (by simp; omega); have r1 := cK.cell r9 (by simp; omega); have f0 := (cK.frozen_far (ad (w.heap.size + 1) 0) (qbl mW) (by simp; omega)).trans A8; have f1 := (cK.frozen_far (ad (w.heap.size + 1) 1) (qbl r9) (by simp; omega)).trans Ae))
   all_goals
    have HP : Hid (BMomP X w0 s bb lb nm wm nn wn a b c d e f ca cb cc cd ce cf ⟨id, name, zone, wall, gap, fold⟩ w (.returned (.agg #[iv M.1, .bool M.2])) ((w4.setCell (ad (w.heap.size + 1) 0) (iv M.1)).setCell (ad (w.heap.size + 1) 1) (.bool M.2))) := by
     have k1 := jJ.out.grew_w cK BY
     have G7 := jb0 w4 (w.heap.size + 1) (iv M.1) (.bool M.2)
     have Gw : w.grownBy ((w4.setCell (ad (w.heap.size + 1) 0) (iv M.1)).setCell (ad (w.heap.size + 1) 1) (.bool M.2)) (some wm) := ((rO.out.but _).andThen cK (fun _ h => .inr h)).andThen G7 (fun j h => by injection h with h; omega)
     refine ⟨by rw [HM.out, yK.out], ?_, wm, .inr rfl, Gw⟩
     have yk := k1.bel.size
     refine k1.grown G7 (by have := Et.out; omega) (by omega) (by omega) (by omega) (fun cs hc => ?_)
     rw [(cK.block _ (qbl mW) (by simp; omega)).trans HH.out] at hc
     injection hc with hc
     injection hc with _ hc _
     exact absurd hc (by decide)
    obtain ⟨t0, t1⟩ := jam (v0 := iv M.1) (v1 := .bool M.2) r0 r1
    go_wp2
    exact bpr (v := .agg #[iv M.1, .bool M.2]) (by simp [results, Tryz.results103, go_sem, t0, t1]) rfl HP.out
  ·replace HM : Hid (momB s ⟨id, name, zone, wall, gap, fold⟩ = momD s.now ⟨id, name, zone, wall, gap, fold⟩) := HM.out.trans (if_pos rfl)
   go_wp2_with fail
   have ao := aj.below (jcn _ nq)
   have E2 := E0.below (jcn _ nq)
   have R2 := R0.below (jcn _ nq)
   have bU := xY.trans (jap (jcn _ nq))
   have oI : (((w.alloc (.cells #[iv id, .string name, .string zone, iv wall, iv gap, iv fold] 79)).alloc (.cells #[iv 0, .bool false] 203)).drewN nq).heap[w.heap.size + 1]? = some (Obj.cells #[iv 0, .bool false] 203) := xZ
   clear aj E0 R0 xY c7 b1 xZ
   generalize ((w.alloc (.cells #[iv id, .string name, .string zone, iv wall, iv gap, iv fold] 79)).alloc (.cells #[iv 0, .bool false] 203)).drewN nq = WA at *
   have ch : Zq X w0 WA.drew s bb lb nm wm nn wn a b c d e f ca cb cc cd ce cf := ao.below (jac WA)
   have ED : Ze WA.drew w.heap.size [iv id, .string name, .string zone, iv wall, iv gap, iv fold] := E2
   have RD : Ze WA.drew (w.heap.size + 1) [iv 0, .bool false] := R2
   have vg : w.grownBy WA.drew none := bU.trans (jap (jac WA))
   have NX := ch.n0
   have I2 := ch.n1
   have E5 := ch.n2
   have E7 := ch.n3
   have e0 := ED.c 0 rfl
   have e1 := ED.c 1 rfl
   have e2 := ED.c 2 rfl
   have e3 := ED.c 3 rfl
   have e4 := ED.c 4 rfl
   have e5 := ED.c 5 rfl
   have mW := RD.c 0 rfl
   have r9 := RD.c 1 rfl
   have A8 := RD.f 0 rfl
   have Ae := RD.f 1 rfl
   have hC := lH _ ch
   have jJ := hid ch
   have rO := hid vg
   have HH := hid oI
   clear oI
   clear ao ch E2 R2 ED RD lH Cp bU vg HB
   obtain ⟨M, pT⟩ := qeb (momT (tabD s.now (jan s.now zone).name) ⟨id, name, zone, wall, gap, fold⟩)
   have yK : Hid (momD s.now ⟨id, name, zone, wall, gap, fold⟩ = M) := (pT)
   have nW : Cl 145 #[.agg #[.slice a s.now.rules.length ca, .slice b s.now.zones.length cb, .slice c s.now.links.length cc, .map (some nm)], .agg #[iv id, .string name, .string zone, iv wall, iv gap, iv fold]] WA.drew fun q w' => q = .returned (.agg #[iv M.1, .bool M.2]) /\ Zh w' nm (nn + 1) s.now /\ WA.drew.grownBy w' (some nm) := hC.mono fun q w' hP => ⟨by rw [hP.ex, pT], hP.cache, hP.grown⟩
   clear hC pT
   go_region_held3 (fun w' => w'.cell? (ad bb 11) = some (.slice a s.now.rules.length ca) /\ w'.cell? (ad bb 12) = some (.slice b s.now.zones.length cb) /\ w'.cell? (ad bb 13) = some (.slice c s.now.links.length cc) /\ w'.cell? (ad bb 14) = some (.map (some nm)) /\ w'.cell? (ad w.heap.size 0) = some (iv id) /\ w'.cell? (ad w.heap.size 1) = some (.string name) /\ w'.cell? (ad w.heap.size 2) = some (.string zone) /\ w'.cell? (ad w.heap.size 3) = some (iv wall) /\ w'.cell? (ad w.heap.size 4) = some (iv gap) /\ w'.cell? (ad w.heap.size 5) = some (iv fold)) (go_keep) ((go_at_call 145; refine nW.mono ?_; rintro q w4 ⟨rfl, BY, cK⟩; have QO := cK.cell NX (by simp; omega); have QP := cK.cell I2 (by simp; omega); have I3 := cK.cell E5 (by simp; omega); have I4 := cK.cell E7 (by simp; omega); have g0 := cK.cell e0 (by simp; omega); have g1 := cK.cell e1 (by simp; omega); have g2 := cK.cell e2 (by simp; omega); have g3 := cK.cell e3 (by simp; omega); have g4 := cK.cell e4 (by simp; omega); have g5 := cK.cell e5 (by simp; omega); have r0 := cK.cell mW (by simp; omega); have r1 := cK.cell r9 (by simp; omega); have f0 := (cK.frozen_far (ad (w.heap.size + 1) 0) (qbl mW) (by simp; omega)).trans A8; have f1 := (cK.frozen_far (ad (w.heap.size + 1) 1) (qbl r9) (by simp; omega)).trans Ae))
   all_goals
    have HP : Hid (BMomP X w0 s bb lb nm wm nn wn a b c d e f ca cb cc cd ce cf ⟨id, name, zone, wall, gap, fold⟩ w (.returned (.agg #[iv M.1, .bool M.2])) ((w4.setCell (ad (w.heap.size + 1) 0) (iv M.1)).setCell (ad (w.heap.size + 1) 1) (.bool M.2))) := by
     have k1 := jJ.out.grew_n cK BY
     have G7 := jb0 w4 (w.heap.size + 1) (iv M.1) (.bool M.2)
     have Gw : w.grownBy ((w4.setCell (ad (w.heap.size + 1) 0) (iv M.1)).setCell (ad (w.heap.size + 1) 1) (.bool M.2)) (some nm) := ((rO.out.but _).andThen cK (fun _ h => .inr h)).andThen G7 (fun j h => by injection h with h; omega)
     refine ⟨by rw [HM.out, yK.out], ?_, nm, .inl rfl, Gw⟩
     have yk := k1.bel.size
     refine k1.grown G7 (by have := Et.out; omega) (by omega) (by omega) (by omega) (fun cs hc => ?_)
     rw [(cK.block _ (qbl mW) (by simp; omega)).trans HH.out] at hc
     injection hc with hc
     injection hc with _ hc _
     exact absurd hc (by decide)
    obtain ⟨t0, t1⟩ := jam (v0 := iv M.1) (v1 := .bool M.2) r0 r1
    go_wp2
    exact bpr (v := .agg #[iv M.1, .bool M.2]) (by simp [results, Tryz.results103, go_sem, t0, t1]) rfl HP.out
end
section
open Go.RowKit Go.ChangeMaps Go.MapKept
structure SortC : Prop where
 go : ∀ (P : List EntryD) (base : Nat) (v : Value) (w : World), Zl w base v P -> P.length <= 1048576 -> Cl 142 #[v, .func (.func 143) #[] #[]] w fun e w' => e = .returned (.tuple #[]) /\ Zl w' base v (jha P) /\ w.grownBy w' v.ownBlock
structure MoK (F : Nat) (jG : Array Value) (g : EventD -> Int × Bool) (dU : Nat -> World -> Prop) (b B N : Nat) : Prop where
 enter : ∀ bT w, (callFunc F bT).run Tryz.prog w = .ok (.enter F bT) w
 call : ∀ k ev W, k < N -> dU k W -> Cl F (jG ++ #[ev.v]) W fun q W' => q = .returned (.agg #[iv (g ev).1, .bool (g ev).2]) /\ dU (k + 1) W' /\ ∃ x, x ≠ b /\ (∃ es c, W.heap[x]? = some (.map es c)) /\ W.grownBy W' (some x)
 below : ∀ k W W', dU k W -> Bw W W' -> dU k W'
 row : ∀ k W W' x, dU k W -> W.grownBy W' (some x) -> B <= x -> (∀ cs, W.heap[x]? ≠ some (.cells cs 220 (0, 0))) -> dU k W'
theorem MoK.own {F : Nat} {jG : Array Value} {g : EventD -> Int × Bool} {dU : Nat -> World -> Prop} {b B N : Nat} (h : MoK F jG g dU b B N) {k base : Nat} {W W' : World} {v : Value} {P : List EntryD} (hI : dU k W) (hO : Zl W base v P) (hg : W.grownBy W' v.ownBlock) (hB : B <= base) : dU k W' := by
 rcases hO.2 with ⟨rfl, _⟩ | ⟨g2, cap, cur, rfl, hb, hh, _⟩
 ·exact h.below k W W' hI ⟨hg.os, hg.tape, hg.output, hg.size, fun j hj => hg.block j hj (by simp [Value.ownBlock])⟩
 ·exact h.row k W W' g2 hI hg (by omega) (fun cs hc => by rw [hh] at hc; injection hc with hc; injection hc with _ hc _; exact absurd hc (by decide))
theorem j16 {W W' : World} {base x : Nat} {v : Value} {P : List EntryD} {es : Array MapEntry} {c : Nat} (hO : Zl W base v P) (hg : W.grownBy W' (some x)) (hx : W.heap[x]? = some (.map es c)) : Zl W' base v P :=
 World.ownsRow.kept hO hg (.inr fun h => by
  rcases hO.2 with ⟨rfl, _⟩ | ⟨g2, cap, cur, rfl, hb, hh, _⟩
  ·cases h
  ·injection h with h
   have h3 : g2 = x := h
   rw [h3, hx] at hh
   cases hh)
theorem j0p {W W' : World} {x p o : Nat} {u : Value} {es : Array MapEntry} {c : Nat} (hg : W.grownBy W' (some x)) (hx : W.heap[x]? = some (.map es c)) (h : W.cell? (ad p o) = some u) : W'.cell? (ad p o) = some u :=
 hg.cell h (fun e => by injection e with e; have h3 : p = x := e; rw [h3, jrw hx] at h; cases h)
theorem j3r {W : World} {b r n fQ x : Nat} {D : DataW EventD} {left : Lit -> Bool} {es : Array MapEntry} {c : Nat} (h : W.ranges Tryz.prog 2 jb9 b r n D left fQ) (hx : W.heap[x]? = some (.map es c)) : some r ≠ some x := by
 obtain ⟨_, _, _, _, _, _, _, _, _, hr, _⟩ := h
 intro e
 injection e with e
 rw [e, hx] at hr
 cases hr
theorem j2f {W : World} {b r n fQ : Nat} {D : DataW EventD} {left : Lit -> Bool} (h : W.ranges Tryz.prog 2 jb9 b r n D left fQ) : ∀ cs, W.heap[r]? ≠ some (.cells cs 220 (0, 0)) := by
 obtain ⟨_, _, _, _, _, _, _, _, _, hr, _⟩ := h
 intro cs e
 rw [hr] at e
 cases e
structure EntS (f : Int -> Option EventD) (g : EventD -> Int × Bool) (left : Lit -> Bool) (P : List EntryD) : Prop where
 nd : P.Nodup
 mem : ∀ x, x ∈ P ↔ ∃ e, f e.id = some e /\ left (.int .i64 e.id) = false /\ (g e).2 = true /\ x = ⟨(g e).1, e.id⟩
theorem EntS.no {f : Int -> Option EventD} {g : EventD -> Int × Bool} {left : Lit -> Bool} {P : List EntryD} {c : EventD} (h : EntS f g left P) (hc : f c.id = some c) (hg : (g c).2 = false) : EntS f g (fun z => left z && !Lit.sameKey z (.int .i64 c.id)) P := by
 refine ⟨h.nd, fun x => ?_⟩
 rw [h.mem]
 constructor
 ·rintro ⟨e, h1, h2, h3⟩
  exact ⟨e, h1, by simp only [h2, Bool.false_and], h3⟩
 ·rintro ⟨e, h1, h2, h3, h4⟩
  rcases jfn h2 with h | h
  ·exact ⟨e, h1, h, h3, h4⟩
  ·rw [h, hc] at h1
   obtain rfl := osi h1
   rw [hg] at h3
   cases h3
theorem EntS.yes {f : Int -> Option EventD} {g : EventD -> Int × Bool} {left : Lit -> Bool} {P : List EntryD} {c : EventD} (h : EntS f g left P) (hc : f c.id = some c) (hl : left (.int .i64 c.id) = true) (hg : (g c).2 = true) : EntS f g (fun z => left z && !Lit.sameKey z (.int .i64 c.id)) (P ++ [⟨(g c).1, c.id⟩]) := by
 refine ⟨List.nodup_append.mpr ⟨h.nd, by simp, fun a ha b hb => ?_⟩, fun x => ?_⟩
 ·rw [List.mem_singleton] at hb
  subst hb
  intro e
  subst e
  obtain ⟨e, _, h2, _, h4⟩ := (h.mem _).mp ha
  injection h4 with _ h4
  rw [<- h4, hl] at h2
  cases h2
 ·rw [List.mem_append, List.mem_singleton, h.mem]
  constructor
  ·rintro (⟨e, h1, h2, h3⟩ | rfl)
   ·exact ⟨e, h1, by simp only [h2, Bool.false_and], h3⟩
   ·exact ⟨c, hc, by simp only [WideAt.sameKey_self (show WideAt.IsKeyLit (.int .i64 c.id) from trivial), Bool.not_true, Bool.and_false], hg, rfl⟩
  ·rintro ⟨e, h1, h2, h3, h4⟩
   rcases jfn h2 with h | h
   ·exact .inl ⟨e, h1, h, h3, h4⟩
   ·rw [h, hc] at h1
    obtain rfl := osi h1
    exact .inr h4
theorem EntS.done {f : Int -> Option EventD} {g : EventD -> Int × Bool} {left : Lit -> Bool} {P : List EntryD} {L : List EventD} (h : EntS f g left P) (hl : ∀ kl, left kl = false) (hT : Jk f L) (hL : L.Pairwise fun x y => x.id < y.id) : jha P = entF g L := j0i hT hL h.nd fun x => by
 rw [h.mem]
 constructor
 ·rintro ⟨e, h1, _, h3⟩
  exact ⟨e, h1, h3⟩
 ·rintro ⟨e, h1, h3⟩
  exact ⟨e, h1, hl _, h3⟩
structure EntsP (dU : Nat -> World -> Prop) (b n : Nat) (f : Int -> Option EventD) (X : List EntryD) (w : World) (q : Ending) (w' : World) : Prop where
 ex : ∃ v, q = .returned v /\ Zl w' w.heap.size v X
 inv : ∃ k, dU k w'
 live : Zj w' b n f
 size : w.heap.size <= w'.heap.size
end
section
open Go.RowKit Go.ChangeMaps Go.MapKept
theorem jop (hS : SortC) {F : Nat} {jG : Array Value} {g : EventD -> Int × Bool} {dU : Nat -> World -> Prop} {b n : Nat} (f : Int -> Option EventD) (L : List EventD) (w : World) (hK : MoK F jG g dU b w.heap.size L.length) (hM : Zj w b n f) (hT : Jk f L) (hL : L.Pairwise fun x y => x.id < y.id) (hl : L.length <= 1000) (hI : dU 0 w) :
  Cl 102 #[.map (some b), .func (.func F) jG #[]] w (EntsP dU b n f (entF g L) w) := by
 obtain ⟨i0, hi, aH, aI, aG⟩ := jfq
 have mB := hM.lt
 obtain ⟨D, ai, hD⟩ := hM.own
 have hsz : Maps.size D = L.length := jfi ai hD hT hL
 have kR : Maps.size D <= 1000 := by omega
 have HZ : Hid (Maps.size D = L.length) := hsz
 have HT := hid hT
 have HD := hid hD
 have HU := hid hL
 have fd := hK.enter
 clear hsz hT hD hL hM
 generalize hNL : L.length = NL at *
 have nL := hid hNL
 clear hNL
 go_enter Tryz.func102, Tryz.ntmps102
 go_wp2_with (first
  | (at_range; refine wpList_range_own _ rfl _ 70 rfl 2 79 (Maps.int_keyed keyT) mapT jb9 b n D rfl ai ?_; intro w0 ip jt CT)
  | go_in)
 go_frame
 have FI : dU 0 w0 := hK.below 0 w w0 hI ⟨jt.os, jt.tape, jt.output, jt.size, fun j hj => jt.block j hj (by simp)⟩
 go_loopw [5, 7, 8] (fun s5 _ _ wr => ∃ (k : Nat) (P : List EntryD) (p : Option Addr) (m c : Nat) (left : Lit -> Bool) (fQ : Nat), s5 = .slice p m c /\ k + fQ <= NL /\ P.length <= k /\ wr.ranges Tryz.prog 2 jb9 b w.heap.size n D left fQ /\ Zl wr (w.heap.size + 1) (.slice p m c) P /\ dU k wr /\ Hid (EntS f g left P) /\ Hid (w.heap.size + 1 <= wr.heap.size)) (fun _ _ _ wr => wr.rangeLeft b w.heap.size)
 case atStart => exact ⟨0, [], none, 0, 0, _, _, rfl, by rw [HZ.out]; omega, by simp, ip, World.ownsRow_nil _ _ _ _, FI, ⟨List.nodup_nil, fun x => ⟨fun h => by simp at h, fun ⟨e, h1, h2, _⟩ => by rw [jf7 HD.out h1] at h2; cases h2⟩⟩, by simp only [Hid]; omega⟩
 case round =>
  obtain ⟨wa, eW⟩ := qea wr
  subst eW
  obtain ⟨k, P, p, m, c, left, fQ, rfl, KV, PA, jS, hO, FL, HE, HS⟩ := hrel
  clear ip jt CT FI ai hI
  go_wp2_with (first
   | (at_next; refine wpList_next_ranges _ rfl _ rfl 2 (Maps.int_keyed keyT) jb9 (Value.int .i64) (fun c : EventD => Value.agg #[.int .i64 c.id, .string c.name, .string c.zone, .int .i64 c.wall, .int .i64 c.gap, .int .i64 c.fold]) (fun key kl bK => by (obtain ⟨x, rfl, _⟩ := Maps.keyOf_int_inv keyT bK; exact ⟨x, rfl⟩)) (fun v y hv => by (obtain ⟨c, rfl, _⟩ := jcf hv; exact ⟨c, rfl⟩)) b w.heap.size n D left fQ rfl jS ?_ ?_)
   | go_in)
  ·intro _ hl0
   have HX : Hid (jha P = entF g L) := HE.out.done hl0 HT.out HU.out
   have hC := hS.go P _ _ _ hO (by omega)
   have HI : Hid (∀ w2, wa.grownBy w2 (Value.slice p m c).ownBlock -> dU k w2) := fun w2 h => hK.own FL hO h (by omega)
   go_wp2_with fail
   refine hC.mono ?_
   rintro e w2 ⟨rfl, br, bU⟩
   have od := HI.out w2 bU
   have It : Hid (Zl w2 w.heap.size (.slice p m c) (entF g L)) := by rw [HX.out] at br; exact jak br (by omega)
   have li : Hid (Zj w2 b n f) := by
    exact ⟨D, jS.owns.kept bU (fun e => by have := (World.ownsRow.lt hO b e.symm).1; omega), HD.out⟩
   go_wp2
   go_ret
   exact ⟨⟨_, rfl, It.out⟩, ⟨k, od⟩, li.out, by have := HS.out; have := bU.size; omega⟩
  ·intro x c2 kl y ys w1 jb bK gr dC bF hrg1 hlt cU cH KG
   have IA := hid cH
   clear cH
   have HF : Hid (f x = some c2 /\ c2.id = x /\ kl = .int .i64 x) := by
    obtain ⟨x', ex, rfl, _⟩ := Maps.keyOf_int_inv keyT bK
    cases ex
    obtain ⟨c', ec, ez⟩ := jcf dC
    simp only [Prod.mk.injEq] at ez
    obtain ⟨rfl, _⟩ := ez
    have : c' = c2 := by cases c2; cases c'; simp only [EventD.v, Value.agg.injEq] at ec; simp_all
    subst this
    have h1 := jp3 HD.out bF
    exact ⟨h1, HT.out.id _ _ h1, rfl⟩
   have sh : dU k w1 := hK.row k wa w1 w.heap.size FL cU (nlr _) (j2f jS)
   have gZ : Zl w1 (w.heap.size + 1) (.slice p m c) P := World.ownsRow.kept hO cU (.inr fun h => by have := (World.ownsRow.lt hO _ h).1; omega)
   have b2 := qal w1 (.cells #[iv c2.id, .string c2.name, .string c2.zone, iv c2.wall, iv c2.gap, iv c2.fold] 79)
   have od : dU k (w1.alloc (.cells #[iv c2.id, .string c2.name, .string c2.zone, iv c2.wall, iv c2.gap, iv c2.fold] 79)) := hK.below _ _ _ sh b2
   have br : Zl (w1.alloc (.cells #[iv c2.id, .string c2.name, .string c2.zone, iv c2.wall, iv c2.gap, iv c2.fold] 79)) (w.heap.size + 1) (.slice p m c) P := woa gZ _
   have hrg2 := hrg1.alloc (.cells #[iv c2.id, .string c2.name, .string c2.zone, iv c2.wall, iv c2.gap, iv c2.fold] 79)
   obtain ⟨e0, e1, e2, e3, e4, e5⟩ : (fun z : World => z.cell? (ad w1.heap.size 0) = some (iv c2.id) /\ z.cell? (ad w1.heap.size 1) = some (.string c2.name) /\ z.cell? (ad w1.heap.size 2) = some (.string c2.zone) /\ z.cell? (ad w1.heap.size 3) = some (iv c2.wall) /\ z.cell? (ad w1.heap.size 4) = some (iv c2.gap) /\ z.cell? (ad w1.heap.size 5) = some (iv c2.fold)) (w1.alloc (.cells #[iv c2.id, .string c2.name, .string c2.zone, iv c2.wall, iv c2.gap, iv c2.fold] 79)) := by simp [go_sem]
   obtain ⟨⟨M1, M2⟩, hM⟩ := qeb (g c2)
   have HM := hid hM
   have hC := hK.call k c2 (w1.alloc (.cells #[iv c2.id, .string c2.name, .string c2.zone, iv c2.wall, iv c2.gap, iv c2.fold] 79)) (by omega) od
   rw [hM] at hC
   simp only [EventD.v] at hC
   have Im := hid gr
   have EH := hid hlt
   have vi : k + 1 + jb <= NL := by omega
   have jW : Hid (w.heap.size + 1 <= (w1.alloc (.cells #[iv c2.id, .string c2.name, .string c2.zone, iv c2.wall, iv c2.gap, iv c2.fold] 79)).heap.size) := by have h1 := HS.out; have h2 := b2.size; have h3 := IA.out; simp only [Hid]; omega
   clear hM dC bF bK cU sh gZ od b2 gr hlt KV
   go_wp2_with fail
   refine hC.mono ?_
   rintro q w3 ⟨rfl, FJ, xx, sV, ⟨es, cl, vN⟩, sG⟩
   have iq := hrg2.kept sG (by simpa using Ne.symm sV) (j3r hrg2 vN)
   have jj := j16 br sG vN
   have i3 := j0p sG vN e0
   have yU : Hid (w.heap.size + 1 <= w3.heap.size) := Nat.le_trans jW.out sG.size
   have b4 := qal w3 (.cells #[iv M1, .bool M2] 203)
   have Bn : dU (k + 1) (w3.alloc (.cells #[iv M1, .bool M2] 203)) := hK.below _ _ _ FJ b4
   have dX : Zl (w3.alloc (.cells #[iv M1, .bool M2] 203)) (w.heap.size + 1) (.slice p m c) P := woa jj _
   have ir := iq.alloc (.cells #[iv M1, .bool M2] 203)
   have i4 := jaa b4 i3
   have yV : Hid (w.heap.size + 1 <= (w3.alloc (.cells #[iv M1, .bool M2] 203)).heap.size) := Nat.le_trans yU.out b4.size
   clear iq jj i3 FJ b4 sG vN hrg2 br e0 e1 e2 e3 e4 e5 hC
   cases M2
   ·have lh : Hid (EntS f g (fun z => left z && !Lit.sameKey z kl) P) := by
     have h := HF.out
     rw [h.2.2, <- h.2.1]
     exact HE.out.no (by rw [h.2.1]; exact h.1) (by rw [HM.out])
    go_wp2
    go_roundw
    case rel => exact ⟨k + 1, P, p, m, c, _, jb, rfl, vi, by omega, ir, dX, Bn, lh, yV⟩
    case measure => rw [ir.left_eq, jS.left_eq]; exact EH.out
   ·have lh : Hid (EntS f g (fun z => left z && !Lit.sameKey z kl) (P ++ [⟨M1, c2.id⟩])) := by
     have h := HF.out
     have h2 := HE.out.yes (c := c2) (by rw [h.2.1]; exact h.1) (by rw [h.2.1, <- h.2.2]; exact Im.out) (by rw [HM.out])
     rw [HM.out, h.2.1, <- h.2.2] at h2
     rw [h.2.1]
     exact h2
    have Ii : Hid (dU (k + 1) ((w3.alloc (.cells #[iv M1, .bool true] 203)).alloc (.cells #[iv M1, iv c2.id] 101))) := hK.below _ _ _ Bn (qal _ _)
    have gN : Zl ((w3.alloc (.cells #[iv M1, .bool true] 203)).alloc (.cells #[iv M1, iv c2.id] 101)) (w.heap.size + 1) (.slice p m c) P := woa dX _
    have vC := ir.alloc (.cells #[iv M1, iv c2.id] 101)
    have ER : Hid (w.heap.size + 1 <= ((w3.alloc (.cells #[iv M1, .bool true] 203)).alloc (.cells #[iv M1, iv c2.id] 101)).heap.size) := Nat.le_trans yV.out (qal _ _).size
    have yM := hid gN
    have jV := hid vC
    clear Bn dX ir yV vC
    go_wp2_with (first | (at_builtin; refine wpList_append_own _ rfl _ _ 40 rfl (w.heap.size + 1) 101 i0 (.agg #[iv 0, iv 0]) 2 16 Tryz.underlying40 hi aH aI aG rfl (by decide) _ _ _ rfl gN (ad (w3.heap.size + 1) 0) 1 1 [iv M1, iv c2.id] rfl rfl ?b1 ?b2 ?b3 ?b4 ?b5 ?_) | fail)
    case b1 => have h := jag (w3.alloc (.cells #[iv M1, .bool true] 203)) [iv M1, iv c2.id] 101; simpa using h
    case b2 => intro u hu; simp at hu; rcases hu with rfl | rfl <;> rfl
    case b3 => unfold maxLen; omega
    case b4 => omega
    case b5 => exact ER.out
    intro v6 w6 kM fm _
    obtain ⟨p6, m6, c6, rfl⟩ := jab kM
    have Iv : Hid (Zl w6 (w.heap.size + 1) (.slice p6 m6 c6) (P ++ [⟨M1, c2.id⟩])) := by
     simp only [Hid]
     unfold Zl
     rw [lla, lma, List.flatten_append]
     simpa [EntryD.cs] using kM
    have Ij : Hid (dU (k + 1) w6) := hK.own Ii.out yM.out fm (by omega)
    have rU : Hid (w6.ranges Tryz.prog 2 jb9 b w.heap.size n D (fun z => left z && !Lit.sameKey z kl) jb) := jV.out.kept fm (fun e => by have := (World.ownsRow.lt yM.out b e.symm).1; omega) (fun e => by have := (World.ownsRow.lt yM.out _ e.symm).1; omega)
    have IB : Hid (w.heap.size + 1 <= w6.heap.size) := Nat.le_trans ER.out fm.size
    clear kM fm gN
    go_wp2
    go_roundw
    case rel => exact ⟨k + 1, _, p6, m6, c6, _, jb, rfl, vi, by simp; omega, rU.out, Iv.out, Ij.out, lh, IB⟩
    case measure => rw [rU.out.left_eq, jS.left_eq]; exact EH.out
end
section
open Go.RowKit Go.ChangeMaps Go.MapKept Go.WideMaps
theorem jpc {w : World} {b n : Nat} {r : RelD} (h : Zh w b n r) : ∃ es c, w.heap[b]? = some (.map es c) := by
 obtain ⟨D, ⟨es, bl, hb, _⟩, _⟩ := h.own
 exact ⟨es, bl, hb⟩
theorem j0r {X : List (Nat × Value)} (w0 : World) (s : StoreD) (bb lb nm wm B N : Nat) (a b c d e f : Option Addr) (ca cb cc cd ce cf : Nat) (hE : Zy w0) (hN : Zd w0 (.agg #[.slice a s.now.rules.length ca, .slice b s.now.zones.length cb, .slice c s.now.links.length cc]) s.now) (hW : Zd w0 (.agg #[.slice d s.was.rules.length cd, .slice e s.was.zones.length ce, .slice f s.was.links.length cf]) s.was) (ok : Jp s.now) (kU : Jp s.was) (hr : relB s.now = true) (dA : relB s.was = true) (hB : w0.heap.size <= B) (h1 : bb < B) (h2 : nm < B) (h3 : wm < B) (h4 : nm ≠ lb) (h5 : wm ≠ lb) (Pz : N <= 1000) :
  MoK 103 #[.pointer (some (ad bb 0))] (momB s) (fun k W => Zq X w0 W s bb lb nm wm k k a b c d e f ca cb cc cd ce cf) lb B N where
 enter := fun _ _ => by kernel_rfl
 call := fun k ev W hk hI => (jjj w0 s bb lb nm wm k k a b c d e f ca cb cc cd ce cf ev W hE hN hW ok kU hr dA hI (by omega) (by omega)).mono fun q W' hP => ⟨hP.ex, hP.book, by
  obtain ⟨g, hg, du⟩ := hP.grown
  rcases hg with rfl | rfl
  ·exact ⟨_, h4, jpc hI.cn, du⟩
  ·exact ⟨_, h5, jpc hI.cw, du⟩⟩
 below := fun k W W' hI hb => hI.below hb
 row := fun k W W' x hI hg hx ht => hI.grown hg (by omega) (by omega) (by omega) (by omega) ht
theorem jhm (hS : SortC) {X : List (Nat × Value)} (w0 : World) (s : StoreD) (bb lb nm wm n : Nat) (a b c d e f : Option Addr) (ca cb cc cd ce cf : Nat) (F : Int -> Option EventD) (L : List EventD) (w : World) (hE : Zy w0) (hN : Zd w0 (.agg #[.slice a s.now.rules.length ca, .slice b s.now.zones.length cb, .slice c s.now.links.length cc]) s.now) (hW : Zd w0 (.agg #[.slice d s.was.rules.length cd, .slice e s.was.zones.length ce, .slice f s.was.links.length cf]) s.was) (ok : Jp s.now) (kU : Jp s.was) (hr : relB s.now = true) (dA : relB s.was = true) (hB : Zq X w0 w s bb lb nm wm 0 0 a b c d e f ca cb cc cd ce cf) (h4 : nm ≠ lb) (h5 : wm ≠ lb) (hM : Zj w lb n F) (hT : Jk F L) (hL : L.Pairwise fun x y => x.id < y.id) (hl : L.length <= 1000) :
  Cl 67 #[.pointer (some (ad bb 0))] w (EntsP (fun k W => Zq X w0 W s bb lb nm wm k k a b c d e f ca cb cc cd ce cf) lb n F (entF (momB s) L) w) := by
 have hK := j0r (X := X) w0 s bb lb nm wm w.heap.size L.length a b c d e f ca cb cc cd ce cf hE hN hW ok kU hr dA hB.bel.size (qbl hB.cur) hB.cn.lt hB.cw.lt h4 h5 hl
 have hC := jop hS F L w hK hM hT hL hl hB
 have QC := hB.live
 clear hK hB hE hN hW ok kU hr dA hM hT hL
 go_enter Tryz.func67, Tryz.ntmps67
 go_wp2_with fail
 refine hC.mono ?_
 rintro q w2 hP
 obtain ⟨v, rfl, hO⟩ := hP.ex
 go_wp2
 go_ret
 exact hP
end
end Go.Proofs.YtgiieknbckhofaaGreatDoor
