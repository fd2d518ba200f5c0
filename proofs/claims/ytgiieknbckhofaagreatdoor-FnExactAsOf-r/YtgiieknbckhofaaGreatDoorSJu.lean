/- Packed. -/
import Derived.Test.YtgiieknbckhofaaGreatDoorSHu
import Derived.Test.YtgiieknbckhofaaGreatDoorSIu
import Derived.Test.YtgiieknbckhofaaGreatDoorShelfX
set_option maxRecDepth 20000
set_option maxHeartbeats 20000000
set_option linter.unusedSimpArgs false
namespace Go.Proofs.YtgiieknbckhofaaGreatDoor
section
open Go.RowKit Go.ChangeMaps Go.MapKept Go.WideMaps
def jmj (s : StoreD) : Bool := jk5 s && (txB s.vs s.tx && (jb7 s.vs s.vs.length && jp4 s (ja1 s.vs)))
def storeI (s : StoreD) : Bool := jmj s && eqX s.ix (entF (momB s) (ja1 s.vs))
theorem jza {w : World} {base : Nat} {v : Value} {L : List EntryD} (h : Zl w base v L) : w.ownsRow base 101 2 v (L.map EntryD.cs).length (L.map EntryD.cs).flatten := by rw [llm]; exact h
structure OpenP (s : StoreD) (w : World) (q : Ending) (w' : World) : Prop where
 ex : ∃ x, q = .returned (.tuple #[.pointer x, .bool (storeI s)]) /\ (storeI s = true -> ∃ bb lb n a8 c8, x = some (ad bb 0) /\ w'.cell? (ad bb 10) = some (.map (some lb)) /\ Zj w' lb n (jcs s.vs) /\ w'.cell? (ad bb 0) = some (iv s.tx) /\ w'.cell? (ad bb 8) = some (.slice a8 s.vs.length c8) /\ Za w' a8 8 (s.vs.map VersionD.cs) /\ s.vs.length <= c8)
 bel : Bw w w'
theorem jyk {l : List VersionD} {t : Int} (h : txB l t = true) : ∀ v ∈ l, jbm v.ev = true := fun v hv => by
 obtain ⟨k, hk⟩ := lgo hv
 unfold txB at h
 rw [bat] at h
 cases hx : txI l t k v
 ·have := jux hk hx (n := l.length) (List.getElem?_eq_some_iff.1 hk).1
  rw [h.2] at this
  cases this
 ·unfold txI at hx
  simp only [bat] at hx
  exact hx.2.2
theorem jq4 {e : EventD} (h : jbm e = true) : (1 <= e.id /\ e.id <= 1000000) /\ jay e.zone = true /\ isB e.wall (-62135596800) 253402300799 = true /\ isB e.gap 0 2 = true /\ isB e.fold 0 2 = true := by
 unfold jbm at h
 simp only [bat] at h
 exact ⟨jaw h.1, h.2.2⟩
theorem j01 {l : List VersionD} {t : Int} (h : txB l t = true) : ∀ v ∈ l, 1 <= v.id /\ v.id <= 1000000 := fun v hv => (jq4 (jyk h v hv)).1
theorem ji9 (hS : SortC) (s : StoreD) (v : Value) (w : World) (hE : Zy w) (hv : Je w v s) (ok : Zv s) :
  Cl 33 #[v] w (OpenP s w) := by
 have dR := hv
 obtain ⟨a, b, c, d, e, f, va, ia, ca, cb, cc, cd, ce, cf, cv, ci, rfl, hN, hW, hV, hX, _, _⟩ := hv.form
 have ag := qal w (.cells (stA s a b c d e f va ia ca cb cc cd ce cf cv ci).toArray 42)
 have A0 := Ze.new w (stA s a b c d e f va ia ca cb cc cd ce cf cv ci) 42
 have q1 := fun w hE h => jjf s (.agg (stA s a b c d e f va ia ca cb cc cd ce cf cv ci).toArray) w hE h ok
 have q2 := fun w h => jfs s.vs s.tx s.cur a b c d e f va ia s.now.rules.length ca s.now.zones.length cb s.now.links.length cc s.was.rules.length cd s.was.zones.length ce s.was.links.length cf s.vs.length cv s.ix.length ci w h ok.vs rfl ok.vl
 skip
 have HV := hid hV
 have HX := hid hX
 have HN := hid hN
 have HW := hid hW
 clear hV hX hN hW hv
 obtain ⟨x0, x1, x2, x3, x4, x5, x6, x7, x8, x9⟩ := A0.ten
 go_enter Tryz.func33, Tryz.ntmps33
 go_wp2_with fail
 refine (q1 _ (hE.of_below ag) (dR.below ag)).mono ?_
 rintro e1 w1 ⟨rfl, hb1⟩
 have aj := qtr ag hb1
 have A1 := A0.below hb1
 clear hb1 A0 q1 x0 x1 x2 x3 x4 x5 x6 x7 x8 x9
 cases h1 : jk5 s
 case false =>
  have HR : Hid (storeI s = false) := by simp [Hid, storeI, jmj, h1]
  go_wp2
  go_ret2
  exact ⟨⟨none, by rw [HR.out]; rfl, fun h => by rw [HR.out] at h; cases h⟩, aj⟩
 have hr : relB s.now = true /\ relB s.was = true := by
  unfold jk5 at h1
  simp only [bat] at h1
  exact h1.2
 obtain ⟨qL, dA⟩ := hr
 obtain ⟨x0, x1, x2, x3, x4, x5, x6, x7, x8, x9⟩ := A1.ten
 go_wp2_with fail
 refine (q2 _ (HV.out.below aj)).mono ?_
 rintro e2 w2 ⟨rfl, ac⟩
 have ao := qtr aj ac
 have A2 := A1.below ac
 clear ac A1 q2 x0 x1 x2 x3 x4 x5 x6 x7 x8 x9
 cases h2 : txB s.vs s.tx
 case false =>
  have HR : Hid (storeI s = false) := by simp [Hid, storeI, jmj, h1, h2]
  go_wp2
  go_ret2
  exact ⟨⟨none, by rw [HR.out]; rfl, fun h => by rw [HR.out] at h; cases h⟩, ao⟩
 have q3 := jjb s.vs va s.vs.length cv w2 (HV.out.below ao) (j01 h2) rfl ok.vl
 have x8 := A2.c 8 rfl
 go_wp2_with fail
 refine q3.mono ?_
 rintro e3 w3 iQ
 have av := iQ.bel
 have ay := qtr ao av
 have A3 := A2.below av
 clear av A2 q3 x8
 rcases iQ.end_ with ⟨h3, iV, gY⟩ | ⟨h3, iV⟩
 case inr =>
  subst iV
  clear iQ
  have HR : Hid (storeI s = false) := by simp [Hid, storeI, jmj, h1, h2, h3]
  go_wp2
  go_ret2
  exact ⟨⟨none, by rw [HR.out]; rfl, fun h => by rw [HR.out] at h; cases h⟩, ay⟩
 subst iV
 have KY := ao.size
 clear iQ ao aj ag
 have q4 := jkf s _ (jcs s.vs) (ja1 s.vs) w2.heap.size s.vs.length w3 (hE.of_below ay) (dR.below ay) ok gY (jf6 s.vs) (jl3 s.vs.length) ok.vl qL dA
 obtain ⟨x0, x1, x2, x3, x4, x5, x6, x7, x8, x9⟩ := A3.ten
 go_wp2_with fail
 refine q4.mono ?_
 rintro e4 w4 ⟨rfl, aD⟩
 have lz := gY.below aD
 have aS := qtr ay aD
 have A4 := A3.below aD
 clear aD A3 q4 gY x0 x1 x2 x3 x4 x5 x6 x7 x8 x9
 cases h4 : jp4 s (ja1 s.vs)
 case false =>
  have HR : Hid (storeI s = false) := by simp [Hid, storeI, jmj, h1, h2, h3, h4]
  go_wp2
  go_ret2
  exact ⟨⟨none, by rw [HR.out]; rfl, fun h => by rw [HR.out] at h; cases h⟩, aS⟩
 have HR : Hid (storeI s = eqX s.ix (entF (momB s) (ja1 s.vs))) := by simp only [Hid, storeI, jmj, h1, h2, h3, h4, Bool.true_and]
 have Ck : (ja1 s.vs).length <= 30 := by
  unfold jp4 at h4
  rw [bat] at h4
  exact odt h4.1
 clear h1 h2 h3 h4
 generalize vm : w2.heap.size = lb at *
 clear vm
 have wV := jac w4
 have bQ : Bw w w4.drew := qtr aS wV
 have sk := lz.below wV
 have A5 := A4.below wV
 obtain ⟨z0, z1, z2, z3, z4, z5, z6, z7, z8, z9⟩ := A5.ten
 have xV := jqw s _ w4.drew (dR.below bQ) ok
 have iU := fun (r : RelD) a b c ca cb cc W => jmf r a b c ca cb cc W
 have EI := hid sk
 have lO := hid bQ
 have yy := hid A5
 clear lz sk aS bQ A4 A5 wV ay
 go_wp2_with fail
 go_region_held3 (fun w' => w'.cell? (ad w.heap.size 0) = some (iv s.tx) /\ w'.cell? (ad w.heap.size 1) = some (.slice a s.now.rules.length ca) /\ w'.cell? (ad w.heap.size 2) = some (.slice b s.now.zones.length cb) /\ w'.cell? (ad w.heap.size 3) = some (.slice c s.now.links.length cc) /\ w'.cell? (ad w.heap.size 4) = some (.slice d s.was.rules.length cd) /\ w'.cell? (ad w.heap.size 5) = some (.slice e s.was.zones.length ce) /\ w'.cell? (ad w.heap.size 6) = some (.slice f s.was.links.length cf) /\ w'.cell? (ad w.heap.size 7) = some (iv s.cur) /\ w'.cell? (ad w.heap.size 8) = some (.slice va s.vs.length cv) /\ w'.cell? (ad w.heap.size 9) = some (.slice ia s.ix.length ci)) (go_keep) (first | (go_at_call 64; refine xV.mono ?_; rintro q w5 jP; obtain ⟨a1, n1, c1, a2, n2, c2, a3, n3, c3, a4, n4, c4, a5, n5, c5, a6, n6, c6, a8, n8, c8, a9, n9, c9, Lg, rfl, vH⟩ := jP.ex; subst Lg; have ES : Hid (Za w5 a8 8 (s.vs.map VersionD.cs) /\ s.vs.length <= c8) := vH; clear vH; have aW := jP.bel; clear jP; obtain ⟨Nc, Nd, Nf, Ng, Nh, Ni, Nj, Nk, Nl, Nm⟩ := (yy.out.below aW).ten) | (go_at_call 65; have GW := hb6; refine (iU s.was d e f cd ce cf _).mono ?_; rintro q w7 fi; have yh := fi.ex; subst yh; have BX := fi.cache; have aC := fi.bel; clear fi; obtain ⟨MS, MT, MU, MV, MX, MY, MZ, N7, N8, Hv⟩ := (((yy.out.below aW).below hb6).below aC).ten) | (go_at_call 65; refine (iU s.now a b c ca cb cc _).mono ?_; rintro q w6 i6; have Lh := i6.ex; subst Lh; have qu := i6.cache; have hb6 := i6.bel; clear i6; obtain ⟨Dt, Dx, Dz, DB, DD, DF, DH, DI, DJ, DK⟩ := ((yy.out.below aW).below hb6).ten))
 all_goals
  have bQ := qtr lO.out aW
  have Fb := (brf w5.heap.size w5).trans (hb6.mono (nlr _))
  have Fc := qtr Fb aC
  have b8 := qal w7 (.cells #[iv s.tx, .slice a1 n1 c1, .slice a2 n2 c2, .slice a3 n3 c3, .slice a4 n4 c4, .slice a5 n5 c5, .slice a6 n6 c6, iv s.cur, .slice a8 s.vs.length c8, .slice a9 n9 c9, .map (some lb), .slice a s.now.rules.length ca, .slice b s.now.zones.length cb, .slice c s.now.links.length cc, .map (some (w5.heap.size + 1 + 1)), .slice d s.was.rules.length cd, .slice e s.was.zones.length ce, .slice f s.was.links.length cf, .map (some (w6.heap.size + 1 + 1))] 75)
  have Fd := qtr Fc b8
  have l5 := aW.size
  have l6 := hb6.size
  have l7 := aC.size
  have ln := qu.lt
  have lw := BX.lt
  have ll := EI.out.lt
  have K8 := Ze.new w7 [iv s.tx, .slice a1 n1 c1, .slice a2 n2 c2, .slice a3 n3 c3, .slice a4 n4 c4, .slice a5 n5 c5, .slice a6 n6 c6, iv s.cur, .slice a8 s.vs.length c8, .slice a9 n9 c9, .map (some lb), .slice a s.now.rules.length ca, .slice b s.now.zones.length cb, .slice c s.now.links.length cc, .map (some (w5.heap.size + 1 + 1)), .slice d s.was.rules.length cd, .slice e s.was.zones.length ce, .slice f s.was.links.length cf, .map (some (w6.heap.size + 1 + 1))] 75
  have Fz : Zq [(0, iv s.tx), (8, .slice a8 s.vs.length c8)] w5 _ s w7.heap.size lb (w5.heap.size + 1 + 1) (w6.heap.size + 1 + 1) 0 0 a b c d e f ca cb cc cd ce cf := ⟨Fd, K8.c 7 rfl, K8.c 10 rfl, K8.c 11 rfl, K8.c 12 rfl, K8.c 13 rfl, K8.c 14 rfl, K8.c 15 rfl, K8.c 16 rfl, K8.c 17 rfl, K8.c 18 rfl, (qu.below aC).below b8, BX.below b8, by omega, by omega, by omega, fun p hp => by simp at hp; rcases hp with rfl | rfl; exact K8.c 0 rfl; exact K8.c 8 rfl⟩
  have sl := (((EI.out.below aW).below hb6).below aC).below b8
  have FB := hE.of_below bQ
  have uF := HN.out.below bQ
  have xP := HW.out.below bQ
  have md := jhm hS w5 s w7.heap.size lb (w5.heap.size + 1 + 1) (w6.heap.size + 1 + 1) s.vs.length a b c d e f ca cb cc cd ce cf (jcs s.vs) (ja1 s.vs) _ FB uF xP ok.now ok.was qL dA (Fz.below (jac _)) (by omega) (by omega) (sl.below (jac _)) (jf6 s.vs) (jl3 s.vs.length) (by omega)
  have x9 := jaa (jac _) (jaa b8 Hv)
  have IM : Hid (Za w5 ia 2 (s.ix.map EntryD.cs)) := HX.out.below bQ
  have Ib := hid bQ
  have jo : (entF (momB s) (ja1 s.vs)).length <= 30 := Nat.le_trans (jmn _ _) Ck
  have dk := ok.xl
  obtain ⟨X, lD⟩ := qeb (entF (momB s) (ja1 s.vs))
  rw [lD] at md jo
  have lj : Hid (storeI s = eqX s.ix X) := by simp only [Hid]; rw [<- lD]; exact HR.out
  obtain ⟨tb, gG⟩ := qeb (eqX s.ix X)
  have Iz : Hid (storeI s = tb) := by simp only [Hid]; rw [lj.out]; exact gG
  have FY := fun px cx W (h : Za W ia 2 (s.ix.map EntryD.cs)) (h2 : Za W px 2 (X.map EntryD.cs)) => jhe s.ix X ia px s.ix.length X.length ci cx W h h2 rfl rfl dk (by omega)
  rw [gG] at FY
  clear HR lj lD gG bQ Fb Fc b8 Fd K8 Fz sl FB uF xP qu BX aW hb6 aC iU xV Nc Dt MS z0 Nd Dx MT z1 Nf Dz MU z2 Ng DB MV z3 Nh DD MX z4 Ni DF MY z5 Nj DH MZ z6 Nk DI N7 z7 Nl DJ N8 z8 DK Hv z9
  go_wp2_with fail
  go_region_held3 (fun w' => w'.cell? (ad w.heap.size 9) = some (.slice ia s.ix.length ci)) (go_keep) (first | (go_at_call 67; refine md.mono ?_; rintro q w9 qa; obtain ⟨v9, rfl, eF⟩ := qa.ex; obtain ⟨kk, xG⟩ := qa.inv; have cj := xG.bel; have GC := xG.live; have yZ : Hid (∀ p ∈ [((0 : Nat), iv s.tx), (8, .slice a8 s.vs.length c8)], w9.cell? (ad w7.heap.size p.1) = some p.2) := xG.more; have Ki := qa.live; clear xG qa; have eF := jza eF; obtain ⟨px, cx, GT, vI, _⟩ := jbc eF jao; rw [llm] at GT; subst GT; clear eF; have NB := jaa cj Nm; have BJ := FY px cx w9 (IM.out.below cj) vI; clear vI) | (go_at_call 66; refine BJ.mono ?_; rintro q Np ⟨rfl, ig⟩; have QF := jaa ig NB; have Cj := jaa ig GC; have Bt := Ki.below ig))
  all_goals
   have GD := jaa ig (yZ.out (0, iv s.tx) (by simp))
   have L0 := jaa ig (yZ.out (8, .slice a8 s.vs.length c8) (by simp))
   clear yZ
   have fX := qtr Ib.out cj
   have lY := qtr fX ig
   go_wp2
   go_ret2
   exact ⟨⟨some (ad w7.heap.size 0), by rw [Iz.out]; rfl, fun _ => ⟨_, lb, _, a8, c8, rfl, Cj, Bt, GD, L0, (ES.out.1.below cj).below ig, ES.out.2⟩⟩, lY⟩
end
section
open Go.RowKit Go.Sort Go.Lib
def cfX (x y : EntryD) : Int := orI (cmpI x.at_ y.at_) (cmpI x.id y.id)
theorem ltX (x y : EntryD) : ltOf cfX x y = jba x y := j0n x y
theorem swoX : SWO (ltOf cfX) where
 irrefl x := by rw [ltX]; exact jtq x
 trans x y z h1 h2 := by rw [ltX] at *; exact jir h1 h2
 ntrans x y z h1 h2 := by rw [ltX] at *; exact jnv h1 h2
theorem jq8 [Inhabited EntryD] (blk off size : Nat) (w : World) : CmpLays Tryz.prog 143 #[] EntryD.cs 2 cfX blk off size w := fun _ _ _ _ x y => jq7 x y _
theorem j3d : SortC := ⟨fun P base v w hO hl => by
 haveI : Inhabited EntryD := ⟨⟨0, 0⟩⟩
 rcases hO.2 with ⟨rfl, h0⟩ | ⟨g, cap, cur, rfl, hb, hh, _⟩
 ·have hP : P = [] := List.length_eq_zero_iff.mp h0
  subst hP
  refine (Tryz.sortFunc_none none 0 _ w).mono ?_
  rintro e w' ⟨rfl, rfl⟩
  have h : jha [] = [] := by simp [jha]
  rw [h]
  exact ⟨rfl, hO, ⟨rfl, rfl, rfl, nlr _, fun _ _ _ => rfl⟩⟩
 ·obtain ⟨hH, hlt, _⟩ := j1f (enc := EntryD.cs) (fun _ => rfl) (by decide) hO
  have hC := Tryz.sortFunc_total 2 Tryz.isAgg101 Tryz.sizeOf101 EntryD.cs (fun _ => rfl) (fun x v hv => by simp [EntryD.cs] at hv; rcases hv with rfl | rfl <;> rfl) cfX swoX 143 #[] g 0 cap P.toArray w (fun _ _ => by kernel_rfl) (jq8 g 0 P.toArray.size w) hH hlt (by simp; omega) (fun x y h1 h2 => by rw [ltX] at h1 h2; exact jis h1 h2)
  refine Calls.mono (by simpa using hC) ?_
  rintro e w' ⟨rfl, q, os, rfl⟩
  have hs : (P.toArray.toList.mergeSort fun x y => !(ltOf cfX) y x) = jha P := by
   unfold jha
   congr 1
   funext x y
   rw [ltX]
  rw [hs]
  have h := putG (enc := EntryD.cs) (fun _ => rfl) (by decide) (q := q) (os := os) hO (jvj P)
  exact ⟨rfl, h.1, h.2⟩⟩
end
section
open Go.RowKit
theorem jww (s : StoreD) (v : Value) (w : World) (hE : Zy w) (hv : Je w v s) (ok : Zv s) :
  Cl 43 #[v] w fun e w' => e = .returned (.bool (storeI s)) /\ Bw w w' := by
 have dR := hv
 obtain ⟨a, b, c, d, e, f, va, ia, ca, cb, cc, cd, ce, cf, cv, ci, rfl, _, _, _, _, _, _⟩ := hv.form
 have ag : Bw w (w.alloc (.cells (stA s a b c d e f va ia ca cb cc cd ce cf cv ci).toArray 42)) := qal _ _
 have hO := ji9 j3d s _ _ (hE.of_below ag) (dR.below ag) ok
 clear hv dR hE ok
 go_enter Tryz.func43, Tryz.ntmps43
 go_wp2_with fail
 refine hO.mono ?_
 rintro q w1 hP
 obtain ⟨x, rfl, _⟩ := hP.ex
 have hb1 := hP.bel
 go_wp2
 go_ret
 exact ⟨rfl, (qtr ag hb1)⟩
end
end Go.Proofs.YtgiieknbckhofaaGreatDoor
