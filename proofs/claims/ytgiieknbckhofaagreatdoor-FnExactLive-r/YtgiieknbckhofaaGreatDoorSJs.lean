/- Packed. -/
import Derived.Test.YtgiieknbckhofaaGreatDoorSHs
import Derived.Test.YtgiieknbckhofaaGreatDoorSIs
import Derived.Test.YtgiieknbckhofaaGreatDoorShelfX
set_option maxRecDepth 20000
set_option maxHeartbeats 20000000
set_option linter.unusedSimpArgs false
namespace Go.Proofs.YtgiieknbckhofaaGreatDoor
section
open Go.RowKit Go.ChangeMaps Go.MapKept Go.WideMaps
def jo5 (s : StoreD) : Bool := jlb s && (txB s.vs s.tx && (jds s.vs s.vs.length && jqc s (ja5 s.vs)))
def storeI (s : StoreD) : Bool := jo5 s && eqX s.ix (entF (momB s) (ja5 s.vs))
theorem jza {w : World} {base : Nat} {v : Value} {L : List EntryD} (h : Zl w base v L) : w.ownsRow base 101 2 v (L.map EntryD.cs).length (L.map EntryD.cs).flatten := by rw [llm]; exact h
structure OpenP (s : StoreD) (w : World) (q : Ending) (w' : World) : Prop where
 ex : ∃ x, q = .returned (.tuple #[.pointer x, .bool (storeI s)]) /\ (storeI s = true -> ∃ bb lb n, x = some ⟨bb, 0, none⟩ /\ w'.cell? ⟨bb, 10, none⟩ = some (.map (some lb)) /\ Zj w' lb n (jcr s.vs))
 bel : Bw w w'
theorem jyk {l : List VersionD} {t : Int} (h : txB l t = true) : ∀ v ∈ l, jbn v.ev = true := fun v hv => by
 obtain ⟨k, hk⟩ := lgo hv
 unfold txB at h
 rw [bat] at h
 cases hx : txI l t k v
 ·have := ju1 hk hx (n := l.length) (List.getElem?_eq_some_iff.1 hk).1
  rw [h.2] at this
  cases this
 ·unfold txI at hx
  simp only [bat] at hx
  exact hx.2.2
theorem jrd {e : EventD} (h : jbn e = true) : (1 <= e.id /\ e.id <= 1000000) /\ jaz e.zone = true /\ isB e.wall (-62135596800) 253402300799 = true /\ isB e.gap 0 2 = true /\ isB e.fold 0 2 = true := by
 unfold jbn at h
 simp only [bat] at h
 exact ⟨jax h.1, h.2.2⟩
theorem j28 {l : List VersionD} {t : Int} (h : txB l t = true) : ∀ v ∈ l, 1 <= v.id /\ v.id <= 1000000 := fun v hv => (jrd (jyk h v hv)).1
theorem jjd (hS : SortC) (s : StoreD) (v : Value) (w : World) (hE : Zz w) (hv : Zx w v s) (ok : Zt s) :
  Cl 33 #[v] w (OpenP s w) := by
 have cC := hv
 obtain ⟨a, b, c, d, e, f, va, ia, ca, cb, cc, cd, ce, cf, cv, ci, rfl, hN, hW, hV, hX, _, _⟩ := hv.form
 have ag := qal w (.cells #[iv s.tx, .slice a s.now.rules.length ca, .slice b s.now.zones.length cb, .slice c s.now.links.length cc, .slice d s.was.rules.length cd, .slice e s.was.zones.length ce, .slice f s.was.links.length cf, iv s.cur, .slice va s.vs.length cv, .slice ia s.ix.length ci] 42)
 have A0 := Zg.new w [iv s.tx, .slice a s.now.rules.length ca, .slice b s.now.zones.length cb, .slice c s.now.links.length cc, .slice d s.was.rules.length cd, .slice e s.was.zones.length ce, .slice f s.was.links.length cf, iv s.cur, .slice va s.vs.length cv, .slice ia s.ix.length ci] 42
 have q1 := fun w hE h => jji s (.agg #[iv s.tx, .slice a s.now.rules.length ca, .slice b s.now.zones.length cb, .slice c s.now.links.length cc, .slice d s.was.rules.length cd, .slice e s.was.zones.length ce, .slice f s.was.links.length cf, iv s.cur, .slice va s.vs.length cv, .slice ia s.ix.length ci]) w hE h ok
 have q2 := fun w h => jfv s.vs s.tx s.cur a b c d e f va ia s.now.rules.length ca s.now.zones.length cb s.now.links.length cc s.was.rules.length cd s.was.zones.length ce s.was.links.length cf s.vs.length cv s.ix.length ci w h ok.vs rfl ok.vl
 skip
 have HV := hid hV
 have HX := hid hX
 have HN := hid hN
 have HW := hid hW
 clear hV hX hN hW hv
 obtain ⟨x0, x1, x2, x3, x4, x5, x6, x7, x8, x9⟩ := A0.ten
 go_enter Tryz.func33, Tryz.ntmps33
 go_wp2_with fail
 refine (q1 _ (hE.of_below ag) (cC.below ag)).mono ?_
 rintro e1 w1 ⟨rfl, hb1⟩
 have aj := qtr ag hb1
 have A1 := A0.below hb1
 clear hb1 A0 q1 x0 x1 x2 x3 x4 x5 x6 x7 x8 x9
 cases h1 : jlb s
 case false =>
  have HR : Hid (storeI s = false) := by simp [Hid, storeI, jo5, h1]
  go_wp2
  go_ret2
  exact ⟨⟨none, by rw [HR.out]; rfl, fun h => by rw [HR.out] at h; cases h⟩, aj⟩
 have hr : relB s.now = true /\ relB s.was = true := by
  unfold jlb at h1
  simp only [bat] at h1
  exact h1.2
 obtain ⟨rt, dE⟩ := hr
 obtain ⟨x0, x1, x2, x3, x4, x5, x6, x7, x8, x9⟩ := A1.ten
 go_wp2_with fail
 refine (q2 _ (HV.out.below aj)).mono ?_
 rintro e2 w2 ⟨rfl, ac⟩
 have an := qtr aj ac
 have A2 := A1.below ac
 clear ac A1 q2 x0 x1 x2 x3 x4 x5 x6 x7 x8 x9
 cases h2 : txB s.vs s.tx
 case false =>
  have HR : Hid (storeI s = false) := by simp [Hid, storeI, jo5, h1, h2]
  go_wp2
  go_ret2
  exact ⟨⟨none, by rw [HR.out]; rfl, fun h => by rw [HR.out] at h; cases h⟩, an⟩
 have q3 := jq0 s.vs va s.vs.length cv w2 (HV.out.below an) (j28 h2) rfl ok.vl
 have x8 := A2.c 8 rfl
 go_wp2_with fail
 refine q3.mono ?_
 rintro e3 w3 j8
 have ar := j8.bel
 have ay := qtr an ar
 have A3 := A2.below ar
 clear ar A2 q3 x8
 rcases j8.end_ with ⟨h3, jd, fo⟩ | ⟨h3, jd⟩
 case inr =>
  subst jd
  clear j8
  have HR : Hid (storeI s = false) := by simp [Hid, storeI, jo5, h1, h2, h3]
  go_wp2
  go_ret2
  exact ⟨⟨none, by rw [HR.out]; rfl, fun h => by rw [HR.out] at h; cases h⟩, ay⟩
 subst jd
 have LA := an.size
 clear j8 an aj ag
 have q4 := jki s _ (jcr s.vs) (ja5 s.vs) w2.heap.size s.vs.length w3 (hE.of_below ay) (cC.below ay) ok fo (jf9 s.vs) (jl9 s.vs.length) ok.vl rt dE
 obtain ⟨x0, x1, x2, x3, x4, x5, x6, x7, x8, x9⟩ := A3.ten
 go_wp2_with fail
 refine q4.mono ?_
 rintro e4 w4 ⟨rfl, az⟩
 have j4 := fo.below az
 have aR := qtr ay az
 have A4 := A3.below az
 clear az A3 q4 fo x0 x1 x2 x3 x4 x5 x6 x7 x8 x9
 cases h4 : jqc s (ja5 s.vs)
 case false =>
  have HR : Hid (storeI s = false) := by simp [Hid, storeI, jo5, h1, h2, h3, h4]
  go_wp2
  go_ret2
  exact ⟨⟨none, by rw [HR.out]; rfl, fun h => by rw [HR.out] at h; cases h⟩, aR⟩
 have HR : Hid (storeI s = eqX s.ix (entF (momB s) (ja5 s.vs))) := by simp only [Hid, storeI, jo5, h1, h2, h3, h4, Bool.true_and]
 have D8 : (ja5 s.vs).length <= 30 := by
  unfold jqc at h4
  rw [bat] at h4
  exact odt h4.1
 clear h1 h2 h3 h4
 generalize wk : w2.heap.size = lb at *
 clear wk
 have yq := jab w4
 have bG : Bw w w4.drew := qtr aR yq
 have sT := j4.below yq
 have A5 := A4.below yq
 obtain ⟨z0, z1, z2, z3, z4, z5, z6, z7, z8, z9⟩ := A5.ten
 have yX := jq5 s _ w4.drew (cC.below bG) ok
 have jc := fun (r : RelD) a b c ca cb cc W => jml r a b c ca cb cc W
 have Fl := hid sT
 have mG := hid bG
 have Oy := hid A5
 clear j4 sT aR bG A4 A5 yq ay
 go_wp2_with fail
 go_region_held3 (fun w' => w'.cell? ⟨w.heap.size, 0, none⟩ = some (iv s.tx) /\ w'.cell? ⟨w.heap.size, 1, none⟩ = some (.slice a s.now.rules.length ca) /\ w'.cell? ⟨w.heap.size, 2, none⟩ = some (.slice b s.now.zones.length cb) /\ w'.cell? ⟨w.heap.size, 3, none⟩ = some (.slice c s.now.links.length cc) /\ w'.cell? ⟨w.heap.size, 4, none⟩ = some (.slice d s.was.rules.length cd) /\ w'.cell? ⟨w.heap.size, 5, none⟩ = some (.slice e s.was.zones.length ce) /\ w'.cell? ⟨w.heap.size, 6, none⟩ = some (.slice f s.was.links.length cf) /\ w'.cell? ⟨w.heap.size, 7, none⟩ = some (iv s.cur) /\ w'.cell? ⟨w.heap.size, 8, none⟩ = some (.slice va s.vs.length cv) /\ w'.cell? ⟨w.heap.size, 9, none⟩ = some (.slice ia s.ix.length ci)) (go_keep) (first | (go_at_call 64; refine yX.mono ?_; rintro q w5 k8; obtain ⟨a1, n1, c1, a2, n2, c2, a3, n3, c3, a4, n4, c4, a5, n5, c5, a6, n6, c6, a8, n8, c8, a9, n9, c9, LQ⟩ := k8.ex; subst LQ; have aV := k8.bel; clear k8; have Ib := jaa aV z0; have Ic := jaa aV z1; have Ie := jaa aV z2; have If := jaa aV z3; have Ig := jaa aV z4; have Ih := jaa aV z5; have Ii := jaa aV z6; have Ij := jaa aV z7; have Ik := jaa aV z8; have Il := jaa aV z9) | (go_at_call 65; have zp := hb6; refine (jc s.was d e f cd ce cf _).mono ?_; rintro q w7 fp; have zk := fp.ex; subst zk; have CN := fp.cache; have ax := fp.bel; clear fp; have MZ := jaa ax tO; have N7 := jaa ax tP; have N8 := jaa ax tQ; have N9 := jaa ax tR; have Nb := jaa ax tS; have Nc := jaa ax tT; have Nd := jaa ax tU; have Nf := jaa ax tV; have Ng := jaa ax tW; have I7 := jaa ax tX) | (go_at_call 65; refine (jc s.now a b c ca cb cc _).mono ?_; rintro q w6 il; have LR := il.ex; subst LR; have qW := il.cache; have hb6 := il.bel; clear il; have tO := jaa hb6 Ib; have tP := jaa hb6 Ic; have tQ := jaa hb6 Ie; have tR := jaa hb6 If; have tS := jaa hb6 Ig; have tT := jaa hb6 Ih; have tU := jaa hb6 Ii; have tV := jaa hb6 Ij; have tW := jaa hb6 Ik; have tX := jaa hb6 Il))
 all_goals
  have bG := qtr mG.out aV
  have FA := (brf w5.heap.size w5).trans (hb6.mono (nlr _))
  have FB := qtr FA ax
  have b8 := qal w7 (.cells #[iv s.tx, .slice a1 n1 c1, .slice a2 n2 c2, .slice a3 n3 c3, .slice a4 n4 c4, .slice a5 n5 c5, .slice a6 n6 c6, iv s.cur, .slice a8 n8 c8, .slice a9 n9 c9, .map (some lb), .slice a s.now.rules.length ca, .slice b s.now.zones.length cb, .slice c s.now.links.length cc, .map (some (w5.heap.size + 1 + 1)), .slice d s.was.rules.length cd, .slice e s.was.zones.length ce, .slice f s.was.links.length cf, .map (some (w6.heap.size + 1 + 1))] 75)
  have FC := qtr FB b8
  have l5 := aV.size
  have l6 := hb6.size
  have l7 := ax.size
  have ln := qW.lt
  have lw := CN.lt
  have ll := Fl.out.lt
  have K8 := Zg.new w7 [iv s.tx, .slice a1 n1 c1, .slice a2 n2 c2, .slice a3 n3 c3, .slice a4 n4 c4, .slice a5 n5 c5, .slice a6 n6 c6, iv s.cur, .slice a8 n8 c8, .slice a9 n9 c9, .map (some lb), .slice a s.now.rules.length ca, .slice b s.now.zones.length cb, .slice c s.now.links.length cc, .map (some (w5.heap.size + 1 + 1)), .slice d s.was.rules.length cd, .slice e s.was.zones.length ce, .slice f s.was.links.length cf, .map (some (w6.heap.size + 1 + 1))] 75
  have FX : Zq w5 _ s w7.heap.size lb (w5.heap.size + 1 + 1) (w6.heap.size + 1 + 1) 0 0 a b c d e f ca cb cc cd ce cf := ⟨FC, K8.c 7 rfl, K8.c 10 rfl, K8.c 11 rfl, K8.c 12 rfl, K8.c 13 rfl, K8.c 14 rfl, K8.c 15 rfl, K8.c 16 rfl, K8.c 17 rfl, K8.c 18 rfl, (qW.below ax).below b8, CN.below b8, by omega, by omega, by omega⟩
  have sU := (((Fl.out.below aV).below hb6).below ax).below b8
  have G0 := hE.of_below bG
  have vD := HN.out.below bG
  have yR := HW.out.below bG
  have mV := jhs hS w5 s w7.heap.size lb (w5.heap.size + 1 + 1) (w6.heap.size + 1 + 1) s.vs.length a b c d e f ca cb cc cd ce cf (jcr s.vs) (ja5 s.vs) _ G0 vD yR ok.now ok.was rt dE (FX.below (jab _)) (by omega) (by omega) (sU.below (jab _)) (jf9 s.vs) (jl9 s.vs.length) (by omega)
  have x9 := jaa (jab _) (jaa b8 I7)
  have Jw : Hid (Za w5 ia 2 (s.ix.map EntryD.cs)) := HX.out.below bG
  have IA := hid bG
  have jC : (entF (momB s) (ja5 s.vs)).length <= 30 := Nat.le_trans (jms _ _) D8
  have dl := ok.xl
  obtain ⟨X, mr⟩ := qeb (entF (momB s) (ja5 s.vs))
  rw [mr] at mV jC
  have m9 : Hid (storeI s = eqX s.ix X) := by simp only [Hid]; rw [<- mr]; exact HR.out
  obtain ⟨tb, fU⟩ := qeb (eqX s.ix X)
  have IY : Hid (storeI s = tb) := by simp only [Hid]; rw [m9.out]; exact fU
  have Gk := fun px cx W (h : Za W ia 2 (s.ix.map EntryD.cs)) (h2 : Za W px 2 (X.map EntryD.cs)) => jhk s.ix X ia px s.ix.length X.length ci cx W h h2 rfl rfl dl (by omega)
  rw [fU] at Gk
  clear HR m9 mr fU bG FA FB b8 FC K8 FX sU G0 vD yR qW CN aV hb6 ax jc yX Ib tO MZ z0 Ic tP N7 z1 Ie tQ N8 z2 If tR N9 z3 Ig tS Nb z4 Ih tT Nc z5 Ii tU Nd z6 Ij tV Nf z7 Ik tW Ng z8 tX I7 z9
  go_wp2_with fail
  go_region_held3 (fun w' => w'.cell? ⟨w.heap.size, 9, none⟩ = some (.slice ia s.ix.length ci)) (go_keep) (first | (go_at_call 67; refine mV.mono ?_; rintro q w9 qC; obtain ⟨v9, rfl, eN⟩ := qC.ex; obtain ⟨kk, Cm⟩ := qC.inv; have aT := Cm.bel; have GR := Cm.live; have KX := qC.live; clear Cm qC; have eN := jza eN; obtain ⟨px, cx, Hf, pG, _⟩ := jbd eN jan; rw [llm] at Hf; subst Hf; clear eN; have NE := jaa aT Il; have CA := Gk px cx w9 (Jw.out.below aT) pG; clear pG) | (go_at_call 66; refine CA.mono ?_; rintro q In ⟨rfl, nk⟩; have Qh := jaa nk NE; have D7 := jaa nk GR; have Cq := KX.below nk))
  all_goals
   have eU := qtr IA.out aT
   have ib := qtr eU nk
   go_wp2
   go_ret2
   exact ⟨⟨some ⟨w7.heap.size, 0, none⟩, by rw [IY.out]; rfl, fun _ => ⟨_, lb, _, rfl, D7, Cq⟩⟩, ib⟩
end
section
open Go.RowKit Go.Sort Go.Lib
def cfX (x y : EntryD) : Int := orI (cmpI x.at_ y.at_) (cmpI x.id y.id)
theorem ltX (x y : EntryD) : ltOf cfX x y = jbb x y := j0o x y
theorem swoX : SWO (ltOf cfX) where
 irrefl x := by rw [ltX]; exact jtx x
 trans x y z h1 h2 := by rw [ltX] at *; exact jiw h1 h2
 ntrans x y z h1 h2 := by rw [ltX] at *; exact jn3 h1 h2
theorem jrg [Inhabited EntryD] (blk off size : Nat) (w : World) : CmpLays Tryz.prog 143 #[] EntryD.cs 2 cfX blk off size w := fun _ _ _ _ x y => jrf x y _
theorem j3e : SortC := ⟨fun P base v w hO hl => by
 haveI : Inhabited EntryD := ⟨⟨0, 0⟩⟩
 rcases hO.2 with ⟨rfl, h0⟩ | ⟨g, cap, cur, rfl, hb, hh, _⟩
 ·have hP : P = [] := List.length_eq_zero_iff.mp h0
  subst hP
  refine (Tryz.sortFunc_none none 0 _ w).mono ?_
  rintro e w' ⟨rfl, rfl⟩
  have h : jhh [] = [] := by simp [jhh]
  rw [h]
  exact ⟨rfl, hO, ⟨rfl, rfl, rfl, nlr _, fun _ _ _ => rfl⟩⟩
 ·obtain ⟨hH, hlt, _⟩ := j1f (enc := EntryD.cs) (fun _ => rfl) (by decide) hO
  have hC := Tryz.sortFunc_total 2 Tryz.isAgg101 Tryz.sizeOf101 EntryD.cs (fun _ => rfl) (fun x v hv => by simp [EntryD.cs] at hv; rcases hv with rfl | rfl <;> rfl) cfX swoX 143 #[] g 0 cap P.toArray w (fun _ _ => by kernel_rfl) (jrg g 0 P.toArray.size w) hH hlt (by simp; omega) (fun x y h1 h2 => by rw [ltX] at h1 h2; exact jix h1 h2)
  refine Calls.mono (by simpa using hC) ?_
  rintro e w' ⟨rfl, q, os, rfl⟩
  have hs : (P.toArray.toList.mergeSort fun x y => !(ltOf cfX) y x) = jhh P := by
   unfold jhh
   congr 1
   funext x y
   rw [ltX]
  rw [hs]
  have h := putG (enc := EntryD.cs) (fun _ => rfl) (by decide) (q := q) (os := os) hO (jvn P)
  exact ⟨rfl, h.1, h.2⟩⟩
end
section
open Go.RowKit
theorem jjo (s : StoreD) (v : Value) (w : World) (hE : Zz w) (hv : Zx w v s) (ok : Zt s) :
  Cl 43 #[v] w fun e w' => e = .returned (.bool (storeI s)) /\ Bw w w' := by
 have cC := hv
 obtain ⟨a, b, c, d, e, f, va, ia, ca, cb, cc, cd, ce, cf, cv, ci, rfl, _, _, _, _, _, _⟩ := hv.form
 have ag : Bw w (w.alloc (.cells #[iv s.tx, .slice a s.now.rules.length ca, .slice b s.now.zones.length cb, .slice c s.now.links.length cc, .slice d s.was.rules.length cd, .slice e s.was.zones.length ce, .slice f s.was.links.length cf, iv s.cur, .slice va s.vs.length cv, .slice ia s.ix.length ci] 42)) := qal _ _
 have hO := jjd j3e s _ _ (hE.of_below ag) (cC.below ag) ok
 clear hv cC hE ok
 go_enter Tryz.func43, Tryz.ntmps43
 go_wp2_with fail
 refine hO.mono ?_
 rintro q w1 hP
 obtain ⟨x, rfl, _⟩ := hP.ex
 have hb1 := hP.bel
 go_wp2
 go_ret
 exact ⟨rfl, (qtr ag hb1)⟩
end
end Go.Proofs.YtgiieknbckhofaaGreatDoor
