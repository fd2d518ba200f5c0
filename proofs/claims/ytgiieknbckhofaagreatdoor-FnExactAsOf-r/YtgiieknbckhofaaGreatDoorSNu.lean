/- Packed. -/
import Derived.Test.YtgiieknbckhofaaGreatDoorSMu
import Derived.Test.YtgiieknbckhofaaGreatDoorSJu
set_option maxHeartbeats 20000000
set_option linter.unusedSimpArgs false
namespace Go.Proofs.YtgiieknbckhofaaGreatDoor
section
open Go.RowKit
theorem jvq {w : World} {base : Nat} {v : Value} {L : List EntryD} (h : Zl w base v L) : w.ownsRow base 101 2 v (L.map EntryD.cs).length (L.map EntryD.cs).flatten := by rw [llm]; exact h
def storeS (s : StoreD) : Bool := relB s.now && (relB s.was && (isB s.tx 0 900000 && (verB s.vs s.tx && (isB s.cur 0 1000001 && ((!decide (s.cur = 0) || jlz s.was) && (decide ((ja1 s.vs).length <= 30) && ((ja1 s.vs).all (fun x => je3 s x.zone) && eqX (entF (momS s) (ja1 s.vs)) s.ix)))))))
theorem jwe {l : List VersionD} {e : EventD} (h : e ∈ ja1 l) : ∃ v ∈ l, e = v.ev := by
 have h := liveL_mem.mp h
 unfold jcs at h
 cases hk : jcl l e.id with
 | none => rw [hk] at h; cases h
 | some k =>
  obtain ⟨_, ⟨v, hv, _⟩, _⟩ := jdg hk
  rw [hk] at h
  simp only [hv] at h
  split at h
  ·cases h
  ·cases h; exact ⟨v, lmg hv, rfl⟩
theorem jm3 {l : List VersionD} {t : Int} (h : verB l t = true) : ∀ v ∈ l, jbm v.ev = true := fun v hv => by
 rw [jlg, bat] at h
 have h := h.1
 obtain ⟨k, hk⟩ := lgo hv
 unfold txB at h
 rw [bat] at h
 cases hx : txI l t k v
 ·have := jux hk hx (n := l.length) (List.getElem?_eq_some_iff.1 hk).1
  rw [h.2] at this
  cases this
 ·unfold txI at hx
  simp only [bat] at hx
  exact hx.2.2
theorem jsg {e : EventD} (h : jbm e = true) : EvR e := by
 unfold jbm at h
 simp only [bat] at h
 obtain ⟨_, _, h3, h4, h5, h6⟩ := h
 have n := (jf4 h3).2.1
 have a := jaw h4
 have b := jaw h5
 have c := jaw h6
 exact ⟨by omega, a.1, a.2, b.1, b.2, c.1, c.2⟩
theorem j1l {l : List VersionD} {t : Int} (h : verB l t = true) : l.length <= 60 := by
 rw [jlg, bat] at h
 have h := h.1
 unfold txB at h
 rw [bat] at h
 exact odt h.1
set_option maxRecDepth 20000 in
theorem jh9 (s : StoreD) (v : Value) (w : World) (hv : Je w v s) (ok : Zv s) :
  Cl 28 #[v] w fun q w' => q = .returned (.bool (storeS s)) /\ Bw w w' := by
 have dR := hv
 obtain ⟨a, b, c, d, e, f, va, ia, ca, cb, cc, cd, ce, cf, cv, ci, rfl, hN, hW, hV, hX, lE, _⟩ := hv.form
 have ag := qal w (.cells (stA s a b c d e f va ia ca cb cc cd ce cf cv ci).toArray 42)
 have A0 := Ze.new w (stA s a b c d e f va ia ca cb cc cd ce cf cv ci) 42
 have q1 := fun w (h : Zd w (.agg #[.slice a s.now.rules.length ca, .slice b s.now.zones.length cb, .slice c s.now.links.length cc]) s.now) => jdb s.now _ w h ok.now.ok ok.now.sm ok.now.on
 have q2 := fun w (h : Zd w (.agg #[.slice d s.was.rules.length cd, .slice e s.was.zones.length ce, .slice f s.was.links.length cf]) s.was) => jdb s.was _ w h ok.was.ok ok.was.sm ok.was.on
 have q3 := fun w => jau s.tx 0 900000 w
 have q4 := fun w h => jg8 s.vs s.tx s.cur a b c d e f va ia s.now.rules.length ca s.now.zones.length cb s.now.links.length cc s.was.rules.length cd s.was.zones.length ce s.was.links.length cf s.vs.length cv s.ix.length ci w h ok.vs rfl ok.vl lE
 have q5 := fun w => jau s.cur 0 1000001 w
 have q6 := fun w (h : Zd w (.agg #[.slice d s.was.rules.length cd, .slice e s.was.zones.length ce, .slice f s.was.links.length cf]) s.was) => jh4 s.was _ w h ok.was.sm
 have HV := hid hV
 have HX := hid hX
 have HN := hid hN
 have HW := hid hW
 have EV := hid dR
 clear hV hX hN hW hv dR
 have x1 := A0.c 1 rfl
 have x2 := A0.c 2 rfl
 have x3 := A0.c 3 rfl
 go_enter Tryz.func28, Tryz.ntmps28
 go_upto_region 1 with fail
 go_cut [44] from 7 to 43 (fun MN wx => ∃ tD : Bool, MN = .bool tD /\ Hid (Ze wx w.heap.size (stL s a b c d e f va ia ca cb cc cd ce cf cv ci)) /\ Hid (Bw w wx) /\ Hid (tD = true -> storeS s = false) /\ Hid (tD = false -> storeS s = (decide ((ja1 s.vs).length <= 30) && ((ja1 s.vs).all (fun x => je3 s x.zone) && eqX (entF (momS s) (ja1 s.vs)) s.ix)) /\ relB s.now = true /\ relB s.was = true /\ verB s.vs s.tx = true))
 case first =>
  go_wp2_with fail
  refine (q1 _ (HN.out.below ag)).mono ?_
  rintro e1 w1 ⟨rfl, hb1⟩
  have aj := qtr ag hb1
  have A1 := A0.below hb1
  clear x1 x2 x3 hb1 A0 ag q1
  cases h1 : relB s.now
  ·have HR : Hid (storeS s = false) := by simp only [Hid, storeS, h1, Bool.false_and, Bool.and_false]
   clear h1
   go_wp2
   go_meet
   exact ⟨true, rfl, A1, aj, fun _ => HR.out, fun h => by cases h⟩
  have x4 := A1.c 4 rfl
  have x5 := A1.c 5 rfl
  have x6 := A1.c 6 rfl
  go_wp2_with fail
  refine (q2 _ (HW.out.below aj)).mono ?_
  rintro e2 w2 ⟨rfl, ac⟩
  have ao := qtr aj ac
  have A2 := A1.below ac
  clear x4 x5 x6 ac A1 aj q2
  cases h2 : relB s.was
  ·have HR : Hid (storeS s = false) := by simp only [Hid, storeS, h1, h2, Bool.false_and, Bool.and_false]
   clear h1 h2
   go_wp2
   go_meet
   exact ⟨true, rfl, A2, ao, fun _ => HR.out, fun h => by cases h⟩
  have x0 := A2.c 0 rfl
  go_wp2_with fail
  refine (q3 _).mono ?_
  rintro e3 w3 ⟨rfl, gH⟩
  have av : Bw w2 w3 := by rw [gH]; exact brf _ _
  clear gH
  have ay := qtr ao av
  have A3 := A2.below av
  clear x0 av A2 ao q3
  cases h3 : isB s.tx 0 900000
  ·have HR : Hid (storeS s = false) := by simp only [Hid, storeS, h1, h2, h3, Bool.false_and, Bool.and_false]
   clear h1 h2 h3
   go_wp2
   go_meet
   exact ⟨true, rfl, A3, ay, fun _ => HR.out, fun h => by cases h⟩
  obtain ⟨x0, x1, x2, x3, x4, x5, x6, x7, x8, x9⟩ := A3.ten
  go_wp2_with fail
  refine (q4 _ (HV.out.below ay)).mono ?_
  rintro e4 w4 ⟨rfl, aD⟩
  have aS := qtr ay aD
  have A4 := A3.below aD
  clear x0 x1 x2 x3 x4 x5 x6 x7 x8 x9 aD A3 ay q4
  cases h4 : verB s.vs s.tx
  ·have HR : Hid (storeS s = false) := by simp only [Hid, storeS, h1, h2, h3, h4, Bool.false_and, Bool.and_false]
   clear h1 h2 h3 h4
   go_wp2
   go_meet
   exact ⟨true, rfl, A4, aS, fun _ => HR.out, fun h => by cases h⟩
  have x7 := A4.c 7 rfl
  go_wp2_with fail
  refine (q5 _).mono ?_
  rintro e5 w5 ⟨rfl, oQ⟩
  have aW : Bw w4 w5 := by rw [oQ]; exact brf _ _
  clear oQ
  have bQ := qtr aS aW
  have A5 := A4.below aW
  clear x7 aW A4 aS q5
  cases h5 : isB s.cur 0 1000001
  ·have HR : Hid (storeS s = false) := by simp only [Hid, storeS, h1, h2, h3, h4, h5, Bool.false_and, Bool.and_false]
   clear h1 h2 h3 h4 h5
   go_wp2
   go_meet
   exact ⟨true, rfl, A5, bQ, fun _ => HR.out, fun h => by cases h⟩
  have x7 := A5.c 7 rfl
  have x4 := A5.c 4 rfl
  have x5 := A5.c 5 rfl
  have x6 := A5.c 6 rfl
  by_cases h6 : s.cur = 0
  ·have K6 : (s.cur == 0) = true := by simp [h6]
   have H6 := hid h6
   clear h6
   go_wp2_with fail
   refine (q6 _ (HW.out.below bQ)).mono ?_
   rintro e6 w6 ⟨rfl, hb6⟩
   have cG := qtr bQ hb6
   have A6 := A5.below hb6
   clear x7 x4 x5 x6 hb6 A5 bQ q6
   cases h7 : jlz s.was
   ·have HR : Hid (storeS s = false) := by simp only [Hid, storeS, h1, h2, h3, h4, h5, dte H6.out, h7, Bool.not_true, Bool.or_false, Bool.false_and, Bool.and_false]
    clear h1 h2 h3 h4 h5 h7
    go_wp2
    go_meet
    exact ⟨true, rfl, A6, cG, fun _ => HR.out, fun h => by cases h⟩
   have H7 : Hid (storeS s = (decide ((ja1 s.vs).length <= 30) && ((ja1 s.vs).all (fun x => je3 s x.zone) && eqX (entF (momS s) (ja1 s.vs)) s.ix))) := by simp only [Hid, storeS, h1, h2, h3, h4, h5, dte H6.out, h7, Bool.not_true, Bool.or_true, Bool.true_and]
   go_wp2
   go_meet
   exact ⟨false, rfl, A6, cG, fun h => by (cases h), fun _ => ⟨H7.out, h1, h2, h4⟩⟩
  ·have K6 : (s.cur == 0) = false := by simp [h6]
   have H7 : Hid (storeS s = (decide ((ja1 s.vs).length <= 30) && ((ja1 s.vs).all (fun x => je3 s x.zone) && eqX (entF (momS s) (ja1 s.vs)) s.ix))) := by simp only [Hid, storeS, h1, h2, h3, h4, h5, dfe h6, Bool.not_false, Bool.true_or, Bool.true_and]
   go_wp2
   go_meet
   exact ⟨false, rfl, A5, bQ, fun h => by (cases h), fun _ => ⟨H7.out, h1, h2, h4⟩⟩
 case rest =>
  obtain ⟨tD, rfl, Eq, Eu, HT, HF⟩ := hcut
  obtain ⟨w6, qP⟩ := qea wc
  subst qP
  have A6 := Eq.out
  have cG := Eu.out
  clear Eq Eu q1 q2 q3 q4 q5 q6 x1 x2 x3
  cases tD
  case true =>
   have HR : Hid (storeS s = false) := HT.out rfl
   go_wp2
   go_ret
   exact ⟨by rw [HR.out]; rfl, cG⟩
  obtain ⟨h7, h1, h2, h4⟩ := HF.out rfl
  have H7 := hid h7
  clear h7 HT HF
  have x8 := A6.c 8 rfl
  have CN := j1l h4
  have nZ : ∀ x ∈ ja1 s.vs, EvR x := fun x hx => by
   obtain ⟨v, hv, rfl⟩ := jwe hx
   exact jsg (jm3 h4 v hv)
  have q7 := jd1 s.vs va s.vs.length cv w6 (HV.out.below cG) rfl (by omega)
  go_wp2_with fail
  refine q7.mono ?_
  rintro q w7 ⟨lv, rfl, cC, aC⟩
  have dE := qtr cG aC
  have A7 := A6.below aC
  obtain ⟨pl, cl, rfl, gE⟩ := jni cC
  clear x8 aC q7 A6
  have Gy : w.heap.size <= w6.heap.size := cG.size
  have dI : Zm w7 w.heap.size (.slice pl (ja1 s.vs).length cl) (ja1 s.vs) := jak cC Gy
  clear cC cG Gy
  obtain ⟨L, lx⟩ := qeb (ja1 s.vs)
  have nJ := hid lx
  rw [lx] at H7 nZ dI gE ⊢
  obtain ⟨nl, jz⟩ := qeb L.length
  have nL := hid jz
  rw [jz] at gE H7 dI ⊢
  clear lx jz
  have yS := hid gE
  clear gE
  by_cases hl : nl <= 30
  case neg =>
   have HR : Hid (storeS s = false) := by rw [H7.out, dfe hl]; rfl
   have fK : (30 : Int) < (nl : Int) := by omega
   clear nZ dI
   go_wp2
   go_ret
   exact ⟨by rw [HR.out]; rfl, dE⟩
  have fK : ¬ (30 : Int) < (nl : Int) := by omega
  rw [dte hl, Bool.true_and] at H7
  go_wp2
  go_loopw [4] (fun s4 wr => ∃ i : Nat, i <= nl /\ s4 = iv i /\ Hid (∀ (j : Nat) x, j < i -> L[j]? = some x -> je3 s x.zone = true) /\ Bw w7 wr) (fun s4 _ => nl - (intOf s4).toNat)
  case atStart => exact ⟨0, by omega, rfl, fun j x hj => by omega, brf _ _⟩
  case round =>
   obtain ⟨wa, eW⟩ := qea wr
   subst eW
   obtain ⟨i, hi, rfl, HK, aM⟩ := hrel
   have Ba := qtr dE aM
   by_cases hlt : i < nl
   ·have i1 : (i : Int) < (nl : Int) := by omega
    have i0 : (0 : Int) <= (i : Int) := by omega
    obtain ⟨gl, rfl⟩ := yS.out (by omega)
    obtain ⟨x, hx⟩ : ∃ x, L[i]? = some x := ⟨_, lgg (by have := nL.out; omega)⟩
    have bD : Bw w7 wa.drew := aM.trans ((jac wa).mono aM.size)
    have BD := qtr dE bD
    have AD := A7.below bD
    have zc : wa.drew.cell? (ad gl (i * 6 + 2)) = some (.string x.zone) := (jmm (jad dI bD) hx).2.2.1
    obtain ⟨d0, d1, d2, d3, d4, d5, d6, d7, d8, d9⟩ := AD.ten
    have qz := jm9 s _ x.zone wa.drew (EV.out.below BD) ok
    have jJ := hid bD
    have Ia := hid BD
    have F0 := hid hx
    clear bD BD AD hx aM Ba
    obtain ⟨zt, CX⟩ := qeb (je3 s x.zone)
    have F5 := hid CX
    rw [CX] at qz
    clear CX
    generalize x.zone = xz at zc qz
    cases zt
    ·have HR : Hid (storeS s = false) := by
      rw [H7.out, List.all_eq_false.mpr ⟨x, lmg F0.out, by rw [F5.out]; simp⟩]; rfl
     go_wp2_with fail
     go_region_held3 (fun w' => w'.cell? (ad w.heap.size 0) = some (iv s.tx) /\ w'.cell? (ad w.heap.size 1) = some (.slice a s.now.rules.length ca) /\ w'.cell? (ad w.heap.size 2) = some (.slice b s.now.zones.length cb) /\ w'.cell? (ad w.heap.size 3) = some (.slice c s.now.links.length cc) /\ w'.cell? (ad w.heap.size 4) = some (.slice d s.was.rules.length cd) /\ w'.cell? (ad w.heap.size 5) = some (.slice e s.was.zones.length ce) /\ w'.cell? (ad w.heap.size 6) = some (.slice f s.was.links.length cf) /\ w'.cell? (ad w.heap.size 7) = some (iv s.cur) /\ w'.cell? (ad w.heap.size 8) = some (.slice va s.vs.length cv) /\ w'.cell? (ad w.heap.size 9) = some (.slice ia s.ix.length ci) /\ w'.cell? (ad gl (i * 6 + 2)) = some (.string xz)) (go_keep) ((go_at_call 52; refine qz.mono ?_; rintro q w9 ⟨rfl, cj⟩; have Az := jaa cj d0; have AB := jaa cj d1; have AC := jaa cj d2; have AE := jaa cj d3; have AF := jaa cj d4; have AG := jaa cj d5; have AH := jaa cj d6; have AI := jaa cj d7; have AJ := jaa cj d8; have AK := jaa cj d9; have AL := jaa cj zc))
     all_goals
      clear Az AB AC AE AF AG AH AI AJ AK AL
      have fX := qtr Ia.out cj
      go_wp2
      go_ret
      exact ⟨by rw [HR.out]; rfl, fX⟩
    ·have eK : Hid (∀ (j : Nat) x, j < i + 1 -> L[j]? = some x -> je3 s x.zone = true) := fun j y hj hy => by
      by_cases e : j = i
      ·subst e; rw [F0.out] at hy; obtain rfl := osi hy; exact F5.out
      ·exact HK.out j y (by omega) hy
     go_wp2_with fail
     go_region_held3 (fun w' => w'.cell? (ad w.heap.size 0) = some (iv s.tx) /\ w'.cell? (ad w.heap.size 1) = some (.slice a s.now.rules.length ca) /\ w'.cell? (ad w.heap.size 2) = some (.slice b s.now.zones.length cb) /\ w'.cell? (ad w.heap.size 3) = some (.slice c s.now.links.length cc) /\ w'.cell? (ad w.heap.size 4) = some (.slice d s.was.rules.length cd) /\ w'.cell? (ad w.heap.size 5) = some (.slice e s.was.zones.length ce) /\ w'.cell? (ad w.heap.size 6) = some (.slice f s.was.links.length cf) /\ w'.cell? (ad w.heap.size 7) = some (iv s.cur) /\ w'.cell? (ad w.heap.size 8) = some (.slice va s.vs.length cv) /\ w'.cell? (ad w.heap.size 9) = some (.slice ia s.ix.length ci) /\ w'.cell? (ad gl (i * 6 + 2)) = some (.string xz)) (go_keep) ((go_at_call 52; refine qz.mono ?_; rintro q w9 ⟨rfl, cj⟩; have Az := jaa cj d0; have AB := jaa cj d1; have AC := jaa cj d2; have AE := jaa cj d3; have AF := jaa cj d4; have AG := jaa cj d5; have AH := jaa cj d6; have AI := jaa cj d7; have AJ := jaa cj d8; have AK := jaa cj d9; have AL := jaa cj zc))
     all_goals
      clear Az AB AC AE AF AG AH AI AJ AK AL
      have fX := qtr jJ.out cj
      have lc := hid fX
      clear fX cj
      go_wp2
      go_roundw
      case rel => exact ⟨i + 1, by omega, by go_num, eK, lc.out⟩
      case measure => simp [intOf]; omega
   ·obtain rfl : i = nl := by omega
    have Gk : L.all (fun x => je3 s x.zone) = true := List.all_eq_true.mpr fun x hx => by
     obtain ⟨j, hj⟩ := lgo hx
     have h1 := (List.getElem?_eq_some_iff.1 hj).1
     have h2 := nL.out
     exact HK.out j x (by omega) hj
    rw [Gk, Bool.true_and] at H7
    have Aa := A7.below aM
    obtain ⟨d0, d1, d2, d3, d4, d5, d6, d7, d8, d9⟩ := Aa.ten
    have qe := jh5 s _ wa (EV.out.below Ba) ok h1 h2 (by omega) (by rw [nJ.out, nL.out]; omega) (by rw [nJ.out]; exact nZ)
    rw [nJ.out] at qe
    have Es := hid Aa
    clear Gk HK dI A7 Aa aM nZ
    go_wp2_with fail
    refine qe.mono ?_
    rintro q w9 ⟨xv, rfl, eF, cj⟩
    obtain ⟨X, lD⟩ := qeb (entF (momS s) L)
    rw [lD] at eF H7
    obtain ⟨px, cx, rfl, Le⟩ := jni eF
    have B9 := qtr Ba cj
    have A9 := Es.out.below cj
    have x9 := A9.c 9 rfl
    have jo : X.length <= 30 := by rw [<- lD]; exact Nat.le_trans (jmn _ _) (by rw [nL.out]; exact hl)
    clear lD qe d0 d1 d2 d3 d4 d5 d6 d7 d8 d9 cj Ba Es
    have yj := jvq eF
    obtain ⟨Qg, P3, GU, yj, _⟩ := jbc yj jao
    rw [llm] at GU
    injection GU with h1x _ h3x
    subst h1x h3x
    clear eF Le
    obtain ⟨nx, Ct⟩ := qeb X.length
    have lQ := hid Ct
    rw [Ct] at jo ⊢
    clear Ct
    obtain ⟨ni, Cs⟩ := qeb s.ix.length
    have yL := hid Cs
    have im := ok.xl
    rw [Cs] at x9 im
    clear Cs
    have IN : Hid (Za w9 ia 2 (s.ix.map EntryD.cs)) := HX.out.below B9
    have ID := hid yj
    have lc := hid B9
    clear yj B9 A9
    by_cases mM : nx = ni
    case neg =>
     have HR : Hid (storeS s = false) := by rw [H7.out]; exact jk9 fun h => mM (by rw [<- lQ.out, <- yL.out, h])
     have gO : ¬ (nx : Int) = (ni : Int) := by omega
     go_wp2
     go_ret
     exact ⟨by rw [HR.out]; rfl, lc.out⟩
    subst mM
    obtain ⟨zq, CV⟩ := qeb (eqX X s.ix)
    have HZ := hid CV
    have HR : Hid (storeS s = zq) := by simp only [Hid]; rw [H7.out]; exact CV
    clear CV
    go_wp2
    go_loopw [6] (fun s6 wr => ∃ i : Nat, i <= nx /\ s6 = iv i /\ Hid (∀ j, j < i -> X[j]? = s.ix[j]?) /\ Bw w9 wr) (fun s6 _ => nx - (intOf s6).toNat)
    case atStart => exact ⟨0, by omega, rfl, fun j hj => by omega, brf _ _⟩
    case round =>
     obtain ⟨wb, mS⟩ := qea wr
     subst mS
     obtain ⟨k, hk, rfl, HK, aM⟩ := hrel
     have AX := qtr lc.out aM
     by_cases hlt : k < nx
     ·have a1 : (k : Int) < (nx : Int) := by omega
      obtain ⟨x, hx⟩ : ∃ v, X[k]? = some v := ⟨_, lgg (by have := lQ.out; omega)⟩
      obtain ⟨y, hy⟩ : ∃ v, s.ix[k]? = some v := ⟨_, lgg (by have := yL.out; omega)⟩
      obtain ⟨p1, o1, rfl, hc⟩ := (ID.out.below aM).at (i := k) (r := x.cs) (by rw [lgm, hx]; rfl)
      obtain ⟨p2, o2, rfl, hd⟩ := (IN.out.below aM).at (i := k) (r := y.cs) (by rw [lgm, hy]; rfl)
      have c0 : wb.cell? (ad p1 (o1 + k * 2)) = some (iv x.at_) := hc 0 _ rfl
      have c1 : wb.cell? (ad p1 (o1 + k * 2 + 1)) = some (iv x.id) := hc 1 _ rfl
      have d0 : wb.cell? (ad p2 (o2 + k * 2)) = some (iv y.at_) := hd 0 _ rfl
      have d1 : wb.cell? (ad p2 (o2 + k * 2 + 1)) = some (iv y.id) := hd 1 _ rfl
      have QE := jaa aM x9
      have lT : Hid (X[k]? = some x /\ s.ix[k]? = some y) := ⟨hx, hy⟩
      clear hc hd hx hy
      obtain ⟨xa, xi⟩ := x
      obtain ⟨ya, yi⟩ := y
      dsimp only at *
      by_cases e1 : xa = ya
      ·subst e1
       by_cases e2 : xi = yi
       ·subst e2
        have eK : Hid (∀ j, j < k + 1 -> X[j]? = s.ix[j]?) := fun j hj => by
         by_cases e : j = k
         ·subst e; rw [lT.out.1, lT.out.2]
         ·exact HK.out j (by omega)
        clear lT HK
        go_wp2_with fail
        go_quiet (fail)
        go_wp2
        go_roundw
        case rel => exact ⟨k + 1, by omega, by go_num, eK, below_drewN aM _⟩
        case measure => simp [intOf]; omega
       ·obtain rfl : zq = false := by
         rw [<- HZ.out]
         refine jk9 fun h => ?_
         have h1 := lT.out.1; rw [h, lT.out.2] at h1
         injection h1 with h1; injection h1 with _ h1; exact e2 h1.symm
        clear lT HK
        go_wp2_with fail
        go_quiet (fail)
        go_wp2
        go_ret
        exact ⟨by rw [HR.out]; rfl, below_drewN AX _⟩
      ·obtain rfl : zq = false := by
        rw [<- HZ.out]
        refine jk9 fun h => ?_
        have h1 := lT.out.1; rw [h, lT.out.2] at h1
        injection h1 with h1; injection h1 with h1 _; exact e1 h1.symm
       clear lT HK
       go_wp2_with fail
       go_quiet (fail)
       go_wp2
       go_ret
       exact ⟨by rw [HR.out]; rfl, below_drewN AX _⟩
     ·obtain rfl : k = nx := by omega
      obtain rfl : zq = true := by
       rw [<- HZ.out, eqX_iff]
       refine List.ext_getElem? fun j => ?_
       by_cases hj : j < k
       ·exact HK.out j hj
       ·rw [List.getElem?_eq_none (by rw [lQ.out]; omega), List.getElem?_eq_none (by rw [yL.out]; omega)]
      go_wp2
      go_ret
      exact ⟨by rw [HR.out]; rfl, AX⟩
end
section
open Go.RowKit
theorem jzj {s : StoreD} {e : EventD} (h1 : relB s.now = true) (h2 : relB s.was = true) (hz : je3 s e.zone = true) (hs : e.zone.size <= 8000) : momS s e = momB s e := by
 unfold je3 at hz
 simp only [bat, Bool.or_eq_true, decide_eq_true_eq] at hz
 unfold momB momS
 split
 ·unfold momD momR
  rw [jrg h1 hz.1 hs]
 ·rename_i hc
  have hn : s.cur ≠ 0 := fun h => hc (.inl h)
  unfold momD momR
  rw [jrg h2 (hz.2.resolve_left hn) hs]
theorem ent_same {s : StoreD} (h1 : relB s.now = true) (h2 : relB s.was = true) (hv : verB s.vs s.tx = true) (hz : (ja1 s.vs).all (fun x => je3 s x.zone) = true) : entF (momS s) (ja1 s.vs) = entF (momB s) (ja1 s.vs) := jxk fun e he => by
 obtain ⟨v, hm, rfl⟩ := jwe he
 exact jzj h1 h2 (List.all_eq_true.mp hz _ he) (jsg (jm3 hv v hm)).zone
theorem js3 (s : StoreD) : storeS s = storeI s := by
 rw [Bool.eq_iff_iff]
 have E := @ent_same s
 rw [jlg] at E
 unfold storeS storeI jmj jk5 frmB isB
 rw [jlg, jtm]
 simp only [bat, decide_eq_true_eq, eqX_iff] at E ⊢
 constructor
 ·rintro ⟨a, b, ⟨c1, c2⟩, ⟨d1, d2⟩, ⟨e1, e2⟩, f, g, h, i⟩
  exact ⟨⟨⟨⟨c1, c2, e1, e2, f⟩, a, b⟩, d1, d2, g, h⟩, by rw [<- E a b ⟨d1, d2⟩ h]; exact i.symm⟩
 ·rintro ⟨⟨⟨⟨c1, c2, e1, e2, f⟩, a, b⟩, d1, d2, g, h⟩, i⟩
  exact ⟨a, b, ⟨c1, c2⟩, ⟨d1, d2⟩, ⟨e1, e2⟩, f, g, h, by rw [E a b ⟨d1, d2⟩ h]; exact i.symm⟩
end
end Go.Proofs.YtgiieknbckhofaaGreatDoor
