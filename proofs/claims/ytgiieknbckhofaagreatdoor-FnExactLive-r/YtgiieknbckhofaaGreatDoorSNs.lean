/- Packed. -/
import Derived.Test.YtgiieknbckhofaaGreatDoorSMs
import Derived.Test.YtgiieknbckhofaaGreatDoorSJs
set_option maxHeartbeats 20000000
set_option linter.unusedSimpArgs false
namespace Go.Proofs.YtgiieknbckhofaaGreatDoor
section
open Go.RowKit
theorem jvv {w : World} {base : Nat} {v : Value} {L : List EntryD} (h : Zl w base v L) : w.ownsRow base 101 2 v (L.map EntryD.cs).length (L.map EntryD.cs).flatten := by rw [llm]; exact h
def storeS (s : StoreD) : Bool := relB s.now && (relB s.was && (isB s.tx 0 900000 && (verB s.vs s.tx && (isB s.cur 0 1000001 && ((!decide (s.cur = 0) || jl5 s.was) && (decide ((ja5 s.vs).length <= 30) && ((ja5 s.vs).all (fun x => je7 s x.zone) && eqX (entF (momS s) (ja5 s.vs)) s.ix)))))))
theorem jwj {l : List VersionD} {e : EventD} (h : e ∈ ja5 l) : ∃ v ∈ l, e = v.ev := by
 have h := liveL_mem.mp h
 unfold jcr at h
 cases hk : jcj l e.id with
 | none => rw [hk] at h; cases h
 | some k =>
  obtain ⟨_, ⟨v, hv, _⟩, _⟩ := jdf hk
  rw [hk] at h
  simp only [hv] at h
  split at h
  ·cases h
  ·cases h; exact ⟨v, lmg hv, rfl⟩
theorem jm8 {l : List VersionD} {t : Int} (h : verB l t = true) : ∀ v ∈ l, jbn v.ev = true := fun v hv => by
 rw [jlm, bat] at h
 have h := h.1
 obtain ⟨k, hk⟩ := lgo hv
 unfold txB at h
 rw [bat] at h
 cases hx : txI l t k v
 ·have := ju1 hk hx (n := l.length) (List.getElem?_eq_some_iff.1 hk).1
  rw [h.2] at this
  cases this
 ·unfold txI at hx
  simp only [bat] at hx
  exact hx.2.2
theorem jsq {e : EventD} (h : jbn e = true) : EvR e := by
 unfold jbn at h
 simp only [bat] at h
 obtain ⟨_, _, h3, h4, h5, h6⟩ := h
 have n := (jf7 h3).2.1
 have a := jax h4
 have b := jax h5
 have c := jax h6
 exact ⟨by omega, a.1, a.2, b.1, b.2, c.1, c.2⟩
theorem j1k {l : List VersionD} {t : Int} (h : verB l t = true) : l.length <= 60 := by
 rw [jlm, bat] at h
 have h := h.1
 unfold txB at h
 rw [bat] at h
 exact odt h.1
set_option maxRecDepth 20000 in
theorem jd4 (s : StoreD) (v : Value) (w : World) (hv : Zx w v s) (ok : Zt s) :
  Cl 28 #[v] w fun q w' => q = .returned (.bool (storeS s)) /\ Bw w w' := by
 have cC := hv
 obtain ⟨a, b, c, d, e, f, va, ia, ca, cb, cc, cd, ce, cf, cv, ci, rfl, hN, hW, hV, hX, GF, _⟩ := hv.form
 have ag := qal w (.cells #[iv s.tx, .slice a s.now.rules.length ca, .slice b s.now.zones.length cb, .slice c s.now.links.length cc, .slice d s.was.rules.length cd, .slice e s.was.zones.length ce, .slice f s.was.links.length cf, iv s.cur, .slice va s.vs.length cv, .slice ia s.ix.length ci] 42)
 have A0 := Zg.new w [iv s.tx, .slice a s.now.rules.length ca, .slice b s.now.zones.length cb, .slice c s.now.links.length cc, .slice d s.was.rules.length cd, .slice e s.was.zones.length ce, .slice f s.was.links.length cf, iv s.cur, .slice va s.vs.length cv, .slice ia s.ix.length ci] 42
 have q1 := fun w (h : Zd w (.agg #[.slice a s.now.rules.length ca, .slice b s.now.zones.length cb, .slice c s.now.links.length cc]) s.now) => jc9 s.now _ w h ok.now.ok ok.now.sm ok.now.on
 have q2 := fun w (h : Zd w (.agg #[.slice d s.was.rules.length cd, .slice e s.was.zones.length ce, .slice f s.was.links.length cf]) s.was) => jc9 s.was _ w h ok.was.ok ok.was.sm ok.was.on
 have q3 := fun w => jat s.tx 0 900000 w
 have q4 := fun w h => jhf s.vs s.tx s.cur a b c d e f va ia s.now.rules.length ca s.now.zones.length cb s.now.links.length cc s.was.rules.length cd s.was.zones.length ce s.was.links.length cf s.vs.length cv s.ix.length ci w h ok.vs rfl ok.vl GF
 have q5 := fun w => jat s.cur 0 1000001 w
 have q6 := fun w (h : Zd w (.agg #[.slice d s.was.rules.length cd, .slice e s.was.zones.length ce, .slice f s.was.links.length cf]) s.was) => jia s.was _ w h ok.was.sm
 have HV := hid hV
 have HX := hid hX
 have HN := hid hN
 have HW := hid hW
 have Fv := hid cC
 clear hV hX hN hW hv cC
 have x1 := A0.c 1 rfl
 have x2 := A0.c 2 rfl
 have x3 := A0.c 3 rfl
 go_enter Tryz.func28, Tryz.ntmps28
 go_upto_region 1 with fail
 go_cut [44] from 7 to 43 (fun MU wx => ∃ uA : Bool, MU = .bool uA /\ Hid (Zg wx w.heap.size (stL s a b c d e f va ia ca cb cc cd ce cf cv ci)) /\ Hid (Bw w wx) /\ Hid (uA = true -> storeS s = false) /\ Hid (uA = false -> storeS s = (decide ((ja5 s.vs).length <= 30) && ((ja5 s.vs).all (fun x => je7 s x.zone) && eqX (entF (momS s) (ja5 s.vs)) s.ix)) /\ relB s.now = true /\ relB s.was = true /\ verB s.vs s.tx = true))
 case first =>
  go_wp2_with fail
  refine (q1 _ (HN.out.below ag)).mono ?_
  rintro e1 w1 ⟨rfl, hb1⟩
  have aj := qtr ag hb1
  have A1 := A0.below hb1
  clear x1 x2 x3 hb1 A0 ag q1
  cases h1 : relB s.now
  ·have HR : Hid (storeS s = false) := by simp only [Hid, storeS, h1, Bool.false_and, Bool.and_false]
   clear h1
   go_wp2
   go_meet
   exact ⟨true, rfl, A1, aj, fun _ => HR.out, fun h => by cases h⟩
  have x4 := A1.c 4 rfl
  have x5 := A1.c 5 rfl
  have x6 := A1.c 6 rfl
  go_wp2_with fail
  refine (q2 _ (HW.out.below aj)).mono ?_
  rintro e2 w2 ⟨rfl, ac⟩
  have an := qtr aj ac
  have A2 := A1.below ac
  clear x4 x5 x6 ac A1 aj q2
  cases h2 : relB s.was
  ·have HR : Hid (storeS s = false) := by simp only [Hid, storeS, h1, h2, Bool.false_and, Bool.and_false]
   clear h1 h2
   go_wp2
   go_meet
   exact ⟨true, rfl, A2, an, fun _ => HR.out, fun h => by cases h⟩
  have x0 := A2.c 0 rfl
  go_wp2_with fail
  refine (q3 _).mono ?_
  rintro e3 w3 ⟨rfl, gR⟩
  have ar : Bw w2 w3 := by rw [gR]; exact brf _ _
  clear gR
  have ay := qtr an ar
  have A3 := A2.below ar
  clear x0 ar A2 an q3
  cases h3 : isB s.tx 0 900000
  ·have HR : Hid (storeS s = false) := by simp only [Hid, storeS, h1, h2, h3, Bool.false_and, Bool.and_false]
   clear h1 h2 h3
   go_wp2
   go_meet
   exact ⟨true, rfl, A3, ay, fun _ => HR.out, fun h => by cases h⟩
  obtain ⟨x0, x1, x2, x3, x4, x5, x6, x7, x8, x9⟩ := A3.ten
  go_wp2_with fail
  refine (q4 _ (HV.out.below ay)).mono ?_
  rintro e4 w4 ⟨rfl, az⟩
  have aR := qtr ay az
  have A4 := A3.below az
  clear x0 x1 x2 x3 x4 x5 x6 x7 x8 x9 az A3 ay q4
  cases h4 : verB s.vs s.tx
  ·have HR : Hid (storeS s = false) := by simp only [Hid, storeS, h1, h2, h3, h4, Bool.false_and, Bool.and_false]
   clear h1 h2 h3 h4
   go_wp2
   go_meet
   exact ⟨true, rfl, A4, aR, fun _ => HR.out, fun h => by cases h⟩
  have x7 := A4.c 7 rfl
  go_wp2_with fail
  refine (q5 _).mono ?_
  rintro e5 w5 ⟨rfl, pJ⟩
  have aV : Bw w4 w5 := by rw [pJ]; exact brf _ _
  clear pJ
  have bG := qtr aR aV
  have A5 := A4.below aV
  clear x7 aV A4 aR q5
  cases h5 : isB s.cur 0 1000001
  ·have HR : Hid (storeS s = false) := by simp only [Hid, storeS, h1, h2, h3, h4, h5, Bool.false_and, Bool.and_false]
   clear h1 h2 h3 h4 h5
   go_wp2
   go_meet
   exact ⟨true, rfl, A5, bG, fun _ => HR.out, fun h => by cases h⟩
  have x7 := A5.c 7 rfl
  have x4 := A5.c 4 rfl
  have x5 := A5.c 5 rfl
  have x6 := A5.c 6 rfl
  by_cases h6 : s.cur = 0
  ·have KM : (s.cur == 0) = true := by simp [h6]
   have H6 := hid h6
   clear h6
   go_wp2_with fail
   refine (q6 _ (HW.out.below bG)).mono ?_
   rintro e6 w6 ⟨rfl, hb6⟩
   have ck := qtr bG hb6
   have A6 := A5.below hb6
   clear x7 x4 x5 x6 hb6 A5 bG q6
   cases h7 : jl5 s.was
   ·have HR : Hid (storeS s = false) := by simp only [Hid, storeS, h1, h2, h3, h4, h5, dte H6.out, h7, Bool.not_true, Bool.or_false, Bool.false_and, Bool.and_false]
    clear h1 h2 h3 h4 h5 h7
    go_wp2
    go_meet
    exact ⟨true, rfl, A6, ck, fun _ => HR.out, fun h => by cases h⟩
   have H7 : Hid (storeS s = (decide ((ja5 s.vs).length <= 30) && ((ja5 s.vs).all (fun x => je7 s x.zone) && eqX (entF (momS s) (ja5 s.vs)) s.ix))) := by simp only [Hid, storeS, h1, h2, h3, h4, h5, dte H6.out, h7, Bool.not_true, Bool.or_true, Bool.true_and]
   go_wp2
   go_meet
   exact ⟨false, rfl, A6, ck, fun h => by (cases h), fun _ => ⟨H7.out, h1, h2, h4⟩⟩
  ·have KM : (s.cur == 0) = false := by simp [h6]
   have H7 : Hid (storeS s = (decide ((ja5 s.vs).length <= 30) && ((ja5 s.vs).all (fun x => je7 s x.zone) && eqX (entF (momS s) (ja5 s.vs)) s.ix))) := by simp only [Hid, storeS, h1, h2, h3, h4, h5, dfe h6, Bool.not_false, Bool.true_or, Bool.true_and]
   go_wp2
   go_meet
   exact ⟨false, rfl, A5, bG, fun h => by (cases h), fun _ => ⟨H7.out, h1, h2, h4⟩⟩
 case rest =>
  obtain ⟨uA, rfl, F8, Fb, HT, HF⟩ := hcut
  obtain ⟨w6, rA⟩ := qea wc
  subst rA
  have A6 := F8.out
  have ck := Fb.out
  clear F8 Fb q1 q2 q3 q4 q5 q6 x1 x2 x3
  cases uA
  case true =>
   have HR : Hid (storeS s = false) := HT.out rfl
   go_wp2
   go_ret
   exact ⟨by rw [HR.out]; rfl, ck⟩
  obtain ⟨h7, h1, h2, h4⟩ := HF.out rfl
  have H7 := hid h7
  clear h7 HT HF
  have x8 := A6.c 8 rfl
  have DD := j1k h4
  have oN : ∀ x ∈ ja5 s.vs, EvR x := fun x hx => by
   obtain ⟨v, hv, rfl⟩ := jwj hx
   exact jsq (jm8 h4 v hv)
  have q7 := jd2 s.vs va s.vs.length cv w6 (HV.out.below ck) rfl (by omega)
  go_wp2_with fail
  refine q7.mono ?_
  rintro q w7 ⟨lv, rfl, cr, ax⟩
  have dI := qtr ck ax
  have A7 := A6.below ax
  obtain ⟨pl, cl, rfl, gP⟩ := jnr cr
  clear x8 ax q7 A6
  have GN : w.heap.size <= w6.heap.size := ck.size
  have dv : Zn w7 w.heap.size (.slice pl (ja5 s.vs).length cl) (ja5 s.vs) := jak cr GN
  clear cr ck GN
  obtain ⟨L, gV⟩ := qeb (ja5 s.vs)
  have oy := hid gV
  rw [gV] at H7 oN dv gP ⊢
  obtain ⟨nl, jN⟩ := qeb L.length
  have oA := hid jN
  rw [jN] at gP H7 dv ⊢
  clear gV jN
  have zX := hid gP
  clear gP
  by_cases hl : nl <= 30
  case neg =>
   have HR : Hid (storeS s = false) := by rw [H7.out, dfe hl]; rfl
   have fS : (30 : Int) < (nl : Int) := by omega
   clear oN dv
   go_wp2
   go_ret
   exact ⟨by rw [HR.out]; rfl, dI⟩
  have fS : ¬ (30 : Int) < (nl : Int) := by omega
  rw [dte hl, Bool.true_and] at H7
  go_wp2
  go_loopw [4] (fun s4 wr => ∃ i : Nat, i <= nl /\ s4 = iv i /\ Hid (∀ (j : Nat) x, j < i -> L[j]? = some x -> je7 s x.zone = true) /\ Bw w7 wr) (fun s4 _ => nl - (intOf s4).toNat)
  case atStart => exact ⟨0, by omega, rfl, fun j x hj => by omega, brf _ _⟩
  case round =>
   obtain ⟨wa, dY⟩ := qea wr
   subst dY
   obtain ⟨i, hi, rfl, HK, aH⟩ := hrel
   have Ba := qtr dI aH
   by_cases hlt : i < nl
   ·have i1 : (i : Int) < (nl : Int) := by omega
    have i0 : (0 : Int) <= (i : Int) := by omega
    obtain ⟨gl, rfl⟩ := zX.out (by omega)
    obtain ⟨x, hx⟩ : ∃ x, L[i]? = some x := ⟨_, lgg (by have := oA.out; omega)⟩
    have bD : Bw w7 wa.drew := aH.trans ((jab wa).mono aH.size)
    have BD := qtr dI bD
    have AD := A7.below bD
    have zc : wa.drew.cell? ⟨gl, i * 6 + 2, none⟩ = some (.string x.zone) := (jmr (jad dv bD) hx).2.2.1
    obtain ⟨d0, d1, d2, d3, d4, d5, d6, d7, d8, d9⟩ := AD.ten
    have qz := jnf s _ x.zone wa.drew (Fv.out.below BD) ok
    have gU := hid bD
    have Iz := hid BD
    have Fy := hid hx
    clear bD BD AD hx aH Ba
    obtain ⟨zt, DL⟩ := qeb (je7 s x.zone)
    have Fz := hid DL
    rw [DL] at qz
    clear DL
    generalize x.zone = xz at zc qz
    cases zt
    ·have HR : Hid (storeS s = false) := by
      rw [H7.out, List.all_eq_false.mpr ⟨x, lmg Fy.out, by rw [Fz.out]; simp⟩]; rfl
     go_wp2_with fail
     go_region_held3 (fun w' => w'.cell? ⟨w.heap.size, 0, none⟩ = some (iv s.tx) /\ w'.cell? ⟨w.heap.size, 1, none⟩ = some (.slice a s.now.rules.length ca) /\ w'.cell? ⟨w.heap.size, 2, none⟩ = some (.slice b s.now.zones.length cb) /\ w'.cell? ⟨w.heap.size, 3, none⟩ = some (.slice c s.now.links.length cc) /\ w'.cell? ⟨w.heap.size, 4, none⟩ = some (.slice d s.was.rules.length cd) /\ w'.cell? ⟨w.heap.size, 5, none⟩ = some (.slice e s.was.zones.length ce) /\ w'.cell? ⟨w.heap.size, 6, none⟩ = some (.slice f s.was.links.length cf) /\ w'.cell? ⟨w.heap.size, 7, none⟩ = some (iv s.cur) /\ w'.cell? ⟨w.heap.size, 8, none⟩ = some (.slice va s.vs.length cv) /\ w'.cell? ⟨w.heap.size, 9, none⟩ = some (.slice ia s.ix.length ci) /\ w'.cell? ⟨gl, i * 6 + 2, none⟩ = some (.string xz)) (go_keep) ((go_at_call 52; refine qz.mono ?_; rintro q w9 ⟨rfl, aT⟩; have BF := jaa aT d0; have BH := jaa aT d1; have BI := jaa aT d2; have BJ := jaa aT d3; have BK := jaa aT d4; have BL := jaa aT d5; have BM := jaa aT d6; have BN := jaa aT d7; have BO := jaa aT d8; have BP := jaa aT d9; have BQ := jaa aT zc))
     all_goals
      clear BF BH BI BJ BK BL BM BN BO BP BQ
      have eU := qtr Iz.out aT
      go_wp2
      go_ret
      exact ⟨by rw [HR.out]; rfl, eU⟩
    ·have fV : Hid (∀ (j : Nat) x, j < i + 1 -> L[j]? = some x -> je7 s x.zone = true) := fun j y hj hy => by
      by_cases e : j = i
      ·subst e; rw [Fy.out] at hy; obtain rfl := osi hy; exact Fz.out
      ·exact HK.out j y (by omega) hy
     go_wp2_with fail
     go_region_held3 (fun w' => w'.cell? ⟨w.heap.size, 0, none⟩ = some (iv s.tx) /\ w'.cell? ⟨w.heap.size, 1, none⟩ = some (.slice a s.now.rules.length ca) /\ w'.cell? ⟨w.heap.size, 2, none⟩ = some (.slice b s.now.zones.length cb) /\ w'.cell? ⟨w.heap.size, 3, none⟩ = some (.slice c s.now.links.length cc) /\ w'.cell? ⟨w.heap.size, 4, none⟩ = some (.slice d s.was.rules.length cd) /\ w'.cell? ⟨w.heap.size, 5, none⟩ = some (.slice e s.was.zones.length ce) /\ w'.cell? ⟨w.heap.size, 6, none⟩ = some (.slice f s.was.links.length cf) /\ w'.cell? ⟨w.heap.size, 7, none⟩ = some (iv s.cur) /\ w'.cell? ⟨w.heap.size, 8, none⟩ = some (.slice va s.vs.length cv) /\ w'.cell? ⟨w.heap.size, 9, none⟩ = some (.slice ia s.ix.length ci) /\ w'.cell? ⟨gl, i * 6 + 2, none⟩ = some (.string xz)) (go_keep) ((go_at_call 52; refine qz.mono ?_; rintro q w9 ⟨rfl, aT⟩; have BF := jaa aT d0; have BH := jaa aT d1; have BI := jaa aT d2; have BJ := jaa aT d3; have BK := jaa aT d4; have BL := jaa aT d5; have BM := jaa aT d6; have BN := jaa aT d7; have BO := jaa aT d8; have BP := jaa aT d9; have BQ := jaa aT zc))
     all_goals
      clear BF BH BI BJ BK BL BM BN BO BP BQ
      have eU := qtr gU.out aT
      have lX := hid eU
      clear eU aT
      go_wp2
      go_roundw
      case rel => exact ⟨i + 1, by omega, by go_num, fV, lX.out⟩
      case measure => simp [intOf]; omega
   ·obtain rfl : i = nl := by omega
    have GB : L.all (fun x => je7 s x.zone) = true := List.all_eq_true.mpr fun x hx => by
     obtain ⟨j, hj⟩ := lgo hx
     have h1 := (List.getElem?_eq_some_iff.1 hj).1
     have h2 := oA.out
     exact HK.out j x (by omega) hj
    rw [GB, Bool.true_and] at H7
    have Aa := A7.below aH
    obtain ⟨d0, d1, d2, d3, d4, d5, d6, d7, d8, d9⟩ := Aa.ten
    have qe := jib s _ wa (Fv.out.below Ba) ok h1 h2 (by omega) (by rw [oy.out, oA.out]; omega) (by rw [oy.out]; exact oN)
    rw [oy.out] at qe
    have F9 := hid Aa
    clear GB HK dv A7 Aa aH oN
    go_wp2_with fail
    refine qe.mono ?_
    rintro q w9 ⟨xv, rfl, eN, aT⟩
    obtain ⟨X, mr⟩ := qeb (entF (momS s) L)
    rw [mr] at eN H7
    obtain ⟨px, cx, rfl, LP⟩ := jnr eN
    have B9 := qtr Ba aT
    have A9 := F9.out.below aT
    have x9 := A9.c 9 rfl
    have jC : X.length <= 30 := by rw [<- mr]; exact Nat.le_trans (jms _ _) (by rw [oA.out]; exact hl)
    clear mr qe d0 d1 d2 d3 d4 d5 d6 d7 d8 d9 aT Ba F9
    have zl := jvv eN
    obtain ⟨PX, OV, Hg, zl, _⟩ := jbd zl jan
    rw [llm] at Hg
    injection Hg with h1x _ h3x
    subst h1x h3x
    clear eN LP
    obtain ⟨nx, Df⟩ := qeb X.length
    have mJ := hid Df
    rw [Df] at jC ⊢
    clear Df
    obtain ⟨ni, De⟩ := qeb s.ix.length
    have zQ := hid De
    have iB := ok.xl
    rw [De] at x9 iB
    clear De
    have Jy : Hid (Za w9 ia 2 (s.ix.map EntryD.cs)) := HX.out.below B9
    have J1 := hid zl
    have lX := hid B9
    clear zl B9 A9
    by_cases nI : nx = ni
    case neg =>
     have HR : Hid (storeS s = false) := by rw [H7.out]; exact jlf fun h => nI (by rw [<- mJ.out, <- zQ.out, h])
     have gX : ¬ (nx : Int) = (ni : Int) := by omega
     go_wp2
     go_ret
     exact ⟨by rw [HR.out]; rfl, lX.out⟩
    subst nI
    obtain ⟨zq, DJ⟩ := qeb (eqX X s.ix)
    have HZ := hid DJ
    have HR : Hid (storeS s = zq) := by simp only [Hid]; rw [H7.out]; exact DJ
    clear DJ
    go_wp2
    go_loopw [6] (fun s6 wr => ∃ i : Nat, i <= nx /\ s6 = iv i /\ Hid (∀ j, j < i -> X[j]? = s.ix[j]?) /\ Bw w9 wr) (fun s6 _ => nx - (intOf s6).toNat)
    case atStart => exact ⟨0, by omega, rfl, fun j hj => by omega, brf _ _⟩
    case round =>
     obtain ⟨wb, nN⟩ := qea wr
     subst nN
     obtain ⟨k, hk, rfl, HK, aH⟩ := hrel
     have C1 := qtr lX.out aH
     by_cases hlt : k < nx
     ·have a1 : (k : Int) < (nx : Int) := by omega
      obtain ⟨x, hx⟩ : ∃ v, X[k]? = some v := ⟨_, lgg (by have := mJ.out; omega)⟩
      obtain ⟨y, hy⟩ : ∃ v, s.ix[k]? = some v := ⟨_, lgg (by have := zQ.out; omega)⟩
      obtain ⟨p1, o1, rfl, hc⟩ := (J1.out.below aH).at (i := k) (r := x.cs) (by rw [lgm, hx]; rfl)
      obtain ⟨p2, o2, rfl, hd⟩ := (Jy.out.below aH).at (i := k) (r := y.cs) (by rw [lgm, hy]; rfl)
      have c0 : wb.cell? ⟨p1, o1 + k * 2, none⟩ = some (iv x.at_) := hc 0 _ rfl
      have c1 : wb.cell? ⟨p1, o1 + k * 2 + 1, none⟩ = some (iv x.id) := hc 1 _ rfl
      have d0 : wb.cell? ⟨p2, o2 + k * 2, none⟩ = some (iv y.at_) := hd 0 _ rfl
      have d1 : wb.cell? ⟨p2, o2 + k * 2 + 1, none⟩ = some (iv y.id) := hd 1 _ rfl
      have Qg := jaa aH x9
      have mN : Hid (X[k]? = some x /\ s.ix[k]? = some y) := ⟨hx, hy⟩
      clear hc hd hx hy
      obtain ⟨xa, xi⟩ := x
      obtain ⟨ya, yi⟩ := y
      dsimp only at *
      by_cases e1 : xa = ya
      ·subst e1
       by_cases e2 : xi = yi
       ·subst e2
        have fV : Hid (∀ j, j < k + 1 -> X[j]? = s.ix[j]?) := fun j hj => by
         by_cases e : j = k
         ·subst e; rw [mN.out.1, mN.out.2]
         ·exact HK.out j (by omega)
        clear mN HK
        go_wp2_with fail
        go_quiet (fail)
        go_wp2
        go_roundw
        case rel => exact ⟨k + 1, by omega, by go_num, fV, below_drewN aH _⟩
        case measure => simp [intOf]; omega
       ·obtain rfl : zq = false := by
         rw [<- HZ.out]
         refine jlf fun h => ?_
         have h1 := mN.out.1; rw [h, mN.out.2] at h1
         injection h1 with h1; injection h1 with _ h1; exact e2 h1.symm
        clear mN HK
        go_wp2_with fail
        go_quiet (fail)
        go_wp2
        go_ret
        exact ⟨by rw [HR.out]; rfl, below_drewN C1 _⟩
      ·obtain rfl : zq = false := by
        rw [<- HZ.out]
        refine jlf fun h => ?_
        have h1 := mN.out.1; rw [h, mN.out.2] at h1
        injection h1 with h1; injection h1 with h1 _; exact e1 h1.symm
       clear mN HK
       go_wp2_with fail
       go_quiet (fail)
       go_wp2
       go_ret
       exact ⟨by rw [HR.out]; rfl, below_drewN C1 _⟩
     ·obtain rfl : k = nx := by omega
      obtain rfl : zq = true := by
       rw [<- HZ.out, eqX_iff]
       refine List.ext_getElem? fun j => ?_
       by_cases hj : j < k
       ·exact HK.out j hj
       ·rw [List.getElem?_eq_none (by rw [mJ.out]; omega), List.getElem?_eq_none (by rw [zQ.out]; omega)]
      go_wp2
      go_ret
      exact ⟨by rw [HR.out]; rfl, C1⟩
end
section
open Go.RowKit
theorem jzj {s : StoreD} {e : EventD} (h1 : relB s.now = true) (h2 : relB s.was = true) (hz : je7 s e.zone = true) (hs : e.zone.size <= 8000) : momS s e = momB s e := by
 unfold je7 at hz
 simp only [bat, Bool.or_eq_true, decide_eq_true_eq] at hz
 unfold momB momS
 split
 ·unfold momD momR
  rw [jro h1 hz.1 hs]
 ·rename_i hc
  have hn : s.cur ≠ 0 := fun h => hc (.inl h)
  unfold momD momR
  rw [jro h2 (hz.2.resolve_left hn) hs]
theorem ent_same {s : StoreD} (h1 : relB s.now = true) (h2 : relB s.was = true) (hv : verB s.vs s.tx = true) (hz : (ja5 s.vs).all (fun x => je7 s x.zone) = true) : entF (momS s) (ja5 s.vs) = entF (momB s) (ja5 s.vs) := jxl fun e he => by
 obtain ⟨v, hm, rfl⟩ := jwj he
 exact jzj h1 h2 (List.all_eq_true.mp hz _ he) (jsq (jm8 hv v hm)).zone
theorem jkz (s : StoreD) : storeS s = storeI s := by
 rw [Bool.eq_iff_iff]
 have E := @ent_same s
 rw [jlm] at E
 unfold storeS storeI jo5 jlb frmB isB
 rw [jlm, jtt]
 simp only [bat, decide_eq_true_eq, eqX_iff] at E ⊢
 constructor
 ·rintro ⟨a, b, ⟨c1, c2⟩, ⟨d1, d2⟩, ⟨e1, e2⟩, f, g, h, i⟩
  exact ⟨⟨⟨⟨c1, c2, e1, e2, f⟩, a, b⟩, d1, d2, g, h⟩, by rw [<- E a b ⟨d1, d2⟩ h]; exact i.symm⟩
 ·rintro ⟨⟨⟨⟨c1, c2, e1, e2, f⟩, a, b⟩, d1, d2, g, h⟩, i⟩
  exact ⟨a, b, ⟨c1, c2⟩, ⟨d1, d2⟩, ⟨e1, e2⟩, f, g, h, by rw [E a b ⟨d1, d2⟩ h]; exact i.symm⟩
end
end Go.Proofs.YtgiieknbckhofaaGreatDoor
