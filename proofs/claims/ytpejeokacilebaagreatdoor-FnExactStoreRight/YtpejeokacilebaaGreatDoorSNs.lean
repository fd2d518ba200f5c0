/- Packed. -/
import Derived.Test.YtpejeokacilebaaGreatDoorSMs
import Derived.Test.YtpejeokacilebaaGreatDoorSCs
import Derived.Test.YtpejeokacilebaaGreatDoorSBs
import Derived.Test.YtpejeokacilebaaGreatDoorSDs
import Derived.BigQuiet
import Derived.Test.YtpejeokacilebaaGreatDoorSJs
set_option maxHeartbeats 20000000
set_option linter.unusedSimpArgs false
namespace Go.Proofs.YtpejeokacilebaaGreatDoor
section
open Go.RowKit
theorem own_rowsS {w : World} {base : Nat} {v : Value} {L : List EntryD} (h : Zg w base v L) : w.ownsRow base 57 2 v (L.map EntryD.cs).length (L.map EntryD.cs).flatten := by rw [List.length_map]; exact h
def storeS (s : StoreD) : Bool := relB s.now && (relB s.was && (isB s.tx 0 900000 && (verB s.vs s.tx && (isB s.cur 0 1000001 && ((!decide (s.cur = 0) || nothB s.was) && (decide ((jba s.vs).length <= 30) && ((jba s.vs).all (fun x => zoneS s x.zone) && eqX (entF (momS s) (jba s.vs)) s.ix)))))))
theorem live_of {l : List VersionD} {e : EventD} (h : e ∈ jba l) : ∃ v ∈ l, e = v.ev := by
 have h := liveL_mem.mp h
 unfold jcw at h
 cases hk : jcd l e.id with
 | none => rw [hk] at h; cases h
 | some k =>
  obtain ⟨_, ⟨v, hv, _⟩, _⟩ := jc8 hk
  rw [hk] at h
  simp only [hv] at h
  split at h
  ·cases h
  ·cases h; exact ⟨v, List.mem_of_getElem? hv, rfl⟩
theorem ver_event {l : List VersionD} {t : Int} (h : verB l t = true) : ∀ v ∈ l, jbk v.ev = true := fun v hv => by
 rw [verB_tx, Bool.and_eq_true] at h
 have h := h.1
 obtain ⟨k, hk⟩ := List.getElem?_of_mem hv
 unfold txB at h
 rw [Bool.and_eq_true] at h
 cases hx : txI l t k v
 ·have := txK_no hk hx (n := l.length) (List.getElem?_eq_some_iff.1 hk).1
  rw [h.2] at this
  cases this
 ·unfold txI at hx
  simp only [Bool.and_eq_true] at hx
  exact hx.2.2
theorem ev_right {e : EventD} (h : jbk e = true) : EvR e := by
 unfold jbk at h
 simp only [Bool.and_eq_true] at h
 obtain ⟨_, _, h3, h4, h5, h6⟩ := h
 have n := (nameB_t h3).2.1
 have a := jav h4
 have b := jav h5
 have c := jav h6
 exact ⟨by omega, a.1, a.2, b.1, b.2, c.1, c.2⟩
theorem ver_len {l : List VersionD} {t : Int} (h : verB l t = true) : l.length <= 60 := by
 rw [verB_tx, Bool.and_eq_true] at h
 have h := h.1
 unfold txB at h
 rw [Bool.and_eq_true] at h
 exact of_decide_eq_true h.1
set_option maxRecDepth 20000 in
theorem spec_StoreRight (s : StoreD) (v : Value) (w : World) (hv : Jh w v s) (ok : Zu s) :
  Calls Tryz.prog 5 #[v] w fun q w' => q = .returned (.bool (storeS s)) /\ Below w.heap.size w w' := by
 have hv0 := hv
 obtain ⟨a, b, c, d, e, f, va, ia, ca, cb, cc, cd, ce, cf, cv, ci, rfl, hN, hW, hV, hX, hcv, _⟩ := hv.form
 have hB0 := qal w (.cells #[.int .i64 s.tx, .slice a s.now.rules.length ca, .slice b s.now.zones.length cb, .slice c s.now.links.length cc, .slice d s.was.rules.length cd, .slice e s.was.zones.length ce, .slice f s.was.links.length cf, .int .i64 s.cur, .slice va s.vs.length cv, .slice ia s.ix.length ci] 41)
 have A0 := Zd.new w [.int .i64 s.tx, .slice a s.now.rules.length ca, .slice b s.now.zones.length cb, .slice c s.now.links.length cc, .slice d s.was.rules.length cd, .slice e s.was.zones.length ce, .slice f s.was.links.length cf, .int .i64 s.cur, .slice va s.vs.length cv, .slice ia s.ix.length ci] 41
 have q1 := fun w (h : Zb w (.agg #[.slice a s.now.rules.length ca, .slice b s.now.zones.length cb, .slice c s.now.links.length cc]) s.now) => jc4 s.now _ w h ok.now.ok ok.now.sm ok.now.on
 have q2 := fun w (h : Zb w (.agg #[.slice d s.was.rules.length cd, .slice e s.was.zones.length ce, .slice f s.was.links.length cf]) s.was) => jc4 s.was _ w h ok.was.ok ok.was.sm ok.was.on
 have q3 := fun w => jap s.tx 0 900000 w
 have q4 := fun w h => spec_l06Versions s.vs s.tx s.cur a b c d e f va ia s.now.rules.length ca s.now.zones.length cb s.now.links.length cc s.was.rules.length cd s.was.zones.length ce s.was.links.length cf s.vs.length cv s.ix.length ci w h ok.vs rfl ok.vl hcv
 have q5 := fun w => jap s.cur 0 1000001 w
 have q6 := fun w (h : Zb w (.agg #[.slice d s.was.rules.length cd, .slice e s.was.zones.length ce, .slice f s.was.links.length cf]) s.was) => spec_l06Nothing s.was _ w h ok.was.sm
 have HV := hid hV
 have HX := hid hX
 have HN := hid hN
 have HW := hid hW
 have HV0 := hid hv0
 clear hV hX hN hW hv hv0
 have x1 := A0.c 1 rfl
 have x2 := A0.c 2 rfl
 have x3 := A0.c 3 rfl
 go_enter Tryz.func5, Tryz.ntmps5
 go_upto_region 1 with fail
 go_cut [44] from 7 to 43 (fun s44 wx => ∃ bad : Bool, s44 = .bool bad /\ Hid (Zd wx w.heap.size (stL s a b c d e f va ia ca cb cc cd ce cf cv ci)) /\ Hid (Below w.heap.size w wx) /\ Hid (bad = true -> storeS s = false) /\ Hid (bad = false -> storeS s = (decide ((jba s.vs).length <= 30) && ((jba s.vs).all (fun x => zoneS s x.zone) && eqX (entF (momS s) (jba s.vs)) s.ix)) /\ relB s.now = true /\ relB s.was = true /\ verB s.vs s.tx = true))
 case first =>
  go_wp2_with fail
  refine (q1 _ (HN.out.below hB0)).mono ?_
  rintro e1 w1 ⟨rfl, hb1⟩
  have hB1 := qtr hB0 hb1
  have A1 := A0.below hb1
  clear x1 x2 x3 hb1 A0 hB0 q1
  cases h1 : relB s.now
  ·have HR : Hid (storeS s = false) := by simp only [Hid, storeS, h1, Bool.false_and, Bool.and_false]
   clear h1
   go_wp2
   go_meet
   exact ⟨true, rfl, A1, hB1, fun _ => HR.out, fun h => by cases h⟩
  have x4 := A1.c 4 rfl
  have x5 := A1.c 5 rfl
  have x6 := A1.c 6 rfl
  go_wp2_with fail
  refine (q2 _ (HW.out.below hB1)).mono ?_
  rintro e2 w2 ⟨rfl, hb2⟩
  have hB2 := qtr hB1 hb2
  have A2 := A1.below hb2
  clear x4 x5 x6 hb2 A1 hB1 q2
  cases h2 : relB s.was
  ·have HR : Hid (storeS s = false) := by simp only [Hid, storeS, h1, h2, Bool.false_and, Bool.and_false]
   clear h1 h2
   go_wp2
   go_meet
   exact ⟨true, rfl, A2, hB2, fun _ => HR.out, fun h => by cases h⟩
  have x0 := A2.c 0 rfl
  go_wp2_with fail
  refine (q3 _).mono ?_
  rintro e3 w3 ⟨rfl, hw3⟩
  have hb3 : Below w2.heap.size w2 w3 := by rw [hw3]; exact Below.refl _ _
  clear hw3
  have hB3 := qtr hB2 hb3
  have A3 := A2.below hb3
  clear x0 hb3 A2 hB2 q3
  cases h3 : isB s.tx 0 900000
  ·have HR : Hid (storeS s = false) := by simp only [Hid, storeS, h1, h2, h3, Bool.false_and, Bool.and_false]
   clear h1 h2 h3
   go_wp2
   go_meet
   exact ⟨true, rfl, A3, hB3, fun _ => HR.out, fun h => by cases h⟩
  have x0 := A3.c 0 rfl
  have x1 := A3.c 1 rfl
  have x2 := A3.c 2 rfl
  have x3 := A3.c 3 rfl
  have x4 := A3.c 4 rfl
  have x5 := A3.c 5 rfl
  have x6 := A3.c 6 rfl
  have x7 := A3.c 7 rfl
  have x8 := A3.c 8 rfl
  have x9 := A3.c 9 rfl
  go_wp2_with fail
  refine (q4 _ (HV.out.below hB3)).mono ?_
  rintro e4 w4 ⟨rfl, hb4⟩
  have hB4 := qtr hB3 hb4
  have A4 := A3.below hb4
  clear x0 x1 x2 x3 x4 x5 x6 x7 x8 x9 hb4 A3 hB3 q4
  cases h4 : verB s.vs s.tx
  ·have HR : Hid (storeS s = false) := by simp only [Hid, storeS, h1, h2, h3, h4, Bool.false_and, Bool.and_false]
   clear h1 h2 h3 h4
   go_wp2
   go_meet
   exact ⟨true, rfl, A4, hB4, fun _ => HR.out, fun h => by cases h⟩
  have x7 := A4.c 7 rfl
  go_wp2_with fail
  refine (q5 _).mono ?_
  rintro e5 w5 ⟨rfl, hw5⟩
  have hb5 : Below w4.heap.size w4 w5 := by rw [hw5]; exact Below.refl _ _
  clear hw5
  have hB5 := qtr hB4 hb5
  have A5 := A4.below hb5
  clear x7 hb5 A4 hB4 q5
  cases h5 : isB s.cur 0 1000001
  ·have HR : Hid (storeS s = false) := by simp only [Hid, storeS, h1, h2, h3, h4, h5, Bool.false_and, Bool.and_false]
   clear h1 h2 h3 h4 h5
   go_wp2
   go_meet
   exact ⟨true, rfl, A5, hB5, fun _ => HR.out, fun h => by cases h⟩
  have x7 := A5.c 7 rfl
  have x4 := A5.c 4 rfl
  have x5 := A5.c 5 rfl
  have x6 := A5.c 6 rfl
  by_cases h6 : s.cur = 0
  ·have h6b : (s.cur == 0) = true := by simp [h6]
   have H6 := hid h6
   clear h6
   go_wp2_with fail
   refine (q6 _ (HW.out.below hB5)).mono ?_
   rintro e6 w6 ⟨rfl, hb6⟩
   have hB6 := qtr hB5 hb6
   have A6 := A5.below hb6
   clear x7 x4 x5 x6 hb6 A5 hB5 q6
   cases h7 : nothB s.was
   ·have HR : Hid (storeS s = false) := by simp only [Hid, storeS, h1, h2, h3, h4, h5, decide_eq_true H6.out, h7, Bool.not_true, Bool.or_false, Bool.false_and, Bool.and_false]
    clear h1 h2 h3 h4 h5 h7
    go_wp2
    go_meet
    exact ⟨true, rfl, A6, hB6, fun _ => HR.out, fun h => by cases h⟩
   have H7 : Hid (storeS s = (decide ((jba s.vs).length <= 30) && ((jba s.vs).all (fun x => zoneS s x.zone) && eqX (entF (momS s) (jba s.vs)) s.ix))) := by simp only [Hid, storeS, h1, h2, h3, h4, h5, decide_eq_true H6.out, h7, Bool.not_true, Bool.or_true, Bool.true_and]
   go_wp2
   go_meet
   exact ⟨false, rfl, A6, hB6, fun h => by (cases h), fun _ => ⟨H7.out, h1, h2, h4⟩⟩
  ·have h6b : (s.cur == 0) = false := by simp [h6]
   have H7 : Hid (storeS s = (decide ((jba s.vs).length <= 30) && ((jba s.vs).all (fun x => zoneS s x.zone) && eqX (entF (momS s) (jba s.vs)) s.ix))) := by simp only [Hid, storeS, h1, h2, h3, h4, h5, decide_eq_false h6, Bool.not_false, Bool.true_or, Bool.true_and]
   go_wp2
   go_meet
   exact ⟨false, rfl, A5, hB5, fun h => by (cases h), fun _ => ⟨H7.out, h1, h2, h4⟩⟩
 case rest =>
  obtain ⟨bad, rfl, HA6, HB6, HT, HF⟩ := hcut
  obtain ⟨w6, hw6⟩ : ∃ x : World, x = wc := ⟨_, rfl⟩
  subst hw6
  have A6 := HA6.out
  have hB6 := HB6.out
  clear HA6 HB6 q1 q2 q3 q4 q5 q6 x1 x2 x3
  cases bad
  case true =>
   have HR : Hid (storeS s = false) := HT.out rfl
   go_wp2
   go_ret
   exact ⟨by rw [HR.out]; rfl, hB6⟩
  obtain ⟨h7, h1, h2, h4⟩ := HF.out rfl
  have H7 := hid h7
  clear h7 HT HF
  have x8 := A6.c 8 rfl
  have hvl := ver_len h4
  have hEv : ∀ x ∈ jba s.vs, EvR x := fun x hx => by
   obtain ⟨v, hv, rfl⟩ := live_of hx
   exact ev_right (ver_event h4 v hv)
  have q7 := spec_l06Live s.vs va s.vs.length cv w6 (HV.out.below hB6) rfl (by omega)
  go_wp2_with fail
  refine q7.mono ?_
  rintro q w7 ⟨lv, rfl, hO7, hb7⟩
  have hB7 := qtr hB6 hb7
  have A7 := A6.below hb7
  obtain ⟨pl, cl, rfl, hpl⟩ := row_is hO7
  clear x8 hb7 q7 A6
  have hk7 : w.heap.size <= w6.heap.size := hB6.size
  have hO8 : Ja w7 w.heap.size (.slice pl (jba s.vs).length cl) (jba s.vs) := jak hO7 hk7
  clear hO7 hB6 hk7
  obtain ⟨L, hLL⟩ : ∃ L, jba s.vs = L := ⟨_, rfl⟩
  have HLL := hid hLL
  rw [hLL] at H7 hEv hO8 hpl ⊢
  obtain ⟨nl, hnl⟩ : ∃ n, L.length = n := ⟨_, rfl⟩
  have HNL := hid hnl
  rw [hnl] at hpl H7 hO8 ⊢
  clear hLL hnl
  have HPL := hid hpl
  clear hpl
  by_cases hl : nl <= 30
  case neg =>
   have HR : Hid (storeS s = false) := by rw [H7.out, decide_eq_false hl]; rfl
   have hl2 : (30 : Int) < (nl : Int) := by omega
   clear hEv hO8
   go_wp2
   go_ret
   exact ⟨by rw [HR.out]; rfl, hB7⟩
  have hl2 : ¬ (30 : Int) < (nl : Int) := by omega
  rw [decide_eq_true hl, Bool.true_and] at H7
  go_wp2
  go_loopw [4] (fun s4 wr => ∃ i : Nat, i <= nl /\ s4 = .int .i64 i /\ Hid (∀ (j : Nat) x, j < i -> L[j]? = some x -> zoneS s x.zone = true) /\ Below w7.heap.size w7 wr) (fun s4 _ => nl - (intOf s4).toNat)
  case atStart => exact ⟨0, by omega, rfl, fun j x hj => by omega, Below.refl _ _⟩
  case round =>
   obtain ⟨wa, hwa⟩ : ∃ x : World, x = wr := ⟨_, rfl⟩
   subst hwa
   obtain ⟨i, hi, rfl, HK, hBr⟩ := hrel
   have Ba := qtr hB7 hBr
   by_cases hlt : i < nl
   ·have i1 : (i : Int) < (nl : Int) := by omega
    have i0 : (0 : Int) <= (i : Int) := by omega
    obtain ⟨gl, rfl⟩ := HPL.out (by omega)
    obtain ⟨x, hx⟩ : ∃ x, L[i]? = some x := ⟨_, List.getElem?_eq_getElem (by have := HNL.out; omega)⟩
    have bD : Below w7.heap.size w7 wa.drew := hBr.trans ((jab wa).mono hBr.size)
    have BD := qtr hB7 bD
    have AD := A7.below bD
    have zc : wa.drew.cell? ⟨gl, i * 6 + 2, none⟩ = some (.string x.zone) := (ev_cells (jae hO8 bD) hx).2.2.1
    have d0 := AD.c 0 rfl
    have d1 := AD.c 1 rfl
    have d2 := AD.c 2 rfl
    have d3 := AD.c 3 rfl
    have d4 := AD.c 4 rfl
    have d5 := AD.c 5 rfl
    have d6 := AD.c 6 rfl
    have d7 := AD.c 7 rfl
    have d8 := AD.c 8 rfl
    have d9 := AD.c 9 rfl
    have qz := spec_l06Zone s _ x.zone wa.drew (HV0.out.below BD) ok
    have HBD := hid bD
    have HBa := hid BD
    have HXi := hid hx
    clear bD BD AD hx hBr Ba
    obtain ⟨zt, hzt⟩ : ∃ z, zoneS s x.zone = z := ⟨_, rfl⟩
    have HZT := hid hzt
    rw [hzt] at qz
    clear hzt
    generalize x.zone = xz at zc qz
    cases zt
    ·have HR : Hid (storeS s = false) := by
      rw [H7.out, List.all_eq_false.mpr ⟨x, List.mem_of_getElem? HXi.out, by rw [HZT.out]; simp⟩]; rfl
     go_wp2_with fail
     go_region_held3 (fun w' => w'.cell? ⟨w.heap.size, 0, none⟩ = some (.int .i64 s.tx) /\ w'.cell? ⟨w.heap.size, 1, none⟩ = some (.slice a s.now.rules.length ca) /\ w'.cell? ⟨w.heap.size, 2, none⟩ = some (.slice b s.now.zones.length cb) /\ w'.cell? ⟨w.heap.size, 3, none⟩ = some (.slice c s.now.links.length cc) /\ w'.cell? ⟨w.heap.size, 4, none⟩ = some (.slice d s.was.rules.length cd) /\ w'.cell? ⟨w.heap.size, 5, none⟩ = some (.slice e s.was.zones.length ce) /\ w'.cell? ⟨w.heap.size, 6, none⟩ = some (.slice f s.was.links.length cf) /\ w'.cell? ⟨w.heap.size, 7, none⟩ = some (.int .i64 s.cur) /\ w'.cell? ⟨w.heap.size, 8, none⟩ = some (.slice va s.vs.length cv) /\ w'.cell? ⟨w.heap.size, 9, none⟩ = some (.slice ia s.ix.length ci) /\ w'.cell? ⟨gl, i * 6 + 2, none⟩ = some (.string xz)) (go_keep) ((go_at_call 17; refine qz.mono ?_; rintro q w9 ⟨rfl, hb9⟩; have g0_ := jaa hb9 d0; have g1_ := jaa hb9 d1; have g2_ := jaa hb9 d2; have g3_ := jaa hb9 d3; have g4_ := jaa hb9 d4; have g5_ := jaa hb9 d5; have g6_ := jaa hb9 d6; have g7_ := jaa hb9 d7; have g8_ := jaa hb9 d8; have g9_ := jaa hb9 d9; have gz_ := jaa hb9 zc))
     all_goals
      clear g0_ g1_ g2_ g3_ g4_ g5_ g6_ g7_ g8_ g9_ gz_
      have hB9 := qtr HBa.out hb9
      go_wp2
      go_ret
      exact ⟨by rw [HR.out]; rfl, hB9⟩
    ·have HK2 : Hid (∀ (j : Nat) x, j < i + 1 -> L[j]? = some x -> zoneS s x.zone = true) := fun j y hj hy => by
      by_cases e : j = i
      ·subst e; rw [HXi.out] at hy; obtain rfl := Option.some.inj hy; exact HZT.out
      ·exact HK.out j y (by omega) hy
     go_wp2_with fail
     go_region_held3 (fun w' => w'.cell? ⟨w.heap.size, 0, none⟩ = some (.int .i64 s.tx) /\ w'.cell? ⟨w.heap.size, 1, none⟩ = some (.slice a s.now.rules.length ca) /\ w'.cell? ⟨w.heap.size, 2, none⟩ = some (.slice b s.now.zones.length cb) /\ w'.cell? ⟨w.heap.size, 3, none⟩ = some (.slice c s.now.links.length cc) /\ w'.cell? ⟨w.heap.size, 4, none⟩ = some (.slice d s.was.rules.length cd) /\ w'.cell? ⟨w.heap.size, 5, none⟩ = some (.slice e s.was.zones.length ce) /\ w'.cell? ⟨w.heap.size, 6, none⟩ = some (.slice f s.was.links.length cf) /\ w'.cell? ⟨w.heap.size, 7, none⟩ = some (.int .i64 s.cur) /\ w'.cell? ⟨w.heap.size, 8, none⟩ = some (.slice va s.vs.length cv) /\ w'.cell? ⟨w.heap.size, 9, none⟩ = some (.slice ia s.ix.length ci) /\ w'.cell? ⟨gl, i * 6 + 2, none⟩ = some (.string xz)) (go_keep) ((go_at_call 17; refine qz.mono ?_; rintro q w9 ⟨rfl, hb9⟩; have g0_ := jaa hb9 d0; have g1_ := jaa hb9 d1; have g2_ := jaa hb9 d2; have g3_ := jaa hb9 d3; have g4_ := jaa hb9 d4; have g5_ := jaa hb9 d5; have g6_ := jaa hb9 d6; have g7_ := jaa hb9 d7; have g8_ := jaa hb9 d8; have g9_ := jaa hb9 d9; have gz_ := jaa hb9 zc))
     all_goals
      clear g0_ g1_ g2_ g3_ g4_ g5_ g6_ g7_ g8_ g9_ gz_
      have hB9 := qtr HBD.out hb9
      have HB9 := hid hB9
      clear hB9 hb9
      go_wp2
      go_roundw
      case rel => exact ⟨i + 1, by omega, by go_num, HK2, HB9.out⟩
      case measure => simp [intOf]; omega
   ·obtain rfl : i = nl := by omega
    have hal : L.all (fun x => zoneS s x.zone) = true := List.all_eq_true.mpr fun x hx => by
     obtain ⟨j, hj⟩ := List.getElem?_of_mem hx
     have h1 := (List.getElem?_eq_some_iff.1 hj).1
     have h2 := HNL.out
     exact HK.out j x (by omega) hj
    rw [hal, Bool.true_and] at H7
    have Aa := A7.below hBr
    have d0 := Aa.c 0 rfl
    have d1 := Aa.c 1 rfl
    have d2 := Aa.c 2 rfl
    have d3 := Aa.c 3 rfl
    have d4 := Aa.c 4 rfl
    have d5 := Aa.c 5 rfl
    have d6 := Aa.c 6 rfl
    have d7 := Aa.c 7 rfl
    have d8 := Aa.c 8 rfl
    have d9 := Aa.c 9 rfl
    have qe := spec_l06Entries s _ wa (HV0.out.below Ba) ok h1 h2 (by omega) (by rw [HLL.out, HNL.out]; omega) (by rw [HLL.out]; exact hEv)
    rw [HLL.out] at qe
    have HAa := hid Aa
    clear hal HK hO8 A7 Aa hBr hEv
    go_wp2_with fail
    refine qe.mono ?_
    rintro q w9 ⟨xv, rfl, hO9, hb9⟩
    obtain ⟨X, hXX⟩ : ∃ X, entF (momS s) L = X := ⟨_, rfl⟩
    rw [hXX] at hO9 H7
    obtain ⟨px, cx, rfl, hpx⟩ := row_is hO9
    have B9 := qtr Ba hb9
    have A9 := HAa.out.below hb9
    have x9 := A9.c 9 rfl
    have hXl : X.length <= 30 := by rw [<- hXX]; exact Nat.le_trans (entF_len _ _) (by rw [HNL.out]; exact hl)
    clear hXX qe d0 d1 d2 d3 d4 d5 d6 d7 d8 d9 hb9 Ba HAa
    have hsx := own_rowsS hO9
    obtain ⟨px2, cx2, hvx, hsx, _⟩ := jbv hsx jaj
    rw [List.length_map] at hvx
    injection hvx with h1x _ h3x
    subst h1x h3x
    clear hO9 hpx
    obtain ⟨nx, hnx⟩ : ∃ n, X.length = n := ⟨_, rfl⟩
    have HNX := hid hnx
    rw [hnx] at hXl ⊢
    clear hnx
    obtain ⟨ni, hni⟩ : ∃ n, s.ix.length = n := ⟨_, rfl⟩
    have HNI := hid hni
    have hil := ok.xl
    rw [hni] at x9 hil
    clear hni
    have HX9 : Hid (Za w9 ia 2 (s.ix.map EntryD.cs)) := HX.out.below B9
    have HSX := hid hsx
    have HB9 := hid B9
    clear hsx B9 A9
    by_cases hnn : nx = ni
    case neg =>
     have HR : Hid (storeS s = false) := by rw [H7.out]; exact eqX_no fun h => hnn (by rw [<- HNX.out, <- HNI.out, h])
     have hn2 : ¬ (nx : Int) = (ni : Int) := by omega
     go_wp2
     go_ret
     exact ⟨by rw [HR.out]; rfl, HB9.out⟩
    subst hnn
    obtain ⟨zq, hzq⟩ : ∃ z, eqX X s.ix = z := ⟨_, rfl⟩
    have HZ := hid hzq
    have HR : Hid (storeS s = zq) := by simp only [Hid]; rw [H7.out]; exact hzq
    clear hzq
    go_wp2
    go_loopw [6] (fun s6 wr => ∃ i : Nat, i <= nx /\ s6 = .int .i64 i /\ Hid (∀ j, j < i -> X[j]? = s.ix[j]?) /\ Below w9.heap.size w9 wr) (fun s6 _ => nx - (intOf s6).toNat)
    case atStart => exact ⟨0, by omega, rfl, fun j hj => by omega, Below.refl _ _⟩
    case round =>
     obtain ⟨wb, hwb⟩ : ∃ x : World, x = wr := ⟨_, rfl⟩
     subst hwb
     obtain ⟨k, hk, rfl, HK, hBr⟩ := hrel
     have hBf := qtr HB9.out hBr
     by_cases hlt : k < nx
     ·have a1 : (k : Int) < (nx : Int) := by omega
      obtain ⟨x, hx⟩ : ∃ v, X[k]? = some v := ⟨_, List.getElem?_eq_getElem (by have := HNX.out; omega)⟩
      obtain ⟨y, hy⟩ : ∃ v, s.ix[k]? = some v := ⟨_, List.getElem?_eq_getElem (by have := HNI.out; omega)⟩
      obtain ⟨p1, o1, rfl, hc⟩ := (HSX.out.below hBr).at (i := k) (r := x.cs) (by rw [List.getElem?_map, hx]; rfl)
      obtain ⟨p2, o2, rfl, hd⟩ := (HX9.out.below hBr).at (i := k) (r := y.cs) (by rw [List.getElem?_map, hy]; rfl)
      have c0 : wb.cell? ⟨p1, o1 + k * 2, none⟩ = some (.int .i64 x.at_) := hc 0 _ rfl
      have c1 : wb.cell? ⟨p1, o1 + k * 2 + 1, none⟩ = some (.int .i64 x.id) := hc 1 _ rfl
      have d0 : wb.cell? ⟨p2, o2 + k * 2, none⟩ = some (.int .i64 y.at_) := hd 0 _ rfl
      have d1 : wb.cell? ⟨p2, o2 + k * 2 + 1, none⟩ = some (.int .i64 y.id) := hd 1 _ rfl
      have x9b := jaa hBr x9
      have HXY : Hid (X[k]? = some x /\ s.ix[k]? = some y) := ⟨hx, hy⟩
      clear hc hd hx hy
      obtain ⟨xa, xi⟩ := x
      obtain ⟨ya, yi⟩ := y
      dsimp only at *
      by_cases e1 : xa = ya
      ·subst e1
       by_cases e2 : xi = yi
       ·subst e2
        have HK2 : Hid (∀ j, j < k + 1 -> X[j]? = s.ix[j]?) := fun j hj => by
         by_cases e : j = k
         ·subst e; rw [HXY.out.1, HXY.out.2]
         ·exact HK.out j (by omega)
        clear HXY HK
        go_wp2_with fail
        go_quiet (fail)
        go_wp2
        go_roundw
        case rel => exact ⟨k + 1, by omega, by go_num, HK2, below_drewN hBr _⟩
        case measure => simp [intOf]; omega
       ·obtain rfl : zq = false := by
         rw [<- HZ.out]
         refine eqX_no fun h => ?_
         have h1 := HXY.out.1; rw [h, HXY.out.2] at h1
         injection h1 with h1; injection h1 with _ h1; exact e2 h1.symm
        clear HXY HK
        go_wp2_with fail
        go_quiet (fail)
        go_wp2
        go_ret
        exact ⟨by rw [HR.out]; rfl, below_drewN hBf _⟩
      ·obtain rfl : zq = false := by
        rw [<- HZ.out]
        refine eqX_no fun h => ?_
        have h1 := HXY.out.1; rw [h, HXY.out.2] at h1
        injection h1 with h1; injection h1 with h1 _; exact e1 h1.symm
       clear HXY HK
       go_wp2_with fail
       go_quiet (fail)
       go_wp2
       go_ret
       exact ⟨by rw [HR.out]; rfl, below_drewN hBf _⟩
     ·obtain rfl : k = nx := by omega
      obtain rfl : zq = true := by
       rw [<- HZ.out, eqX_iff]
       refine List.ext_getElem? fun j => ?_
       by_cases hj : j < k
       ·exact HK.out j hj
       ·rw [List.getElem?_eq_none (by rw [HNX.out]; omega), List.getElem?_eq_none (by rw [HNI.out]; omega)]
      go_wp2
      go_ret
      exact ⟨by rw [HR.out]; rfl, hBf⟩
end
section
open Go.RowKit
theorem mom_same {s : StoreD} {e : EventD} (h1 : relB s.now = true) (h2 : relB s.was = true) (hz : zoneS s e.zone = true) (hs : e.zone.size <= 8000) : momS s e = momB s e := by
 unfold zoneS at hz
 simp only [Bool.and_eq_true, Bool.or_eq_true, decide_eq_true_eq] at hz
 unfold momB momS
 split
 ·unfold momD momR
  rw [tab_mine h1 hz.1 hs]
 ·rename_i hc
  have hn : s.cur ≠ 0 := fun h => hc (.inl h)
  unfold momD momR
  rw [tab_mine h2 (hz.2.resolve_left hn) hs]
theorem ent_same {s : StoreD} (h1 : relB s.now = true) (h2 : relB s.was = true) (hv : verB s.vs s.tx = true) (hz : (jba s.vs).all (fun x => zoneS s x.zone) = true) : entF (momS s) (jba s.vs) = entF (momB s) (jba s.vs) := entF_same fun e he => by
 obtain ⟨v, hm, rfl⟩ := live_of he
 exact mom_same h1 h2 (List.all_eq_true.mp hz _ he) (ev_right (ver_event hv v hm)).zone
theorem store_same (s : StoreD) : storeS s = storeI s := by
 rw [Bool.eq_iff_iff]
 have E := @ent_same s
 rw [verB_tx] at E
 unfold storeS storeI goodI frameB frmB isB
 rw [verB_tx, liveB_zone]
 simp only [Bool.and_eq_true, decide_eq_true_eq, eqX_iff] at E ⊢
 constructor
 ·rintro ⟨a, b, ⟨c1, c2⟩, ⟨d1, d2⟩, ⟨e1, e2⟩, f, g, h, i⟩
  exact ⟨⟨⟨⟨c1, c2, e1, e2, f⟩, a, b⟩, d1, d2, g, h⟩, by rw [<- E a b ⟨d1, d2⟩ h]; exact i.symm⟩
 ·rintro ⟨⟨⟨⟨c1, c2, e1, e2, f⟩, a, b⟩, d1, d2, g, h⟩, i⟩
  exact ⟨a, b, ⟨c1, c2⟩, ⟨d1, d2⟩, ⟨e1, e2⟩, f, g, h, by rw [E a b ⟨d1, d2⟩ h]; exact i.symm⟩
end
end Go.Proofs.YtpejeokacilebaaGreatDoor
