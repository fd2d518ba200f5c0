/- Packed. -/
import Derived.Test.YtpejeokacilebaaGreatDoorSAs
import Derived.Test.YtpejeokacilebaaGreatDoorZonePs
import Derived.Test.YtpejeokacilebaaGreatDoorRightXs
import Derived.Test.YtpejeokacilebaaGreatDoorRelPs
import Derived.Deep.RegionHeld3
import Derived.Sort.Grow
import Derived.Laws.StructEq
import Derived.BigQuiet
import Derived.Lib.SliceRun
import Derived.OwnWalk
set_option maxRecDepth 100000
set_option maxHeartbeats 20000000
set_option linter.unusedSimpArgs false
namespace Go.Proofs.YtpejeokacilebaaGreatDoor
section
open Go.RowKit
structure StoreD where
 tx : Int
 now : RelD
 was : RelD
 cur : Int
 vs : List VersionD
 ix : List EntryD
structure Jj (r : RelD) : Prop where
 ok : r.ok
 sm : r.small
 on : ∀ x ∈ r.rules, x.on.size <= 1048576
structure Jh (w : World) (v : Value) (s : StoreD) : Prop where
 form : ∃ a b c d e f va ia ca cb cc cd ce cf cv ci, v = .agg #[.int .i64 s.tx, .slice a s.now.rules.length ca, .slice b s.now.zones.length cb, .slice c s.now.links.length cc, .slice d s.was.rules.length cd, .slice e s.was.zones.length ce, .slice f s.was.links.length cf, .int .i64 s.cur, .slice va s.vs.length cv, .slice ia s.ix.length ci] /\ Zb w (.agg #[.slice a s.now.rules.length ca, .slice b s.now.zones.length cb, .slice c s.now.links.length cc]) s.now /\ Zb w (.agg #[.slice d s.was.rules.length cd, .slice e s.was.zones.length ce, .slice f s.was.links.length cf]) s.was /\ Za w va 8 (s.vs.map VersionD.cs) /\ Za w ia 2 (s.ix.map EntryD.cs) /\ s.vs.length <= cv /\ s.ix.length <= ci
theorem Jh.below {w w' : World} {v : Value} {s : StoreD} (h : Jh w v s) (hb : Below w.heap.size w w') : Jh w' v s := by
 obtain ⟨a, b, c, d, e, f, va, ia, ca, cb, cc, cd, ce, cf, cv, ci, hv, h1, h2, h3, h4, h5, h6⟩ := h.form
 exact ⟨a, b, c, d, e, f, va, ia, ca, cb, cc, cd, ce, cf, cv, ci, hv, h1.below hb, h2.below hb, h3.below hb, h4.below hb, h5, h6⟩
structure Zu (s : StoreD) : Prop where
 now : Jj s.now
 was : Jj s.was
 vs : ∀ v ∈ s.vs, v.ok
 vl : s.vs.length <= 1048576
 xl : s.ix.length <= 1048576
def inR (r : RelD) (nm : ByteArray) : Bool := (jbd r.zones (ja6 r.links nm)).isSome
theorem inR_num (r : RelD) (nm : ByteArray) : decide ((0 : Int) <= ixI (jbd r.zones (ja6 r.links nm))) = inR r nm := by
 unfold inR
 cases jbd r.zones (ja6 r.links nm) with
 | none => rfl
 | some i => simp [ixI]
theorem inR_name {r : RelD} {nm : ByteArray} (h : relB r = true) : inR r nm = decide (1 <= (jam r nm).name.size) := by
 unfold inR
 cases hx : jbd r.zones (ja6 r.links nm) with
 | none => rw [jc2 hx]; rfl
 | some i =>
  have hi : i < r.zones.length := by unfold jbd at hx; exact (List.findIdx?_eq_some_iff_getElem.mp hx).1
  have hz : r.zones[i]? = some r.zones[i] := List.getElem?_eq_getElem hi
  rw [jcm h hx hz]
  have := (nameB_t (jc6 h (List.getElem_mem hi)).2).1
  simp; omega
def nothB (r : RelD) : Bool := decide (r.rules.length = 0) && (decide (r.zones.length = 0) && decide (r.links.length = 0))
def zoneS (s : StoreD) (nm : ByteArray) : Bool := inR s.now nm && (decide (s.cur = 0) || inR s.was nm)
theorem spec_l06Nothing (r : RelD) (v : Value) (w : World) (hv : Zb w v r) (sm : r.small) :
  Calls Tryz.prog 15 #[v] w fun e w' => e = .returned (.bool (nothB r)) /\ Below w.heap.size w w' := by
 obtain ⟨a, b, c, ca, cb, cc, rfl, _, _, _⟩ := hv.form
 obtain ⟨m1, m2, m3, _⟩ := sm
 have hB0 := qal w (.cells #[.slice a r.rules.length ca, .slice b r.zones.length cb, .slice c r.links.length cc] 37)
 unfold nothB
 generalize r.rules.length = x at *
 generalize r.zones.length = y at *
 generalize r.links.length = z at *
 clear hv
 by_cases h1 : x = 0
 ·subst h1
  by_cases h2 : y = 0
  ·subst h2
   by_cases h3 : z = 0
   ·subst h3
    go_enter Tryz.func15, Tryz.ntmps15
    go_wp2
    go_ret
    exact ⟨rfl, hB0⟩
   ·rw [decide_eq_false h3]
    have h4 : ((z : Int) == 0) = false := by simp; omega
    go_enter Tryz.func15, Tryz.ntmps15
    go_wp2
    go_ret
    exact ⟨rfl, hB0⟩
  ·rw [decide_eq_false h2]
   have h4 : ¬ (y : Int) = 0 := by omega
   go_enter Tryz.func15, Tryz.ntmps15
   go_wp2
   go_ret
   exact ⟨rfl, hB0⟩
 ·rw [decide_eq_false h1]
  have h4 : ¬ (x : Int) = 0 := by omega
  go_enter Tryz.func15, Tryz.ntmps15
  go_wp2
  go_ret
  exact ⟨rfl, hB0⟩
theorem spec_l06Zone (s : StoreD) (v : Value) (nm : ByteArray) (w : World) (hv : Jh w v s) (ok : Zu s) :
  Calls Tryz.prog 17 #[v, .string nm] w fun e w' => e = .returned (.bool (zoneS s nm)) /\ Below w.heap.size w w' := by
 obtain ⟨a, b, c, d, e, f, va, ia, ca, cb, cc, cd, ce, cf, cv, ci, rfl, hN, hW, _, _, _, _⟩ := hv.form
 have hB0 := qal w (.cells #[.int .i64 s.tx, .slice a s.now.rules.length ca, .slice b s.now.zones.length cb, .slice c s.now.links.length cc, .slice d s.was.rules.length cd, .slice e s.was.zones.length ce, .slice f s.was.links.length cf, .int .i64 s.cur, .slice va s.vs.length cv, .slice ia s.ix.length ci] 41)
 have hF := fun w h => spec_l02Find s.now (.agg #[.slice a s.now.rules.length ca, .slice b s.now.zones.length cb, .slice c s.now.links.length cc]) nm w h ok.now.sm
 have hG := fun w h => spec_l02Find s.was (.agg #[.slice d s.was.rules.length cd, .slice e s.was.zones.length ce, .slice f s.was.links.length cf]) nm w h ok.was.sm
 have h1 := inR_num s.now nm
 have h2 := inR_num s.was nm
 unfold zoneS
 have hN0 := hN.below hB0
 have hW0 := hW.below hB0
 clear hv ok hN hW
 generalize ixI (jbd s.now.zones (ja6 s.now.links nm)) = x at *
 generalize ixI (jbd s.was.zones (ja6 s.was.links nm)) = y at *
 generalize inR s.now nm = p at *
 generalize inR s.was nm = q at *
 obtain ⟨tx, now, was, cur, vs, ix⟩ := s
 dsimp only at *
 by_cases e1 : (0 : Int) <= x
 ·rw [decide_eq_true e1] at h1
  subst h1
  by_cases e2 : cur = 0
  ·subst e2
   go_enter Tryz.func17, Tryz.ntmps17
   go_wp2_with fail
   refine (hF _ hN0).mono ?_
   rintro e w1 ⟨rfl, hb1⟩
   have x7 : w1.cell? ⟨w.heap.size, 7, none⟩ = some (.int .i64 0) := jaa hb1 (by simp [go_sem])
   go_wp2
   go_ret
   exact ⟨rfl, hB0.trans (hb1.mono (by simp))⟩
  ·rw [decide_eq_false e2]
   go_enter Tryz.func17, Tryz.ntmps17
   go_wp2_with fail
   refine (hF _ hN0).mono ?_
   rintro e1' w1 ⟨rfl, hb1⟩
   have x7 : w1.cell? ⟨w.heap.size, 7, none⟩ = some (.int .i64 cur) := jaa hb1 (by simp [go_sem])
   have x4 : w1.cell? ⟨w.heap.size, 4, none⟩ = some (.slice d was.rules.length cd) := jaa hb1 (by simp [go_sem])
   have x5 : w1.cell? ⟨w.heap.size, 5, none⟩ = some (.slice e was.zones.length ce) := jaa hb1 (by simp [go_sem])
   have x6 : w1.cell? ⟨w.heap.size, 6, none⟩ = some (.slice f was.links.length cf) := jaa hb1 (by simp [go_sem])
   have hW1 := hW0.below hb1
   have hB1 := hB0.trans (hb1.mono (by simp))
   clear hB0 hb1 hW0 hN0
   go_wp2_with fail
   refine (hG _ hW1).mono ?_
   rintro e w2 ⟨rfl, hb2⟩
   have hB2 := qtr hB1 hb2
   by_cases e3 : (0 : Int) <= y
   ·rw [decide_eq_true e3] at h2
    subst h2
    go_wp2
    go_ret
    exact ⟨ret_bool (by simp [e2, e3]), hB2⟩
   ·rw [decide_eq_false e3] at h2
    subst h2
    go_wp2
    go_ret
    exact ⟨ret_bool (by simp [e2, e3]), hB2⟩
 ·rw [decide_eq_false e1] at h1
  subst h1
  go_enter Tryz.func17, Tryz.ntmps17
  go_wp2_with fail
  refine (hF _ hN0).mono ?_
  rintro e w1 ⟨rfl, hb1⟩
  go_wp2
  go_ret
  exact ⟨rfl, hB0.trans (hb1.mono (by simp))⟩
theorem impl_zoneIn (r : RelD) (v : Value) (nm : ByteArray) (w : World) (hEnv : Zw w) (hv : Zb w v r) (ok : Jj r) (hr : relB r = true) :
  Calls Tryz.prog 108 #[v, .string nm] w fun e w' => e = .returned (.bool (inR r nm)) /\ Below w.heap.size w w' := by
 obtain ⟨a, b, c, ca, cb, cc, hvv, _, _, _⟩ := hv.form
 have hB0 := qal w (.cells #[.slice a r.rules.length ca, .slice b r.zones.length cb, .slice c r.links.length cc] 37)
 have hZ := fun w hE h => impl_ZoneOf r v nm w hE h ok.ok ok.sm ok.on
 rw [inR_name hr]
 have hv0 := hv.below hB0
 have hE0 := hEnv.of_below hB0
 generalize (jam r nm).name = zn at *
 subst hvv
 clear hv ok
 by_cases h1 : 1 <= zn.size
 ·rw [decide_eq_true h1]
  have h2 : ¬ zn.toList = [] := fun h => by rw [<- List.length_eq_zero_iff, size_toList] at h; omega
  have h3 : zn.toList.isEmpty = false := by simp [h2]
  go_enter Tryz.func108, Tryz.ntmps108
  go_wp2_with fail
  refine (hZ _ hE0 hv0).mono ?_
  rintro e w1 ⟨v', rfl, _, hb1⟩
  have hfd : ∀ w : World, (Instr.field 81 (.agg #[.string zn, v']) 0).run Tryz.prog w = .ok (.string zn) w := fun _ => by kernel_rfl
  go_wp2
  go_ret
  exact ⟨rfl, hB0.trans (hb1.mono (by simp))⟩
 ·rw [decide_eq_false h1]
  have h2 : zn.toList = [] := by rw [<- List.length_eq_zero_iff, size_toList]; omega
  go_enter Tryz.func108, Tryz.ntmps108
  go_wp2_with fail
  refine (hZ _ hE0 hv0).mono ?_
  rintro e w1 ⟨v', rfl, _, hb1⟩
  have hfd : ∀ w : World, (Instr.field 81 (.agg #[.string zn, v']) 0).run Tryz.prog w = .ok (.string zn) w := fun _ => by kernel_rfl
  go_wp2
  go_ret
  exact ⟨rfl, hB0.trans (hb1.mono (by simp))⟩
end
section
open Go.RowKit
def frmB (s : StoreD) : Bool := decide (0 <= s.tx) && (decide (s.tx <= 900000) && (decide (0 <= s.cur) && (decide (s.cur <= 1000001) && (!decide (s.cur = 0) || nothB s.was))))
def frameB (s : StoreD) : Bool := frmB s && (relB s.now && relB s.was)
theorem frm_1 {s : StoreD} (h : s.tx < 0) : frmB s = false := by unfold frmB; rw [decide_eq_false (by omega)]; rfl
theorem frm_2 {s : StoreD} (h : 900000 < s.tx) : frmB s = false := by unfold frmB; rw [decide_eq_false (p := s.tx <= 900000) (by omega)]; simp
theorem frm_3 {s : StoreD} (h : s.cur < 0) : frmB s = false := by unfold frmB; rw [decide_eq_false (p := 0 <= s.cur) (by omega)]; simp
theorem frm_4 {s : StoreD} (h : 1000001 < s.cur) : frmB s = false := by unfold frmB; rw [decide_eq_false (p := s.cur <= 1000001) (by omega)]; simp
theorem frm_5 {s : StoreD} (h : s.cur = 0) (hn : nothB s.was = false) : frmB s = false := by unfold frmB; rw [decide_eq_true h, hn]; simp
theorem frm_6 {s : StoreD} (h1 : 0 <= s.tx) (h2 : s.tx <= 900000) (h3 : 0 <= s.cur) (h4 : s.cur <= 1000001) (h5 : s.cur = 0 -> nothB s.was = true) : frmB s = true := by
 unfold frmB
 rw [decide_eq_true h1, decide_eq_true h2, decide_eq_true h3, decide_eq_true h4]
 by_cases h : s.cur = 0
 ·rw [h5 h]; simp
 ·rw [decide_eq_false h]; rfl
theorem noth_iff (r : RelD) : nothB r = decide (¬ 0 < ((r.rules.length : Int) + r.zones.length) + r.links.length) := by
 unfold nothB
 by_cases h : 0 < ((r.rules.length : Int) + r.zones.length) + r.links.length
 ·rw [decide_eq_false (p := ¬ _) (by simp [h])]
  by_cases h1 : r.rules.length = 0
  ·by_cases h2 : r.zones.length = 0
   ·rw [decide_eq_false (p := r.links.length = 0) (by omega)]; simp
   ·rw [decide_eq_false h2]; simp
  ·rw [decide_eq_false h1]; rfl
 ·rw [decide_eq_true (p := ¬ _) h, decide_eq_true (p := r.rules.length = 0) (by omega), decide_eq_true (p := r.zones.length = 0) (by omega), decide_eq_true (p := r.links.length = 0) (by omega)]; rfl
theorem impl_frameRight (s : StoreD) (v : Value) (w : World) (hE : Zw w) (hv : Jh w v s) (ok : Zu s) :
  Calls Tryz.prog 44 #[v] w fun e w' => e = .returned (.bool (frameB s)) /\ Below w.heap.size w w' := by
 obtain ⟨a, b, c, d, e, f, va, ia, ca, cb, cc, cd, ce, cf, cv, ci, rfl, hN, hW, _, _, _, _⟩ := hv.form
 have hB0 := qal w (.cells #[.int .i64 s.tx, .slice a s.now.rules.length ca, .slice b s.now.zones.length cb, .slice c s.now.links.length cc, .slice d s.was.rules.length cd, .slice e s.was.zones.length ce, .slice f s.was.links.length cf, .int .i64 s.cur, .slice va s.vs.length cv, .slice ia s.ix.length ci] 41)
 have hF := fun w hE h => jbo s.now (.agg #[.slice a s.now.rules.length ca, .slice b s.now.zones.length cb, .slice c s.now.links.length cc]) w hE h ok.now.ok ok.now.sm ok.now.on
 have hG := fun w hE h => jbo s.was (.agg #[.slice d s.was.rules.length cd, .slice e s.was.zones.length ce, .slice f s.was.links.length cf]) w hE h ok.was.ok ok.was.sm ok.was.on
 obtain ⟨m1, m2, m3, _⟩ := ok.was.sm
 have hN0 := hN.below hB0
 have hW0 := hW.below hB0
 have hE0 := hE.of_below hB0
 have H1 : Hid (s.tx < 0 -> frmB s = false) := frm_1
 have H2 : Hid (900000 < s.tx -> frmB s = false) := frm_2
 have H3 : Hid (s.cur < 0 -> frmB s = false) := frm_3
 have H4 : Hid (1000001 < s.cur -> frmB s = false) := frm_4
 have H5 : Hid (s.cur = 0 -> 0 < ((s.was.rules.length : Int) + s.was.zones.length) + s.was.links.length -> frmB s = false) := fun h h2 => frm_5 h (by rw [noth_iff]; exact decide_eq_false (by omega))
 have H6 : Hid (0 <= s.tx -> s.tx <= 900000 -> 0 <= s.cur -> s.cur <= 1000001 -> (s.cur = 0 -> ¬ 0 < ((s.was.rules.length : Int) + s.was.zones.length) + s.was.links.length) -> frmB s = true) := fun h1 h2 h3 h4 h5 => frm_6 h1 h2 h3 h4 fun h => by rw [noth_iff]; exact decide_eq_true (h5 h)
 unfold frameB
 clear hv ok hN hW hE
 generalize frmB s = fb at *
 generalize relB s.now = nb at *
 generalize relB s.was = wb at *
 obtain ⟨tx, now, was, cur, vs, ix⟩ := s
 dsimp only at *
 generalize was.rules.length = x at *
 generalize was.zones.length = y at *
 generalize was.links.length = z at *
 by_cases e1 : tx < 0
 ·obtain rfl : fb = false := H1.out e1
  clear H1 H2 H3 H4 H5 H6
  go_enter Tryz.func44, Tryz.ntmps44
  go_wp2
  go_ret
  exact ⟨rfl, hB0⟩
 by_cases e2 : 900000 < tx
 ·obtain rfl : fb = false := H2.out e2
  clear H1 H2 H3 H4 H5 H6
  go_enter Tryz.func44, Tryz.ntmps44
  go_wp2
  go_ret
  exact ⟨rfl, hB0⟩
 by_cases e3 : cur < 0
 ·obtain rfl : fb = false := H3.out e3
  clear H1 H2 H3 H4 H5 H6
  go_enter Tryz.func44, Tryz.ntmps44
  go_wp2
  go_ret
  exact ⟨rfl, hB0⟩
 by_cases e4 : 1000001 < cur
 ·obtain rfl : fb = false := H4.out e4
  clear H1 H2 H3 H4 H5 H6
  go_enter Tryz.func44, Tryz.ntmps44
  go_wp2
  go_ret
  exact ⟨rfl, hB0⟩
 by_cases e5 : cur = 0
 ·subst e5
  by_cases e6 : 0 < ((x : Int) + y) + z
  ·obtain rfl : fb = false := H5.out rfl e6
   clear H1 H2 H3 H4 H5 H6
   go_enter Tryz.func44, Tryz.ntmps44
   go_wp2
   go_ret
   exact ⟨rfl, hB0⟩
  obtain rfl : fb = true := H6.out (by omega) (by omega) (by omega) (by omega) fun _ => e6
  clear H1 H2 H3 H4 H5 H6
  go_enter Tryz.func44, Tryz.ntmps44
  go_wp2_with fail
  refine (hF _ hE0 hN0).mono ?_
  rintro e' w1 ⟨rfl, hb1⟩
  have x4 : w1.cell? ⟨w.heap.size, 4, none⟩ = some (.slice d x cd) := jaa hb1 (by simp [go_sem])
  have x5 : w1.cell? ⟨w.heap.size, 5, none⟩ = some (.slice e y ce) := jaa hb1 (by simp [go_sem])
  have x6 : w1.cell? ⟨w.heap.size, 6, none⟩ = some (.slice f z cf) := jaa hb1 (by simp [go_sem])
  have hW1 := hW0.below hb1
  have hE1 := hE0.of_below hb1
  have hB1 := hB0.trans (hb1.mono (by simp))
  clear hB0 hb1 hW0 hN0 hE0
  cases nb
  ·go_wp2
   go_ret
   exact ⟨rfl, hB1⟩
  go_wp2_with fail
  refine (hG _ hE1 hW1).mono ?_
  rintro e' w2 ⟨rfl, hb2⟩
  have hB2 := qtr hB1 hb2
  go_wp2
  go_ret
  exact ⟨ret_bool (by simp), hB2⟩
 ·have e7 : (cur == 0) = false := by simp [e5]
  obtain rfl : fb = true := H6.out (by omega) (by omega) (by omega) (by omega) fun h => absurd h e5
  clear H1 H2 H3 H4 H5 H6
  go_enter Tryz.func44, Tryz.ntmps44
  go_wp2_with fail
  refine (hF _ hE0 hN0).mono ?_
  rintro e' w1 ⟨rfl, hb1⟩
  have x4 : w1.cell? ⟨w.heap.size, 4, none⟩ = some (.slice d x cd) := jaa hb1 (by simp [go_sem])
  have x5 : w1.cell? ⟨w.heap.size, 5, none⟩ = some (.slice e y ce) := jaa hb1 (by simp [go_sem])
  have x6 : w1.cell? ⟨w.heap.size, 6, none⟩ = some (.slice f z cf) := jaa hb1 (by simp [go_sem])
  have hW1 := hW0.below hb1
  have hE1 := hE0.of_below hb1
  have hB1 := hB0.trans (hb1.mono (by simp))
  clear hB0 hb1 hW0 hN0 hE0
  cases nb
  ·go_wp2
   go_ret
   exact ⟨rfl, hB1⟩
  go_wp2_with fail
  refine (hG _ hE1 hW1).mono ?_
  rintro e' w2 ⟨rfl, hb2⟩
  have hB2 := qtr hB1 hb2
  go_wp2
  go_ret
  exact ⟨ret_bool (by simp), hB2⟩
end
section
open Go.RowKit
def cmpI (x y : Int) : Int := if x < y then -1 else if y < x then 1 else 0
theorem cmp_isNaN (x : Int) (w : World) : Calls Tryz.prog 151 #[.int .i64 x] w fun e w' => e = .returned (.bool false) /\ w' = w := by
 go_enter Tryz.func151, Tryz.ntmps151
 go_wp2
 go_ret
 exact ⟨by simp, rfl⟩
theorem cmp_Compare (x y : Int) (w : World) : Calls Tryz.prog 116 #[.int .i64 x, .int .i64 y] w fun e w' => e = .returned (.int .i64 (cmpI x y)) /\ w' = w := by
 have h1 := cmp_isNaN x w
 have h2 := cmp_isNaN y w
 by_cases e1 : x < y
 ·have HR : Hid (cmpI x y = -1) := by simp only [Hid, cmpI]; rw [if_pos e1]
  go_enter Tryz.func116, Tryz.ntmps116
  go_wp2_with fail
  refine h1.mono ?_
  rintro e w1 ⟨rfl, rfl⟩
  go_wp2_with fail
  refine h2.mono ?_
  rintro e w1 ⟨rfl, rfl⟩
  go_wp2
  go_ret
  exact ⟨by rw [HR.out]; rfl, rfl⟩
 ·by_cases e2 : y < x
  ·have HR : Hid (cmpI x y = 1) := by simp only [Hid, cmpI]; rw [if_neg e1, if_pos e2]
   go_enter Tryz.func116, Tryz.ntmps116
   go_wp2_with fail
   refine h1.mono ?_
   rintro e w1 ⟨rfl, rfl⟩
   go_wp2_with fail
   refine h2.mono ?_
   rintro e w1 ⟨rfl, rfl⟩
   go_wp2
   go_ret
   exact ⟨by rw [HR.out]; rfl, rfl⟩
  ·have HR : Hid (cmpI x y = 0) := by simp only [Hid, cmpI]; rw [if_neg e1, if_neg e2]
   go_enter Tryz.func116, Tryz.ntmps116
   go_wp2_with fail
   refine h1.mono ?_
   rintro e w1 ⟨rfl, rfl⟩
   go_wp2_with fail
   refine h2.mono ?_
   rintro e w1 ⟨rfl, rfl⟩
   go_wp2
   go_ret
   exact ⟨by rw [HR.out]; rfl, rfl⟩
def orI (x y : Int) : Int := if x = 0 then y else x
theorem cmp_Or2 (g : Nat) (x y : Int) (w : World) (c0 : w.cell? ⟨g, 0, none⟩ = some (.int .i64 x)) (c1 : w.cell? ⟨g, 1, none⟩ = some (.int .i64 y)) : Calls Tryz.prog 115 #[.slice (some ⟨g, 0, none⟩) 2 2] w fun e w' => e = .returned (.int .i64 (orI x y)) /\ w' = w := by
 go_enter Tryz.func115, Tryz.ntmps115
 go_wp2
 refine wp_loop_rounds 3 ?_
 rw [rounds_succ]
 by_cases e1 : x = 0
 ·subst e1
  by_cases e2 : y = 0
  ·subst e2
   go_wp2
   rw [rounds_succ]
   go_wp2
   rw [rounds_succ]
   go_wp2
   go_ret
   exact ⟨rfl, rfl⟩
  ·have e3 : (y == 0) = false := by simp [e2]
   go_wp2
   rw [rounds_succ]
   go_wp2
   go_ret
   exact ⟨rfl, rfl⟩
 ·have e3 : (x == 0) = false := by simp [e1]
  have HR : Hid (orI x y = x) := by simp only [Hid, orI]; rw [if_neg e1]
  go_wp2
  go_ret
  exact ⟨by rw [HR.out]; rfl, rfl⟩
end
section
open Go.RowKit
theorem grown_three (w : World) (a b o : Obj) : ((w.alloc a).alloc b).drew.alloc o = Go.Sort.grow (w.drewN 1) #[a, b, o] := by
 rw [Go.Sort.alloc_eq_grow, Go.Sort.alloc_eq_grow, Go.Sort.alloc_eq_grow, Go.Sort.drew_grow, Go.Sort.drew_grow, Go.Sort.grow_grow, Go.Sort.grow_grow]
 rfl
theorem cmp_entries (x y : EntryD) (w : World) : Calls Tryz.prog 114 #[x.v, y.v] w fun e w' => e = .returned (.int .i64 (orI (cmpI x.at_ y.at_) (cmpI x.id y.id))) /\ ∃ n os, w' = Go.Sort.grow (w.drewN n) os := by
 obtain ⟨xa, xi⟩ := x
 obtain ⟨ya, yi⟩ := y
 simp only [EntryD.v]
 have h1 := fun x y w => cmp_Compare x y w
 obtain ⟨x0, x1, y0, y1⟩ : (fun z : World => z.cell? ⟨w.heap.size, 0, none⟩ = some (.int .i64 xa) /\ z.cell? ⟨w.heap.size, 1, none⟩ = some (.int .i64 xi) /\ z.cell? ⟨w.heap.size + 1, 0, none⟩ = some (.int .i64 ya) /\ z.cell? ⟨w.heap.size + 1, 1, none⟩ = some (.int .i64 yi)) ((w.alloc (.cells #[.int .i64 xa, .int .i64 xi] 57)).alloc (.cells #[.int .i64 ya, .int .i64 yi] 57)) := by simp [go_sem]
 have HW : Hid (∀ o, ∃ os, ((w.alloc (.cells #[.int .i64 xa, .int .i64 xi] 57)).alloc (.cells #[.int .i64 ya, .int .i64 yi] 57)).drew.alloc o = Go.Sort.grow (w.drewN 1) os) := fun o => ⟨#[.cells #[.int .i64 xa, .int .i64 xi] 57, .cells #[.int .i64 ya, .int .i64 yi] 57, o], grown_three w _ _ o⟩
 go_enter Tryz.func114, Tryz.ntmps114
 go_wp2_with fail
 generalize ((w.alloc (.cells #[.int .i64 xa, .int .i64 xi] 57)).alloc (.cells #[.int .i64 ya, .int .i64 yi] 57)) = wA at *
 have xD0 : wA.drew.cell? ⟨w.heap.size, 0, none⟩ = some (.int .i64 xa) := x0
 have xD1 : wA.drew.cell? ⟨w.heap.size, 1, none⟩ = some (.int .i64 xi) := x1
 have yD0 : wA.drew.cell? ⟨w.heap.size + 1, 0, none⟩ = some (.int .i64 ya) := y0
 have yD1 : wA.drew.cell? ⟨w.heap.size + 1, 1, none⟩ = some (.int .i64 yi) := y1
 have bA := qal wA (.cells #[.int .i64 (cmpI xa ya), .int .i64 (cmpI xi yi)] 3)
 have xE0 : (wA.alloc (.cells #[.int .i64 (cmpI xa ya), .int .i64 (cmpI xi yi)] 3)).drew.cell? ⟨w.heap.size, 0, none⟩ = some (.int .i64 xa) := jaa bA x0
 have xE1 : (wA.alloc (.cells #[.int .i64 (cmpI xa ya), .int .i64 (cmpI xi yi)] 3)).drew.cell? ⟨w.heap.size, 1, none⟩ = some (.int .i64 xi) := jaa bA x1
 have yE0 : (wA.alloc (.cells #[.int .i64 (cmpI xa ya), .int .i64 (cmpI xi yi)] 3)).drew.cell? ⟨w.heap.size + 1, 0, none⟩ = some (.int .i64 ya) := jaa bA y0
 have yE1 : (wA.alloc (.cells #[.int .i64 (cmpI xa ya), .int .i64 (cmpI xi yi)] 3)).drew.cell? ⟨w.heap.size + 1, 1, none⟩ = some (.int .i64 yi) := jaa bA y1
 have h2 := cmp_Or2 wA.heap.size (cmpI xa ya) (cmpI xi yi) (wA.alloc (.cells #[.int .i64 (cmpI xa ya), .int .i64 (cmpI xi yi)] 3)).drew (by simp [go_sem]) (by simp [go_sem])
 clear bA
 clear x0 x1 y0 y1
 go_region_held3 (fun w' => w'.cell? ⟨w.heap.size, 0, none⟩ = some (.int .i64 xa) /\ w'.cell? ⟨w.heap.size, 1, none⟩ = some (.int .i64 xi) /\ w'.cell? ⟨w.heap.size + 1, 0, none⟩ = some (.int .i64 ya) /\ w'.cell? ⟨w.heap.size + 1, 1, none⟩ = some (.int .i64 yi)) (go_keep) (first | (go_at_call 116; refine (h1 _ _ _).mono ?_; rintro e w3 ⟨rfl, rfl⟩) | (go_at_call 115; refine h2.mono ?_; rintro e w4 ⟨rfl, rfl⟩) | go_in)
 go_wp2
 go_ret
 obtain ⟨os, ho⟩ := HW.out (.cells #[.int .i64 (cmpI xa ya), .int .i64 (cmpI xi yi)] 3)
 exact ⟨rfl, 1, os, ho⟩
end
section
open Go.RowKit
def eqX (a b : List EntryD) : Bool := (a.map fun x => (x.at_, x.id)) == (b.map fun x => (x.at_, x.id))
theorem eqX_iff {a b : List EntryD} : eqX a b = true ↔ a = b := by
 unfold eqX
 rw [beq_iff_eq]
 constructor
 ·intro h
  refine List.map_inj_right (f := fun x : EntryD => (x.at_, x.id)) (fun x y h => ?_) |>.mp h
  cases x; cases y; simp only [Prod.mk.injEq] at h; obtain ⟨rfl, rfl⟩ := h; rfl
 ·intro h; rw [h]
theorem eqX_no {a b : List EntryD} (h : a ≠ b) : eqX a b = false := by
 cases hb : eqX a b
 ·rfl
 ·exact absurd (eqX_iff.mp hb) h
theorem impl_sameEntries (l m : List EntryD) (a b : Option Addr) (n k ca cb : Nat) (w : World) (hA : Za w a 2 (l.map EntryD.cs)) (hB : Za w b 2 (m.map EntryD.cs)) (hn : l.length = n) (hk : m.length = k) (hl : n <= 1048576) (hkl : k <= 1048576) :
  Calls Tryz.prog 50 #[.slice a n ca, .slice b k cb] w fun e w' => e = .returned (.bool (eqX l m)) /\ Below w.heap.size w w' := by
 by_cases hnk : n = k
 ·subst hnk
  have HE : Hid (l.length = n /\ m.length = n) := ⟨hn, hk⟩
  obtain ⟨z, hz⟩ : ∃ z, eqX l m = z := ⟨_, rfl⟩
  have HZ := hid hz
  rw [hz]
  clear hz hn hk
  go_enter Tryz.func50, Tryz.ntmps50
  go_wp2
  go_loopw [13] (fun s wr => ∃ i : Nat, i <= n /\ s = .int .i64 i /\ Hid (∀ j, j < i -> l[j]? = m[j]?) /\ Below w.heap.size w wr) (fun s _ => n - (intOf s).toNat)
  case atStart => exact ⟨0, by omega, rfl, fun j hj => by omega, Below.refl _ _⟩
  case round =>
   obtain ⟨wa, hwa⟩ : ∃ x : World, x = wr := ⟨_, rfl⟩
   subst hwa
   obtain ⟨i, hin, rfl, HK, hBr⟩ := hrel
   by_cases hlt : i < n
   ·have a1 : (i : Int) < (n : Int) := by omega
    obtain ⟨x, hx⟩ : ∃ v, l[i]? = some v := ⟨_, List.getElem?_eq_getElem (by have := HE.out.1; omega)⟩
    obtain ⟨y, hy⟩ : ∃ v, m[i]? = some v := ⟨_, List.getElem?_eq_getElem (by have := HE.out.2; omega)⟩
    obtain ⟨p, o, rfl, hc⟩ := (hA.below hBr).at (i := i) (r := x.cs) (by rw [List.getElem?_map, hx]; rfl)
    obtain ⟨p2, o2, rfl, hd⟩ := (hB.below hBr).at (i := i) (r := y.cs) (by rw [List.getElem?_map, hy]; rfl)
    have c0 : wa.cell? ⟨p, o + i * 2, none⟩ = some (.int .i64 x.at_) := hc 0 _ rfl
    have c1 : wa.cell? ⟨p, o + i * 2 + 1, none⟩ = some (.int .i64 x.id) := hc 1 _ rfl
    have d0 : wa.cell? ⟨p2, o2 + i * 2, none⟩ = some (.int .i64 y.at_) := hd 0 _ rfl
    have d1 : wa.cell? ⟨p2, o2 + i * 2 + 1, none⟩ = some (.int .i64 y.id) := hd 1 _ rfl
    have HX : Hid (l[i]? = some x /\ m[i]? = some y) := ⟨hx, hy⟩
    clear hc hd hx hy
    obtain ⟨xa, xi⟩ := x
    obtain ⟨ya, yi⟩ := y
    dsimp only at *
    by_cases e1 : xa = ya
    ·subst e1
     by_cases e2 : xi = yi
     ·subst e2
      have HR : Hid (∀ j, j < i + 1 -> l[j]? = m[j]?) := fun j hj => by
       by_cases e : j = i
       ·subst e; rw [HX.out.1, HX.out.2]
       ·exact HK.out j (by omega)
      clear HX HK
      go_wp2_with fail
      go_quiet (fail)
      go_wp2
      go_roundw
      case rel => exact ⟨i + 1, by omega, by go_num, HR, below_drewN hBr _⟩
      case measure => simp [intOf]; omega
     ·obtain rfl : z = false := by
       rw [<- HZ.out]
       refine eqX_no fun h => ?_
       have h1 := HX.out.1; rw [h, HX.out.2] at h1
       injection h1 with h1; injection h1 with _ h1; exact e2 h1.symm
      clear HX HK
      go_wp2_with fail
      go_quiet (fail)
      go_wp2
      go_ret
      exact ⟨rfl, below_drewN hBr _⟩
    ·obtain rfl : z = false := by
      rw [<- HZ.out]
      refine eqX_no fun h => ?_
      have h1 := HX.out.1; rw [h, HX.out.2] at h1
      injection h1 with h1; injection h1 with h1 _; exact e1 h1.symm
     clear HX HK
     go_wp2_with fail
     go_quiet (fail)
     go_wp2
     go_ret
     exact ⟨rfl, below_drewN hBr _⟩
   ·obtain rfl : i = n := by omega
    obtain rfl : z = true := by
     rw [<- HZ.out, eqX_iff]
     refine List.ext_getElem? fun j => ?_
     by_cases hj : j < i
     ·exact HK.out j hj
     ·rw [List.getElem?_eq_none (by rw [HE.out.1]; omega), List.getElem?_eq_none (by rw [HE.out.2]; omega)]
    go_wp2
    go_ret
    exact ⟨rfl, hBr⟩
 ·have h1 : ¬ (n : Int) = (k : Int) := by omega
  rw [eqX_no (fun h => hnk (by rw [<- hn, <- hk, h]))]
  go_enter Tryz.func50, Tryz.ntmps50
  go_wp2
  go_ret
  exact ⟨rfl, Below.refl _ _⟩
end
section
open Go.RowKit Go.Lib
theorem clone_Version (rows : List (List Value)) (hq : ∀ r ∈ rows, r.length = 8) (h1 : ∀ u ∈ rows.flatten, u.oneCell' = true) (a : Option Addr) (n c : Nat) (w : World) (hA : Za w a 8 rows) (hn : rows.length = n) (hl : n <= 1048576) :
  Calls Tryz.prog 81 #[.slice a n c] w fun e w' => ∃ v', e = .returned v' /\ w'.ownsRow w.heap.size 87 8 v' n rows.flatten /\ Below w.heap.size w w' := by
 obtain ⟨i0, hi, hz0, hz1, hz2⟩ := infoVersion
 have q22 : ∀ (w : World) (a : Option Addr) (n c n' c' : Nat), (binOp .eql 38 (.slice a n c) (.slice none n' c')).run Tryz.prog w = .ok (.bool a.isNone) w := fun w a n c n' c' => Lib.run_eql_slice_nil w _ _ a n c n' c' Tryz.underlying38
 have main : ∀ s : Addr, (∀ j u, rows.flatten[j]? = some u -> w.cell? (s.add j) = some u) -> Calls Tryz.prog 81 #[.slice (some s) n c] w fun e w' => ∃ v', e = .returned v' /\ w'.ownsRow w.heap.size 87 8 v' n rows.flatten /\ Below w.heap.size w w' := by
  intro s hcell
  have HC := hid hcell
  have HL : Hid (rows.flatten.length = n * 8) := by simp only [Hid]; rw [jbu hq, hn]
  have H1 := hid h1
  clear hcell h1 hq hn hA
  generalize rows.flatten = news at *
  go_enter Tryz.func81, Tryz.ntmps81
  go_wp2_with (at_builtin; refine wpList_append_own _ rfl _ _ 38 rfl w.heap.size 87 i0 (.agg #[.int .i64 0, .bool false, .int .i64 0, .string ⟨#[]⟩, .string ⟨#[]⟩, .int .i64 0, .int .i64 0, .int .i64 0]) 8 80 Tryz.underlying38 hi hz0 hz1 hz2 rfl (by decide) _ _ _ rfl (World.ownsRow_made w #[] 0 (Nat.le_refl _) (Nat.zero_le _) (by simp)) s n c news rfl ?qc1 ?qc2 ?qc3 ?qc4 ?qc5 ?qc6 ?_)
  case qc1 => exact HL.out
  case qc2 => intro j u hj; exact Lib.cell?_alloc_some _ (HC.out j u hj)
  case qc3 => exact H1.out
  case qc4 => rw [Nat.zero_add]; unfold maxLen; omega
  case qc5 => rw [Nat.zero_add]; omega
  case qc6 => simp
  intro v' w1 hown hgrow _
  go_wp2
  go_ret
  exact ⟨v', rfl, by simpa using hown, (qal w _).grown hgrow (by simp) (by intro k hk; simp [Value.ownBlock] at hk; omega)⟩
 rcases hA with h0 | ⟨b, ob, rfl, hc⟩
 ·subst h0
  obtain rfl : n = 0 := by rw [<- hn]; rfl
  cases a with
  | none =>
   clear main
   go_enter Tryz.func81, Tryz.ntmps81
   go_wp2
   go_ret
   exact ⟨_, rfl, World.ownsRow_nil _ _ _ _, Below.refl _ _⟩
  | some b0 => exact main b0 (fun j u hj => by simp at hj)
 exact main _ (Za.flat (.inr ⟨b, ob, rfl, hc⟩) hq)
theorem clone_Entry (rows : List (List Value)) (hq : ∀ r ∈ rows, r.length = 2) (h1 : ∀ u ∈ rows.flatten, u.oneCell' = true) (a : Option Addr) (n c : Nat) (w : World) (hA : Za w a 2 rows) (hn : rows.length = n) (hl : n <= 1048576) :
  Calls Tryz.prog 82 #[.slice a n c] w fun e w' => ∃ v', e = .returned v' /\ w'.ownsRow w.heap.size 57 2 v' n rows.flatten /\ Below w.heap.size w w' := by
 obtain ⟨i0, hi, hz0, hz1, hz2⟩ := infoEntry
 have q22 : ∀ (w : World) (a : Option Addr) (n c n' c' : Nat), (binOp .eql 39 (.slice a n c) (.slice none n' c')).run Tryz.prog w = .ok (.bool a.isNone) w := fun w a n c n' c' => Lib.run_eql_slice_nil w _ _ a n c n' c' Tryz.underlying39
 have main : ∀ s : Addr, (∀ j u, rows.flatten[j]? = some u -> w.cell? (s.add j) = some u) -> Calls Tryz.prog 82 #[.slice (some s) n c] w fun e w' => ∃ v', e = .returned v' /\ w'.ownsRow w.heap.size 57 2 v' n rows.flatten /\ Below w.heap.size w w' := by
  intro s hcell
  have HC := hid hcell
  have HL : Hid (rows.flatten.length = n * 2) := by simp only [Hid]; rw [jbu hq, hn]
  have H1 := hid h1
  clear hcell h1 hq hn hA
  generalize rows.flatten = news at *
  go_enter Tryz.func82, Tryz.ntmps82
  go_wp2_with (at_builtin; refine wpList_append_own _ rfl _ _ 39 rfl w.heap.size 57 i0 (.agg #[.int .i64 0, .int .i64 0]) 2 16 Tryz.underlying39 hi hz0 hz1 hz2 rfl (by decide) _ _ _ rfl (World.ownsRow_made w #[] 0 (Nat.le_refl _) (Nat.zero_le _) (by simp)) s n c news rfl ?qc1 ?qc2 ?qc3 ?qc4 ?qc5 ?qc6 ?_)
  case qc1 => exact HL.out
  case qc2 => intro j u hj; exact Lib.cell?_alloc_some _ (HC.out j u hj)
  case qc3 => exact H1.out
  case qc4 => rw [Nat.zero_add]; unfold maxLen; omega
  case qc5 => rw [Nat.zero_add]; omega
  case qc6 => simp
  intro v' w1 hown hgrow _
  go_wp2
  go_ret
  exact ⟨v', rfl, by simpa using hown, (qal w _).grown hgrow (by simp) (by intro k hk; simp [Value.ownBlock] at hk; omega)⟩
 rcases hA with h0 | ⟨b, ob, rfl, hc⟩
 ·subst h0
  obtain rfl : n = 0 := by rw [<- hn]; rfl
  cases a with
  | none =>
   clear main
   go_enter Tryz.func82, Tryz.ntmps82
   go_wp2
   go_ret
   exact ⟨_, rfl, World.ownsRow_nil _ _ _ _, Below.refl _ _⟩
  | some b0 => exact main b0 (fun j u hj => by simp at hj)
 exact main _ (Za.flat (.inr ⟨b, ob, rfl, hc⟩) hq)
theorem clone_Rule (rows : List (List Value)) (hq : ∀ r ∈ rows, r.length = 9) (h1 : ∀ u ∈ rows.flatten, u.oneCell' = true) (a : Option Addr) (n c : Nat) (w : World) (hA : Za w a 9 rows) (hn : rows.length = n) (hl : n <= 1048576) :
  Calls Tryz.prog 111 #[.slice a n c] w fun e w' => ∃ v', e = .returned v' /\ w'.ownsRow w.heap.size 77 9 v' n rows.flatten /\ Below w.heap.size w w' := by
 obtain ⟨i0, hi, hz0, hz1, hz2⟩ := infoRule
 have q22 : ∀ (w : World) (a : Option Addr) (n c n' c' : Nat), (binOp .eql 33 (.slice a n c) (.slice none n' c')).run Tryz.prog w = .ok (.bool a.isNone) w := fun w a n c n' c' => Lib.run_eql_slice_nil w _ _ a n c n' c' Tryz.underlying33
 have main : ∀ s : Addr, (∀ j u, rows.flatten[j]? = some u -> w.cell? (s.add j) = some u) -> Calls Tryz.prog 111 #[.slice (some s) n c] w fun e w' => ∃ v', e = .returned v' /\ w'.ownsRow w.heap.size 77 9 v' n rows.flatten /\ Below w.heap.size w w' := by
  intro s hcell
  have HC := hid hcell
  have HL : Hid (rows.flatten.length = n * 9) := by simp only [Hid]; rw [jbu hq, hn]
  have H1 := hid h1
  clear hcell h1 hq hn hA
  generalize rows.flatten = news at *
  go_enter Tryz.func111, Tryz.ntmps111
  go_wp2_with (at_builtin; refine wpList_append_own _ rfl _ _ 33 rfl w.heap.size 77 i0 (.agg #[.string ⟨#[]⟩, .int .i64 0, .int .i64 0, .int .i64 0, .string ⟨#[]⟩, .int .i64 0, .string ⟨#[]⟩, .int .i64 0, .string ⟨#[]⟩]) 9 104 Tryz.underlying33 hi hz0 hz1 hz2 rfl (by decide) _ _ _ rfl (World.ownsRow_made w #[] 0 (Nat.le_refl _) (Nat.zero_le _) (by simp)) s n c news rfl ?qc1 ?qc2 ?qc3 ?qc4 ?qc5 ?qc6 ?_)
  case qc1 => exact HL.out
  case qc2 => intro j u hj; exact Lib.cell?_alloc_some _ (HC.out j u hj)
  case qc3 => exact H1.out
  case qc4 => rw [Nat.zero_add]; unfold maxLen; omega
  case qc5 => rw [Nat.zero_add]; omega
  case qc6 => simp
  intro v' w1 hown hgrow _
  go_wp2
  go_ret
  exact ⟨v', rfl, by simpa using hown, (qal w _).grown hgrow (by simp) (by intro k hk; simp [Value.ownBlock] at hk; omega)⟩
 rcases hA with h0 | ⟨b, ob, rfl, hc⟩
 ·subst h0
  obtain rfl : n = 0 := by rw [<- hn]; rfl
  cases a with
  | none =>
   clear main
   go_enter Tryz.func111, Tryz.ntmps111
   go_wp2
   go_ret
   exact ⟨_, rfl, World.ownsRow_nil _ _ _ _, Below.refl _ _⟩
  | some b0 => exact main b0 (fun j u hj => by simp at hj)
 exact main _ (Za.flat (.inr ⟨b, ob, rfl, hc⟩) hq)
theorem clone_Link (rows : List (List Value)) (hq : ∀ r ∈ rows, r.length = 2) (h1 : ∀ u ∈ rows.flatten, u.oneCell' = true) (a : Option Addr) (n c : Nat) (w : World) (hA : Za w a 2 rows) (hn : rows.length = n) (hl : n <= 1048576) :
  Calls Tryz.prog 112 #[.slice a n c] w fun e w' => ∃ v', e = .returned v' /\ w'.ownsRow w.heap.size 84 2 v' n rows.flatten /\ Below w.heap.size w w' := by
 obtain ⟨i0, hi, hz0, hz1, hz2⟩ := infoLink
 have q22 : ∀ (w : World) (a : Option Addr) (n c n' c' : Nat), (binOp .eql 35 (.slice a n c) (.slice none n' c')).run Tryz.prog w = .ok (.bool a.isNone) w := fun w a n c n' c' => Lib.run_eql_slice_nil w _ _ a n c n' c' Tryz.underlying35
 have main : ∀ s : Addr, (∀ j u, rows.flatten[j]? = some u -> w.cell? (s.add j) = some u) -> Calls Tryz.prog 112 #[.slice (some s) n c] w fun e w' => ∃ v', e = .returned v' /\ w'.ownsRow w.heap.size 84 2 v' n rows.flatten /\ Below w.heap.size w w' := by
  intro s hcell
  have HC := hid hcell
  have HL : Hid (rows.flatten.length = n * 2) := by simp only [Hid]; rw [jbu hq, hn]
  have H1 := hid h1
  clear hcell h1 hq hn hA
  generalize rows.flatten = news at *
  go_enter Tryz.func112, Tryz.ntmps112
  go_wp2_with (at_builtin; refine wpList_append_own _ rfl _ _ 35 rfl w.heap.size 84 i0 (.agg #[.string ⟨#[]⟩, .string ⟨#[]⟩]) 2 32 Tryz.underlying35 hi hz0 hz1 hz2 rfl (by decide) _ _ _ rfl (World.ownsRow_made w #[] 0 (Nat.le_refl _) (Nat.zero_le _) (by simp)) s n c news rfl ?qc1 ?qc2 ?qc3 ?qc4 ?qc5 ?qc6 ?_)
  case qc1 => exact HL.out
  case qc2 => intro j u hj; exact Lib.cell?_alloc_some _ (HC.out j u hj)
  case qc3 => exact H1.out
  case qc4 => rw [Nat.zero_add]; unfold maxLen; omega
  case qc5 => rw [Nat.zero_add]; omega
  case qc6 => simp
  intro v' w1 hown hgrow _
  go_wp2
  go_ret
  exact ⟨v', rfl, by simpa using hown, (qal w _).grown hgrow (by simp) (by intro k hk; simp [Value.ownBlock] at hk; omega)⟩
 rcases hA with h0 | ⟨b, ob, rfl, hc⟩
 ·subst h0
  obtain rfl : n = 0 := by rw [<- hn]; rfl
  cases a with
  | none =>
   clear main
   go_enter Tryz.func112, Tryz.ntmps112
   go_wp2
   go_ret
   exact ⟨_, rfl, World.ownsRow_nil _ _ _ _, Below.refl _ _⟩
  | some b0 => exact main b0 (fun j u hj => by simp at hj)
 exact main _ (Za.flat (.inr ⟨b, ob, rfl, hc⟩) hq)
theorem clone_Zone (rows : List (List Value)) (hq : ∀ r ∈ rows, r.length = 2) (h1 : ∀ u ∈ rows.flatten, u.oneCell' = true) (a : Option Addr) (n c : Nat) (w : World) (hA : Za w a 2 rows) (hn : rows.length = n) (hl : n <= 1048576) :
  Calls Tryz.prog 109 #[.slice a n c] w fun e w' => ∃ v', e = .returned v' /\ w'.ownsRow w.heap.size 81 2 v' n rows.flatten /\ Below w.heap.size w w' := by
 obtain ⟨i0, hi, hz0, hz1, hz2⟩ := infoZone
 have q22 : ∀ (w : World) (a : Option Addr) (n c n' c' : Nat), (binOp .eql 34 (.slice a n c) (.slice none n' c')).run Tryz.prog w = .ok (.bool a.isNone) w := fun w a n c n' c' => Lib.run_eql_slice_nil w _ _ a n c n' c' Tryz.underlying34
 have main : ∀ s : Addr, (∀ j u, rows.flatten[j]? = some u -> w.cell? (s.add j) = some u) -> Calls Tryz.prog 109 #[.slice (some s) n c] w fun e w' => ∃ v', e = .returned v' /\ w'.ownsRow w.heap.size 81 2 v' n rows.flatten /\ Below w.heap.size w w' := by
  intro s hcell
  have HC := hid hcell
  have HL : Hid (rows.flatten.length = n * 2) := by simp only [Hid]; rw [jbu hq, hn]
  have H1 := hid h1
  clear hcell h1 hq hn hA
  generalize rows.flatten = news at *
  go_enter Tryz.func109, Tryz.ntmps109
  go_wp2_with (at_builtin; refine wpList_append_own _ rfl _ _ 34 rfl w.heap.size 81 i0 (.agg #[.string ⟨#[]⟩, .slice none 0 0]) 2 40 Tryz.underlying34 hi hz0 hz1 hz2 rfl (by decide) _ _ _ rfl (World.ownsRow_made w #[] 0 (Nat.le_refl _) (Nat.zero_le _) (by simp)) s n c news rfl ?qc1 ?qc2 ?qc3 ?qc4 ?qc5 ?qc6 ?_)
  case qc1 => exact HL.out
  case qc2 => intro j u hj; exact Lib.cell?_alloc_some _ (HC.out j u hj)
  case qc3 => exact H1.out
  case qc4 => rw [Nat.zero_add]; unfold maxLen; omega
  case qc5 => rw [Nat.zero_add]; omega
  case qc6 => simp
  intro v' w1 hown hgrow _
  go_wp2
  go_ret
  exact ⟨v', rfl, by simpa using hown, (qal w _).grown hgrow (by simp) (by intro k hk; simp [Value.ownBlock] at hk; omega)⟩
 rcases hA with h0 | ⟨b, ob, rfl, hc⟩
 ·subst h0
  obtain rfl : n = 0 := by rw [<- hn]; rfl
  cases a with
  | none =>
   clear main
   go_enter Tryz.func109, Tryz.ntmps109
   go_wp2
   go_ret
   exact ⟨_, rfl, World.ownsRow_nil _ _ _ _, Below.refl _ _⟩
  | some b0 => exact main b0 (fun j u hj => by simp at hj)
 exact main _ (Za.flat (.inr ⟨b, ob, rfl, hc⟩) hq)
theorem clone_Era (rows : List (List Value)) (hq : ∀ r ∈ rows, r.length = 6) (h1 : ∀ u ∈ rows.flatten, u.oneCell' = true) (a : Option Addr) (n c : Nat) (w : World) (hA : Za w a 6 rows) (hn : rows.length = n) (hl : n <= 1048576) :
  Calls Tryz.prog 110 #[.slice a n c] w fun e w' => ∃ v', e = .returned v' /\ w'.ownsRow w.heap.size 133 6 v' n rows.flatten /\ Below w.heap.size w w' := by
 obtain ⟨i0, hi, hz0, hz1, hz2⟩ := infoEra
 have q22 : ∀ (w : World) (a : Option Addr) (n c n' c' : Nat), (binOp .eql 79 (.slice a n c) (.slice none n' c')).run Tryz.prog w = .ok (.bool a.isNone) w := fun w a n c n' c' => Lib.run_eql_slice_nil w _ _ a n c n' c' Tryz.underlying79
 have main : ∀ s : Addr, (∀ j u, rows.flatten[j]? = some u -> w.cell? (s.add j) = some u) -> Calls Tryz.prog 110 #[.slice (some s) n c] w fun e w' => ∃ v', e = .returned v' /\ w'.ownsRow w.heap.size 133 6 v' n rows.flatten /\ Below w.heap.size w w' := by
  intro s hcell
  have HC := hid hcell
  have HL : Hid (rows.flatten.length = n * 6) := by simp only [Hid]; rw [jbu hq, hn]
  have H1 := hid h1
  clear hcell h1 hq hn hA
  generalize rows.flatten = news at *
  go_enter Tryz.func110, Tryz.ntmps110
  go_wp2_with (at_builtin; refine wpList_append_own _ rfl _ _ 79 rfl w.heap.size 133 i0 (.agg #[.int .i64 0, .string ⟨#[]⟩, .int .i64 0, .string ⟨#[]⟩, .int .i64 0, .string ⟨#[]⟩]) 6 72 Tryz.underlying79 hi hz0 hz1 hz2 rfl (by decide) _ _ _ rfl (World.ownsRow_made w #[] 0 (Nat.le_refl _) (Nat.zero_le _) (by simp)) s n c news rfl ?qc1 ?qc2 ?qc3 ?qc4 ?qc5 ?qc6 ?_)
  case qc1 => exact HL.out
  case qc2 => intro j u hj; exact Lib.cell?_alloc_some _ (HC.out j u hj)
  case qc3 => exact H1.out
  case qc4 => rw [Nat.zero_add]; unfold maxLen; omega
  case qc5 => rw [Nat.zero_add]; omega
  case qc6 => simp
  intro v' w1 hown hgrow _
  go_wp2
  go_ret
  exact ⟨v', rfl, by simpa using hown, (qal w _).grown hgrow (by simp) (by intro k hk; simp [Value.ownBlock] at hk; omega)⟩
 rcases hA with h0 | ⟨b, ob, rfl, hc⟩
 ·subst h0
  obtain rfl : n = 0 := by rw [<- hn]; rfl
  cases a with
  | none =>
   clear main
   go_enter Tryz.func110, Tryz.ntmps110
   go_wp2
   go_ret
   exact ⟨_, rfl, World.ownsRow_nil _ _ _ _, Below.refl _ _⟩
  | some b0 => exact main b0 (fun j u hj => by simp at hj)
 exact main _ (Za.flat (.inr ⟨b, ob, rfl, hc⟩) hq)
end
end Go.Proofs.YtpejeokacilebaaGreatDoor
