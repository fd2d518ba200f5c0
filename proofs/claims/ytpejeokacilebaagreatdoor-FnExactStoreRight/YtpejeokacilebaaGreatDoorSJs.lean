/- Packed. -/
import Derived.Test.YtpejeokacilebaaGreatDoorSHs
import Derived.Test.YtpejeokacilebaaGreatDoorSIs
import Derived.Test.YtpejeokacilebaaGreatDoorSBs
import Derived.Test.YtpejeokacilebaaGreatDoorSDs
import Derived.Test.YtpejeokacilebaaGreatDoorShelfX
set_option maxRecDepth 20000
set_option maxHeartbeats 20000000
set_option linter.unusedSimpArgs false
namespace Go.Proofs.YtpejeokacilebaaGreatDoor
section
open Go.RowKit Go.ChangeMaps Go.MapKept Go.WideMaps
def goodI (s : StoreD) : Bool := frameB s && (txB s.vs s.tx && (goneK s.vs s.vs.length && liveB s (jba s.vs)))
def storeI (s : StoreD) : Bool := goodI s && eqX s.ix (entF (momB s) (jba s.vs))
theorem own_rows {w : World} {base : Nat} {v : Value} {L : List EntryD} (h : Zg w base v L) : w.ownsRow base 57 2 v (L.map EntryD.cs).length (L.map EntryD.cs).flatten := by rw [List.length_map]; exact h
structure OpenP (s : StoreD) (w : World) (q : Ending) (w' : World) : Prop where
 ex : ∃ x, q = .returned (.tuple #[.pointer x, .bool (storeI s)])
 bel : Below w.heap.size w w'
theorem tx_event {l : List VersionD} {t : Int} (h : txB l t = true) : ∀ v ∈ l, jbk v.ev = true := fun v hv => by
 obtain ⟨k, hk⟩ := List.getElem?_of_mem hv
 unfold txB at h
 rw [Bool.and_eq_true] at h
 cases hx : txI l t k v
 ·have := txK_no hk hx (n := l.length) (List.getElem?_eq_some_iff.1 hk).1
  rw [h.2] at this
  cases this
 ·unfold txI at hx
  simp only [Bool.and_eq_true] at hx
  exact hx.2.2
theorem event_parts {e : EventD} (h : jbk e = true) : (1 <= e.id /\ e.id <= 1000000) /\ jay e.zone = true /\ isB e.wall (-62135596800) 253402300799 = true /\ isB e.gap 0 2 = true /\ isB e.fold 0 2 = true := by
 unfold jbk at h
 simp only [Bool.and_eq_true] at h
 exact ⟨jav h.1, h.2.2⟩
theorem tx_ids {l : List VersionD} {t : Int} (h : txB l t = true) : ∀ v ∈ l, 1 <= v.id /\ v.id <= 1000000 := fun v hv => (event_parts (tx_event h v hv)).1
theorem impl_opened (hS : SortC) (s : StoreD) (v : Value) (w : World) (hE : Zw w) (hv : Jh w v s) (ok : Zu s) :
  Calls Tryz.prog 22 #[v] w (OpenP s w) := by
 have hv0 := hv
 obtain ⟨a, b, c, d, e, f, va, ia, ca, cb, cc, cd, ce, cf, cv, ci, rfl, hN, hW, hV, hX, _, _⟩ := hv.form
 have hB0 := qal w (.cells #[.int .i64 s.tx, .slice a s.now.rules.length ca, .slice b s.now.zones.length cb, .slice c s.now.links.length cc, .slice d s.was.rules.length cd, .slice e s.was.zones.length ce, .slice f s.was.links.length cf, .int .i64 s.cur, .slice va s.vs.length cv, .slice ia s.ix.length ci] 41)
 have A0 := Zd.new w [.int .i64 s.tx, .slice a s.now.rules.length ca, .slice b s.now.zones.length cb, .slice c s.now.links.length cc, .slice d s.was.rules.length cd, .slice e s.was.zones.length ce, .slice f s.was.links.length cf, .int .i64 s.cur, .slice va s.vs.length cv, .slice ia s.ix.length ci] 41
 have q1 := fun w hE h => impl_frameRight s (.agg #[.int .i64 s.tx, .slice a s.now.rules.length ca, .slice b s.now.zones.length cb, .slice c s.now.links.length cc, .slice d s.was.rules.length cd, .slice e s.was.zones.length ce, .slice f s.was.links.length cf, .int .i64 s.cur, .slice va s.vs.length cv, .slice ia s.ix.length ci]) w hE h ok
 have q2 := fun w h => impl_versionsRight s.vs s.tx s.cur a b c d e f va ia s.now.rules.length ca s.now.zones.length cb s.now.links.length cc s.was.rules.length cd s.was.zones.length ce s.was.links.length cf s.vs.length cv s.ix.length ci w h ok.vs rfl ok.vl
 skip
 have HV := hid hV
 have HX := hid hX
 have HN := hid hN
 have HW := hid hW
 clear hV hX hN hW hv
 have x0 := A0.c 0 rfl
 have x1 := A0.c 1 rfl
 have x2 := A0.c 2 rfl
 have x3 := A0.c 3 rfl
 have x4 := A0.c 4 rfl
 have x5 := A0.c 5 rfl
 have x6 := A0.c 6 rfl
 have x7 := A0.c 7 rfl
 have x8 := A0.c 8 rfl
 have x9 := A0.c 9 rfl
 go_enter Tryz.func22, Tryz.ntmps22
 go_wp2_with fail
 refine (q1 _ (hE.of_below hB0) (hv0.below hB0)).mono ?_
 rintro e1 w1 ⟨rfl, hb1⟩
 have hB1 := qtr hB0 hb1
 have A1 := A0.below hb1
 clear hb1 A0 q1 x0 x1 x2 x3 x4 x5 x6 x7 x8 x9
 cases h1 : frameB s
 case false =>
  have HR : Hid (storeI s = false) := by simp [Hid, storeI, goodI, h1]
  go_wp2
  go_ret2
  exact ⟨⟨none, by rw [HR.out]; rfl⟩, hB1⟩
 have hr : relB s.now = true /\ relB s.was = true := by
  unfold frameB at h1
  simp only [Bool.and_eq_true] at h1
  exact h1.2
 obtain ⟨hr1, hr2⟩ := hr
 have x0 := A1.c 0 rfl
 have x1 := A1.c 1 rfl
 have x2 := A1.c 2 rfl
 have x3 := A1.c 3 rfl
 have x4 := A1.c 4 rfl
 have x5 := A1.c 5 rfl
 have x6 := A1.c 6 rfl
 have x7 := A1.c 7 rfl
 have x8 := A1.c 8 rfl
 have x9 := A1.c 9 rfl
 go_wp2_with fail
 refine (q2 _ (HV.out.below hB1)).mono ?_
 rintro e2 w2 ⟨rfl, hb2⟩
 have hB2 := qtr hB1 hb2
 have A2 := A1.below hb2
 clear hb2 A1 q2 x0 x1 x2 x3 x4 x5 x6 x7 x8 x9
 cases h2 : txB s.vs s.tx
 case false =>
  have HR : Hid (storeI s = false) := by simp [Hid, storeI, goodI, h1, h2]
  go_wp2
  go_ret2
  exact ⟨⟨none, by rw [HR.out]; rfl⟩, hB2⟩
 have q3 := impl_liveOf s.vs va s.vs.length cv w2 (HV.out.below hB2) (tx_ids h2) rfl ok.vl
 have x8 := A2.c 8 rfl
 go_wp2_with fail
 refine q3.mono ?_
 rintro e3 w3 hP3
 have hb3 := hP3.bel
 have hB3 := qtr hB2 hb3
 have A3 := A2.below hb3
 clear hb3 A2 q3 x8
 rcases hP3.end_ with ⟨h3, he3, hM3⟩ | ⟨h3, he3⟩
 case inr =>
  subst he3
  clear hP3
  have HR : Hid (storeI s = false) := by simp [Hid, storeI, goodI, h1, h2, h3]
  go_wp2
  go_ret2
  exact ⟨⟨none, by rw [HR.out]; rfl⟩, hB3⟩
 subst he3
 have hlb2 := hB2.size
 clear hP3 hB2 hB1 hB0
 have q4 := impl_liveRight s _ (jcw s.vs) (jba s.vs) w2.heap.size s.vs.length w3 (hE.of_below hB3) (hv0.below hB3) ok hM3 (live_tells s.vs) (liveK_up s.vs.length) ok.vl hr1 hr2
 have x0 := A3.c 0 rfl
 have x1 := A3.c 1 rfl
 have x2 := A3.c 2 rfl
 have x3 := A3.c 3 rfl
 have x4 := A3.c 4 rfl
 have x5 := A3.c 5 rfl
 have x6 := A3.c 6 rfl
 have x7 := A3.c 7 rfl
 have x8 := A3.c 8 rfl
 have x9 := A3.c 9 rfl
 go_wp2_with fail
 refine q4.mono ?_
 rintro e4 w4 ⟨rfl, hb4⟩
 have hM4 := hM3.below hb4
 have hB4 := qtr hB3 hb4
 have A4 := A3.below hb4
 clear hb4 A3 q4 hM3 x0 x1 x2 x3 x4 x5 x6 x7 x8 x9
 cases h4 : liveB s (jba s.vs)
 case false =>
  have HR : Hid (storeI s = false) := by simp [Hid, storeI, goodI, h1, h2, h3, h4]
  go_wp2
  go_ret2
  exact ⟨⟨none, by rw [HR.out]; rfl⟩, hB4⟩
 have HR : Hid (storeI s = eqX s.ix (entF (momB s) (jba s.vs))) := by simp only [Hid, storeI, goodI, h1, h2, h3, h4, Bool.true_and]
 have hl30 : (jba s.vs).length <= 30 := by
  unfold liveB at h4
  rw [Bool.and_eq_true] at h4
  exact of_decide_eq_true h4.1
 clear h1 h2 h3 h4
 generalize hlb : w2.heap.size = lb at *
 clear hlb
 have B4D := jab w4
 have hB5 : Below w.heap.size w w4.drew := qtr hB4 B4D
 have hM5 := hM4.below B4D
 have A5 := A4.below B4D
 have z0 := A5.c 0 rfl
 have z1 := A5.c 1 rfl
 have z2 := A5.c 2 rfl
 have z3 := A5.c 3 rfl
 have z4 := A5.c 4 rfl
 have z5 := A5.c 5 rfl
 have z6 := A5.c 6 rfl
 have z7 := A5.c 7 rfl
 have z8 := A5.c 8 rfl
 have z9 := A5.c 9 rfl
 have hcp := impl_copied s _ w4.drew (hv0.below hB5) ok
 have hck := fun (r : RelD) a b c ca cb cc W => impl_clocksOf r a b c ca cb cc W
 have HM5 := hid hM5
 have HB5 := hid hB5
 have HA5 := hid A5
 clear hM4 hM5 hB4 hB5 A4 A5 B4D hB3
 go_wp2_with fail
 go_region_held3 (fun w' => w'.cell? ⟨w.heap.size, 0, none⟩ = some (.int .i64 s.tx) /\ w'.cell? ⟨w.heap.size, 1, none⟩ = some (.slice a s.now.rules.length ca) /\ w'.cell? ⟨w.heap.size, 2, none⟩ = some (.slice b s.now.zones.length cb) /\ w'.cell? ⟨w.heap.size, 3, none⟩ = some (.slice c s.now.links.length cc) /\ w'.cell? ⟨w.heap.size, 4, none⟩ = some (.slice d s.was.rules.length cd) /\ w'.cell? ⟨w.heap.size, 5, none⟩ = some (.slice e s.was.zones.length ce) /\ w'.cell? ⟨w.heap.size, 6, none⟩ = some (.slice f s.was.links.length cf) /\ w'.cell? ⟨w.heap.size, 7, none⟩ = some (.int .i64 s.cur) /\ w'.cell? ⟨w.heap.size, 8, none⟩ = some (.slice va s.vs.length cv) /\ w'.cell? ⟨w.heap.size, 9, none⟩ = some (.slice ia s.ix.length ci)) (go_keep) (first | (go_at_call 48; refine hcp.mono ?_; rintro q w5 hP5; obtain ⟨a1, n1, c1, a2, n2, c2, a3, n3, c3, a4, n4, c4, a5, n5, c5, a6, n6, c6, a8, n8, c8, a9, n9, c9, hq5⟩ := hP5.ex; subst hq5; have hb5 := hP5.bel; clear hP5; have u0_ := jaa hb5 z0; have u1_ := jaa hb5 z1; have u2_ := jaa hb5 z2; have u3_ := jaa hb5 z3; have u4_ := jaa hb5 z4; have u5_ := jaa hb5 z5; have u6_ := jaa hb5 z6; have u7_ := jaa hb5 z7; have u8_ := jaa hb5 z8; have u9_ := jaa hb5 z9) | (go_at_call 49; have hx6 := hb6; refine (hck s.was d e f cd ce cf _).mono ?_; rintro q w7 hP7; have hq7 := hP7.ex; subst hq7; have hc7 := hP7.cache; have hb7 := hP7.bel; clear hP7; have t0_ := jaa hb7 s0_; have t1_ := jaa hb7 s1_; have t2_ := jaa hb7 s2_; have t3_ := jaa hb7 s3_; have t4_ := jaa hb7 s4_; have t5_ := jaa hb7 s5_; have t6_ := jaa hb7 s6_; have t7_ := jaa hb7 s7_; have t8_ := jaa hb7 s8_; have t9_ := jaa hb7 s9_) | (go_at_call 49; refine (hck s.now a b c ca cb cc _).mono ?_; rintro q w6 hP6; have hq6 := hP6.ex; subst hq6; have hc6 := hP6.cache; have hb6 := hP6.bel; clear hP6; have s0_ := jaa hb6 u0_; have s1_ := jaa hb6 u1_; have s2_ := jaa hb6 u2_; have s3_ := jaa hb6 u3_; have s4_ := jaa hb6 u4_; have s5_ := jaa hb6 u5_; have s6_ := jaa hb6 u6_; have s7_ := jaa hb6 u7_; have s8_ := jaa hb6 u8_; have s9_ := jaa hb6 u9_))
 all_goals
  have hB5 := qtr HB5.out hb5
  have b56 := (Below.refl w5.heap.size w5).trans (hb6.mono (Nat.le_refl _))
  have b57 := qtr b56 hb7
  have b8 := qal w7 (.cells #[.int .i64 s.tx, .slice a1 n1 c1, .slice a2 n2 c2, .slice a3 n3 c3, .slice a4 n4 c4, .slice a5 n5 c5, .slice a6 n6 c6, .int .i64 s.cur, .slice a8 n8 c8, .slice a9 n9 c9, .map (some lb), .slice a s.now.rules.length ca, .slice b s.now.zones.length cb, .slice c s.now.links.length cc, .map (some (w5.heap.size + 1 + 1)), .slice d s.was.rules.length cd, .slice e s.was.zones.length ce, .slice f s.was.links.length cf, .map (some (w6.heap.size + 1 + 1))] 115)
  have b58 := qtr b57 b8
  have l5 := hb5.size
  have l6 := hb6.size
  have l7 := hb7.size
  have ln := hc6.lt
  have lw := hc7.lt
  have ll := HM5.out.lt
  have K8 := Zd.new w7 [.int .i64 s.tx, .slice a1 n1 c1, .slice a2 n2 c2, .slice a3 n3 c3, .slice a4 n4 c4, .slice a5 n5 c5, .slice a6 n6 c6, .int .i64 s.cur, .slice a8 n8 c8, .slice a9 n9 c9, .map (some lb), .slice a s.now.rules.length ca, .slice b s.now.zones.length cb, .slice c s.now.links.length cc, .map (some (w5.heap.size + 1 + 1)), .slice d s.was.rules.length cd, .slice e s.was.zones.length ce, .slice f s.was.links.length cf, .map (some (w6.heap.size + 1 + 1))] 115
  have hBk : Zk w5 _ s w7.heap.size lb (w5.heap.size + 1 + 1) (w6.heap.size + 1 + 1) 0 0 a b c d e f ca cb cc cd ce cf := ⟨b58, K8.c 7 rfl, K8.c 10 rfl, K8.c 11 rfl, K8.c 12 rfl, K8.c 13 rfl, K8.c 14 rfl, K8.c 15 rfl, K8.c 16 rfl, K8.c 17 rfl, K8.c 18 rfl, (hc6.below hb7).below b8, hc7.below b8, by omega, by omega, by omega⟩
  have hM8 := (((HM5.out.below hb5).below hb6).below hb7).below b8
  have hE5 := hE.of_below hB5
  have hN5 := HN.out.below hB5
  have hW5 := HW.out.below hB5
  have hEn := impl_bookEntries hS w5 s w7.heap.size lb (w5.heap.size + 1 + 1) (w6.heap.size + 1 + 1) s.vs.length a b c d e f ca cb cc cd ce cf (jcw s.vs) (jba s.vs) _ hE5 hN5 hW5 ok.now ok.was hr1 hr2 (hBk.below (jab _)) (by omega) (by omega) (hM8.below (jab _)) (live_tells s.vs) (liveK_up s.vs.length) (by omega)
  have x9 := jaa (jab _) (jaa b8 t9_)
  have HX5 : Hid (Za w5 ia 2 (s.ix.map EntryD.cs)) := HX.out.below hB5
  have HBw := hid hB5
  have hXl : (entF (momB s) (jba s.vs)).length <= 30 := Nat.le_trans (entF_len _ _) hl30
  have hxl := ok.xl
  obtain ⟨X, hXX⟩ : ∃ X, entF (momB s) (jba s.vs) = X := ⟨_, rfl⟩
  rw [hXX] at hEn hXl
  have HR2 : Hid (storeI s = eqX s.ix X) := by simp only [Hid]; rw [<- hXX]; exact HR.out
  obtain ⟨tb, htb⟩ : ∃ tb, eqX s.ix X = tb := ⟨_, rfl⟩
  have HR3 : Hid (storeI s = tb) := by simp only [Hid]; rw [HR2.out]; exact htb
  have hSm := fun px cx W (h : Za W ia 2 (s.ix.map EntryD.cs)) (h2 : Za W px 2 (X.map EntryD.cs)) => impl_sameEntries s.ix X ia px s.ix.length X.length ci cx W h h2 rfl rfl hxl (by omega)
  rw [htb] at hSm
  clear HR HR2 hXX htb hB5 b56 b57 b8 b58 K8 hBk hM8 hE5 hN5 hW5 hc6 hc7 hb5 hb6 hb7 hck hcp u0_ s0_ t0_ z0 u1_ s1_ t1_ z1 u2_ s2_ t2_ z2 u3_ s3_ t3_ z3 u4_ s4_ t4_ z4 u5_ s5_ t5_ z5 u6_ s6_ t6_ z6 u7_ s7_ t7_ z7 u8_ s8_ t8_ z8 s9_ t9_ z9
  go_wp2_with fail
  go_region_held3 (fun w' => w'.cell? ⟨w.heap.size, 9, none⟩ = some (.slice ia s.ix.length ci)) (go_keep) (first | (go_at_call 51; refine hEn.mono ?_; rintro q w9 hP9; obtain ⟨v9, rfl, hO9⟩ := hP9.ex; obtain ⟨kk, hI9⟩ := hP9.inv; have hb9 := hI9.bel; clear hI9 hP9; have hO9 := own_rows hO9; obtain ⟨px, cx, hv9, hs9, _⟩ := jbv hO9 jaj; rw [List.length_map] at hv9; subst hv9; clear hO9; have x9e := jaa hb9 u9_; have hSm9 := hSm px cx w9 (HX5.out.below hb9) hs9; clear hs9) | (go_at_call 50; refine hSm9.mono ?_; rintro q w10 ⟨rfl, hb10⟩; have x9f := jaa hb10 x9e))
  all_goals
   have hB9 := qtr HBw.out hb9
   have hB10 := qtr hB9 hb10
   go_wp2
   go_ret2
   exact ⟨⟨some ⟨w7.heap.size, 0, none⟩, by rw [HR3.out]; rfl⟩, hB10⟩
end
section
open Go.RowKit Go.Sort Go.Lib
def cfX (x y : EntryD) : Int := orI (cmpI x.at_ y.at_) (cmpI x.id y.id)
theorem ltX (x y : EntryD) : ltOf cfX x y = ja8 x y := cmp_less x y
theorem swoX : SWO (ltOf cfX) where
 irrefl x := by rw [ltX]; exact lessX_self x
 trans x y z h1 h2 := by rw [ltX] at *; exact lessX_trans h1 h2
 ntrans x y z h1 h2 := by rw [ltX] at *; exact lessX_neg h1 h2
theorem cmpLays_ent (blk off size : Nat) (w : World) : CmpLays Tryz.prog 114 #[] EntryD.cs 2 cfX blk off size w := fun _ _ _ _ x y => cmp_entries x y _
theorem sortC : SortC := ⟨fun P base v w hO hl => by
 rcases hO.2 with ⟨rfl, h0⟩ | ⟨g, cap, cur, rfl, hb, hh, _⟩
 ·have hP : P = [] := List.length_eq_zero_iff.mp h0
  subst hP
  refine (Tryz.sortFunc_none none 0 _ w).mono ?_
  rintro e w' ⟨rfl, rfl⟩
  have h : sortX [] = [] := by simp [sortX]
  rw [h]
  exact ⟨rfl, hO, ⟨rfl, rfl, rfl, Nat.le_refl _, fun _ _ _ => rfl⟩⟩
 ·obtain ⟨hH, hlt, _⟩ := holds_ownsX hO
  have hC := Tryz.sortFunc_total 2 Tryz.isAgg57 Tryz.sizeOf57 EntryD.cs (fun _ => rfl) (fun x v hv => by simp [EntryD.cs] at hv; rcases hv with rfl | rfl <;> rfl) cfX swoX 114 #[] g 0 cap P.toArray w (fun _ _ => by kernel_rfl) (cmpLays_ent g 0 P.toArray.size w) hH hlt (by simp; omega) (fun x y h1 h2 => by rw [ltX] at h1 h2; exact lessX_one h1 h2)
  refine Calls.mono (by simpa using hC) ?_
  rintro e w' ⟨rfl, q, os, rfl⟩
  have hs : (P.toArray.toList.mergeSort fun x y => !(ltOf cfX) y x) = sortX P := by
   unfold sortX
   congr 1
   funext x y
   rw [ltX]
  rw [hs]
  have h := ownsX_put (q := q) (os := os) hO (sortX_len P)
  exact ⟨rfl, h.1, h.2⟩⟩
end
section
open Go.RowKit
theorem impl_StoreRight (s : StoreD) (v : Value) (w : World) (hE : Zw w) (hv : Jh w v s) (ok : Zu s) :
  Calls Tryz.prog 7 #[v] w fun e w' => e = .returned (.bool (storeI s)) /\ Below w.heap.size w w' := by
 have hv0 := hv
 obtain ⟨a, b, c, d, e, f, va, ia, ca, cb, cc, cd, ce, cf, cv, ci, rfl, _, _, _, _, _, _⟩ := hv.form
 have hB0 : Below w.heap.size w (w.alloc (.cells #[.int .i64 s.tx, .slice a s.now.rules.length ca, .slice b s.now.zones.length cb, .slice c s.now.links.length cc, .slice d s.was.rules.length cd, .slice e s.was.zones.length ce, .slice f s.was.links.length cf, .int .i64 s.cur, .slice va s.vs.length cv, .slice ia s.ix.length ci] 41)) := qal _ _
 have hO := impl_opened sortC s _ _ (hE.of_below hB0) (hv0.below hB0) ok
 clear hv hv0 hE ok
 go_enter Tryz.func7, Tryz.ntmps7
 go_wp2_with fail
 refine hO.mono ?_
 rintro q w1 hP
 obtain ⟨x, rfl⟩ := hP.ex
 have hb1 := hP.bel
 go_wp2
 go_ret
 exact ⟨rfl, (qtr hB0 hb1)⟩
end
end Go.Proofs.YtpejeokacilebaaGreatDoor
