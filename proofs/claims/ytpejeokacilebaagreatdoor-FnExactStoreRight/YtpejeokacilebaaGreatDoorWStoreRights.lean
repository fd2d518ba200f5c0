/- The walk of the law FnExactStoreRight. -/
import Derived.Test.YtpejeokacilebaaGreatDoorSNs
import Derived.Test.YtpejeokacilebaaGreatDoorSLs
import Derived.Deep.RegionHeld3
set_option maxHeartbeats 20000000
set_option linter.unusedSimpArgs false
namespace Go.Proofs.YtpejeokacilebaaGreatDoor.storeRight
open Go.RowKit
set_option maxRecDepth 20000 in
theorem walk (s : StoreD) (v : Value) (w : World) (hv : Jh w v s) (okd : s.ok) (hT : Tab w) (hMx : Mx w) :
  Calls Tryz.prog 3 #[v] w fun e w' => e = .returned (.bool true) /\ Below w.heap.size w w' := by
 have hEnv : Zw w := ⟨hT, hMx⟩
 have hv0 := hv
 obtain ⟨a, b, c, d, e, f, va, ia, ca, cb, cc, cd, ce, cf, cv, ci, rfl, _, _, _, _, _, _⟩ := hv.form
 have hB0 : Below w.heap.size w (w.alloc (.cells #[.int .i64 s.tx, .slice a s.now.rules.length ca, .slice b s.now.zones.length cb, .slice c s.now.links.length cc, .slice d s.was.rules.length cd, .slice e s.was.zones.length ce, .slice f s.was.links.length cf, .int .i64 s.cur, .slice va s.vs.length cv, .slice ia s.ix.length ci] 30)) := qal _ _
 have A0 : Zd (w.alloc (.cells #[.int .i64 s.tx, .slice a s.now.rules.length ca, .slice b s.now.zones.length cb, .slice c s.now.links.length cc, .slice d s.was.rules.length cd, .slice e s.was.zones.length ce, .slice f s.was.links.length cf, .int .i64 s.cur, .slice va s.vs.length cv, .slice ia s.ix.length ci] 30)) w.heap.size [.int .i64 s.tx, .slice a s.now.rules.length ca, .slice b s.now.zones.length cb, .slice c s.now.links.length cc, .slice d s.was.rules.length cd, .slice e s.was.zones.length ce, .slice f s.was.links.length cf, .int .i64 s.cur, .slice va s.vs.length cv, .slice ia s.ix.length ci] := Zd.new w [.int .i64 s.tx, .slice a s.now.rules.length ca, .slice b s.now.zones.length cb, .slice c s.now.links.length cc, .slice d s.was.rules.length cd, .slice e s.was.zones.length ce, .slice f s.was.links.length cf, .int .i64 s.cur, .slice va s.vs.length cv, .slice ia s.ix.length ci] 30
 have hZ := laws_szStore s (.agg #[.int .i64 s.tx, .slice a s.now.rules.length ca, .slice b s.now.zones.length cb, .slice c s.now.links.length cc, .slice d s.was.rules.length cd, .slice e s.was.zones.length ce, .slice f s.was.links.length cf, .int .i64 s.cur, .slice va s.vs.length cv, .slice ia s.ix.length ci]) 1048576 (w.alloc (.cells #[.int .i64 s.tx, .slice a s.now.rules.length ca, .slice b s.now.zones.length cb, .slice c s.now.links.length cc, .slice d s.was.rules.length cd, .slice e s.was.zones.length ce, .slice f s.was.links.length cf, .int .i64 s.cur, .slice va s.vs.length cv, .slice ia s.ix.length ci] 30)) (hv0.below hB0) okd (by omega) (by omega)
 have x0 := A0.c 0 (u := .int .i64 s.tx) rfl
 have x1 := A0.c 1 (u := .slice a s.now.rules.length ca) rfl
 have x2 := A0.c 2 (u := .slice b s.now.zones.length cb) rfl
 have x3 := A0.c 3 (u := .slice c s.now.links.length cc) rfl
 have x4 := A0.c 4 (u := .slice d s.was.rules.length cd) rfl
 have x5 := A0.c 5 (u := .slice e s.was.zones.length ce) rfl
 have x6 := A0.c 6 (u := .slice f s.was.links.length cf) rfl
 have x7 := A0.c 7 (u := .int .i64 s.cur) rfl
 have x8 := A0.c 8 (u := .slice va s.vs.length cv) rfl
 have x9 := A0.c 9 (u := .slice ia s.ix.length ci) rfl
 by_cases g : 1048576 - (s.sz : Int) < 0
 ·rw [jal g] at hZ
  clear g
  go_enter Tryz.func3, Tryz.ntmps3
  go_wp2_with fail
  refine hZ.mono ?_
  rintro e1 w1 ⟨rfl, hb1⟩
  go_wp2
  go_ret
  exact ⟨rfl, (qtr hB0 hb1)⟩
 rw [ja7 (by omega)] at hZ
 have ok := okd.store (by omega)
 have hTo := fun w h => laws_toStore s (.agg #[.int .i64 s.tx, .slice a s.now.rules.length ca, .slice b s.now.zones.length cb, .slice c s.now.links.length cc, .slice d s.was.rules.length cd, .slice e s.was.zones.length ce, .slice f s.was.links.length cf, .int .i64 s.cur, .slice va s.vs.length cv, .slice ia s.ix.length ci]) w h ok
 have hI := fun v w hE h => impl_StoreRight s v w hE h ok
 have hS := fun v w h => spec_StoreRight s v w h ok
 have hE := fun v v2 w h h2 => laws_eqStore s v v2 w h h2 ok
 rw [store_same] at hS
 generalize storeI s = tb at *
 have g2 : ¬ (1048576 - (s.sz : Int) < 0) := g
 clear g
 generalize (s.sz : Int) = sz at *
 go_enter Tryz.func3, Tryz.ntmps3
 go_wp2_with fail
 refine hZ.mono ?_
 rintro e1 w1 ⟨rfl, hb1⟩
 have hB1 := qtr hB0 hb1
 have A1 := A0.below hb1
 clear x0 x1 x2 x3 x4 x5 x6 x7 x8 x9 hb1 A0 hB0 hZ
 have x0 := A1.c 0 (u := .int .i64 s.tx) rfl
 have x1 := A1.c 1 (u := .slice a s.now.rules.length ca) rfl
 have x2 := A1.c 2 (u := .slice b s.now.zones.length cb) rfl
 have x3 := A1.c 3 (u := .slice c s.now.links.length cc) rfl
 have x4 := A1.c 4 (u := .slice d s.was.rules.length cd) rfl
 have x5 := A1.c 5 (u := .slice e s.was.zones.length ce) rfl
 have x6 := A1.c 6 (u := .slice f s.was.links.length cf) rfl
 have x7 := A1.c 7 (u := .int .i64 s.cur) rfl
 have x8 := A1.c 8 (u := .slice va s.vs.length cv) rfl
 have x9 := A1.c 9 (u := .slice ia s.ix.length ci) rfl
 go_wp2_with fail
 refine (hTo _ (hv0.below hB1)).mono ?_
 rintro e2 w2 ⟨v2, rfl, hO2, hb2⟩
 have hB2 := qtr hB1 hb2
 have A2 := A1.below hb2
 have hS2 := hO2.st
 clear x0 x1 x2 x3 x4 x5 x6 x7 x8 x9 hb2 A1 hB1 hO2
 go_wp2_with fail
 refine (hS v2 _ hS2).mono ?_
 rintro e3 w3 ⟨rfl, hb3⟩
 have hB3 := qtr hB2 hb3
 have A3 := A2.below hb3
 clear hb3 A2 hB2 hS2
 have x0 := A3.c 0 (u := .int .i64 s.tx) rfl
 have x1 := A3.c 1 (u := .slice a s.now.rules.length ca) rfl
 have x2 := A3.c 2 (u := .slice b s.now.zones.length cb) rfl
 have x3 := A3.c 3 (u := .slice c s.now.links.length cc) rfl
 have x4 := A3.c 4 (u := .slice d s.was.rules.length cd) rfl
 have x5 := A3.c 5 (u := .slice e s.was.zones.length ce) rfl
 have x6 := A3.c 6 (u := .slice f s.was.links.length cf) rfl
 have x7 := A3.c 7 (u := .int .i64 s.cur) rfl
 have x8 := A3.c 8 (u := .slice va s.vs.length cv) rfl
 have x9 := A3.c 9 (u := .slice ia s.ix.length ci) rfl
 go_wp2_with fail
 refine (hTo _ (hv0.below hB3)).mono ?_
 rintro e4 w4 ⟨v4, rfl, hO4, hb4⟩
 have hB4 := qtr hB3 hb4
 have A4 := A3.below hb4
 have hS4 := hO4.st
 obtain ⟨ga, gb, gc, gd, ge, gf, gv, gx, hv4, _⟩ := hO4.form
 subst hv4
 clear x0 x1 x2 x3 x4 x5 x6 x7 x8 x9 hb4 A3 hB3 hO4
 have b5 := qal w4 (.cells #[.int .i64 s.tx, .slice (some ⟨ga, 0, none⟩) s.now.rules.length s.now.rules.length, .slice (some ⟨gb, 0, none⟩) s.now.zones.length s.now.zones.length, .slice (some ⟨gc, 0, none⟩) s.now.links.length s.now.links.length, .slice (some ⟨gd, 0, none⟩) s.was.rules.length s.was.rules.length, .slice (some ⟨ge, 0, none⟩) s.was.zones.length s.was.zones.length, .slice (some ⟨gf, 0, none⟩) s.was.links.length s.was.links.length, .int .i64 s.cur, .slice (some ⟨gv, 0, none⟩) s.vs.length s.vs.length, .slice (some ⟨gx, 0, none⟩) s.ix.length s.ix.length] 41)
 have hB5 := qtr hB4 b5
 have A5 := A4.below b5
 have hS5 := hS4.below b5
 have X5 : Zd (w4.alloc (.cells #[.int .i64 s.tx, .slice (some ⟨ga, 0, none⟩) s.now.rules.length s.now.rules.length, .slice (some ⟨gb, 0, none⟩) s.now.zones.length s.now.zones.length, .slice (some ⟨gc, 0, none⟩) s.now.links.length s.now.links.length, .slice (some ⟨gd, 0, none⟩) s.was.rules.length s.was.rules.length, .slice (some ⟨ge, 0, none⟩) s.was.zones.length s.was.zones.length, .slice (some ⟨gf, 0, none⟩) s.was.links.length s.was.links.length, .int .i64 s.cur, .slice (some ⟨gv, 0, none⟩) s.vs.length s.vs.length, .slice (some ⟨gx, 0, none⟩) s.ix.length s.ix.length] 41)) w4.heap.size [.int .i64 s.tx, .slice (some ⟨ga, 0, none⟩) s.now.rules.length s.now.rules.length, .slice (some ⟨gb, 0, none⟩) s.now.zones.length s.now.zones.length, .slice (some ⟨gc, 0, none⟩) s.now.links.length s.now.links.length, .slice (some ⟨gd, 0, none⟩) s.was.rules.length s.was.rules.length, .slice (some ⟨ge, 0, none⟩) s.was.zones.length s.was.zones.length, .slice (some ⟨gf, 0, none⟩) s.was.links.length s.was.links.length, .int .i64 s.cur, .slice (some ⟨gv, 0, none⟩) s.vs.length s.vs.length, .slice (some ⟨gx, 0, none⟩) s.ix.length s.ix.length] := Zd.new w4 [.int .i64 s.tx, .slice (some ⟨ga, 0, none⟩) s.now.rules.length s.now.rules.length, .slice (some ⟨gb, 0, none⟩) s.now.zones.length s.now.zones.length, .slice (some ⟨gc, 0, none⟩) s.now.links.length s.now.links.length, .slice (some ⟨gd, 0, none⟩) s.was.rules.length s.was.rules.length, .slice (some ⟨ge, 0, none⟩) s.was.zones.length s.was.zones.length, .slice (some ⟨gf, 0, none⟩) s.was.links.length s.was.links.length, .int .i64 s.cur, .slice (some ⟨gv, 0, none⟩) s.vs.length s.vs.length, .slice (some ⟨gx, 0, none⟩) s.ix.length s.ix.length] 41
 have y0 := X5.c 0 (u := .int .i64 s.tx) rfl
 have y1 := X5.c 1 (u := .slice (some ⟨ga, 0, none⟩) s.now.rules.length s.now.rules.length) rfl
 have y2 := X5.c 2 (u := .slice (some ⟨gb, 0, none⟩) s.now.zones.length s.now.zones.length) rfl
 have y3 := X5.c 3 (u := .slice (some ⟨gc, 0, none⟩) s.now.links.length s.now.links.length) rfl
 have y4 := X5.c 4 (u := .slice (some ⟨gd, 0, none⟩) s.was.rules.length s.was.rules.length) rfl
 have y5 := X5.c 5 (u := .slice (some ⟨ge, 0, none⟩) s.was.zones.length s.was.zones.length) rfl
 have y6 := X5.c 6 (u := .slice (some ⟨gf, 0, none⟩) s.was.links.length s.was.links.length) rfl
 have y7 := X5.c 7 (u := .int .i64 s.cur) rfl
 have y8 := X5.c 8 (u := .slice (some ⟨gv, 0, none⟩) s.vs.length s.vs.length) rfl
 have y9 := X5.c 9 (u := .slice (some ⟨gx, 0, none⟩) s.ix.length s.ix.length) rfl
 clear A4 hB4 hS4
 go_wp2_with fail
 refine (hI _ _ (hEnv.of_below hB5) hS5).mono ?_
 rintro e6 w6 ⟨rfl, hb6⟩
 have hB6 := qtr hB5 hb6
 have A6 := A5.below hb6
 have X6 := X5.below hb6
 have hS6 := hS5.below hb6
 clear y0 y1 y2 y3 y4 y5 y6 y7 y8 y9 hb6 A5 X5 hB5 hS5 b5
 have bD := jab w6
 have hBD := qtr hB6 bD
 have AD : Zd w6.drew w.heap.size [.int .i64 s.tx, .slice a s.now.rules.length ca, .slice b s.now.zones.length cb, .slice c s.now.links.length cc, .slice d s.was.rules.length cd, .slice e s.was.zones.length ce, .slice f s.was.links.length cf, .int .i64 s.cur, .slice va s.vs.length cv, .slice ia s.ix.length ci] := A6.below bD
 have XD : Zd w6.drew w4.heap.size [.int .i64 s.tx, .slice (some ⟨ga, 0, none⟩) s.now.rules.length s.now.rules.length, .slice (some ⟨gb, 0, none⟩) s.now.zones.length s.now.zones.length, .slice (some ⟨gc, 0, none⟩) s.now.links.length s.now.links.length, .slice (some ⟨gd, 0, none⟩) s.was.rules.length s.was.rules.length, .slice (some ⟨ge, 0, none⟩) s.was.zones.length s.was.zones.length, .slice (some ⟨gf, 0, none⟩) s.was.links.length s.was.links.length, .int .i64 s.cur, .slice (some ⟨gv, 0, none⟩) s.vs.length s.vs.length, .slice (some ⟨gx, 0, none⟩) s.ix.length s.ix.length] := X6.below bD
 have HSD : Hid (Jh w6.drew (.agg #[.int .i64 s.tx, .slice (some ⟨ga, 0, none⟩) s.now.rules.length s.now.rules.length, .slice (some ⟨gb, 0, none⟩) s.now.zones.length s.now.zones.length, .slice (some ⟨gc, 0, none⟩) s.now.links.length s.now.links.length, .slice (some ⟨gd, 0, none⟩) s.was.rules.length s.was.rules.length, .slice (some ⟨ge, 0, none⟩) s.was.zones.length s.was.zones.length, .slice (some ⟨gf, 0, none⟩) s.was.links.length s.was.links.length, .int .i64 s.cur, .slice (some ⟨gv, 0, none⟩) s.vs.length s.vs.length, .slice (some ⟨gx, 0, none⟩) s.ix.length s.ix.length]) s) := hS6.below bD
 have x0 := AD.c 0 (u := .int .i64 s.tx) rfl
 have x1 := AD.c 1 (u := .slice a s.now.rules.length ca) rfl
 have x2 := AD.c 2 (u := .slice b s.now.zones.length cb) rfl
 have x3 := AD.c 3 (u := .slice c s.now.links.length cc) rfl
 have x4 := AD.c 4 (u := .slice d s.was.rules.length cd) rfl
 have x5 := AD.c 5 (u := .slice e s.was.zones.length ce) rfl
 have x6 := AD.c 6 (u := .slice f s.was.links.length cf) rfl
 have x7 := AD.c 7 (u := .int .i64 s.cur) rfl
 have x8 := AD.c 8 (u := .slice va s.vs.length cv) rfl
 have x9 := AD.c 9 (u := .slice ia s.ix.length ci) rfl
 have y0 := XD.c 0 (u := .int .i64 s.tx) rfl
 have y1 := XD.c 1 (u := .slice (some ⟨ga, 0, none⟩) s.now.rules.length s.now.rules.length) rfl
 have y2 := XD.c 2 (u := .slice (some ⟨gb, 0, none⟩) s.now.zones.length s.now.zones.length) rfl
 have y3 := XD.c 3 (u := .slice (some ⟨gc, 0, none⟩) s.now.links.length s.now.links.length) rfl
 have y4 := XD.c 4 (u := .slice (some ⟨gd, 0, none⟩) s.was.rules.length s.was.rules.length) rfl
 have y5 := XD.c 5 (u := .slice (some ⟨ge, 0, none⟩) s.was.zones.length s.was.zones.length) rfl
 have y6 := XD.c 6 (u := .slice (some ⟨gf, 0, none⟩) s.was.links.length s.was.links.length) rfl
 have y7 := XD.c 7 (u := .int .i64 s.cur) rfl
 have y8 := XD.c 8 (u := .slice (some ⟨gv, 0, none⟩) s.vs.length s.vs.length) rfl
 have y9 := XD.c 9 (u := .slice (some ⟨gx, 0, none⟩) s.ix.length s.ix.length) rfl
 have hT7 := hTo w6.drew (hv0.below hBD)
 have HBD := hid hBD
 clear A6 X6 AD XD hS6 bD hBD hB6
 have tbb : (tb != tb) = false := by simp
 go_wp2_with fail
 go_region_held3 (fun w' => w'.cell? ⟨w.heap.size, 0, none⟩ = some (.int .i64 s.tx) /\ w'.cell? ⟨w.heap.size, 1, none⟩ = some (.slice a s.now.rules.length ca) /\ w'.cell? ⟨w.heap.size, 2, none⟩ = some (.slice b s.now.zones.length cb) /\ w'.cell? ⟨w.heap.size, 3, none⟩ = some (.slice c s.now.links.length cc) /\ w'.cell? ⟨w.heap.size, 4, none⟩ = some (.slice d s.was.rules.length cd) /\ w'.cell? ⟨w.heap.size, 5, none⟩ = some (.slice e s.was.zones.length ce) /\ w'.cell? ⟨w.heap.size, 6, none⟩ = some (.slice f s.was.links.length cf) /\ w'.cell? ⟨w.heap.size, 7, none⟩ = some (.int .i64 s.cur) /\ w'.cell? ⟨w.heap.size, 8, none⟩ = some (.slice va s.vs.length cv) /\ w'.cell? ⟨w.heap.size, 9, none⟩ = some (.slice ia s.ix.length ci) /\ w'.cell? ⟨w4.heap.size, 0, none⟩ = some (.int .i64 s.tx) /\ w'.cell? ⟨w4.heap.size, 1, none⟩ = some (.slice (some ⟨ga, 0, none⟩) s.now.rules.length s.now.rules.length) /\ w'.cell? ⟨w4.heap.size, 2, none⟩ = some (.slice (some ⟨gb, 0, none⟩) s.now.zones.length s.now.zones.length) /\ w'.cell? ⟨w4.heap.size, 3, none⟩ = some (.slice (some ⟨gc, 0, none⟩) s.now.links.length s.now.links.length) /\ w'.cell? ⟨w4.heap.size, 4, none⟩ = some (.slice (some ⟨gd, 0, none⟩) s.was.rules.length s.was.rules.length) /\ w'.cell? ⟨w4.heap.size, 5, none⟩ = some (.slice (some ⟨ge, 0, none⟩) s.was.zones.length s.was.zones.length) /\ w'.cell? ⟨w4.heap.size, 6, none⟩ = some (.slice (some ⟨gf, 0, none⟩) s.was.links.length s.was.links.length) /\ w'.cell? ⟨w4.heap.size, 7, none⟩ = some (.int .i64 s.cur) /\ w'.cell? ⟨w4.heap.size, 8, none⟩ = some (.slice (some ⟨gv, 0, none⟩) s.vs.length s.vs.length) /\ w'.cell? ⟨w4.heap.size, 9, none⟩ = some (.slice (some ⟨gx, 0, none⟩) s.ix.length s.ix.length)) (go_keep) (first | (go_at_call 6; refine hT7.mono ?_; rintro e7 w7 ⟨v7, rfl, hO7, hb7⟩; have hS7 := hO7.st; clear hO7; have p0_ := jaa hb7 x0; have p1_ := jaa hb7 x1; have p2_ := jaa hb7 x2; have p3_ := jaa hb7 x3; have p4_ := jaa hb7 x4; have p5_ := jaa hb7 x5; have p6_ := jaa hb7 x6; have p7_ := jaa hb7 x7; have p8_ := jaa hb7 x8; have p9_ := jaa hb7 x9; have q0_ := jaa hb7 y0; have q1_ := jaa hb7 y1; have q2_ := jaa hb7 y2; have q3_ := jaa hb7 y3; have q4_ := jaa hb7 y4; have q5_ := jaa hb7 y5; have q6_ := jaa hb7 y6; have q7_ := jaa hb7 y7; have q8_ := jaa hb7 y8; have q9_ := jaa hb7 y9; have hE8 := hE _ v7 w7 (HSD.out.below hb7) hS7; obtain ⟨a7, b7, c7, d7, e7, f7, va7, ia7, ca7, cb7, cc7, cd7, ce7, cf7, cv7, ci7, hv7, _⟩ := hS7.form; subst hv7; clear hS7) | (go_at_call 8; refine hE8.mono ?_; rintro e8 w8 ⟨rfl, hb8⟩; have r0_ := jaa hb8 p0_; have r1_ := jaa hb8 p1_; have r2_ := jaa hb8 p2_; have r3_ := jaa hb8 p3_; have r4_ := jaa hb8 p4_; have r5_ := jaa hb8 p5_; have r6_ := jaa hb8 p6_; have r7_ := jaa hb8 p7_; have r8_ := jaa hb8 p8_; have r9_ := jaa hb8 p9_; have s0_ := jaa hb8 q0_; have s1_ := jaa hb8 q1_; have s2_ := jaa hb8 q2_; have s3_ := jaa hb8 q3_; have s4_ := jaa hb8 q4_; have s5_ := jaa hb8 q5_; have s6_ := jaa hb8 q6_; have s7_ := jaa hb8 q7_; have s8_ := jaa hb8 q8_; have s9_ := jaa hb8 q9_))
 all_goals
  have hB7 := qtr HBD.out hb7
  have hB8 := qtr hB7 hb8
  clear r0_ s0_ p0_ q0_ r1_ s1_ p1_ q1_ r2_ s2_ p2_ q2_ r3_ s3_ p3_ q3_ r4_ s4_ p4_ q4_ r5_ s5_ p5_ q5_ r6_ s6_ p6_ q6_ r7_ s7_ p7_ q7_ r8_ s8_ p8_ q8_ r9_ s9_ p9_ q9_
  go_wp2
  go_ret
  exact ⟨rfl, hB8⟩
end Go.Proofs.YtpejeokacilebaaGreatDoor.storeRight
