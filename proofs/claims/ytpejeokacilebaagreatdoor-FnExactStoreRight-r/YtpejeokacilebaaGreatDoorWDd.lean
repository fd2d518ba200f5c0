/- The walk of the law FnExactStoreRight. -/
import Derived.Test.YtpejeokacilebaaGreatDoorSNd
set_option maxHeartbeats 0
set_option linter.unusedSimpArgs false
namespace Go.Proofs.YtpejeokacilebaaGreatDoor.storeRight
open Go.RowKit
set_option maxRecDepth 20000 in
theorem walk(s:StoreD)(v:Value)(w:World)(hv:Jd w v s)(T4:s.ok)(hT:Tab w)(gw:Mx w):
  Cl 3 #[v] w fun e w'=>e=.returned (.bool true)/\Bw w w':=by
 have cg:Zx w:=⟨hT,gw⟩
 have dQ:=hv
 obtain⟨a,b,c,d,e,f,va,ia,ca,cb,cc,cd,ce,cf,cv,ci,rfl,_,_,_,_,_,_⟩:=hv.form
 have ag:Bw w (w.alloc (.cells #[iv s.tx,.slice a s.now.rules.length ca,.slice b s.now.zones.length cb,.slice c s.now.links.length cc,.slice d s.was.rules.length cd,.slice e s.was.zones.length ce,.slice f s.was.links.length cf,iv s.cur,.slice va s.vs.length cv,.slice ia s.ix.length ci] 30)):=qal _ _
 have A0:Zh (w.alloc (.cells #[iv s.tx,.slice a s.now.rules.length ca,.slice b s.now.zones.length cb,.slice c s.now.links.length cc,.slice d s.was.rules.length cd,.slice e s.was.zones.length ce,.slice f s.was.links.length cf,iv s.cur,.slice va s.vs.length cv,.slice ia s.ix.length ci] 30)) w.heap.size [iv s.tx,.slice a s.now.rules.length ca,.slice b s.now.zones.length cb,.slice c s.now.links.length cc,.slice d s.was.rules.length cd,.slice e s.was.zones.length ce,.slice f s.was.links.length cf,iv s.cur,.slice va s.vs.length cv,.slice ia s.ix.length ci]:=Zh.new w [iv s.tx,.slice a s.now.rules.length ca,.slice b s.now.zones.length cb,.slice c s.now.links.length cc,.slice d s.was.rules.length cd,.slice e s.was.zones.length ce,.slice f s.was.links.length cf,iv s.cur,.slice va s.vs.length cv,.slice ia s.ix.length ci] 30
 have hZ:=jn0 s (.agg #[iv s.tx,.slice a s.now.rules.length ca,.slice b s.now.zones.length cb,.slice c s.now.links.length cc,.slice d s.was.rules.length cd,.slice e s.was.zones.length ce,.slice f s.was.links.length cf,iv s.cur,.slice va s.vs.length cv,.slice ia s.ix.length ci]) 1048576 (w.alloc (.cells #[iv s.tx,.slice a s.now.rules.length ca,.slice b s.now.zones.length cb,.slice c s.now.links.length cc,.slice d s.was.rules.length cd,.slice e s.was.zones.length ce,.slice f s.was.links.length cf,iv s.cur,.slice va s.vs.length cv,.slice ia s.ix.length ci] 30)) (dQ.below ag) T4 (by omega) (by omega)
 have x0:=A0.c 0 (u:=iv s.tx) rfl
 have x1:=A0.c 1 (u:=.slice a s.now.rules.length ca) rfl
 have x2:=A0.c 2 (u:=.slice b s.now.zones.length cb) rfl
 have x3:=A0.c 3 (u:=.slice c s.now.links.length cc) rfl
 have x4:=A0.c 4 (u:=.slice d s.was.rules.length cd) rfl
 have x5:=A0.c 5 (u:=.slice e s.was.zones.length ce) rfl
 have x6:=A0.c 6 (u:=.slice f s.was.links.length cf) rfl
 have x7:=A0.c 7 (u:=iv s.cur) rfl
 have x8:=A0.c 8 (u:=.slice va s.vs.length cv) rfl
 have x9:=A0.c 9 (u:=.slice ia s.ix.length ci) rfl
 by_cases g:1048576-(s.sz:Int)<0
 ·rw[jal g]at hZ
  clear g
  unfold Cl;go_in
  go_wp2_with fail
  refine hZ.mono ?_
  rintro e1 w1 ⟨rfl,hb1⟩
  go_wp2
  go_ret
  exact⟨rfl,(qtr ag hb1)⟩
 rw[jbb (by omega)]at hZ
 have ok:=T4.store (by omega)
 have lB:=fun w h=>jnu s (.agg #[iv s.tx,.slice a s.now.rules.length ca,.slice b s.now.zones.length cb,.slice c s.now.links.length cc,.slice d s.was.rules.length cd,.slice e s.was.zones.length ce,.slice f s.was.links.length cf,iv s.cur,.slice va s.vs.length cv,.slice ia s.ix.length ci]) w h ok
 have hI:=fun v w hE h=>jwv s v w hE h ok
 have hS:=fun v w h=>jh8 s v w h ok
 have hE:=fun v v2 w h h2=>jn5 s v v2 w h h2 ok
 rw[jkt]at hS
 generalize storeI s=tb at *
 have g2:¬(1048576-(s.sz:Int)<0):=g
 clear g
 generalize (s.sz:Int)=sz at *
 unfold Cl;go_in
 go_wp2_with fail
 refine hZ.mono ?_
 rintro e1 w1 ⟨rfl,hb1⟩
 have aj:=qtr ag hb1
 have A1:=A0.below hb1
 clear x0 x1 x2 x3 x4 x5 x6 x7 x8 x9 hb1 A0 ag hZ
 have x0:=A1.c 0 (u:=iv s.tx) rfl
 have x1:=A1.c 1 (u:=.slice a s.now.rules.length ca) rfl
 have x2:=A1.c 2 (u:=.slice b s.now.zones.length cb) rfl
 have x3:=A1.c 3 (u:=.slice c s.now.links.length cc) rfl
 have x4:=A1.c 4 (u:=.slice d s.was.rules.length cd) rfl
 have x5:=A1.c 5 (u:=.slice e s.was.zones.length ce) rfl
 have x6:=A1.c 6 (u:=.slice f s.was.links.length cf) rfl
 have x7:=A1.c 7 (u:=iv s.cur) rfl
 have x8:=A1.c 8 (u:=.slice va s.vs.length cv) rfl
 have x9:=A1.c 9 (u:=.slice ia s.ix.length ci) rfl
 go_wp2_with fail
 refine(lB _ (dQ.below aj)).mono ?_
 rintro e2 w2 ⟨v2,rfl,aW,ac⟩
 have an:=qtr aj ac
 have A2:=A1.below ac
 have qf:=aW.st
 clear x0 x1 x2 x3 x4 x5 x6 x7 x8 x9 ac A1 aj aW
 go_wp2_with fail
 refine(hS v2 _ qf).mono ?_
 rintro e3 w3 ⟨rfl,ar⟩
 have ax:=qtr an ar
 have A3:=A2.below ar
 clear ar A2 an qf
 have x0:=A3.c 0 (u:=iv s.tx) rfl
 have x1:=A3.c 1 (u:=.slice a s.now.rules.length ca) rfl
 have x2:=A3.c 2 (u:=.slice b s.now.zones.length cb) rfl
 have x3:=A3.c 3 (u:=.slice c s.now.links.length cc) rfl
 have x4:=A3.c 4 (u:=.slice d s.was.rules.length cd) rfl
 have x5:=A3.c 5 (u:=.slice e s.was.zones.length ce) rfl
 have x6:=A3.c 6 (u:=.slice f s.was.links.length cf) rfl
 have x7:=A3.c 7 (u:=iv s.cur) rfl
 have x8:=A3.c 8 (u:=.slice va s.vs.length cv) rfl
 have x9:=A3.c 9 (u:=.slice ia s.ix.length ci) rfl
 go_wp2_with fail
 refine(lB _ (dQ.below ax)).mono ?_
 rintro e4 w4 ⟨v4,rfl,dX,aD⟩
 have aR:=qtr ax aD
 have A4:=A3.below aD
 have uH:=dX.st
 obtain⟨ga,gb,gc,gd,ge,gf,gv,gx,TE,_⟩:=dX.form
 subst TE
 clear x0 x1 x2 x3 x4 x5 x6 x7 x8 x9 aD A3 ax dX
 have b5:=qal w4 (.cells #[iv s.tx,so ga s.now.rules.length s.now.rules.length,so gb s.now.zones.length s.now.zones.length,so gc s.now.links.length s.now.links.length,so gd s.was.rules.length s.was.rules.length,so ge s.was.zones.length s.was.zones.length,so gf s.was.links.length s.was.links.length,iv s.cur,so gv s.vs.length s.vs.length,so gx s.ix.length s.ix.length] 41)
 have bG:=qtr aR b5
 have A5:=A4.below b5
 have sl:=uH.below b5
 have X5:Zh (w4.alloc (.cells #[iv s.tx,so ga s.now.rules.length s.now.rules.length,so gb s.now.zones.length s.now.zones.length,so gc s.now.links.length s.now.links.length,so gd s.was.rules.length s.was.rules.length,so ge s.was.zones.length s.was.zones.length,so gf s.was.links.length s.was.links.length,iv s.cur,so gv s.vs.length s.vs.length,so gx s.ix.length s.ix.length] 41)) w4.heap.size [iv s.tx,so ga s.now.rules.length s.now.rules.length,so gb s.now.zones.length s.now.zones.length,so gc s.now.links.length s.now.links.length,so gd s.was.rules.length s.was.rules.length,so ge s.was.zones.length s.was.zones.length,so gf s.was.links.length s.was.links.length,iv s.cur,so gv s.vs.length s.vs.length,so gx s.ix.length s.ix.length]:=Zh.new w4 [iv s.tx,so ga s.now.rules.length s.now.rules.length,so gb s.now.zones.length s.now.zones.length,so gc s.now.links.length s.now.links.length,so gd s.was.rules.length s.was.rules.length,so ge s.was.zones.length s.was.zones.length,so gf s.was.links.length s.was.links.length,iv s.cur,so gv s.vs.length s.vs.length,so gx s.ix.length s.ix.length] 41
 have y0:=X5.c 0 (u:=iv s.tx) rfl
 have y1:=X5.c 1 (u:=so ga s.now.rules.length s.now.rules.length) rfl
 have y2:=X5.c 2 (u:=so gb s.now.zones.length s.now.zones.length) rfl
 have y3:=X5.c 3 (u:=so gc s.now.links.length s.now.links.length) rfl
 have y4:=X5.c 4 (u:=so gd s.was.rules.length s.was.rules.length) rfl
 have y5:=X5.c 5 (u:=so ge s.was.zones.length s.was.zones.length) rfl
 have y6:=X5.c 6 (u:=so gf s.was.links.length s.was.links.length) rfl
 have y7:=X5.c 7 (u:=iv s.cur) rfl
 have y8:=X5.c 8 (u:=so gv s.vs.length s.vs.length) rfl
 have y9:=X5.c 9 (u:=so gx s.ix.length s.ix.length) rfl
 clear A4 aR uH
 go_wp2_with fail
 refine(hI _ _ (cg.of_below bG) sl).mono ?_
 rintro e6 w6 ⟨rfl,hb6⟩
 have cp:=qtr bG hb6
 have A6:=A5.below hb6
 have X6:=X5.below hb6
 have xN:=sl.below hb6
 clear y0 y1 y2 y3 y4 y5 y6 y7 y8 y9 hb6 A5 X5 bG sl b5
 have bD:=jab w6
 have bY:=qtr cp bD
 have AD:Zh w6.drew w.heap.size [iv s.tx,.slice a s.now.rules.length ca,.slice b s.now.zones.length cb,.slice c s.now.links.length cc,.slice d s.was.rules.length cd,.slice e s.was.zones.length ce,.slice f s.was.links.length cf,iv s.cur,.slice va s.vs.length cv,.slice ia s.ix.length ci]:=A6.below bD
 have XD:Zh w6.drew w4.heap.size [iv s.tx,so ga s.now.rules.length s.now.rules.length,so gb s.now.zones.length s.now.zones.length,so gc s.now.links.length s.now.links.length,so gd s.was.rules.length s.was.rules.length,so ge s.was.zones.length s.was.zones.length,so gf s.was.links.length s.was.links.length,iv s.cur,so gv s.vs.length s.vs.length,so gx s.ix.length s.ix.length]:=X6.below bD
 have Tm:Hid (Jd w6.drew (.agg #[iv s.tx,so ga s.now.rules.length s.now.rules.length,so gb s.now.zones.length s.now.zones.length,so gc s.now.links.length s.now.links.length,so gd s.was.rules.length s.was.rules.length,so ge s.was.zones.length s.was.zones.length,so gf s.was.links.length s.was.links.length,iv s.cur,so gv s.vs.length s.vs.length,so gx s.ix.length s.ix.length]) s):=xN.below bD
 have x0:=AD.c 0 (u:=iv s.tx) rfl
 have x1:=AD.c 1 (u:=.slice a s.now.rules.length ca) rfl
 have x2:=AD.c 2 (u:=.slice b s.now.zones.length cb) rfl
 have x3:=AD.c 3 (u:=.slice c s.now.links.length cc) rfl
 have x4:=AD.c 4 (u:=.slice d s.was.rules.length cd) rfl
 have x5:=AD.c 5 (u:=.slice e s.was.zones.length ce) rfl
 have x6:=AD.c 6 (u:=.slice f s.was.links.length cf) rfl
 have x7:=AD.c 7 (u:=iv s.cur) rfl
 have x8:=AD.c 8 (u:=.slice va s.vs.length cv) rfl
 have x9:=AD.c 9 (u:=.slice ia s.ix.length ci) rfl
 have y0:=XD.c 0 (u:=iv s.tx) rfl
 have y1:=XD.c 1 (u:=so ga s.now.rules.length s.now.rules.length) rfl
 have y2:=XD.c 2 (u:=so gb s.now.zones.length s.now.zones.length) rfl
 have y3:=XD.c 3 (u:=so gc s.now.links.length s.now.links.length) rfl
 have y4:=XD.c 4 (u:=so gd s.was.rules.length s.was.rules.length) rfl
 have y5:=XD.c 5 (u:=so ge s.was.zones.length s.was.zones.length) rfl
 have y6:=XD.c 6 (u:=so gf s.was.links.length s.was.links.length) rfl
 have y7:=XD.c 7 (u:=iv s.cur) rfl
 have y8:=XD.c 8 (u:=so gv s.vs.length s.vs.length) rfl
 have y9:=XD.c 9 (u:=so gx s.ix.length s.ix.length) rfl
 have mj:=lB w6.drew (dQ.below bY)
 have qs:=hid bY
 clear A6 X6 AD XD xN bD bY cp
 have US:(tb != tb)=false:=by simp
 go_wp2_with fail
 go_region_held3 (fun w'=>w'.cell? (ad w.heap.size 0)=some (iv s.tx)/\w'.cell? (ad w.heap.size 1)=some (.slice a s.now.rules.length ca)/\w'.cell? (ad w.heap.size 2)=some (.slice b s.now.zones.length cb)/\w'.cell? (ad w.heap.size 3)=some (.slice c s.now.links.length cc)/\w'.cell? (ad w.heap.size 4)=some (.slice d s.was.rules.length cd)/\w'.cell? (ad w.heap.size 5)=some (.slice e s.was.zones.length ce)/\w'.cell? (ad w.heap.size 6)=some (.slice f s.was.links.length cf)/\w'.cell? (ad w.heap.size 7)=some (iv s.cur)/\w'.cell? (ad w.heap.size 8)=some (.slice va s.vs.length cv)/\w'.cell? (ad w.heap.size 9)=some (.slice ia s.ix.length ci)/\w'.cell? (ad w4.heap.size 0)=some (iv s.tx)/\w'.cell? (ad w4.heap.size 1)=some (so ga s.now.rules.length s.now.rules.length)/\w'.cell? (ad w4.heap.size 2)=some (so gb s.now.zones.length s.now.zones.length)/\w'.cell? (ad w4.heap.size 3)=some (so gc s.now.links.length s.now.links.length)/\w'.cell? (ad w4.heap.size 4)=some (so gd s.was.rules.length s.was.rules.length)/\w'.cell? (ad w4.heap.size 5)=some (so ge s.was.zones.length s.was.zones.length)/\w'.cell? (ad w4.heap.size 6)=some (so gf s.was.links.length s.was.links.length)/\w'.cell? (ad w4.heap.size 7)=some (iv s.cur)/\w'.cell? (ad w4.heap.size 8)=some (so gv s.vs.length s.vs.length)/\w'.cell? (ad w4.heap.size 9)=some (so gx s.ix.length s.ix.length)) (go_keep) (first|(go_at_call 6;refine mj.mono ?_;rintro e7 w7 ⟨v7,rfl,cj,ay⟩;have yL:=cj.st;clear cj;have Lx:=jaa ay x0;have Ly:=jaa ay x1;have Lz:=jaa ay x2;have LA:=jaa ay x3;have LB:=jaa ay x4;have LC:=jaa ay x5;have LD:=jaa ay x6;have LE:=jaa ay x7;have LF:=jaa ay x8;have LG:=jaa ay x9;have T5:=jaa ay y0;have T6:=jaa ay y1;have T9:=jaa ay y2;have Ta:=jaa ay y3;have Tb:=jaa ay y4;have Tc:=jaa ay y5;have Td:=jaa ay y6;have Te:=jaa ay y7;have Tf:=jaa ay y8;have Tg:=jaa ay y9;have Tw:=hE _ v7 w7 (Tm.out.below ay) yL;obtain⟨a7,b7,c7,d7,e7,f7,UT,UO,UA,UB,UC,UD,UE,UF,UH,UG,TF,_⟩:=yL.form;subst TF;clear yL)|(go_at_call 8;refine Tw.mono ?_;rintro e8 w8 ⟨rfl,jc⟩;have ti:=jaa jc Lx;have xK:=jaa jc Ly;have U3:=jaa jc Lz;have U4:=jaa jc LA;have U5:=jaa jc LB;have U6:=jaa jc LC;have U7:=jaa jc LD;have U8:=jaa jc LE;have U9:=jaa jc LF;have Ua:=jaa jc LG;have Pt:=jaa jc T5;have Px:=jaa jc T6;have Pz:=jaa jc T9;have PA:=jaa jc Ta;have PF:=jaa jc Tb;have PO:=jaa jc Tc;have PQ:=jaa jc Td;have PS:=jaa jc Te;have PT:=jaa jc Tf;have PU:=jaa jc Tg))
 all_goals
  have dz:=qtr qs.out ay
  have Tv:=qtr dz jc
  clear ti Pt Lx T5 xK Px Ly T6 U3 Pz Lz T9 U4 PA LA Ta U5 PF LB Tb U6 PO LC Tc U7 PQ LD Td U8 PS LE Te U9 PT LF Tf Ua PU LG Tg
  go_wp2
  go_ret
  exact⟨rfl,Tv⟩
