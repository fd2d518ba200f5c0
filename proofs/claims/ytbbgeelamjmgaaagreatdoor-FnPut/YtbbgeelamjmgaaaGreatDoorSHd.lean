import Derived.Test.YtbbgeelamjmgaaaGreatDoorSGd
import Derived.Test.YtbbgeelamjmgaaaGreatDoorSLd
set_option maxRecDepth 100000
set_option maxHeartbeats 0
set_option linter.unusedSimpArgs false
namespace Go.Proofs.YtbbgeelamjmgaaaGreatDoor
variable{W W' w w' w0:World}{s:ZP}{bb ca cb cc cd ce cf g jw lb n nm nn wm wn x:Nat}{a b c d e f:Option Addr}{r:ZW}{P:List ZY}
section
open Go.RowKit Go.ChangeMaps Go.MapKept Go.WideMaps
def vbd(r:ZW)(e:Ze):Int × Bool:=vbe (uC r (xP r e.YZ).name) e
def vak(s:ZP)(e:Ze):Int × Bool:=if s.cur=0\/e.id<s.cur then vbd s.YT e else vbd s.YS e
structure Zl(X:List (Nat × Value))(w0 w:World)(s:ZP)(bb lb nm wm nn wn:Nat)(a b c d e f:Option Addr)(ca cb cc cd ce cf:Nat):Prop where
 ZB:Bw w0 w
 cur:w.cell? (O bb 7)=some (J s.cur)
 live:w.cell? (O bb 10)=some (.map (some lb))
 n0:w.cell? (O bb 11)=some (U a s.YT.Vv.length ca)
 n1:w.cell? (O bb 12)=some (U b s.YT.YU.length cb)
 n2:w.cell? (O bb 13)=some (U c s.YT.YW.length cc)
 n3:w.cell? (O bb 14)=some (.map (some nm))
 w1:w.cell? (O bb 15)=some (U d s.YS.Vv.length cd)
 w2:w.cell? (O bb 16)=some (U e s.YS.YU.length ce)
 w3:w.cell? (O bb 17)=some (U f s.YS.YW.length cf)
 w4:w.cell? (O bb 18)=some (.map (some wm))
 cn:Zi w nm nn s.YT
 cw:Zi w wm wn s.YS
 ne:nm≠wm
 bn:w0.heap.size<=nm
 bw:w0.heap.size<=wm
 more:∀p∈X,w.cell? (O bb p.1)=some p.2
 blk:∃cs,w.heap[bb]? =some (G cs 70 (0,0))
theorem Zl.below{X:List (Nat × Value)}(h:Zl X w0 w s bb lb nm wm nn wn a b c d e f ca cb cc cd ce cf)(hb:Bw w w'):Zl X w0 w' s bb lb nm wm nn wn a b c d e f ca cb cc cd ce cf:=
 ⟨h.ZB.trans (hb.mono h.ZB.size),YR hb h.cur,YR hb h.live,YR hb h.n0,YR hb h.n1,YR hb h.n2,YR hb h.n3,YR hb h.w1,YR hb h.w2,YR hb h.w3,YR hb h.w4,h.cn.below hb,h.cw.below hb,h.ne,h.bn,h.bw,λp hp=>YR hb (h.more p hp),by
  have⟨cs,h1⟩:=h.blk
  exact⟨cs,(hb.block bb (ZI h.cur)).trans h1⟩⟩
theorem Zl.veh{X:List (Nat × Value)}(h:Zl X w0 w s bb lb nm wm nn wn a b c d e f ca cb cc cd ce cf):bb≠nm:=λhe=>by(have:=h.cn.cell 7;rw[<- he,h.cur]at this;cases this)
theorem Zl.vei{X:List (Nat × Value)}(h:Zl X w0 w s bb lb nm wm nn wn a b c d e f ca cb cc cd ce cf):bb≠wm:=λhe=>by(have:=h.cw.cell 7;rw[<- he,h.cur]at this;cases this)
theorem vdZ(h:Bw w0 w)(hg:w.grownBy w' (some g))(hb:w0.heap.size<=g):Bw w0 w':=h.grown hg h.size (λk hk=>by injection hk with hk;omega)
theorem Zl.grown{X:List (Nat × Value)}(h:Zl X w0 w s bb lb nm wm nn wn a b c d e f ca cb cc cd ce cf)(hg:w.grownBy w' (some g))(hb:w0.heap.size<=g)(h1:bb≠g)(h2:nm≠g)(h3:wm≠g)(az:∀cs,w.heap[g]? ≠some (G cs 195 (0,0))):Zl X w0 w' s bb lb nm wm nn wn a b c d e f ca cb cc cd ce cf:=by
 have k:some bb≠some g:=by simpa using h1
 exact⟨vdZ h.ZB hg hb,hg.cell h.cur k,hg.cell h.live k,hg.cell h.n0 k,hg.cell h.n1 k,hg.cell h.n2 k,hg.cell h.n3 k,hg.cell h.w1 k,hg.cell h.w2 k,hg.cell h.w3 k,hg.cell h.w4 k,h.cn.grown hg h2 az,h.cw.grown hg h3 az,h.ne,h.bn,h.bw,λp hp=>hg.cell (h.more p hp) k,by
  have⟨cs,h1⟩:=h.blk
  exact⟨cs,(hg.block bb (ZI h.cur) k).trans h1⟩⟩
theorem jpc{b:Nat}(h:Zi w b n r):∀cs,w.heap[b]? ≠some (G cs 195 (0,0)):=λcs hc=>h.blk b cs hc rfl
theorem Zl.vht{X:List (Nat × Value)}(h:Zl X w0 w s bb lb nm wm nn wn a b c d e f ca cb cc cd ce cf)(hg:w.grownBy w' (some nm))(hc:Zi w' nm (nn+1) s.YT):Zl X w0 w' s bb lb nm wm (nn+1) (wn+1) a b c d e f ca cb cc cd ce cf:=by
 have k:some bb≠some nm:=by simpa using h.veh
 exact⟨vdZ h.ZB hg h.bn,hg.cell h.cur k,hg.cell h.live k,hg.cell h.n0 k,hg.cell h.n1 k,hg.cell h.n2 k,hg.cell h.n3 k,hg.cell h.w1 k,hg.cell h.w2 k,hg.cell h.w3 k,hg.cell h.w4 k,hc,(h.cw.grown hg (Ne.symm h.ne) (jpc h.cn)).mono Q,h.ne,h.bn,h.bw,λp hp=>hg.cell (h.more p hp) k,by
  have⟨cs,h1⟩:=h.blk
  exact⟨cs,(hg.block bb (ZI h.cur) k).trans h1⟩⟩
theorem Zl.vhu{X:List (Nat × Value)}(h:Zl X w0 w s bb lb nm wm nn wn a b c d e f ca cb cc cd ce cf)(hg:w.grownBy w' (some wm))(hc:Zi w' wm (wn+1) s.YS):Zl X w0 w' s bb lb nm wm (nn+1) (wn+1) a b c d e f ca cb cc cd ce cf:=by
 have k:some bb≠some wm:=by simpa using h.vei
 exact⟨vdZ h.ZB hg h.bw,hg.cell h.cur k,hg.cell h.live k,hg.cell h.n0 k,hg.cell h.n1 k,hg.cell h.n2 k,hg.cell h.n3 k,hg.cell h.w1 k,hg.cell h.w2 k,hg.cell h.w3 k,hg.cell h.w4 k,(h.cn.grown hg h.ne (jpc h.cw)).mono Q,hc,h.ne,h.bn,h.bw,λp hp=>hg.cell (h.more p hp) k,by
  have⟨cs,h1⟩:=h.blk
  exact⟨cs,(hg.block bb (ZI h.cur) k).trans h1⟩⟩
structure vdP(X:List (Nat × Value))(w0:World)(s:ZP)(bb lb nm wm nn wn:Nat)(a b c d e f:Option Addr)(ca cb cc cd ce cf:Nat)(ev:Ze)(w:World)(q:Ending)(w':World):Prop where
 ex:q=V (.agg #[J (vak s ev).1,.bool (vak s ev).2])
 book:Zl X w0 w' s bb lb nm wm (nn+1) (wn+1) a b c d e f ca cb cc cd ce cf
 grown:∃g,(g=nm\/g=wm)/\w.grownBy w' (some g)
theorem jrr{e:Ze}(h:s.cur=0\/e.id<s.cur):vak s e=vbd s.YT e:=if_pos h
theorem jzh{e:Ze}(h:¬(s.cur=0\/e.id<s.cur)):vak s e=vbd s.YS e:=if_neg h
theorem jcl(w:World)(n:Nat):Bw w (w.drewN n):=⟨rfl,rfl,rfl,ZD _,λ_ _=>rfl⟩
theorem jjg{X:List (Nat × Value)}(w0:World)(s:ZP)(bb lb nm wm nn wn:Nat)(a b c d e f:Option Addr)(ca cb cc cd ce cf:Nat)(ev:Ze)(w:World)(hE:Zx w0)(hN:Zd w0 (.agg #[U a s.YT.Vv.length ca,U b s.YT.YU.length cb,U c s.YT.YW.length cc]) s.YT)(hW:Zd w0 (.agg #[U d s.YS.Vv.length cd,U e s.YS.YU.length ce,U f s.YS.YW.length cf]) s.YS)(ok:Jk s.YT)(kS:Jk s.YS)(hr:ZZ s.YT=true)(dC:ZZ s.YS=true)(hB:Zl X w0 w s bb lb nm wm nn wn a b c d e f ca cb cc cd ce cf)(mI:nn<=1048576)(vK:wn<=1048576):
  C 92 #[.pointer (some (O bb 0)),ev.v] w (vdP X w0 s bb lb nm wm nn wn a b c d e f ca cb cc cd ce cf ev w):=by
 have HB:=hid hB;have b1:Bw w ((w.alloc (G #[J ev.id,I ev.name,I ev.YZ,J ev.YV,J ev.Zz,J ev.Zu] 33)).alloc (G #[J 0,.bool false] 183)):=(ZA _ _).alloc M _;have aj:=hB.below b1;obtain⟨id,name,YZ,YV,Zz,Zu⟩:=ev;simp only[Ze.v]at *;have iF:bb<w.heap.size:=ZI hB.cur;have E0:Zh ((w.alloc (G #[J id,I name,I YZ,J YV,J Zz,J Zu] 33)).alloc (G #[J 0,.bool false] 183)) w.heap.size [J id,I name,I YZ,J YV,J Zz,J Zu]:=(Zh.new w [J id,I name,I YZ,J YV,J Zz,J Zu] 33).below (ZA _ _);have R0:Zh ((w.alloc (G #[J id,I name,I YZ,J YV,J Zz,J Zu] 33)).alloc (G #[J 0,.bool false] 183)) (w.heap.size+1) [J 0,.bool false]:=by have h:=Zh.new (w.alloc (G #[J id,I name,I YZ,J YV,J Zz,J Zu] 33)) [J 0,.bool false] 183;simpa using h
 have Ay:=jap b1;have tX:((w.alloc (G #[J id,I name,I YZ,J YV,J Zz,J Zu] 33)).alloc (G #[J 0,.bool false] 183)).heap[w.heap.size+1]? =some (Obj.cells #[J 0,.bool false] 183):=by
  have h:=heap_alloc_new (w.alloc (G #[J id,I name,I YZ,J YV,J Zz,J Zu] 33)) (G #[J 0,.bool false] 183);have e:(w.alloc (G #[J id,I name,I YZ,J YV,J Zz,J Zu] 33)).heap.size=w.heap.size+1:=M;rw[e]at h;exact h
 have D5:¬bb=w.heap.size+1:=Q;have yo:¬w.heap.size+1=bb:=Q;have nd:=hB.veh;have nw:=hB.vei;have ln:=hB.cn.lt;have lw:=hB.cw.lt;have lE:∀W:World,Zl X w0 W s bb lb nm wm nn wn a b c d e f ca cb cc cd ce cf->C 136 #[.agg #[U a s.YT.Vv.length ca,U b s.YT.YU.length cb,U c s.YT.YW.length cc,.map (some nm)],.agg #[J id,I name,I YZ,J YV,J Zz,J Zu]] W (vct s.YT ⟨id,name,YZ,YV,Zz,Zu⟩ nm nn W):=λW h=>jfd s.YT a b c ca cb cc nm nn ⟨id,name,YZ,YV,Zz,Zu⟩ W (hE.of_below h.ZB) (hN.below h.ZB) ok hr h.cn mI
 have Ew:∀W:World,Zl X w0 W s bb lb nm wm nn wn a b c d e f ca cb cc cd ce cf->C 136 #[.agg #[U d s.YS.Vv.length cd,U e s.YS.YU.length ce,U f s.YS.YW.length cf,.map (some wm)],.agg #[J id,I name,I YZ,J YV,J Zz,J Zu]] W (vct s.YS ⟨id,name,YZ,YV,Zz,Zu⟩ wm wn W):=λW h=>jfd s.YS d e f cd ce cf wm wn ⟨id,name,YZ,YV,Zz,Zu⟩ W (hE.of_below h.ZB) (hW.below h.ZB) kS dC h.cw vK
 have Gi:=hid hB.ZB.size;clear hE hN hW ok kS hr dC hB;have c7:=aj.cur;have i0:=E0.c 0 rfl;unfold C;go_in;go_upto_region 1 with fail
 go_cut [20]from 5 to 19 (λPy wx=>∃(bo:Bool) (nq:Nat),Py=.bool bo/\wx=((w.alloc (G #[J id,I name,I YZ,J YV,J Zz,J Zu] 33)).alloc (G #[J 0,.bool false] 183)).drewN nq/\Hid (vak s ⟨id,name,YZ,YV,Zz,Zu⟩=if bo=true then vbd s.YT ⟨id,name,YZ,YV,Zz,Zu⟩else vbd s.YS ⟨id,name,YZ,YV,Zz,Zu⟩))
 case first=>
  by_cases h1:s.cur=0
  .have HM:Hid (vak s ⟨id,name,YZ,YV,Zz,Zu⟩=vbd s.YT ⟨id,name,YZ,YV,Zz,Zu⟩):=jrr (.inl h1)
   rw[h1]at c7;clear h1;go_quiet (fail);go_wp2;go_meet;exact⟨true,nq,rfl,rfl,HM.out⟩
  have⟨cu,Ab⟩:=ZL s.cur;by_cases h2:id<s.cur
  .have HM:Hid (vak s ⟨id,name,YZ,YV,Zz,Zu⟩=vbd s.YT ⟨id,name,YZ,YV,Zz,Zu⟩):=jrr (.inr h2)
   rw[Ab]at c7 h1 h2;have ET:(cu==0)=false:=by simp[h1]
   have tN:decide (id<cu)=true:=RO;clear Ab h1 h2;go_quiet (fail);go_wp2;go_meet;exact⟨true,nq,rfl,rfl,HM.out⟩
  .have HM:Hid (vak s ⟨id,name,YZ,YV,Zz,Zu⟩=vbd s.YS ⟨id,name,YZ,YV,Zz,Zu⟩):=jzh (λh=>h.elim h1 h2)
   rw[Ab]at c7 h1 h2;have ET:(cu==0)=false:=by simp[h1]
   have tN:decide (id<cu)=false:=RO;clear Ab h1 h2;go_quiet (fail);go_wp2;go_meet;exact⟨false,nq,rfl,rfl,HM.out⟩
 case rest=>
  obtain⟨bo,nq,rfl,rfl,HM⟩:=hcut;cases bo
  .replace HM:Hid (vak s ⟨id,name,YZ,YV,Zz,Zu⟩=vbd s.YS ⟨id,name,YZ,YV,Zz,Zu⟩):=HM.out.trans (if_neg M)
   go_wp2_with fail;have an:=aj.below (jcl _ nq);have E2:=E0.below (jcl _ nq);have R2:=R0.below (jcl _ nq);have bR:=Ay.trans (jap (jcl _ nq));have oA:(((w.alloc (G #[J id,I name,I YZ,J YV,J Zz,J Zu] 33)).alloc (G #[J 0,.bool false] 183)).drewN nq).heap[w.heap.size+1]? =some (Obj.cells #[J 0,.bool false] 183):=tX;clear aj E0 R0 Ay c7 b1 tX;generalize ((w.alloc (G #[J id,I name,I YZ,J YV,J Zz,J Zu] 33)).alloc (G #[J 0,.bool false] 183)).drewN nq=WA at *;have bY:Zl X w0 WA.drew s bb lb nm wm nn wn a b c d e f ca cb cc cd ce cf:=an.below (rW WA);have ED:Zh WA.drew w.heap.size [J id,I name,I YZ,J YV,J Zz,J Zu]:=E2;have RD:Zh WA.drew (w.heap.size+1) [J 0,.bool false]:=R2;have wH:w.grownBy WA.drew none:=bR.trans (jap (rW WA));have y15:=bY.w1;have y16:=bY.w2;have y17:=bY.w3;have y18:=bY.w4;have e0:=ED.c 0 rfl;have e1:=ED.c 1 rfl;have e2:=ED.c 2 rfl;have e3:=ED.c 3 rfl;have e4:=ED.c 4 rfl;have e5:=ED.c 5 rfl;have ti:=RD.c 0 rfl;have xK:=RD.c 1 rfl;have Cp:=RD.f 0 rfl;have Cr:=RD.f 1 rfl;have hC:=Ew _ bY;have qs:=hid bY;have Bp:=hid wH;have HH:=hid oA;clear oA;clear an bY E2 R2 ED RD lE Ew bR wH HB;have⟨vMM,rU⟩:=ZL (vbe (uC s.YS (xP s.YS YZ).name) ⟨id,name,YZ,YV,Zz,Zu⟩);have Bv:Hid (vbd s.YS ⟨id,name,YZ,YV,Zz,Zu⟩=vMM):=(rU);have lx:C 136 #[.agg #[U d s.YS.Vv.length cd,U e s.YS.YU.length ce,U f s.YS.YW.length cf,.map (some wm)],.agg #[J id,I name,I YZ,J YV,J Zz,J Zu]] WA.drew λq w'=>q=V (.agg #[J vMM.1,.bool vMM.2])/\Zi w' wm (wn+1) s.YS/\WA.drew.grownBy w' (some wm):=hC.mono λq w' hP=>⟨by rw[hP.ex,rU],hP.cache,hP.grown⟩
   clear hC rU;go_region_held3 (λw'=>w'.cell? (O bb 15)=some (U d s.YS.Vv.length cd)/\w'.cell? (O bb 16)=some (U e s.YS.YU.length ce)/\w'.cell? (O bb 17)=some (U f s.YS.YW.length cf)/\w'.cell? (O bb 18)=some (.map (some wm))/\w'.cell? (O w.heap.size 0)=some (J id)/\w'.cell? (O w.heap.size 1)=some (I name)/\w'.cell? (O w.heap.size 2)=some (I YZ)/\w'.cell? (O w.heap.size 3)=some (J YV)/\w'.cell? (O w.heap.size 4)=some (J Zz)/\w'.cell? (O w.heap.size 5)=some (J Zu)) (go_keep) ((go_at_call 136;refine lx.mono ?_;rintro q w4 ⟨rfl,DY,cV⟩;have z15:=cV.cell y15 RO;have z16:=cV.cell y16 RO;have z17:=cV.cell y17 RO;have z18:=cV.cell y18 RO;have g0:=cV.cell e0 RO;have g1:=cV.cell e1 RO;have g2:=cV.cell e2 RO;have g3:=cV.cell e3 RO;have g4:=cV.cell e4 RO;have g5:=cV.cell e5 RO;have r0:=cV.cell ti RO;have r1:=cV.cell xK RO;have f0:=(cV.frozen_far (O (w.heap.size+1) 0) (ZI ti) RO).trans Cp;have f1:=(cV.frozen_far (O (w.heap.size+1) 1) (ZI xK) RO).trans Cr))
   all_goals
    have HP:Hid (vdP X w0 s bb lb nm wm nn wn a b c d e f ca cb cc cd ce cf ⟨id,name,YZ,YV,Zz,Zu⟩ w (V (.agg #[J vMM.1,.bool vMM.2])) ((w4.setCell (O (w.heap.size+1) 0) (J vMM.1)).setCell (O (w.heap.size+1) 1) (.bool vMM.2))):=by
     have k1:=qs.out.vhu cV DY;have G7:=jbz w4 (w.heap.size+1) (J vMM.1) (.bool vMM.2);have Gw:w.grownBy ((w4.setCell (O (w.heap.size+1) 0) (J vMM.1)).setCell (O (w.heap.size+1) 1) (.bool vMM.2)) (some wm):=((Bp.out.but _).andThen cV (λ_ h=>.inr h)).andThen G7 (λj h=>by injection h with h;omega);refine⟨by rw[HM.out,Bv.out],?_,wm,.inr rfl,Gw⟩;have KR:=k1.ZB.size;refine k1.grown G7 (by have:=Gi.out;omega) Q Q Q (λcs hc=>?_);rw[(cV.block _ (ZI ti) RO).trans HH.out]at hc;injection hc with hc
     injection hc with _ hc _
     exact absurd hc RN
    have⟨t0,t1⟩:=jav (v0:=J vMM.1) (v1:=.bool vMM.2) r0 r1;go_wp2;exact ZM (v:=.agg #[J vMM.1,.bool vMM.2]) (by simp[results,Tryz.results92,go_sem,t0,t1]) rfl HP.out
  .replace HM:Hid (vak s ⟨id,name,YZ,YV,Zz,Zu⟩=vbd s.YT ⟨id,name,YZ,YV,Zz,Zu⟩):=HM.out.trans (if_pos rfl)
   go_wp2_with fail;have an:=aj.below (jcl _ nq);have E2:=E0.below (jcl _ nq);have R2:=R0.below (jcl _ nq);have bR:=Ay.trans (jap (jcl _ nq));have oA:(((w.alloc (G #[J id,I name,I YZ,J YV,J Zz,J Zu] 33)).alloc (G #[J 0,.bool false] 183)).drewN nq).heap[w.heap.size+1]? =some (Obj.cells #[J 0,.bool false] 183):=tX;clear aj E0 R0 Ay c7 b1 tX;generalize ((w.alloc (G #[J id,I name,I YZ,J YV,J Zz,J Zu] 33)).alloc (G #[J 0,.bool false] 183)).drewN nq=WA at *;have bY:Zl X w0 WA.drew s bb lb nm wm nn wn a b c d e f ca cb cc cd ce cf:=an.below (rW WA);have ED:Zh WA.drew w.heap.size [J id,I name,I YZ,J YV,J Zz,J Zu]:=E2;have RD:Zh WA.drew (w.heap.size+1) [J 0,.bool false]:=R2;have wH:w.grownBy WA.drew none:=bR.trans (jap (rW WA));have y11:=bY.n0;have y12:=bY.n1;have y13:=bY.n2;have y14:=bY.n3;have e0:=ED.c 0 rfl;have e1:=ED.c 1 rfl;have e2:=ED.c 2 rfl;have e3:=ED.c 3 rfl;have e4:=ED.c 4 rfl;have e5:=ED.c 5 rfl;have ti:=RD.c 0 rfl;have xK:=RD.c 1 rfl;have Cp:=RD.f 0 rfl;have Cr:=RD.f 1 rfl;have hC:=lE _ bY;have qs:=hid bY;have Bp:=hid wH;have HH:=hid oA;clear oA;clear an bY E2 R2 ED RD lE Ew bR wH HB;have⟨vMM,rU⟩:=ZL (vbe (uC s.YT (xP s.YT YZ).name) ⟨id,name,YZ,YV,Zz,Zu⟩);have Bv:Hid (vbd s.YT ⟨id,name,YZ,YV,Zz,Zu⟩=vMM):=(rU);have lx:C 136 #[.agg #[U a s.YT.Vv.length ca,U b s.YT.YU.length cb,U c s.YT.YW.length cc,.map (some nm)],.agg #[J id,I name,I YZ,J YV,J Zz,J Zu]] WA.drew λq w'=>q=V (.agg #[J vMM.1,.bool vMM.2])/\Zi w' nm (nn+1) s.YT/\WA.drew.grownBy w' (some nm):=hC.mono λq w' hP=>⟨by rw[hP.ex,rU],hP.cache,hP.grown⟩
   clear hC rU;go_region_held3 (λw'=>w'.cell? (O bb 11)=some (U a s.YT.Vv.length ca)/\w'.cell? (O bb 12)=some (U b s.YT.YU.length cb)/\w'.cell? (O bb 13)=some (U c s.YT.YW.length cc)/\w'.cell? (O bb 14)=some (.map (some nm))/\w'.cell? (O w.heap.size 0)=some (J id)/\w'.cell? (O w.heap.size 1)=some (I name)/\w'.cell? (O w.heap.size 2)=some (I YZ)/\w'.cell? (O w.heap.size 3)=some (J YV)/\w'.cell? (O w.heap.size 4)=some (J Zz)/\w'.cell? (O w.heap.size 5)=some (J Zu)) (go_keep) ((go_at_call 136;refine lx.mono ?_;rintro q w4 ⟨rfl,DY,cV⟩;have z11:=cV.cell y11 RO;have z12:=cV.cell y12 RO;have z13:=cV.cell y13 RO;have z14:=cV.cell y14 RO;have g0:=cV.cell e0 RO;have g1:=cV.cell e1 RO;have g2:=cV.cell e2 RO;have g3:=cV.cell e3 RO;have g4:=cV.cell e4 RO;have g5:=cV.cell e5 RO;have r0:=cV.cell ti RO;have r1:=cV.cell xK RO;have f0:=(cV.frozen_far (O (w.heap.size+1) 0) (ZI ti) RO).trans Cp;have f1:=(cV.frozen_far (O (w.heap.size+1) 1) (ZI xK) RO).trans Cr))
   all_goals
    have HP:Hid (vdP X w0 s bb lb nm wm nn wn a b c d e f ca cb cc cd ce cf ⟨id,name,YZ,YV,Zz,Zu⟩ w (V (.agg #[J vMM.1,.bool vMM.2])) ((w4.setCell (O (w.heap.size+1) 0) (J vMM.1)).setCell (O (w.heap.size+1) 1) (.bool vMM.2))):=by
     have k1:=qs.out.vht cV DY;have G7:=jbz w4 (w.heap.size+1) (J vMM.1) (.bool vMM.2);have Gw:w.grownBy ((w4.setCell (O (w.heap.size+1) 0) (J vMM.1)).setCell (O (w.heap.size+1) 1) (.bool vMM.2)) (some nm):=((Bp.out.but _).andThen cV (λ_ h=>.inr h)).andThen G7 (λj h=>by injection h with h;omega);refine⟨by rw[HM.out,Bv.out],?_,nm,.inl rfl,Gw⟩;have KR:=k1.ZB.size;refine k1.grown G7 (by have:=Gi.out;omega) Q Q Q (λcs hc=>?_);rw[(cV.block _ (ZI ti) RO).trans HH.out]at hc;injection hc with hc
     injection hc with _ hc _
     exact absurd hc RN
    have⟨t0,t1⟩:=jav (v0:=J vMM.1) (v1:=.bool vMM.2) r0 r1;go_wp2;exact ZM (v:=.agg #[J vMM.1,.bool vMM.2]) (by simp[results,Tryz.results92,go_sem,t0,t1]) rfl HP.out
end
section
open Go.RowKit Go.ChangeMaps Go.MapKept
structure vcg:Prop where
 go:∀(P:List ZY) (base:Nat) (v:Value) (w:World),Zb w base v P->P.length<=1048576->C 133 #[v,.func (.func 134) #[] #[]] w λe w'=>e=V (.tuple #[])/\Zb w' base v (jg9 P)/\w.grownBy w' v.ownBlock
structure MoK(F:Nat)(qi:Array Value)(g:Ze->Int × Bool)(jD:Nat->World->Prop)(b B N:Nat):Prop where
 enter:∀args w,(callFunc F args).run Tryz.prog w=.ok (.enter F args) w
 call:∀k ev W,k<N->jD k W->C F (qi++#[ev.v]) W λq W'=>q=V (.agg #[J (g ev).1,.bool (g ev).2])/\jD (k+1) W'/\∃x,x≠b/\(∃es c,W.heap[x]? =some (.map es c))/\W.grownBy W' (some x)
 below:∀k W W',jD k W->Bw W W'->jD k W'
 row:∀k W W' x,jD k W->W.grownBy W' (some x)->B<=x->(∀cs,W.heap[x]? ≠some (G cs 195 (0,0)))->jD k W'
theorem MoK.own{F:Nat}{qi:Array Value}{g:Ze->Int × Bool}{jD:Nat->World->Prop}{b B N:Nat}(h:MoK F qi g jD b B N){k base:Nat}{W W':World}{v:Value}{P:List ZY}(hI:jD k W)(hO:Zb W base v P)(hg:W.grownBy W' v.ownBlock)(hB:B<=base):jD k W':=by
 rcases hO.2 with⟨rfl,_⟩|⟨g2,cap,cur,rfl,hb,hh,_⟩
 .exact h.below k W W' hI ⟨hg.os,hg.tape,hg.output,hg.size,λj hj=>hg.block j hj (by simp[Value.ownBlock])⟩
 .exact h.row k W W' g2 hI hg Q (λcs hc=>by rw[hh]at hc;injection hc with hc;injection hc with _ hc _;exact absurd hc RN)
theorem j1w{base:Nat}{v:Value}{es:Array MapEntry}{c:Nat}(hO:Zb W base v P)(hg:W.grownBy W' (some x))(hx:W.heap[x]? =some (.map es c)):Zb W' base v P:=
 World.ownsRow.kept hO hg (.inr λh=>by
  rcases hO.2 with⟨rfl,_⟩|⟨g2,cap,cur,rfl,hb,hh,_⟩
  .cases h
  .injection h with h
   have h3:g2=x:=h;rw[h3,hx]at hh
   cases hh)
theorem j0l{p o:Nat}{u:Value}{es:Array MapEntry}{c:Nat}(hg:W.grownBy W' (some x))(hx:W.heap[x]? =some (.map es c))(h:W.cell? (O p o)=some u):W'.cell? (O p o)=some u:=
 hg.cell h (λe=>by injection e with e;have h3:p=x:=e;rw[h3,jrt hx]at h;cases h)
theorem j3o{b r:Nat}{D:DataW Ze}{left:Lit->Bool}{es:Array MapEntry}{c:Nat}(h:W.ranges Tryz.prog 2 jcy b r n D left jw)(hx:W.heap[x]? =some (.map es c)):some r≠some x:=by
 have⟨_,_,_,_,_,_,_,_,_,hr,_⟩:=h;intro e;injection e with e
 rw[e,hx]at hr;cases hr
theorem j2c{b r:Nat}{D:DataW Ze}{left:Lit->Bool}(h:W.ranges Tryz.prog 2 jcy b r n D left jw):∀cs,W.heap[r]? ≠some (G cs 195 (0,0)):=by
 have⟨_,_,_,_,_,_,_,_,_,hr,_⟩:=h;intro cs e;rw[hr]at e;cases e
structure vbx(f:Int->Option Ze)(g:Ze->Int × Bool)(left:Lit->Bool)(P:List ZY):Prop where
 nd:P.Nodup
 mem:∀x,x∈P↔∃e,f e.id=some e/\left (.int .i64 e.id)=false/\(g e).2=true/\x=⟨(g e).1,e.id⟩
theorem vbx.no{f:Int->Option Ze}{g:Ze->Int × Bool}{left:Lit->Bool}{c:Ze}(h:vbx f g left P)(hc:f c.id=some c)(hg:(g c).2=false):vbx f g (λz=>left z&& !Lit.sameKey z (.int .i64 c.id)) P:=by
 refine⟨h.nd,λx=>?_⟩;rw[h.mem];constructor
 .rintro⟨e,h1,h2,h3⟩
  exact⟨e,h1,by simp only[h2,Bool.false_and],h3⟩
 .rintro⟨e,h1,h2,h3,h4⟩
  rcases jit h2 with h|h
  .exact⟨e,h1,h,h3,h4⟩
  .rw[h,hc]at h1
   obtain rfl:=Z9 h1;rw[hg]at h3;cases h3
theorem vbx.yes{f:Int->Option Ze}{g:Ze->Int × Bool}{left:Lit->Bool}{c:Ze}(h:vbx f g left P)(hc:f c.id=some c)(hl:left (.int .i64 c.id)=true)(hg:(g c).2=true):vbx f g (λz=>left z&& !Lit.sameKey z (.int .i64 c.id)) (P++[⟨(g c).1,c.id⟩]):=by
 refine⟨List.nodup_append.mpr ⟨h.nd,M,λa ha b hb=>?_⟩,λx=>?_⟩
 .rw[List.mem_singleton]at hb
  subst hb;intro e;subst e;have⟨e,_,h2,_,h4⟩:=(h.mem _).mp ha;injection h4 with _ h4
  rw[<- h4,hl]at h2;cases h2
 .rw[List.mem_append,List.mem_singleton,h.mem]
  constructor
  .rintro(⟨e,h1,h2,h3⟩|rfl)
   .exact⟨e,h1,by simp only[h2,Bool.false_and],h3⟩
   .exact⟨c,hc,by simp only[WideAt.sameKey_self (show WideAt.IsKeyLit (.int .i64 c.id)from trivial),Bool.not_true,Bool.and_false],hg,rfl⟩
  .rintro⟨e,h1,h2,h3,h4⟩
   rcases jit h2 with h|h
   .exact .inl ⟨e,h1,h,h3,h4⟩
   .rw[h,hc]at h1
    obtain rfl:=Z9 h1;exact .inr h4
theorem vbx.done{f:Int->Option Ze}{g:Ze->Int × Bool}{left:Lit->Bool}{L:List Ze}(h:vbx f g left P)(hl:∀kl,left kl=false)(hT:vbb f L)(hL:L.Pairwise λx y=>x.id<y.id):jg9 P=BS g L:=j0f hT hL h.nd λx=>by
 rw[h.mem];constructor
 .rintro⟨e,h1,_,h3⟩
  exact⟨e,h1,h3⟩
 .rintro⟨e,h1,h3⟩
  exact⟨e,h1,hl _,h3⟩
structure vdR(jD:Nat->World->Prop)(N b n:Nat)(f:Int->Option Ze)(X:List ZY)(w:World)(q:Ending)(w':World):Prop where
 ex:∃v,q=V v/\Zb w' w.heap.size v X
 inv:∃k,k<=N/\jD k w'
 live:Zm w' b n f
 size:w.heap.size<=w'.heap.size
end
section
open Go.RowKit Go.ChangeMaps Go.MapKept
theorem jg2(hS:vcg){F:Nat}{qi:Array Value}{g:Ze->Int × Bool}{jD:Nat->World->Prop}{b n:Nat}(f:Int->Option Ze)(L:List Ze)(w:World)(hK:MoK F qi g jD b w.heap.size L.length)(hM:Zm w b n f)(hT:vbb f L)(hL:L.Pairwise λx y=>x.id<y.id)(hl:L.length<=1000)(hI:jD 0 w):
  C 91 #[.map (some b),.func (.func F) qi #[]] w (vdR jD L.length b n f (BS g L) w):=by
 have⟨i0,hi,aG,aH,aF⟩:=jft;have mt:=hM.lt;have⟨D,ai,hD⟩:=hM.own;have hsz:Maps.size D=L.length:=jia ai hD hT hL;have NC:Maps.size D<=1000:=Q;have HZ:Hid (Maps.size D=L.length):=hsz;have HT:=hid hT;have HD:=hid hD;have HU:=hid hL;have fi:=hK.enter;clear hsz hT hD hL hM;generalize hNL:L.length=NL at *;have jL:=hid hNL;clear hNL;unfold C;go_in
 go_wp2_with (first
  |(at_range;refine wpList_range_own _ rfl _ 65 rfl 2 33 (Maps.int_keyed vaw) vbV jcy b n D rfl ai ?_;intro w0 kK kC F5)
  |go_in)
 go_frame;have Iw:jD 0 w0:=hK.below 0 w w0 hI ⟨kC.os,kC.tape,kC.output,kC.size,λj hj=>kC.block j hj M⟩;go_loopw [5,7,8] (λs5 _ _ wr=>∃(k:Nat) (P:List ZY) (p:Option Addr) (m c:Nat) (left:Lit->Bool) (jw:Nat),s5=U p m c/\k+jw<=NL/\P.length<=k/\wr.ranges Tryz.prog 2 jcy b w.heap.size n D left jw/\Zb wr (w.heap.size+1) (U p m c) P/\jD k wr/\Hid (vbx f g left P)/\Hid (w.heap.size+1<=wr.heap.size)) (λ_ _ _ wr=>wr.rangeLeft b w.heap.size)
 .exact⟨0,[],none,0,0,_,_,rfl,by rw[HZ.out];omega,M,kK,World.ownsRow_nil _ _ _ _,Iw,⟨List.nodup_nil,λx=>⟨λh=>by simp at h,λ⟨e,h1,h2,_⟩=>by rw[jk0 HD.out h1]at h2;cases h2⟩⟩,by simp only[Hid];omega⟩
 ·
  have⟨wa,dS⟩:=wL wr;subst dS;obtain⟨k,P,p,m,c,left,jw,rfl,MX,Rw,oH,hO,IL,HE,HS⟩:=hrel;clear kK kC F5 Iw ai hI
  go_wp2_with (first
   |(at_next;refine wpList_next_ranges _ rfl _ rfl 2 (Maps.int_keyed vaw) jcy (Value.int .i64) (λc:Ze=>Value.agg #[.int .i64 c.id,.string c.name,.string c.YZ,.int .i64 c.YV,.int .i64 c.Zz,.int .i64 c.Zu]) (λkey kl bS=>by(obtain⟨x,rfl,_⟩:=Maps.keyOf_int_inv vaw bS;exact⟨x,rfl⟩)) (λv y hv=>by(obtain⟨c,rfl,_⟩:=jde hv;exact⟨c,rfl⟩)) b w.heap.size n D left jw rfl oH ?_ ?_)
   |go_in)
  .intro _ rv
   have HX:Hid (jg9 P=BS g L):=HE.out.done rv HT.out HU.out;have hC:=hS.go P _ _ _ hO Q;have HI:Hid (∀w2,wa.grownBy w2 (U p m c).ownBlock->jD k w2):=λw2 h=>hK.own IL hO h Q
   go_wp2_with fail;refine hC.mono ?_;rintro e w2 ⟨rfl,aW,bR⟩;have nX:=HI.out w2 bR;have pF:Hid (Zb w2 w.heap.size (U p m c) (BS g L)):=by rw[HX.out]at aW;exact Ez aW Q
   have js:Hid (Zm w2 b n f):=by
    exact⟨D,oH.owns.kept bR (λe=>by have:=(World.ownsRow.lt hO b e.symm).1;omega),HD.out⟩
   go_wp2;go_ret;exact⟨⟨_,rfl,pF.out⟩,⟨k,Q,nX⟩,js.out,by have:=HS.out;have:=bR.size;omega⟩
  .intro x c2 kl y ys w1 iS bS i8 ej bE hrg1 hlt cQ bU Ea
   have uK:=hid bU;clear bU;have HF:Hid (f x=some c2/\c2.id=x/\kl=.int .i64 x):=by
    obtain⟨x',ex,rfl,_⟩:=Maps.keyOf_int_inv vaw bS;cases ex
    have⟨c',ec,ez⟩:=jde ej;simp only[Prod.mk.injEq]at ez;obtain⟨rfl,_⟩:=ez;have:c'=c2:=by cases c2;cases c';simp only[Ze.v,Value.agg.injEq]at ec;simp_all
    subst this;have h1:=jv8 HD.out bE;exact⟨h1,HT.out.id _ _ h1,rfl⟩
   have se:jD k w1:=hK.row k wa w1 w.heap.size IL cQ (ZD _) (j2c oH);have dW:Zb w1 (w.heap.size+1) (U p m c) P:=World.ownsRow.kept hO cQ (.inr λh=>by have:=(World.ownsRow.lt hO _ h).1;omega);have b2:=ZA w1 (G #[J c2.id,I c2.name,I c2.YZ,J c2.YV,J c2.Zz,J c2.Zu] 33);have nX:jD k (w1.alloc (G #[J c2.id,I c2.name,I c2.YZ,J c2.YV,J c2.Zz,J c2.Zu] 33)):=hK.below _ _ _ se b2;have aW:Zb (w1.alloc (G #[J c2.id,I c2.name,I c2.YZ,J c2.YV,J c2.Zz,J c2.Zu] 33)) (w.heap.size+1) (U p m c) P:=nO dW _;have hrg2:=hrg1.alloc (G #[J c2.id,I c2.name,I c2.YZ,J c2.YV,J c2.Zz,J c2.Zu] 33);obtain⟨e0,e1,e2,e3,e4,e5⟩:(λz:World=>z.cell? (O w1.heap.size 0)=some (J c2.id)/\z.cell? (O w1.heap.size 1)=some (I c2.name)/\z.cell? (O w1.heap.size 2)=some (I c2.YZ)/\z.cell? (O w1.heap.size 3)=some (J c2.YV)/\z.cell? (O w1.heap.size 4)=some (J c2.Zz)/\z.cell? (O w1.heap.size 5)=some (J c2.Zu)) (w1.alloc (G #[J c2.id,I c2.name,I c2.YZ,J c2.YV,J c2.Zz,J c2.Zu] 33)):=RQ;have⟨⟨M1,M2⟩,hM⟩:=ZL (g c2);have HM:=hid hM;have hC:=hK.call k c2 (w1.alloc (G #[J c2.id,I c2.name,I c2.YZ,J c2.YV,J c2.Zz,J c2.Zu] 33)) Q nX;rw[hM]at hC;simp only[Ze.v]at hC;have LK:=hid i8;have Gx:=hid hlt;have wS:k+1+iS<=NL:=Q;have jM:Hid (w.heap.size+1<=(w1.alloc (G #[J c2.id,I c2.name,I c2.YZ,J c2.YV,J c2.Zz,J c2.Zu] 33)).heap.size):=by have h1:=HS.out;have h2:=b2.size;have h3:=uK.out;simp only[Hid];omega
   clear hM ej bE bS cQ se dW nX b2 i8 hlt MX;go_wp2_with fail;refine hC.mono ?_;rintro q w3 ⟨rfl,Ix,xx,sN,⟨es,cl,vM⟩,nK⟩;have kM:=hrg2.kept nK (by simpa using Ne.symm sN) (j3o hrg2 vM);have dE:=j1w aW nK vM;have i3:=j0l nK vM e0;have yU:Hid (w.heap.size+1<=w3.heap.size):=Nat.le_trans jM.out nK.size;have b4:=ZA w3 (G #[J M1,.bool M2] 183);have Dk:jD (k+1) (w3.alloc (G #[J M1,.bool M2] 183)):=hK.below _ _ _ Ix b4;have dX:Zb (w3.alloc (G #[J M1,.bool M2] 183)) (w.heap.size+1) (U p m c) P:=nO dE _;have lS:=kM.alloc (G #[J M1,.bool M2] 183);have i4:=YR b4 i3;have yV:Hid (w.heap.size+1<=(w3.alloc (G #[J M1,.bool M2] 183)).heap.size):=Nat.le_trans yU.out b4.size;clear kM dE i3 Ix b4 nK vM hrg2 aW e0 e1 e2 e3 e4 e5 hC;cases M2
   .have lc:Hid (vbx f g (λz=>left z&& !Lit.sameKey z kl) P):=by
     have h:=HF.out;rw[h.2.2, <- h.2.1];exact HE.out.no (by rw[h.2.1];exact h.1) (by rw[HM.out])
    go_wp2;go_roundw
    .exact⟨k+1,P,p,m,c,_,iS,rfl,wS,Q,lS,dX,Dk,lc,yV⟩
    .rw[lS.left_eq,oH.left_eq];exact Gx.out
   .have lc:Hid (vbx f g (λz=>left z&& !Lit.sameKey z kl) (P++[⟨M1,c2.id⟩])):=by
     have h:=HF.out;have h2:=HE.out.yes (c:=c2) (by rw[h.2.1];exact h.1) (by rw[h.2.1, <- h.2.2];exact LK.out) (by rw[HM.out]);rw[HM.out,h.2.1, <- h.2.2]at h2;rw[h.2.1];exact h2
    have Lu:Hid (jD (k+1) ((w3.alloc (G #[J M1,.bool true] 183)).alloc (G #[J M1,J c2.id] 76))):=hK.below _ _ _ Dk (ZA _ _);have fe:Zb ((w3.alloc (G #[J M1,.bool true] 183)).alloc (G #[J M1,J c2.id] 76)) (w.heap.size+1) (U p m c) P:=nO dX _;have xk:=lS.alloc (G #[J M1,J c2.id] 76);have Eu:Hid (w.heap.size+1<=((w3.alloc (G #[J M1,.bool true] 183)).alloc (G #[J M1,J c2.id] 76)).heap.size):=Nat.le_trans yV.out (ZA _ _).size;have BE:=hid fe;have gr:=hid xk;clear Dk dX lS yV xk;go_wp2_with (first|(at_builtin;refine wpList_append_own _ rfl _ _ 29 rfl (w.heap.size+1) 76 i0 (.agg #[J 0,J 0]) 2 16 Tryz.underlying29 hi aG aH aF rfl RN _ _ _ rfl fe (O (w3.heap.size+1) 0) 1 1 [J M1,J c2.id] rfl rfl ?b1 ?b2 ?b3 ?b4 ?b5 ?_)|fail)
    case b1=>have h:=Ka (w3.alloc (G #[J M1,.bool true] 183)) [J M1,J c2.id] 76;simpa using h
    case b2=>intro u hu;simp at hu;rcases hu with rfl|rfl<;>rfl
    case b3=>unfold maxLen;omega
    case b4=>omega
    case b5=>exact Eu.out
    intro v6 w6 oL kv _;obtain⟨p6,m6,c6,rfl⟩:=Dt oL;have um:Hid (Zb w6 (w.heap.size+1) (U p6 m6 c6) (P++[⟨M1,c2.id⟩])):=by
     simp only[Hid];unfold Zb;rw[FB,MZ,List.flatten_append]
     simpa [ZY.cs]using oL
    have Lv:Hid (jD (k+1) w6):=hK.own Lu.out BE.out kv Q;have li:Hid (w6.ranges Tryz.prog 2 jcy b w.heap.size n D (λz=>left z&& !Lit.sameKey z kl) iS):=gr.out.kept kv (λe=>by have:=(World.ownsRow.lt BE.out b e.symm).1;omega) (λe=>by have:=(World.ownsRow.lt BE.out _ e.symm).1;omega);have LM:Hid (w.heap.size+1<=w6.heap.size):=Nat.le_trans Eu.out kv.size;clear oL kv fe;go_wp2;go_roundw
    .exact⟨k+1,_,p6,m6,c6,_,iS,rfl,wS,RO,li.out,um.out,Lv.out,lc,LM⟩
    .rw[li.out.left_eq,oH.left_eq];exact Gx.out
end
section
open Go.RowKit Go.ChangeMaps Go.MapKept Go.WideMaps
theorem jjr{b:Nat}(h:Zi w b n r):∃es c,w.heap[b]? =some (.map es c):=by
 have⟨D,⟨es,aZ,hb,_⟩,_⟩:=h.own;exact⟨es,aZ,hb⟩
theorem j0n{X:List (Nat × Value)}(w0:World)(s:ZP)(bb lb nm wm B N:Nat)(a b c d e f:Option Addr)(ca cb cc cd ce cf:Nat)(hE:Zx w0)(hN:Zd w0 (.agg #[U a s.YT.Vv.length ca,U b s.YT.YU.length cb,U c s.YT.YW.length cc]) s.YT)(hW:Zd w0 (.agg #[U d s.YS.Vv.length cd,U e s.YS.YU.length ce,U f s.YS.YW.length cf]) s.YS)(ok:Jk s.YT)(kS:Jk s.YS)(hr:ZZ s.YT=true)(dC:ZZ s.YS=true)(hB:w0.heap.size<=B)(h1:bb<B)(h2:nm<B)(h3:wm<B)(h4:nm≠lb)(h5:wm≠lb)(MD:N<=1000):
  MoK 92 #[.pointer (some (O bb 0))] (vak s) (λk W=>Zl X w0 W s bb lb nm wm k k a b c d e f ca cb cc cd ce cf) lb B N where
 enter:=λ_ _=>RG
 call:=λk ev W hk hI=>(jjg w0 s bb lb nm wm k k a b c d e f ca cb cc cd ce cf ev W hE hN hW ok kS hr dC hI Q Q).mono λq W' hP=>⟨hP.ex,hP.book,by
  have⟨g,hg,dp⟩:=hP.grown;rcases hg with rfl|rfl
  .exact⟨_,h4,jjr hI.cn,dp⟩
  .exact⟨_,h5,jjr hI.cw,dp⟩⟩
 below:=λk W W' hI hb=>hI.below hb
 row:=λk W W' x hI hg hx ht=>hI.grown hg Q Q Q Q ht
theorem jhk(hS:vcg){X:List (Nat × Value)}(w0:World)(s:ZP)(bb lb nm wm n:Nat)(a b c d e f:Option Addr)(ca cb cc cd ce cf:Nat)(F:Int->Option Ze)(L:List Ze)(w:World)(hE:Zx w0)(hN:Zd w0 (.agg #[U a s.YT.Vv.length ca,U b s.YT.YU.length cb,U c s.YT.YW.length cc]) s.YT)(hW:Zd w0 (.agg #[U d s.YS.Vv.length cd,U e s.YS.YU.length ce,U f s.YS.YW.length cf]) s.YS)(ok:Jk s.YT)(kS:Jk s.YS)(hr:ZZ s.YT=true)(dC:ZZ s.YS=true)(hB:Zl X w0 w s bb lb nm wm 0 0 a b c d e f ca cb cc cd ce cf)(h4:nm≠lb)(h5:wm≠lb)(hM:Zm w lb n F)(hT:vbb F L)(hL:L.Pairwise λx y=>x.id<y.id)(hl:L.length<=1000):
  C 55 #[.pointer (some (O bb 0))] w (vdR (λk W=>Zl X w0 W s bb lb nm wm k k a b c d e f ca cb cc cd ce cf) L.length lb n F (BS (vak s) L) w):=by
 have hK:=j0n (X:=X) w0 s bb lb nm wm w.heap.size L.length a b c d e f ca cb cc cd ce cf hE hN hW ok kS hr dC hB.ZB.size (ZI hB.cur) hB.cn.lt hB.cw.lt h4 h5 hl;have hC:=jg2 hS F L w hK hM hT hL hl hB;have Sy:=hB.live;clear hK hB hE hN hW ok kS hr dC hM hT hL;unfold C;go_in;go_wp2_with fail;refine hC.mono ?_;rintro q w2 hP;obtain⟨v,rfl,hO⟩:=hP.ex;go_wp2;go_ret;exact hP
