import Derived.Test.YtbbgeelamjmgaaaGreatDoorQBd
import Derived.Test.YtbbgeelamjmgaaaGreatDoorRdEd
import Derived.Test.YtbbgeelamjmgaaaGreatDoorDrPd
set_option maxRecDepth 20000
set_option maxHeartbeats 0
set_option linter.unusedSimpArgs false
open Go.RowKit
namespace Go.Proofs.YtbbgeelamjmgaaaGreatDoor
variable{l0 l1 l2 l3 l4 l5 l6 l7 l8 l9 u v:Value}{tt:Array Value}{e:TypeId}{c1 c2 c3 c4 c5 c6 c8 c9 n q:Nat}{xs:List Value}{l:List ZN}{t:Int}{x:Ze}{a1 a2 a3 a4 a5 a6 a8 a9:Option Addr}
section
open Go.RowKit Go.Lib Go.Sort
theorem Gz.but{B g:Nat}{w W':World}{r:ZW}(h:Gz B w v r)(hg:w.heap[g]? =some (G tt 31 (0,0)))(hk:∀k,B<=k->k<w.heap.size->k≠g->W'.heap[k]? =w.heap[k]?):Gz B W' v r:=h.keep λk cs t ht h1 h2=>(hk k h1 (LQ h2) (vcn h2 hg (λe=>by injection e with _ e;exact vc7 (e ▸ ht)))).trans h2
theorem vcG{B g:Nat}{w W':World}(h:w.ownsRow B e q v n xs)(hg:w.heap[g]? =some (G tt 31 (0,0)))(he:e≠31)(hk:∀k,B<=k->k<w.heap.size->k≠g->W'.heap[k]? =w.heap[k]?):W'.ownsRow B e q v n xs:=vbm h λk cs h1 h2=>(hk k h1 (LQ h2) (vcn h2 hg (λe=>by injection e with _ e;exact he e))).trans h2
structure vcT(s:ZP)(R:ZW)(w W:World)(PV RV XV:List Value)(gx:Nat)(xr lv:Value):Prop where
 par:Zh W w.heap.size PV
 res:Zh W (w.heap.size+1) RV
 rel:Zh W gx XV
 new:Gz (w.heap.size+1+1) W xr R
 live:Jb W (w.heap.size+1+1) lv (ZJ s.vs)
 ge:w.heap.size+1+1<=gx
 ZB:Bw w W
theorem vcT.below{s:ZP}{R:ZW}{w W W':World}{PV RV XV:List Value}{gx:Nat}{xr lv:Value}(h:vcT s R w W PV RV XV gx xr lv)(hb:Bw W W'):vcT s R w W' PV RV XV gx xr lv:=⟨h.par.below hb,h.res.below hb,h.rel.below hb,h.new.below hb,uZ h.live hb,h.ge,h.ZB.trans (hb.mono h.ZB.size)⟩
theorem viW(s:ZP)(v:Value)(tx:ByteArray)(w:World)(hv:Jd w v s)(ok:Zr s)(Ha:tx.size<=50000)(vd:s.vs.length<=1000)(fG:s.ix.length<=1000)(hE:BQ s=true->s.vs.length<=60/\(ZJ s.vs).length<=30):
  C 40 #[v,I tx] w (vcu w):=by
 have dQ:=hv;obtain⟨a,b,c,d,e,f,va,ia,ca,cb,cc,cd,ce,cf,cv,ci,rfl,_,_,hV,_,_,_⟩:=hv.form;have⟨w0,KR,ag,A0,R0,z0⟩:=vdh w (stA s a b c d e f va ia ca cb cc cd ce cf cv ci);have q1:=jh8 s _ _ (dQ.below ag) ok;have⟨x0,x1,x2,x3,x4,x5,x6,x7,x8,x9⟩:=A0.ZS;by_cases MG:8000<tx.size
 case pos=>
  have MF:(8000:Int)<(tx.size:Int):=Q;unfold C;go_in;have⟨r0,r1,r2,r3,r4,r5,r6,r7,r8,r9,lw,mv⟩:=R0.Nc;have⟨f0,f1,f2,f3,f4,f5,f6,f7,f8,f9,gx,l7⟩:=R0.Od;have⟨W,hW,⟨t0,t1,t2,t3,t4,t5,t6,t7,t8,t9,wJ,cq⟩,_,_,J8⟩:=R0.vaC 2;have yA:=ZE (J8 _ _ Q ag);clear J8;go_wp2;exact ZM (v:=.agg #[J 0,nS,nS,nS,nS,nS,nS,J 0,nS,nS,J 0,J 2]) (by simp[results,Tryz.results40,go_sem,t0,t1,t2,t3,t4,t5,t6,t7,t8,t9,wJ,cq]) rfl ⟨De,0,_,⟨⟨none,none,none,none,none,none,none,none,0,0,0,0,0,0,0,0,rfl,λW' _=>va1 _ W'⟩,yA.out⟩,va3⟩
 case neg=>
 have MF:¬(8000:Int)<(tx.size:Int):=Q;unfold C;go_in;go_wp2_with fail;clear KR;refine q1.mono ?_;rintro q w1 ⟨rfl,hb1⟩;have aj:=Zp ag hb1;have aH:w.heap.size+1+1<=w1.heap.size:=by rw[<- z0];exact hb1.size
 have A1:=A0.below hb1;have R1:=R0.below hb1;clear x0 x1 x2 x3 x4 x5 x6 x7 x8 x9 A0 R0 ag hb1 q1 z0;cases hs:BQ s
 case false=>
  have⟨r0,r1,r2,r3,r4,r5,r6,r7,r8,r9,lw,mv⟩:=R1.Nc;have⟨f0,f1,f2,f3,f4,f5,f6,f7,f8,f9,gx,l7⟩:=R1.Od;have⟨W,hW,⟨t0,t1,t2,t3,t4,t5,t6,t7,t8,t9,wJ,cq⟩,_,_,J8⟩:=R1.vaC 1;have yA:=ZE (J8 _ _ Q aj);clear J8;go_wp2;exact ZM (v:=.agg #[J 0,nS,nS,nS,nS,nS,nS,J 0,nS,nS,J 0,J 1]) (by simp[results,Tryz.results40,go_sem,t0,t1,t2,t3,t4,t5,t6,t7,t8,t9,wJ,cq]) rfl ⟨De,0,_,⟨⟨none,none,none,none,none,none,none,none,0,0,0,0,0,0,0,0,rfl,λW' _=>va1 _ W'⟩,yA.out⟩,va3⟩
 case true=>
 have⟨p3,p6⟩:=hE hs;have x7:=A1.c 7 rfl;by_cases hc:s.cur=0
 case neg=>
  have cU:(s.cur==0)=false:=by simpa using hc
  have⟨r0,r1,r2,r3,r4,r5,r6,r7,r8,r9,lw,mv⟩:=R1.Nc;have⟨f0,f1,f2,f3,f4,f5,f6,f7,f8,f9,gx,l7⟩:=R1.Od;have⟨W,hW,⟨t0,t1,t2,t3,t4,t5,t6,t7,t8,t9,wJ,cq⟩,_,_,J8⟩:=R1.vaC 10;have yA:=ZE (J8 _ _ Q aj);clear J8;go_wp2;exact ZM (v:=.agg #[J 0,nS,nS,nS,nS,nS,nS,J 0,nS,nS,J 0,J 10]) (by simp[results,Tryz.results40,go_sem,t0,t1,t2,t3,t4,t5,t6,t7,t8,t9,wJ,cq]) rfl ⟨De,0,_,⟨⟨none,none,none,none,none,none,none,none,0,0,0,0,0,0,0,0,rfl,λW' _=>va1 _ W'⟩,yA.out⟩,va3⟩
 case pos=>
 rw[hc]at x7;have hr:=vim tx w1 Q;go_wp2_with fail;refine hr.mono ?_;rintro q w2 iB;obtain⟨ra,rb,rc,kr,ks,ku,R,ln,kd,rfl,J3,okR,ac⟩:=viI iB;have b3:=ZA w2 (G #[U ra R.Vv.length kr,U rb R.YU.length ks,U rc R.YW.length ku,J ln,J kd] 134);have X3:=Zh.new w2 [U ra R.Vv.length kr,U rb R.YU.length ks,U rc R.YW.length ku,J ln,J kd] 134;have mx:=Zp ac b3;have A3:=A1.below mx;have R3:=R1.below mx;have ax:=Zp aj mx;have eN:=(J3.mono aH).below b3;have sn:w.heap.size+1+1<=w2.heap.size:=Nat.le_trans aH ac.size;have k4:=X3.c 4 rfl;clear x7 hr iB A1 R1 J3 ac mx;by_cases tW:kd=0
 case neg=>
  have MS:(kd==0)=false:=by simpa using tW
  have⟨r0,r1,r2,r3,r4,r5,r6,r7,r8,r9,lw,mv⟩:=R3.Nc;have⟨f0,f1,f2,f3,f4,f5,f6,f7,f8,f9,gx,l7⟩:=R3.Od;have⟨W,hW,⟨t0,t1,t2,t3,t4,t5,t6,t7,t8,t9,wJ,cq⟩,_,_,J8⟩:=R3.vaC kd;have yA:=ZE (J8 _ _ Q ax);clear J8;go_wp2;exact ZM (v:=.agg #[J 0,nS,nS,nS,nS,nS,nS,J 0,nS,nS,J 0,J kd]) (by simp[results,Tryz.results40,go_sem,t0,t1,t2,t3,t4,t5,t6,t7,t8,t9,wJ,cq]) rfl ⟨De,0,_,⟨⟨none,none,none,none,none,none,none,none,0,0,0,0,0,0,0,0,rfl,λW' _=>va1 _ W'⟩,yA.out⟩,va3⟩
 case pos=>
 subst tW;have q6:=jd1 s.vs va s.vs.length cv _ (hV.below ax) rfl Q;have x8:=A3.c 8 rfl;have⟨gx,Ej⟩:=ZL w2.heap.size;go_wp2_with fail;refine q6.mono ?_;rintro q w4 ⟨lv,rfl,dX,aD⟩;rw[Ej]at X3 sn;have l3:=ax.size;have AB:w.heap.size+1+1<=(w2.alloc (G #[U ra R.Vv.length kr,U rb R.YU.length ks,U rc R.YW.length ku,J ln,J 0] 134)).heap.size:=by rw[World.size_alloc,Ej];omega
 have S4:vcT s R w w4 (stA s a b c d e f va ia ca cb cc cd ce cf cv ci) [J 0,nS,nS,nS,nS,nS,nS,J 0,nS,nS,J 0,J 0] [U ra R.Vv.length kr,U rb R.YU.length ks,U rc R.YW.length ku,J ln,J 0] gx (.agg #[U ra R.Vv.length kr,U rb R.YU.length ks,U rc R.YW.length ku]) lv:=⟨A3.below aD,R3.below aD,X3.below aD,eN.below aD,Ez dX AB,sn,(Zp ax aD)⟩;obtain⟨pl,cl,rfl,eG⟩:=jkx dX;have⟨N,hN⟩:=ZL ((ZJ s.vs).length);rw[hN]at S4 p6 eG ⊢;have yV:=ZE S4;have HN:=ZE hN;clear x8 k4 A3 R3 X3 ax eN dX aD b3 q6 S4 AB l3 aH hV hN Ej sn hc aj;go_wp2;go_loopw [7] (λs7 wr=>∃i:Nat,i<=N/\s7=J i/\Hid (vcT s R w wr (stA s a b c d e f va ia ca cb cc cd ce cf cv ci) [J 0,nS,nS,nS,nS,nS,nS,J 0,nS,nS,J 0,J 0] [U ra R.Vv.length kr,U rb R.YU.length ks,U rc R.YW.length ku,J ln,J 0] gx (.agg #[U ra R.Vv.length kr,U rb R.YU.length ks,U rc R.YW.length ku]) (U pl N cl))) (λs7 _=>N-(intOf s7).toNat)
 .exact⟨0,Q,rfl,yV⟩
 ·
  have⟨wa,dS⟩:=wL wr;subst dS;obtain⟨i,hi,rfl,HS⟩:=hrel;clear yV;by_cases hlt:i<N
  case pos=>
   obtain⟨x,hx⟩:∃x,(ZJ s.vs)[i]? =some x:=⟨_,ZV (by rw[HN.out];exact hlt)⟩;obtain⟨gl,rfl⟩:=eG Q;have S:=HS.out.below (rW wa);have⟨_,_,d2,_,_,_⟩:=jf0 S.live hx;have y0:=S.rel.c 0 rfl;have y1:=S.rel.c 1 rfl;have y2:=S.rel.c 2 rfl;have hQ:=jd2 R _ x.YZ _ S.new.at okR.sm;have i0:(0:Int)<=(i:Int):=Q;have i1:(i:Int)<(N:Int):=Q;have GD:=ZE S;clear S HS hx;go_wp2_with fail;go_region_held3 (λw'=>w'.cell? (O gx 0)=some (U ra R.Vv.length kr)/\w'.cell? (O gx 1)=some (U rb R.YU.length ks)/\w'.cell? (O gx 2)=some (U rc R.YW.length ku)/\w'.cell? (O gl (i*6+2))=some (I x.YZ)) (go_keep) ((go_at_call 62;refine hQ.mono ?_;rintro q wc ⟨rfl,ww⟩;have u0:=YR ww y0;have u1:=YR ww y1;have u2:=YR ww y2;have u3:=YR ww d2));have S5:=GD.out.below ww;clear hQ GD y0 y1 y2 d2 u0 u1 u2 u3 ww;generalize ixI (jbg R.YU (jba R.YW x.YZ))=zz at *;by_cases lz:zz<0
   case pos=>
    have⟨r0,r1,r2,r3,r4,r5,r6,r7,r8,r9,lw,mv⟩:=S5.res.Nc;have⟨f0,f1,f2,f3,f4,f5,f6,f7,f8,f9,gx,l7⟩:=S5.res.Od;have⟨W,hW,⟨t0,t1,t2,t3,t4,t5,t6,t7,t8,t9,wJ,cq⟩,_,_,J8⟩:=S5.res.vaC 5;have yA:=ZE (J8 _ _ Q S5.ZB);clear J8;go_wp2;exact ZM (v:=.agg #[J 0,nS,nS,nS,nS,nS,nS,J 0,nS,nS,J 0,J 5]) (by simp[results,Tryz.results40,go_sem,t0,t1,t2,t3,t4,t5,t6,t7,t8,t9,wJ,cq]) rfl ⟨De,0,_,⟨⟨none,none,none,none,none,none,none,none,0,0,0,0,0,0,0,0,rfl,λW' _=>va1 _ W'⟩,yA.out⟩,va3⟩
   case neg=>
    have Eu:=ZE S5;clear S5;go_wp2;go_roundw
    .exact⟨i+1,Q,RP,Eu⟩
    .simp[intOf];omega
  case neg=>
   have hlt2:¬(i:Int)<(N:Int):=Q;have S:=HS.out;have q5:=vew s _ wa (dQ.below S.ZB) ok;have⟨x0,x1,x2,x3,x4,x5,x6,x7,x8,x9⟩:=S.par.ZS;go_wp2_with fail;refine q5.mono ?_;rintro q w5 fo;obtain⟨vP,rfl,uv⟩:=fo.ex;obtain⟨a1,a2,a3,a4,a5,a6,a8,a9,c1,c2,c3,c4,c5,c6,c8,c9,rfl,si,uL,JH,JJ⟩:=uv.form;have b6:=ZA w5 (G (stA s a1 a2 a3 a4 a5 a6 a8 a9 c1 c2 c3 c4 c5 c6 c8 c9).toArray 31);have S6:=(S.below fo.ZB).below b6;have de:gx<w5.heap.size:=Nat.lt_of_lt_of_le (ZI (S.rel.c 0 rfl)) fo.ZB.size;have V6:=Zh.new w5 (stA s a1 a2 a3 a4 a5 a6 a8 a9 c1 c2 c3 c4 c5 c6 c8 c9) 31;have CF:=heap_alloc_new w5 (G (stA s a1 a2 a3 a4 a5 a6 a8 a9 c1 c2 c3 c4 c5 c6 c8 c9).toArray 31);have oS:w.heap.size+1+1<=wa.heap.size:=Nat.le_trans S.ge (Nat.le_of_lt (ZI (S.rel.c 0 rfl)));have yx:=(si.mono oS).below b6;have yZ:=(uL.mono oS).below b6;have vS:=Ez (uZ JH b6) oS;have vW:=Ez (uZ JJ b6) oS;have bR:w.heap.size+1+1<=w5.heap.size:=Nat.le_trans oS fo.ZB.size;have X6:=S6.rel;have R6:=S6.res;have po:=S6.new;have cp:=S6.ZB;have EJ:gx≠w5.heap.size:=Q;have⟨g,hg⟩:=ZL w5.heap.size;have⟨w6,qO⟩:=ZL (w5.alloc (G (stA s a1 a2 a3 a4 a5 a6 a8 a9 c1 c2 c3 c4 c5 c6 c8 c9).toArray 31));rw[hg]at V6 CF EJ bR;rw[qO]at V6 CF yx yZ vS vW X6 R6 po cp;clear S S6 HS x0 x1 x2 x3 x4 x5 x6 x7 x8 x9 q5 fo uv si uL JH JJ b6 hv dQ;by_cases fU:0<N
   case pos=>
    have rV:(0:Int)<(N:Int):=Q;have⟨w7,h7,K7⟩:=vaQ g w6 [(4,U a1 s.YT.Vv.length c1),(5,U a2 s.YT.YU.length c2),(6,U a3 s.YT.YW.length c3)];simp only[stl]at h7;have V7:=K7.var _ V6;have X7:=K7.oth _ _ EJ X6;have R7:=K7.oth _ _ (show w.heap.size+1≠g by omega) R6;have B7:=K7.ZB _ _ (show w.heap.size<=g by omega) cp;have⟨w8,h8,K8⟩:=vaQ g w7 [(7,J 1)];simp only[stl]at h8;have V8:=K8.var _ V7;have X8:=K8.oth _ _ EJ X7;have R8:=K8.oth _ _ (show w.heap.size+1≠g by omega) R7;have B8:=K8.ZB _ _ (show w.heap.size<=g by omega) B7;have o5:∀k,k≠g->w8.heap[k]? =w6.heap[k]? :=λk hk=>(K8.blk k hk).trans (K7.blk k hk)
    have Qm:w8.heap.size=w6.heap.size:=K8.size.trans K7.size;have⟨j0,j1,j2,j3,j4,j5,j6,j7,j8,j9⟩:=V6.ZS;have⟨jf0,jf1,jf2,jf3,jf4,jf5,jf6,jf7,jf8,jf9⟩:=V6.vaV;have⟨RS,RT,RU,RW,RX,RY,Sa,Sb,Sc,Oh⟩:=V7.vaV;have i7:=V7.c 7 rfl;have⟨w9,h9,K9⟩:=vaQ g w8 [(1,U ra R.Vv.length kr),(2,U rb R.YU.length ks),(3,U rc R.YW.length ku)];simp only[stl]at h9;have V9:=K9.var _ V8;have R9:=K9.oth _ _ (show w.heap.size+1≠g by omega) R8;have B9:=K9.ZB _ _ (show w.heap.size<=g by omega) B8;have e0:=X8.c 0 rfl;have e1:=X8.c 1 rfl;have e2:=X8.c 2 rfl;have⟨Ov,Ow,Ox,Oy,Oz,OA,OB,OE,OF,OG⟩:=V8.vaV;have⟨m0,m1,m2,m3,m4,m5,m6,m7,m8,m9⟩:=V8.ZS;have⟨n0,n1,n2,n3,n4,n5,n6,n7,n8,n9⟩:=V9.ZS;have⟨r0,r1,r2,r3,r4,r5,r6,r7,r8,r9,lw,mv⟩:=R9.Nc;have⟨f0,f1,f2,f3,f4,f5,f6,f7,f8,f9,gx,l7⟩:=R9.Od;have⟨W,hW,⟨t0,t1,t2,t3,t4,t5,t6,t7,t8,t9,wJ,cq⟩,TT,_,J8⟩:=R9.fin (J s.tx) (U ra R.Vv.length kr) (U rb R.YU.length ks) (U rc R.YW.length ku) (U a1 s.YT.Vv.length c1) (U a2 s.YT.YU.length c2) (U a3 s.YT.YW.length c3) (J 1) (U a8 s.vs.length c8) (U a9 s.ix.length c9) (J 0) (J 0);have yA:=ZE (J8 _ _ Q B9);have ED:Hid (vcw w.heap.size W (.agg (stA ⟨s.tx,R,s.YT,1,s.vs,s.ix⟩ ra rb rc a1 a2 a3 a8 a9 kr ks ku c1 c2 c3 c8 c9).toArray) ⟨s.tx,R,s.YT,1,s.vs,s.ix⟩):=λW' tV=>by
     have hk:∀k,w.heap.size+1+1<=k->k<w6.heap.size->k≠g->W'.heap[k]? =w6.heap[k]? :=λk h1 h2 h3=>(tV k Q (Nat.lt_of_lt_of_le (by rw[K9.size,Qm];exact h2) TT.size)).trans ((TT.block k (by rw[K9.size,Qm];exact h2) (show k≠w.heap.size+1 by omega)).trans ((K9.blk k h3).trans (o5 k h3)))
     exact⟨ra,rb,rc,a1,a2,a3,a8,a9,kr,ks,ku,c1,c2,c3,c8,c9,rfl,(po.but CF hk).mono Q,(yx.but CF hk).mono Q,Ez (vcG vS CF RN hk) Q,Ez (vcG vW CF RN hk) Q⟩
    have rQ:Hid (Zr ⟨s.tx,R,s.YT,1,s.vs,s.ix⟩/\s.vs.length<=1000/\s.ix.length<=1000):=⟨⟨okR,ok.YT,ok.vs,ok.vl,ok.xl⟩,vd,fG⟩;clear J8 TT V9 V8 X8 R9 R8 K9 B9 B8 V6 X6 R6 po yx yZ vS vW CF o5 cp ok okR;go_wp2;exact ZM (v:=.agg (Ky ⟨s.tx,R,s.YT,1,s.vs,s.ix⟩ ra rb rc a1 a2 a3 a8 a9 kr ks ku c1 c2 c3 c8 c9 0 0).toArray) (by simp[results,Tryz.results40,go_sem,t0,t1,t2,t3,t4,t5,t6,t7,t8,t9,wJ,cq,Ky]) rfl ⟨_,_,_,⟨⟨ra,rb,rc,a1,a2,a3,a8,a9,kr,ks,ku,c1,c2,c3,c8,c9,rfl,ED.out⟩,yA.out⟩,rQ.out⟩
   case neg=>
    have rV:¬(0:Int)<(N:Int):=Q;have⟨w8,h8⟩:=ZL w6;have V8:=V6;have X8:=X6;have R8:=R6;have B8:=cp;have o5:∀k,k≠g->w8.heap[k]? =w6.heap[k]? :=λk _=>by rw[h8]
    have Qm:w8.heap.size=w6.heap.size:=by rw[h8]
    rw[h8]at V8 X8 R8 B8;have⟨w9,h9,K9⟩:=vaQ g w8 [(1,U ra R.Vv.length kr),(2,U rb R.YU.length ks),(3,U rc R.YW.length ku)];simp only[stl]at h9;have V9:=K9.var _ V8;have R9:=K9.oth _ _ (show w.heap.size+1≠g by omega) R8;have B9:=K9.ZB _ _ (show w.heap.size<=g by omega) B8;have e0:=X8.c 0 rfl;have e1:=X8.c 1 rfl;have e2:=X8.c 2 rfl;have⟨Ov,Ow,Ox,Oy,Oz,OA,OB,OE,OF,OG⟩:=V8.vaV;have⟨m0,m1,m2,m3,m4,m5,m6,m7,m8,m9⟩:=V8.ZS;have⟨n0,n1,n2,n3,n4,n5,n6,n7,n8,n9⟩:=V9.ZS;have⟨r0,r1,r2,r3,r4,r5,r6,r7,r8,r9,lw,mv⟩:=R9.Nc;have⟨f0,f1,f2,f3,f4,f5,f6,f7,f8,f9,gx,l7⟩:=R9.Od;have⟨W,hW,⟨t0,t1,t2,t3,t4,t5,t6,t7,t8,t9,wJ,cq⟩,TT,_,J8⟩:=R9.fin (J s.tx) (U ra R.Vv.length kr) (U rb R.YU.length ks) (U rc R.YW.length ku) (U a4 s.YS.Vv.length c4) (U a5 s.YS.YU.length c5) (U a6 s.YS.YW.length c6) (J s.cur) (U a8 s.vs.length c8) (U a9 s.ix.length c9) (J 0) (J 0);have yA:=ZE (J8 _ _ Q B9);have ED:Hid (vcw w.heap.size W (.agg (stA ⟨s.tx,R,s.YS,s.cur,s.vs,s.ix⟩ ra rb rc a4 a5 a6 a8 a9 kr ks ku c4 c5 c6 c8 c9).toArray) ⟨s.tx,R,s.YS,s.cur,s.vs,s.ix⟩):=λW' tV=>by
     have hk:∀k,w.heap.size+1+1<=k->k<w6.heap.size->k≠g->W'.heap[k]? =w6.heap[k]? :=λk h1 h2 h3=>(tV k Q (Nat.lt_of_lt_of_le (by rw[K9.size,Qm];exact h2) TT.size)).trans ((TT.block k (by rw[K9.size,Qm];exact h2) (show k≠w.heap.size+1 by omega)).trans ((K9.blk k h3).trans (o5 k h3)))
     exact⟨ra,rb,rc,a4,a5,a6,a8,a9,kr,ks,ku,c4,c5,c6,c8,c9,rfl,(po.but CF hk).mono Q,(yZ.but CF hk).mono Q,Ez (vcG vS CF RN hk) Q,Ez (vcG vW CF RN hk) Q⟩
    have rQ:Hid (Zr ⟨s.tx,R,s.YS,s.cur,s.vs,s.ix⟩/\s.vs.length<=1000/\s.ix.length<=1000):=⟨⟨okR,ok.YS,ok.vs,ok.vl,ok.xl⟩,vd,fG⟩;clear J8 TT V9 V8 X8 R9 R8 K9 B9 B8 V6 X6 R6 po yx yZ vS vW CF o5 cp ok okR;go_wp2;exact ZM (v:=.agg (Ky ⟨s.tx,R,s.YS,s.cur,s.vs,s.ix⟩ ra rb rc a4 a5 a6 a8 a9 kr ks ku c4 c5 c6 c8 c9 0 0).toArray) (by simp[results,Tryz.results40,go_sem,t0,t1,t2,t3,t4,t5,t6,t7,t8,t9,wJ,cq,Ky]) rfl ⟨_,_,_,⟨⟨ra,rb,rc,a4,a5,a6,a8,a9,kr,ks,ku,c4,c5,c6,c8,c9,rfl,ED.out⟩,yA.out⟩,rQ.out⟩
end
structure vbN(s:ZP):Prop where
 YT:ZZ s.YT=true
 YS:ZZ s.YS=true
 vl:s.vs.length<=60
 tx:0<=s.tx/\s.tx<=900000
 ver:va2 s.vs s.tx=true
 ll:(ZJ s.vs).length<=30
 YZ:∀x∈ZJ s.vs,jdv s x.YZ=true
theorem vag{s:ZP}(h:BQ s=true):vbN s:=by
 unfold BQ at h;simp only[vB,List.all_eq_true,decide_eq_true_eq]at h;exact⟨h.1,h.2.1,jun h.2.2.2.1,jax h.2.2.1,h.2.2.2.1,h.2.2.2.2.2.2.1,h.2.2.2.2.2.2.2.1⟩
theorem vbN.ev{s:ZP}(h:vbN s){e:Ze}(he:e∈ZJ s.vs):EvR e:=by
 obtain⟨v,hm,rfl⟩:=jl5 he;exact jhs (jfk h.ver v hm)
theorem vbN.id{s:ZP}(h:vbN s){e:Ze}(he:e∈ZJ s.vs):1<=e.id/\e.id<=1000000:=by
 obtain⟨v,hm,rfl⟩:=jl5 he;have:=jfk h.ver v hm;unfold Lr at this;simp only[vB]at this;exact jax this.1
theorem vc5{e:Ze}(h:x∈ZJ (l++[Gu t true e])):x∈ZJ l:=by
 have h:=va8.mp h;rw[jtf]at h;split at h
 .simp[Gu]at h
 .exact va8.mpr h
theorem vdB{e:Ze}(h:x∈ZJ (l++[Gu t false e])):x=e\/x∈ZJ l:=by
 have h:=va8.mp h;rw[jtf]at h;split at h
 .simp[Gu,ZN.ev]at h
  exact .inl h.symm
 .exact .inr (va8.mpr h)
theorem vdn{s:ZP}(ok:Zr s)(h:s.vs.length<=60){e:Ze}{g:Bool}(hv:(Gu (s.tx+1) g e).ok):Zr (Ou s e g)/\(Ou s e g).vs.length<=1000/\(Ou s e g).ix.length<=1000:=by
 have h1:(Ou s e g).vs.length=s.vs.length+1:=by simp[Ou]
 have h2:(Ou s e g).ix.length<=s.vs.length+1:=by
  have a:=jep (My s) (ZJ (s.vs++[Gu (s.tx+1) g e]));have b:=jwf (s.vs++[Gu (s.tx+1) g e]) (s.vs++[Gu (s.tx+1) g e]).length
  show(BS (My s) (ZJ (s.vs++[Gu (s.tx+1) g e]))).length<=_
  unfold ZJ at a ⊢;simp at b ⊢;simp at a;omega
 refine⟨⟨ok.YT,ok.YS,λv hm=>?_,Q,Q⟩,Q,Q⟩;rcases List.mem_append.1 hm with hm|hm
 .exact ok.vs v hm
 .simp at hm;subst hm;exact hv
structure vbP(s:ZP):Prop where
 ok:Zr s
 vl:s.vs.length<=1000
 xl:s.ix.length<=1000
theorem vi9(s:ZP)(v:Value)(e:Ze)(w:World)(hv:Jd w v s)(ok:vbP s)(m1:e.name.size<=maxLen)(m2:e.YZ.size<=maxLen):C 6 #[v,e.v] w (vcu w):=by
 refine(vgb s v e w hv ok.ok m1 m2 (λh=>?_) (λh he=>⟨⟨m1,m2⟩,λx hx=>?_⟩)).mono ?_
 .have R:=vag h
  exact⟨R.YT,R.YS,R.vl,R.tx,R.ll⟩
 .rcases vdB hx with rfl|hx
  .exact jhs he
  .exact(vag h).ev hx
 .intro q w' h
  refine⟨_,_,_,h,?_⟩;unfold va9;by_cases hs:BQ s=true
  .rw[if_pos hs]
   repeat' split
   all_goals first|exact va3|exact vdn ok.ok (vag hs).vl ⟨m1,m2⟩
  .rw[if_neg hs];exact va3
theorem step_drop(s:ZP)(v:Value)(id:Int)(w:World)(hv:Jd w v s)(ok:vbP s):C 16 #[v,J id] w (vcu w):=by
 have sM:∀e∈ZJ s.vs,(Gu (s.tx+1) true e).ok:=λe he=>by
  obtain⟨u,hu,rfl⟩:=jl5 he;exact ok.ok.vs u hu
 refine(vf9 s v id w hv ok.ok (λh=>?_) (λh e he=>⟨sM e he,λx hx=>(vag h).ev (vc5 hx)⟩)).mono ?_
 .have R:=vag h
  exact⟨R.YT,R.YS,R.vl,R.tx,R.ll⟩
 .intro q w' h
  refine⟨_,_,_,h,?_⟩;unfold vbw;by_cases hs:BQ s=true
  .rw [if_pos hs]
   split
   .exact va3
   .split
    .exact va3
    .split
     .rename_i e he
      exact vdn ok.ok (vag hs).vl (sM e (ui he))
     .exact va3
  .rw[if_neg hs];exact va3
theorem vgo(s:ZP)(v:Value)(bv:Int)(w:World)(hv:Jd w v s)(ok:vbP s):C 78 #[v,J bv] w (vcu w):=
 viU s v bv w hv ok.ok (λh=>⟨(vag h).YT,(vag h).YS,(vag h).vl,(vag h).ll⟩) (λh _ he=>⟨(vag h).ev he,(vag h).id he⟩)
theorem vgp(s:ZP)(v:Value)(tx:ByteArray)(w:World)(hv:Jd w v s)(ok:vbP s)(ht:tx.size<=50000):C 40 #[v,I tx] w (vcu w):=
 viW s v tx w hv ok.ok ht ok.vl ok.xl (λh=>⟨(vag h).vl,(vag h).ll⟩)
section
open Go.RowKit Go.Lib Go.Sort
theorem KM.drawn{p B:Nat}{w w':World}{s:ZP}(h:KM B w v s)(hg:w.grownBy w' (some p))(hB:p<B):KM B w' v s:=h.keep λk h1 h2=>hg.block k h2 RO
structure vbQ(B p:Nat)(a:Option Addr)(len cap:Nat)(zs:List Int)(s:ZP)(w W:World)(PV:List Value):Prop where
 src:xu p a len cap zs W
 par:Zh W w.heap.size PV
 res:Zh W (w.heap.size+1) [J 0,nS,nS,nS,nS,nS,nS,J 0,nS,nS,J 0,J 0]
 sto:KM B W (.agg PV.toArray) s
 lt:p<B
 le:B<=w.heap.size
 gr:w.grownBy W (some p)
structure veM(B p:Nat)(a:Option Addr)(len cap:Nat)(zs:List Int)(w:World)(q:Ending)(w':World):Prop where
 ex:∃D m c a1 a2 a3 a4 a5 a6 a8 a9 c1 c2 c3 c4 c5 c6 c8 c9,q=V (.agg (Ky D a1 a2 a3 a4 a5 a6 a8 a9 c1 c2 c3 c4 c5 c6 c8 c9 m c).toArray)/\KM B w' (.agg (stA D a1 a2 a3 a4 a5 a6 a8 a9 c1 c2 c3 c4 c5 c6 c8 c9).toArray) D/\vbP D
 src:xu p a len cap zs w'
 gr:w.grownBy w' (some p)
section
variable {B p : Nat} {a : Option Addr} {len cap : Nat} {zs : List Int} {s : ZP} {w W W' : World} {PV : List Value}
theorem vbQ.draw(h:vbQ B p a len cap zs s w W PV)(hS:xu p a len cap zs W')(hg:W.grownBy W' (some p)):vbQ B p a len cap zs s w W' PV:=by
 have h2:=h.lt;have h3:=h.le;exact⟨hS,h.par.grown hg RO,h.res.grown hg RO,h.sto.drawn hg h2,h2,h3,h.gr.trans hg⟩
theorem vbQ.below(h:vbQ B p a len cap zs s w W PV)(hb:Bw W W'):vbQ B p a len cap zs s w W' PV:=⟨h.src.grown hb,h.par.below hb,h.res.below hb,h.sto.below hb,h.lt,h.le,h.gr.trans (World.vbk hb _)⟩
theorem vbQ.done{B3:Nat}{D:ZP}{m c:Int}(h:vbQ B p a len cap zs s w W PV)(hO:vcw B3 W (.agg (stA D a1 a2 a3 a4 a5 a6 a8 a9 c1 c2 c3 c4 c5 c6 c8 c9).toArray) D)(hB:w.heap.size+1<B3)(ok:vbP D):∃X,((((((((((((W.setCell (O (w.heap.size+1) 0) (J D.tx)).setCell (O (w.heap.size+1) 1) (U a1 D.YT.Vv.length c1)).setCell (O (w.heap.size+1) 2) (U a2 D.YT.YU.length c2)).setCell (O (w.heap.size+1) 3) (U a3 D.YT.YW.length c3)).setCell (O (w.heap.size+1) 4) (U a4 D.YS.Vv.length c4)).setCell (O (w.heap.size+1) 5) (U a5 D.YS.YU.length c5)).setCell (O (w.heap.size+1) 6) (U a6 D.YS.YW.length c6)).setCell (O (w.heap.size+1) 7) (J D.cur)).setCell (O (w.heap.size+1) 8) (U a8 D.vs.length c8)).setCell (O (w.heap.size+1) 9) (U a9 D.ix.length c9)).setCell (O (w.heap.size+1) 10) (J m)).setCell (O (w.heap.size+1) 11) (J c))=X/\(X.cell? (O (w.heap.size+1) 0)=some (J D.tx)/\X.cell? (O (w.heap.size+1) 1)=some (U a1 D.YT.Vv.length c1)/\X.cell? (O (w.heap.size+1) 2)=some (U a2 D.YT.YU.length c2)/\X.cell? (O (w.heap.size+1) 3)=some (U a3 D.YT.YW.length c3)/\X.cell? (O (w.heap.size+1) 4)=some (U a4 D.YS.Vv.length c4)/\X.cell? (O (w.heap.size+1) 5)=some (U a5 D.YS.YU.length c5)/\X.cell? (O (w.heap.size+1) 6)=some (U a6 D.YS.YW.length c6)/\X.cell? (O (w.heap.size+1) 7)=some (J D.cur)/\X.cell? (O (w.heap.size+1) 8)=some (U a8 D.vs.length c8)/\X.cell? (O (w.heap.size+1) 9)=some (U a9 D.ix.length c9)/\X.cell? (O (w.heap.size+1) 10)=some (J m)/\X.cell? (O (w.heap.size+1) 11)=some (J c))/\veM B p a len cap zs w (V (.agg (Ky D a1 a2 a3 a4 a5 a6 a8 a9 c1 c2 c3 c4 c5 c6 c8 c9 m c).toArray)) X:=by
 have⟨X,hX,tc,T,_,J8⟩:=h.res.fin (J D.tx) (U a1 D.YT.Vv.length c1) (U a2 D.YT.YU.length c2) (U a3 D.YT.YW.length c3) (U a4 D.YS.Vv.length c4) (U a5 D.YS.YU.length c5) (U a6 D.YS.YW.length c6) (J D.cur) (U a8 D.vs.length c8) (U a9 D.ix.length c9) (J m) (J c);have h2:=h.lt;have h4:=h.le;have hs:=h.gr.size;refine⟨X,hX,tc,⟨⟨D,m,c,a1,a2,a3,a4,a5,a6,a8,a9,c1,c2,c3,c4,c5,c6,c8,c9,rfl,(hO X λk h1 h3=>T.block k h3 (show k≠w.heap.size+1 by omega)).mono Q,ok⟩,h.src.keep λk hk=>T.block k Q (show k≠w.heap.size+1 by omega),vc2 h.gr (J8 _ _ Q (ZU _ _))⟩⟩
end
theorem vi5(B p:Nat)(a:Option Addr)(len cap:Nat)(zs:List Int)(s:ZP)(v:Value)(w:World)(hS:xu p a len cap zs w)(hv:KM B w v s)(Nh:p<B)(eM:B<=w.heap.size)(ok:vbP s):
  C 42 #[.pointer (some (O p 0)),v] w (veM B p a len cap zs w):=by
 have⟨b1,b2,b3,b4,b5,b6,b8,b9,d1,d2,d3,d4,d5,d6,d8,d9,Oa,_⟩:=hv.form;subst Oa;have⟨w0,KR,ag,A0,R0,z0⟩:=vdh w (stA s b1 b2 b3 b4 b5 b6 b8 b9 d1 d2 d3 d4 d5 d6 d8 d9);have E0:vbQ B p a len cap zs s w w0 (stA s b1 b2 b3 b4 b5 b6 b8 b9 d1 d2 d3 d4 d5 d6 d8 d9):=⟨hS.grown ag,A0,R0,hv.below ag,Nh,eM,World.vbk ag _⟩;clear hS hv A0 R0 ag z0;unfold C;go_in;go_wp2_with fail;clear KR;refine(vad p a len cap zs 8 _ E0.src Q Q).mono ?_;rintro q w2 ⟨n2,rfl,l2,u2,S2,g2⟩;have E2:=E0.draw S2 g2;clear E0 S2 g2;by_cases h0:n2=0
 .subst h0
  have E3:=E2.below (rW w2);have⟨x0,x1,x2,x3,x4,x5,x6,x7,x8,x9⟩:=E3.par.ZS;go_wp2_with fail;go_region_held3 (λw'=>w'.cell? (O w.heap.size 0)=some (J s.tx)/\w'.cell? (O w.heap.size 1)=some (U b1 s.YT.Vv.length d1)/\w'.cell? (O w.heap.size 2)=some (U b2 s.YT.YU.length d2)/\w'.cell? (O w.heap.size 3)=some (U b3 s.YT.YW.length d3)/\w'.cell? (O w.heap.size 4)=some (U b4 s.YS.Vv.length d4)/\w'.cell? (O w.heap.size 5)=some (U b5 s.YS.YU.length d5)/\w'.cell? (O w.heap.size 6)=some (U b6 s.YS.YW.length d6)/\w'.cell? (O w.heap.size 7)=some (J s.cur)/\w'.cell? (O w.heap.size 8)=some (U b8 s.vs.length d8)/\w'.cell? (O w.heap.size 9)=some (U b9 s.ix.length d9)) (go_keep) ((first|(go_at_call 41;refine(vgm p a len cap zs _ E3.src).mono ?_;rintro q w4 ⟨tx,rfl,Ha,S4,g4⟩;have E4:=E3.draw S4 g4;have⟨y0,y1,y2,y3,y4,y5,y6,y7,y8,y9⟩:=E4.par.ZS)|(go_at_call 40;refine(vgp s _ tx _ E4.sto.st ok Ha).mono ?_;rintro q w5 fo;have⟨D,m,c,jr,mU,sd,nC⟩:=fo.ex;obtain⟨a1,a2,a3,a4,a5,a6,a8,a9,c1,c2,c3,c4,c5,c6,c8,c9,rfl,jz⟩:=jr.ex;have E5:=E4.below jr.ZB;have⟨z0,z1,z2,z3,z4,z5,z6,z7,z8,z9⟩:=E5.par.ZS;have⟨r0,r1,r2,r3,r4,r5,r6,r7,r8,r9,lw,mv⟩:=E5.res.Nc;have⟨f0,f1,f2,f3,f4,f5,f6,f7,f8,f9,gx,l7⟩:=E5.res.Od)))
  all_goals
   clear x0 x1 x2 x3 x4 x5 x6 x7 x8 x9 y0 y1 y2 y3 y4 y5 y6 y7 y8 y9 z0 z1 z2 z3 z4 z5 z6 z7 z8 z9 r0 r1 r2 r3 r4 r5 r6 r7 r8 r9 lw mv f0 f1 f2 f3 f4 f5 f6 f7 f8 f9 gx l7;have⟨X,hX,⟨t0,t1,t2,t3,t4,t5,t6,t7,t8,t9,wJ,cq⟩,HP⟩:=E5.done (m:=m) (c:=c) jz (ZI (E4.res.c 0 rfl)) ⟨mU,sd,nC⟩;have gY:=ZE HP;rw[hX];clear hX HP fo jr jz E5 E4 E3 E2 S4 g4;go_wp2;exact ZM (v:=.agg (Ky D a1 a2 a3 a4 a5 a6 a8 a9 c1 c2 c3 c4 c5 c6 c8 c9 m c).toArray) (by simp[results,Tryz.results42,go_sem,t0,t1,t2,t3,t4,t5,t6,t7,t8,t9,wJ,cq,Ky]) rfl gY.out
 have kA:(n2==0)=false:=by simpa using h0
 by_cases AK:n2=1\/n2=2
 .rcases AK with AK|AK
  .subst AK
   have E3:=E2.below (rW w2);have⟨x0,x1,x2,x3,x4,x5,x6,x7,x8,x9⟩:=E3.par.ZS;go_wp2_with fail;go_region_held3 (λw'=>w'.cell? (O w.heap.size 0)=some (J s.tx)/\w'.cell? (O w.heap.size 1)=some (U b1 s.YT.Vv.length d1)/\w'.cell? (O w.heap.size 2)=some (U b2 s.YT.YU.length d2)/\w'.cell? (O w.heap.size 3)=some (U b3 s.YT.YW.length d3)/\w'.cell? (O w.heap.size 4)=some (U b4 s.YS.Vv.length d4)/\w'.cell? (O w.heap.size 5)=some (U b5 s.YS.YU.length d5)/\w'.cell? (O w.heap.size 6)=some (U b6 s.YS.YW.length d6)/\w'.cell? (O w.heap.size 7)=some (J s.cur)/\w'.cell? (O w.heap.size 8)=some (U b8 s.vs.length d8)/\w'.cell? (O w.heap.size 9)=some (U b9 s.ix.length d9)) (go_keep) ((first|(go_at_call 37;refine(vad p a len cap zs 3 _ E3.src Q Q).mono ?_;rintro q w4 ⟨n4,rfl,l4,u4,S4,g4⟩;have E4:=E3.draw S4 g4;have⟨y0,y1,y2,y3,y4,y5,y6,y7,y8,y9⟩:=E4.par.ZS;have q4:IntKind.i64.wrap (1+n4)=1+n4:=(by rw[IntKind.wrap_i64];omega))|(go_at_call 78;refine(vgo s _ (1+n4) _ E4.sto.st ok).mono ?_;rintro q w5 fo;have⟨D,m,c,jr,mU,sd,nC⟩:=fo.ex;obtain⟨a1,a2,a3,a4,a5,a6,a8,a9,c1,c2,c3,c4,c5,c6,c8,c9,rfl,jz⟩:=jr.ex;have E5:=E4.below jr.ZB;have⟨z0,z1,z2,z3,z4,z5,z6,z7,z8,z9⟩:=E5.par.ZS;have⟨r0,r1,r2,r3,r4,r5,r6,r7,r8,r9,lw,mv⟩:=E5.res.Nc;have⟨f0,f1,f2,f3,f4,f5,f6,f7,f8,f9,gx,l7⟩:=E5.res.Od)))
   all_goals
    clear x0 x1 x2 x3 x4 x5 x6 x7 x8 x9 y0 y1 y2 y3 y4 y5 y6 y7 y8 y9 z0 z1 z2 z3 z4 z5 z6 z7 z8 z9 r0 r1 r2 r3 r4 r5 r6 r7 r8 r9 lw mv f0 f1 f2 f3 f4 f5 f6 f7 f8 f9 gx l7;have⟨X,hX,⟨t0,t1,t2,t3,t4,t5,t6,t7,t8,t9,wJ,cq⟩,HP⟩:=E5.done (m:=m) (c:=c) jz (ZI (E4.res.c 0 rfl)) ⟨mU,sd,nC⟩;have gY:=ZE HP;rw[hX];clear hX HP fo jr jz E5 E4 E3 E2 S4 g4;go_wp2;exact ZM (v:=.agg (Ky D a1 a2 a3 a4 a5 a6 a8 a9 c1 c2 c3 c4 c5 c6 c8 c9 m c).toArray) (by simp[results,Tryz.results42,go_sem,t0,t1,t2,t3,t4,t5,t6,t7,t8,t9,wJ,cq,Ky]) rfl gY.out
  .have aX:(n2==1)=false:=RO
   subst AK;have E3:=E2.below (rW w2);have⟨x0,x1,x2,x3,x4,x5,x6,x7,x8,x9⟩:=E3.par.ZS;go_wp2_with fail;go_region_held3 (λw'=>w'.cell? (O w.heap.size 0)=some (J s.tx)/\w'.cell? (O w.heap.size 1)=some (U b1 s.YT.Vv.length d1)/\w'.cell? (O w.heap.size 2)=some (U b2 s.YT.YU.length d2)/\w'.cell? (O w.heap.size 3)=some (U b3 s.YT.YW.length d3)/\w'.cell? (O w.heap.size 4)=some (U b4 s.YS.Vv.length d4)/\w'.cell? (O w.heap.size 5)=some (U b5 s.YS.YU.length d5)/\w'.cell? (O w.heap.size 6)=some (U b6 s.YS.YW.length d6)/\w'.cell? (O w.heap.size 7)=some (J s.cur)/\w'.cell? (O w.heap.size 8)=some (U b8 s.vs.length d8)/\w'.cell? (O w.heap.size 9)=some (U b9 s.ix.length d9)) (go_keep) ((first|(go_at_call 37;refine(vad p a len cap zs 3 _ E3.src Q Q).mono ?_;rintro q w4 ⟨n4,rfl,l4,u4,S4,g4⟩;have E4:=E3.draw S4 g4;have⟨y0,y1,y2,y3,y4,y5,y6,y7,y8,y9⟩:=E4.par.ZS;have q4:IntKind.i64.wrap (1+n4)=1+n4:=(by rw[IntKind.wrap_i64];omega))|(go_at_call 78;refine(vgo s _ (1+n4) _ E4.sto.st ok).mono ?_;rintro q w5 fo;have⟨D,m,c,jr,mU,sd,nC⟩:=fo.ex;obtain⟨a1,a2,a3,a4,a5,a6,a8,a9,c1,c2,c3,c4,c5,c6,c8,c9,rfl,jz⟩:=jr.ex;have E5:=E4.below jr.ZB;have⟨z0,z1,z2,z3,z4,z5,z6,z7,z8,z9⟩:=E5.par.ZS;have⟨r0,r1,r2,r3,r4,r5,r6,r7,r8,r9,lw,mv⟩:=E5.res.Nc;have⟨f0,f1,f2,f3,f4,f5,f6,f7,f8,f9,gx,l7⟩:=E5.res.Od)))
   all_goals
    clear x0 x1 x2 x3 x4 x5 x6 x7 x8 x9 y0 y1 y2 y3 y4 y5 y6 y7 y8 y9 z0 z1 z2 z3 z4 z5 z6 z7 z8 z9 r0 r1 r2 r3 r4 r5 r6 r7 r8 r9 lw mv f0 f1 f2 f3 f4 f5 f6 f7 f8 f9 gx l7;have⟨X,hX,⟨t0,t1,t2,t3,t4,t5,t6,t7,t8,t9,wJ,cq⟩,HP⟩:=E5.done (m:=m) (c:=c) jz (ZI (E4.res.c 0 rfl)) ⟨mU,sd,nC⟩;have gY:=ZE HP;rw[hX];clear hX HP fo jr jz E5 E4 E3 E2 S4 g4;go_wp2;exact ZM (v:=.agg (Ky D a1 a2 a3 a4 a5 a6 a8 a9 c1 c2 c3 c4 c5 c6 c8 c9 m c).toArray) (by simp[results,Tryz.results42,go_sem,t0,t1,t2,t3,t4,t5,t6,t7,t8,t9,wJ,cq,Ky]) rfl gY.out
 have aX:(n2==1)=false:=RO;have cU:(n2==2)=false:=RO;by_cases h3:n2=3
 .subst h3
  have E3:=E2.below (rW w2);have⟨x0,x1,x2,x3,x4,x5,x6,x7,x8,x9⟩:=E3.par.ZS;go_wp2_with fail;go_region_held3 (λw'=>w'.cell? (O w.heap.size 0)=some (J s.tx)/\w'.cell? (O w.heap.size 1)=some (U b1 s.YT.Vv.length d1)/\w'.cell? (O w.heap.size 2)=some (U b2 s.YT.YU.length d2)/\w'.cell? (O w.heap.size 3)=some (U b3 s.YT.YW.length d3)/\w'.cell? (O w.heap.size 4)=some (U b4 s.YS.Vv.length d4)/\w'.cell? (O w.heap.size 5)=some (U b5 s.YS.YU.length d5)/\w'.cell? (O w.heap.size 6)=some (U b6 s.YS.YW.length d6)/\w'.cell? (O w.heap.size 7)=some (J s.cur)/\w'.cell? (O w.heap.size 8)=some (U b8 s.vs.length d8)/\w'.cell? (O w.heap.size 9)=some (U b9 s.ix.length d9)) (go_keep) ((first|(go_at_call 37;refine(vad p a len cap zs 6 _ E3.src Q Q).mono ?_;rintro q w4 ⟨n4,rfl,l4,u4,S4,g4⟩;have E4:=E3.draw S4 g4;have⟨y0,y1,y2,y3,y4,y5,y6,y7,y8,y9⟩:=E4.par.ZS;have q4:IntKind.i64.wrap (1+n4)=1+n4:=(by rw[IntKind.wrap_i64];omega))|(go_at_call 16;refine(step_drop s _ (1+n4) _ E4.sto.st ok).mono ?_;rintro q w5 fo;have⟨D,m,c,jr,mU,sd,nC⟩:=fo.ex;obtain⟨a1,a2,a3,a4,a5,a6,a8,a9,c1,c2,c3,c4,c5,c6,c8,c9,rfl,jz⟩:=jr.ex;have E5:=E4.below jr.ZB;have⟨z0,z1,z2,z3,z4,z5,z6,z7,z8,z9⟩:=E5.par.ZS;have⟨r0,r1,r2,r3,r4,r5,r6,r7,r8,r9,lw,mv⟩:=E5.res.Nc;have⟨f0,f1,f2,f3,f4,f5,f6,f7,f8,f9,gx,l7⟩:=E5.res.Od)))
  all_goals
   clear x0 x1 x2 x3 x4 x5 x6 x7 x8 x9 y0 y1 y2 y3 y4 y5 y6 y7 y8 y9 z0 z1 z2 z3 z4 z5 z6 z7 z8 z9 r0 r1 r2 r3 r4 r5 r6 r7 r8 r9 lw mv f0 f1 f2 f3 f4 f5 f6 f7 f8 f9 gx l7;have⟨X,hX,⟨t0,t1,t2,t3,t4,t5,t6,t7,t8,t9,wJ,cq⟩,HP⟩:=E5.done (m:=m) (c:=c) jz (ZI (E4.res.c 0 rfl)) ⟨mU,sd,nC⟩;have gY:=ZE HP;rw[hX];clear hX HP fo jr jz E5 E4 E3 E2 S4 g4;go_wp2;exact ZM (v:=.agg (Ky D a1 a2 a3 a4 a5 a6 a8 a9 c1 c2 c3 c4 c5 c6 c8 c9 m c).toArray) (by simp[results,Tryz.results42,go_sem,t0,t1,t2,t3,t4,t5,t6,t7,t8,t9,wJ,cq,Ky]) rfl gY.out
 have fw:(n2==3)=false:=by simpa using h3
 have E3:=E2.below (rW w2);have⟨x0,x1,x2,x3,x4,x5,x6,x7,x8,x9⟩:=E3.par.ZS;go_wp2_with fail;go_region_held3 (λw'=>w'.cell? (O w.heap.size 0)=some (J s.tx)/\w'.cell? (O w.heap.size 1)=some (U b1 s.YT.Vv.length d1)/\w'.cell? (O w.heap.size 2)=some (U b2 s.YT.YU.length d2)/\w'.cell? (O w.heap.size 3)=some (U b3 s.YT.YW.length d3)/\w'.cell? (O w.heap.size 4)=some (U b4 s.YS.Vv.length d4)/\w'.cell? (O w.heap.size 5)=some (U b5 s.YS.YU.length d5)/\w'.cell? (O w.heap.size 6)=some (U b6 s.YS.YW.length d6)/\w'.cell? (O w.heap.size 7)=some (J s.cur)/\w'.cell? (O w.heap.size 8)=some (U b8 s.vs.length d8)/\w'.cell? (O w.heap.size 9)=some (U b9 s.ix.length d9)) (go_keep) ((first|(go_at_call 20;refine(vgj p a len cap zs _ E3.src).mono ?_;rintro q w4 ⟨⟨e1,e2,e3,e4,e5,e6⟩,rfl,m1,m2,_,S4,g4⟩;have E4:=E3.draw S4 g4;have⟨y0,y1,y2,y3,y4,y5,y6,y7,y8,y9⟩:=E4.par.ZS)|(go_at_call 6;refine(vi9 s _ ⟨e1,e2,e3,e4,e5,e6⟩ _ E4.sto.st ok (Nat.le_trans m1 (by unfold maxLen;omega)) (Nat.le_trans m2 (by unfold maxLen;omega))).mono ?_;rintro q w5 fo;have⟨D,m,c,jr,mU,sd,nC⟩:=fo.ex;obtain⟨a1,a2,a3,a4,a5,a6,a8,a9,c1,c2,c3,c4,c5,c6,c8,c9,rfl,jz⟩:=jr.ex;have E5:=E4.below jr.ZB;have⟨z0,z1,z2,z3,z4,z5,z6,z7,z8,z9⟩:=E5.par.ZS;have⟨r0,r1,r2,r3,r4,r5,r6,r7,r8,r9,lw,mv⟩:=E5.res.Nc;have⟨f0,f1,f2,f3,f4,f5,f6,f7,f8,f9,gx,l7⟩:=E5.res.Od)))
 all_goals
  clear x0 x1 x2 x3 x4 x5 x6 x7 x8 x9 y0 y1 y2 y3 y4 y5 y6 y7 y8 y9 z0 z1 z2 z3 z4 z5 z6 z7 z8 z9 r0 r1 r2 r3 r4 r5 r6 r7 r8 r9 lw mv f0 f1 f2 f3 f4 f5 f6 f7 f8 f9 gx l7;have⟨X,hX,⟨t0,t1,t2,t3,t4,t5,t6,t7,t8,t9,wJ,cq⟩,HP⟩:=E5.done (m:=m) (c:=c) jz (ZI (E4.res.c 0 rfl)) ⟨mU,sd,nC⟩;have gY:=ZE HP;rw[hX];clear hX HP fo jr jz E5 E4 E3 E2 S4 g4;go_wp2;exact ZM (v:=.agg (Ky D a1 a2 a3 a4 a5 a6 a8 a9 c1 c2 c3 c4 c5 c6 c8 c9 m c).toArray) (by simp[results,Tryz.results42,go_sem,t0,t1,t2,t3,t4,t5,t6,t7,t8,t9,wJ,cq,Ky]) rfl gY.out
end
section
open Go.RowKit Go.Lib Go.Sort
theorem KM.rows{B:Nat}{w:World}{D:ZP}(h:KM B w (.agg (stA D a1 a2 a3 a4 a5 a6 a8 a9 c1 c2 c3 c4 c5 c6 c8 c9).toArray) D):Gz B w (.agg #[U a1 D.YT.Vv.length c1,U a2 D.YT.YU.length c2,U a3 D.YT.YW.length c3]) D.YT/\Gz B w (.agg #[U a4 D.YS.Vv.length c4,U a5 D.YS.YU.length c5,U a6 D.YS.YW.length c6]) D.YS/\w.ownsRow B 82 8 (U a8 D.vs.length c8) D.vs.length (D.vs.map ZN.cs).flatten/\w.ownsRow B 76 2 (U a9 D.ix.length c9) D.ix.length (D.ix.map ZY.cs).flatten:=by
 have⟨e1,e2,e3,e4,e5,e6,e8,e9,k1,k2,k3,k4,k5,k6,k8,k9,hv,h1,h2,h3,h4⟩:=h.form;simp at hv;obtain⟨⟨rfl,rfl⟩,⟨rfl,rfl⟩,⟨rfl,rfl⟩,⟨rfl,rfl⟩,⟨rfl,rfl⟩,⟨rfl,rfl⟩,⟨rfl,rfl⟩,rfl,rfl⟩:=hv;exact⟨h1,h2,h3,h4⟩
theorem KM.but{B g:Nat}{w W':World}{D:ZP}(h:KM B w v D)(hg:w.heap[g]? =some (G tt 31 (0,0)))(hk:∀k,B<=k->k<w.heap.size->k≠g->W'.heap[k]? =w.heap[k]?):KM B W' v D:=by
 have⟨e1,e2,e3,e4,e5,e6,e8,e9,k1,k2,k3,k4,k5,k6,k8,k9,hv,h1,h2,h3,h4⟩:=h.form;exact⟨e1,e2,e3,e4,e5,e6,e8,e9,k1,k2,k3,k4,k5,k6,k8,k9,hv,h1.but hg hk,h2.but hg hk,vcG h3 hg RN hk,vcG h4 hg RN hk⟩
theorem KM.vcp{B g j:Nat}{w:World}{D:ZP}(h:KM B w v D)(hg:w.heap[g]? =some (G tt 31 (0,0))):KM B (w.setCell (O g j) u) v D:=h.but hg λk _ _ az=>heap_setCell_other w (O g j) k u (by simpa using az)
structure vaj(p:Nat)(a:Option Addr)(len cap:Nat)(zs:List Int)(w W:World)(g:Nat)(L:List Value):Prop where
 src:xu p a len cap zs W
 var:W.heap[g]? =some (G L.toArray 31 (0,0))
 res:Zh W w.heap.size [J 0,nS,nS,nS,nS,nS,nS,J 0,nS,nS]
 ge:w.heap.size<g
 lt:p<w.heap.size
 gr:w.grownBy W (some p)
structure veN(p:Nat)(a:Option Addr)(len cap:Nat)(zs:List Int)(w:World)(q:Ending)(w':World):Prop where
 ex:∃D a1 a2 a3 a4 a5 a6 a8 a9 c1 c2 c3 c4 c5 c6 c8 c9,q=V (.agg (stA D a1 a2 a3 a4 a5 a6 a8 a9 c1 c2 c3 c4 c5 c6 c8 c9).toArray)/\KM (w.heap.size+1) w' (.agg (stA D a1 a2 a3 a4 a5 a6 a8 a9 c1 c2 c3 c4 c5 c6 c8 c9).toArray) D/\Zr D
 src:xu p a len cap zs w'
 gr:w.grownBy w' (some p)
section
variable {p : Nat} {a : Option Addr} {len cap : Nat} {zs : List Int} {w W W' : World} {g : Nat} {L : List Value}
theorem vaj.draw(h:vaj p a len cap zs w W g L)(hS:xu p a len cap zs W')(hg:W.grownBy W' (some p)):vaj p a len cap zs w W' g L:=by
 have h1:=h.ge;have h2:=h.lt;exact⟨hS,(hg.block g (LQ h.var) RO).trans h.var,h.res.grown hg RO,h1,h2,h.gr.trans hg⟩
theorem vaj.below(h:vaj p a len cap zs w W g L)(hb:Bw W W'):vaj p a len cap zs w W' g L:=⟨h.src.grown hb,(hb.block g (LQ h.var)).trans h.var,h.res.below hb,h.ge,h.lt,h.gr.trans (World.vbk hb _)⟩
theorem vaj.set(h:vaj p a len cap zs w W g L)(j:Nat)(v:Value):vaj p a len cap zs w (W.setCell (O g j) v) g (L.set j v):=by
 have h1:=h.ge;have h2:=h.lt;exact⟨h.src.keep λk hk=>heap_setCell_other W (O g j) k v RO,by rw[<- List.setIfInBounds_toArray];exact vbZ h.var,h.res.other Q v,h1,h2,vc2 h.gr ((ZU _ _).setCell (show w.heap.size<=g by omega) v)⟩
theorem vaj.app(h:vaj p a len cap zs w W g L)(ho:W.ownsRow (w.heap.size+1) e q u n xs)(he:e≠31)(hg:W.grownBy W' u.ownBlock):vaj p a len cap zs w W' g L:=by
 have h1:=h.ge;have h2:=h.lt;have h3:=h.src.lt;have h4:=h.gr.size;have hl:∀k,k<=w.heap.size->some k≠u.ownBlock:=λk hk e=>by have:=(World.ownsRow.lt ho k e.symm).1;omega
 refine⟨h.src.keep λk hk=>hg.block k Q (hl k Q),(hg.block g (LQ h.var) (λe=>?_)).trans h.var,h.res.grown hg (hl _ (ZD _)),h1,h2,⟨hg.os.trans h.gr.os,hg.tape.trans h.gr.tape,hg.output.trans h.gr.output,Nat.le_trans h4 hg.size,λk hk az=>(hg.block k Q (hl k Q)).trans (h.gr.block k hk az)⟩⟩;have⟨ds,hd⟩:=vbs ho e.symm;rw[h.var]at hd;simp at hd;exact he hd.2.symm
theorem vfK{e2:TypeId}{q2 n2 Bs:Nat}{ys:List Value}(h:W.ownsRow Bs e2 q2 v n2 ys)(ho:W.ownsRow Bs e q u n xs)(he:e2≠e)(hg:W.grownBy W' u.ownBlock):W'.ownsRow Bs e2 q2 v n2 ys:=World.ownsRow.kept h hg (by
 cases hb:v.ownBlock with
 |none=>exact .inl rfl
 |some k=>exact .inr (λhk=>by
  have⟨ds,hd⟩:=vbs h hb;have⟨es,Aw⟩:=vbs ho hk.symm;rw[hd]at Aw;simp at Aw
  exact he Aw.2))
theorem vaj.put{D:ZP}(h:vaj p a len cap zs w W g [l0,l1,l2,l3,l4,l5,l6,l7,l8,l9])(vOO:KM (w.heap.size+1) W (.agg (stA D a1 a2 a3 a4 a5 a6 a8 a9 c1 c2 c3 c4 c5 c6 c8 c9).toArray) D):∃X,((((((((((W.setCell (O g 0) (J D.tx)).setCell (O g 1) (U a1 D.YT.Vv.length c1)).setCell (O g 2) (U a2 D.YT.YU.length c2)).setCell (O g 3) (U a3 D.YT.YW.length c3)).setCell (O g 4) (U a4 D.YS.Vv.length c4)).setCell (O g 5) (U a5 D.YS.YU.length c5)).setCell (O g 6) (U a6 D.YS.YW.length c6)).setCell (O g 7) (J D.cur)).setCell (O g 8) (U a8 D.vs.length c8)).setCell (O g 9) (U a9 D.ix.length c9))=X/\vaj p a len cap zs w X g (stA D a1 a2 a3 a4 a5 a6 a8 a9 c1 c2 c3 c4 c5 c6 c8 c9)/\KM (w.heap.size+1) X (.agg (stA D a1 a2 a3 a4 a5 a6 a8 a9 c1 c2 c3 c4 c5 c6 c8 c9).toArray) D:=by
 refine⟨_,rfl,(((((((((h.set 0 _).set 1 _).set 2 _).set 3 _).set 4 _).set 5 _).set 6 _).set 7 _).set 8 _).set 9 _,vOO.but h.var λk _ _ az=>?_⟩;simp only[heap_setCell_other _ _ _ _ (show k≠((O g _):Addr).block from az)]
theorem vaj.fin{D:ZP}(h:vaj p a len cap zs w W g L)(vOO:KM (w.heap.size+1) W (.agg (stA D a1 a2 a3 a4 a5 a6 a8 a9 c1 c2 c3 c4 c5 c6 c8 c9).toArray) D)(ok:Zr D):∃X,((((((((((W.setCell (O w.heap.size 0) (J D.tx)).setCell (O w.heap.size 1) (U a1 D.YT.Vv.length c1)).setCell (O w.heap.size 2) (U a2 D.YT.YU.length c2)).setCell (O w.heap.size 3) (U a3 D.YT.YW.length c3)).setCell (O w.heap.size 4) (U a4 D.YS.Vv.length c4)).setCell (O w.heap.size 5) (U a5 D.YS.YU.length c5)).setCell (O w.heap.size 6) (U a6 D.YS.YW.length c6)).setCell (O w.heap.size 7) (J D.cur)).setCell (O w.heap.size 8) (U a8 D.vs.length c8)).setCell (O w.heap.size 9) (U a9 D.ix.length c9))=X/\(X.cell? (O w.heap.size 0)=some (J D.tx)/\X.cell? (O w.heap.size 1)=some (U a1 D.YT.Vv.length c1)/\X.cell? (O w.heap.size 2)=some (U a2 D.YT.YU.length c2)/\X.cell? (O w.heap.size 3)=some (U a3 D.YT.YW.length c3)/\X.cell? (O w.heap.size 4)=some (U a4 D.YS.Vv.length c4)/\X.cell? (O w.heap.size 5)=some (U a5 D.YS.YU.length c5)/\X.cell? (O w.heap.size 6)=some (U a6 D.YS.YW.length c6)/\X.cell? (O w.heap.size 7)=some (J D.cur)/\X.cell? (O w.heap.size 8)=some (U a8 D.vs.length c8)/\X.cell? (O w.heap.size 9)=some (U a9 D.ix.length c9))/\veN p a len cap zs w (V (.agg (stA D a1 a2 a3 a4 a5 a6 a8 a9 c1 c2 c3 c4 c5 c6 c8 c9).toArray)) X:=by
 have⟨X,hX,K⟩:=vaQ w.heap.size W [(0,J D.tx),(1,U a1 D.YT.Vv.length c1),(2,U a2 D.YT.YU.length c2),(3,U a3 D.YT.YW.length c3),(4,U a4 D.YS.Vv.length c4),(5,U a5 D.YS.YU.length c5),(6,U a6 D.YS.YW.length c6),(7,J D.cur),(8,U a8 D.vs.length c8),(9,U a9 D.ix.length c9)];have h2:=h.lt;exact⟨X,hX,Zh.ZS (K.var _ h.res),⟨⟨D,a1,a2,a3,a4,a5,a6,a8,a9,c1,c2,c3,c4,c5,c6,c8,c9,rfl,vOO.keep λk h1 _=>K.blk k Q,ok⟩,h.src.keep λk hk=>K.blk k Q,vc2 h.gr (K.ZB _ _ (ZD _) (ZU _ _))⟩⟩
end
def vdm(p:Nat)(a:Option Addr)(len cap:Nat)(zs:List Int)(w W:World)(g:Nat):Prop:=∃D a1 a2 a3 a4 a5 a6 a8 a9 c1 c2 c3 c4 c5 c6 c8 c9,vbP D/\vaj p a len cap zs w W g (stA D a1 a2 a3 a4 a5 a6 a8 a9 c1 c2 c3 c4 c5 c6 c8 c9)/\KM (w.heap.size+1) W (.agg (stA D a1 a2 a3 a4 a5 a6 a8 a9 c1 c2 c3 c4 c5 c6 c8 c9).toArray) D
theorem xu.three{p:Nat}{a:Option Addr}{len cap:Nat}{zs:List Int}{w:World}(h:xu p a len cap zs w):∃sz:Int,w.cell? (O p 3)=some (J sz):=by
 have⟨_,_,sz,_,_,_,_,_,_,k3,_⟩:=h;exact⟨sz,k3⟩
theorem vjo:vbP De:=⟨va3.1,va3.2.1,va3.2.2⟩
theorem vgl(p:Nat)(a:Option Addr)(len cap:Nat)(zs:List Int)(w:World)(hS:xu p a len cap zs w):
  C 19 #[.pointer (some (O p 0))] w (veN p a len cap zs w):=by
 have hp:=hS.lt;have b0:=ZA w (G #[J 0,nS,nS,nS,nS,nS,nS,J 0,nS,nS] 31);have V0:=Zh.new w [J 0,nS,nS,nS,nS,nS,nS,J 0,nS,nS] 31;have S0:=hS.grown b0;have az:some w.heap.size≠some p:=RO;clear hS;unfold C;go_in;go_wp2_with fail;refine(vgm p a len cap zs _ S0).mono ?_;rintro q w1 ⟨tx,rfl,Ha,S1,g1⟩;have V1:=V0.grown g1 az;have G1:=(World.vbk b0 (some p)).trans g1;have z1:w.heap.size+1<=w1.heap.size:=ZI (V1.c 0 rfl);have hI:=vgp De _ tx w1 (va1 (p+1) w1).st vjo Ha;clear S0 V0 b0 g1;go_wp2_with fail;refine hI.mono ?_;rintro q w2 iB;have⟨D,m,c,gS,mU,sd,nC⟩:=iB.ex;obtain⟨a1,a2,a3,a4,a5,a6,a8,a9,c1,c2,c3,c4,c5,c6,c8,c9,rfl,ch⟩:=gS.ex;have b2:=gS.ZB;have b3:=ZA w2 (G (stA D a1 a2 a3 a4 a5 a6 a8 a9 c1 c2 c3 c4 c5 c6 c8 c9).toArray 31);have O3:=((ch w2 λ_ _ _=>rfl).mono z1).below b3;have E3:vaj p a len cap zs w _ w2.heap.size (stA D a1 a2 a3 a4 a5 a6 a8 a9 c1 c2 c3 c4 c5 c6 c8 c9):=⟨(S1.grown b2).grown b3,heap_alloc_new w2 _,(V1.below b2).below b3,Nat.lt_of_lt_of_le z1 b2.size,hp,(G1.trans (World.vbk b2 _)).trans (World.vbk b3 _)⟩;have⟨sz,k3⟩:=E3.src.three;have⟨g,hg⟩:=ZL w2.heap.size;clear hI iB gS ch b2 b3 S1 V1 G1 z1 az;rw[hg]at E3;have qA:∀w:World,(Instr.field 37 (.agg #[J D.tx,U a1 D.YT.Vv.length c1,U a2 D.YT.YU.length c2,U a3 D.YT.YW.length c3,U a4 D.YS.Vv.length c4,U a5 D.YS.YU.length c5,U a6 D.YS.YW.length c6,J D.cur,U a8 D.vs.length c8,U a9 D.ix.length c9,J m,J c]) 0).run Tryz.prog w=.ok (.agg #[J D.tx,U a1 D.YT.Vv.length c1,U a2 D.YT.YU.length c2,U a3 D.YT.YW.length c3,U a4 D.YS.Vv.length c4,U a5 D.YS.YU.length c5,U a6 D.YS.YW.length c6,J D.cur,U a8 D.vs.length c8,U a9 D.ix.length c9]) w:=λ_=>RG
 dsimp only[Ky];go_wp2_with fail;clear qA;refine(viZ p a len cap zs (wrap64 (7+sz)) _ E3.src (veE _).2).mono ?_;rintro q w4 ⟨k4,rfl,⟨l4,u4⟩,S4,g4⟩;have Gp:Hid (vdm p a len cap zs w w4 g):=⟨D,a1,a2,a3,a4,a5,a6,a8,a9,c1,c2,c3,c4,c5,c6,c8,c9,⟨mU,sd,nC⟩,E3.draw S4 g4,O3.drawn g4 Q⟩;clear E3 O3 S4 g4 k3 mU sd nC hg;go_wp2;go_loopw [4,5] (λs4 _ wr=>∃k:Int, -9223372036854775808<=k/\k<=9223372036854775807/\s4=J k/\Hid (vdm p a len cap zs w wr g)) (λs4 _ _=>(intOf s4).toNat)
 .exact⟨k4,l4,u4,rfl,Gp⟩
 ·
  have⟨wa,dS⟩:=wL wr;subst dS;obtain⟨k,lk,uk,rfl,HE⟩:=hrel;clear Gp;have⟨D,a1,a2,a3,a4,a5,a6,a8,a9,c1,c2,c3,c4,c5,c6,c8,c9,cG,E,vOO⟩:=HE.out;by_cases hk:0<k
  case pos=>
   have⟨x0,x1,x2,x3,x4,x5,x6,x7,x8,x9⟩:=(C6 E.var).ZS;have rd:=vi5 (w.heap.size+1) p a len cap zs D _ wa E.src vOO Q (by have:=LQ E.var;have:=E.ge;omega) cG;have qk:IntKind.i64.wrap (k-1)=k-1:=by rw[IntKind.wrap_i64];omega
   go_wp2_with fail;refine rd.mono ?_;rintro q w5 fo;obtain⟨D2,m2,Ir,e1,e2,e3,e4,e5,e6,e8,e9,k1,k2,k3,k4,k5,k6,k8,k9,rfl,O5,ok5⟩:=fo.ex;have b6:=ZA w5 (G (Ky D2 e1 e2 e3 e4 e5 e6 e8 e9 k1 k2 k3 k4 k5 k6 k8 k9 m2 Ir).toArray 37);have E5:=E.draw fo.src fo.gr;have E6:=E5.below b6;have O6:=O5.below b6;have um:=ZE ((vOO.drawn fo.gr Q).below b6);have Y6:=Zh.new w5 (Ky D2 e1 e2 e3 e4 e5 e6 e8 e9 k1 k2 k3 k4 k5 k6 k8 k9 m2 Ir) 37;have RM:w5.heap.size≠g:=by have:=LQ E5.var;omega
   have⟨y0,y1,y2,y3,y4,y5,y6,y7,y8,y9,y10,y11⟩:=Y6.Nc;have⟨z0,z1,z2,z3,z4,z5,z6,z7,z8,z9⟩:=(C6 E6.var).ZS;have⟨SL,SM,SN,SO,NE,SP,SQ,SR,NF,SS⟩:=(C6 E6.var).vaV;clear rd fo O5 b6 E5 Y6 E vOO HE x0 x1 x2 x3 x4 x5 x6 x7 x8 x9;by_cases hc:Ir=0
   case pos=>
    subst hc;have⟨X,hX,E7,O7⟩:=E6.put O6;have Bo:Hid (vdm p a len cap zs w X g):=⟨D2,e1,e2,e3,e4,e5,e6,e8,e9,k1,k2,k3,k4,k5,k6,k8,k9,ok5,E7,O7⟩;clear E6 O6 E7 O7 um;go_wp2;go_roundw
    .exact⟨k-1,Q,Q,RP,Bo⟩
    .simp[intOf];omega
   case neg=>
    have cU:(Ir==0)=false:=by simpa using hc
    have Bo:Hid (vdm p a len cap zs w _ g):=⟨D,a1,a2,a3,a4,a5,a6,a8,a9,c1,c2,c3,c4,c5,c6,c8,c9,cG,E6,um.out⟩;clear E6 O6 um;go_wp2;go_roundw
    .exact⟨k-1,Q,Q,RP,Bo⟩
    .simp[intOf];omega
  case neg=>
  have J9:p<w.heap.size+1:=Q;go_wp2_with fail;refine(vcM p a len cap zs 20 _ E.src Q Q).mono ?_;rintro q w8 ⟨v8,rfl,S8,g8⟩;have E8:=E.draw S8 g8;have O8:=vOO.drawn g8 J9;clear E vOO HE S8 g8;cases v8
  case false=>
   have⟨v0,v1,v2,v3,v4,v5,v6,v7,v8,v9⟩:=(C6 E8.var).ZS;have⟨r0,r1,r2,r3,r4,r5,r6,r7,r8,r9⟩:=E8.res.ZS;have⟨f0,f1,f2,f3,f4,f5,f6,f7,f8,f9⟩:=E8.res.vaV;have⟨X,hX,⟨t0,t1,t2,t3,t4,t5,t6,t7,t8,t9⟩,HP⟩:=E8.fin O8 cG.ok;have gY:=ZE HP;clear HP;go_wp2;exact ZM (v:=.agg (stA D a1 a2 a3 a4 a5 a6 a8 a9 c1 c2 c3 c4 c5 c6 c8 c9).toArray) (by simp[results,Tryz.results19,go_sem,t0,t1,t2,t3,t4,t5,t6,t7,t8,t9,stA]) rfl gY.out
  case true=>
  go_wp2_with fail;refine(vad p a len cap zs 5 _ E8.src Q Q).mono ?_;rintro q w9 ⟨n9,rfl,l9,u9,S9,g9⟩;have E9:=E8.draw S9 g9;have O9:=O8.drawn g9 J9;clear E8 O8 S9 g9;have⟨s1,s2,s3,s4⟩:=O9.rows;by_cases h0:n9=0
  case pos=>
   subst h0;have pG:=ZA w9 (G #[J 0,J 900000,J 900001] 2);go_wp2_with fail;refine(vad p a len cap zs 3 _ (E9.src.grown pG) Q Q).mono ?_;rintro q jC ⟨qh,rfl,Ff,Ln,lJ,kL⟩;obtain⟨xG,rfl⟩:=Int.eq_ofNat_of_zero_le Ff;have gX:=(E9.below pG).draw lJ kL;have nN:=(O9.below pG).drawn kL J9;have yh:=kL.cell (a:=(O w9.heap.size xG)) (vc9 w9 2 [0,900000,900001] xG RO) (by have:=E9.src.lt;simp;omega);generalize ([0,900000,900001]:List Int).getD xG 0=sQ at *;have j0:=(C6 gX.var).c 0 rfl;have jf0:=(C6 gX.var).f 0 rfl;have fj:vaj p a len cap zs w _ g (stA ⟨sQ,D.YT,D.YS,D.cur,D.vs,D.ix⟩ a1 a2 a3 a4 a5 a6 a8 a9 c1 c2 c3 c4 c5 c6 c8 c9):=gX.set 0 (J sQ);have⟨s1,s2,s3,s4⟩:=(nN.vcp (j:=0) (u:=J sQ) gX.var).rows;have mM:KM (w.heap.size+1) (jC.setCell (O g 0) (J sQ)) (.agg (stA ⟨sQ,D.YT,D.YS,D.cur,D.vs,D.ix⟩ a1 a2 a3 a4 a5 a6 a8 a9 c1 c2 c3 c4 c5 c6 c8 c9).toArray) ⟨sQ,D.YT,D.YS,D.cur,D.vs,D.ix⟩:=⟨a1,a2,a3,a4,a5,a6,a8,a9,c1,c2,c3,c4,c5,c6,c8,c9,rfl,s1,s2,s3,s4⟩;clear E9 gX O9 nN lJ kL pG;have⟨v0,v1,v2,v3,v4,v5,v6,v7,v8,v9⟩:=(C6 fj.var).ZS;have⟨r0,r1,r2,r3,r4,r5,r6,r7,r8,r9⟩:=fj.res.ZS;have⟨f0,f1,f2,f3,f4,f5,f6,f7,f8,f9⟩:=fj.res.vaV;have⟨X,hX,⟨t0,t1,t2,t3,t4,t5,t6,t7,t8,t9⟩,HP⟩:=fj.fin mM ⟨cG.ok.YT,cG.ok.YS,cG.ok.vs,cG.ok.vl,cG.ok.xl⟩;have gY:=ZE HP;clear HP;go_wp2;exact ZM (v:=.agg (stA ⟨sQ,D.YT,D.YS,D.cur,D.vs,D.ix⟩ a1 a2 a3 a4 a5 a6 a8 a9 c1 c2 c3 c4 c5 c6 c8 c9).toArray) (by simp[results,Tryz.results19,go_sem,t0,t1,t2,t3,t4,t5,t6,t7,t8,t9,stA]) rfl gY.out
  case neg=>
  have kA:(n9==0)=false:=by simpa using h0
  by_cases h1:n9=1
  case pos=>
   subst h1;go_wp2_with fail;refine(vad p a len cap zs 4 _ E9.src Q Q).mono ?_;rintro q jC ⟨qh,rfl,Ff,Ln,lJ,kL⟩;have gX:=E9.draw lJ kL;have nN:=O9.drawn kL J9;have j7:=(C6 gX.var).c 7 rfl;have jf7:=(C6 gX.var).f 7 rfl;have fj:vaj p a len cap zs w _ g (stA ⟨D.tx,D.YT,D.YS,qh,D.vs,D.ix⟩ a1 a2 a3 a4 a5 a6 a8 a9 c1 c2 c3 c4 c5 c6 c8 c9):=gX.set 7 (J qh);have⟨s1,s2,s3,s4⟩:=(nN.vcp (j:=7) (u:=J qh) gX.var).rows;have mM:KM (w.heap.size+1) (jC.setCell (O g 7) (J qh)) (.agg (stA ⟨D.tx,D.YT,D.YS,qh,D.vs,D.ix⟩ a1 a2 a3 a4 a5 a6 a8 a9 c1 c2 c3 c4 c5 c6 c8 c9).toArray) ⟨D.tx,D.YT,D.YS,qh,D.vs,D.ix⟩:=⟨a1,a2,a3,a4,a5,a6,a8,a9,c1,c2,c3,c4,c5,c6,c8,c9,rfl,s1,s2,s3,s4⟩;clear E9 gX O9 nN lJ kL;have⟨v0,v1,v2,v3,v4,v5,v6,v7,v8,v9⟩:=(C6 fj.var).ZS;have⟨r0,r1,r2,r3,r4,r5,r6,r7,r8,r9⟩:=fj.res.ZS;have⟨f0,f1,f2,f3,f4,f5,f6,f7,f8,f9⟩:=fj.res.vaV;have⟨X,hX,⟨t0,t1,t2,t3,t4,t5,t6,t7,t8,t9⟩,HP⟩:=fj.fin mM ⟨cG.ok.YT,cG.ok.YS,cG.ok.vs,cG.ok.vl,cG.ok.xl⟩;have gY:=ZE HP;clear HP;go_wp2;exact ZM (v:=.agg (stA ⟨D.tx,D.YT,D.YS,qh,D.vs,D.ix⟩ a1 a2 a3 a4 a5 a6 a8 a9 c1 c2 c3 c4 c5 c6 c8 c9).toArray) (by simp[results,Tryz.results19,go_sem,t0,t1,t2,t3,t4,t5,t6,t7,t8,t9,stA]) rfl gY.out
  case neg=>
  have aX:(n9==1)=false:=by simpa using h1
  by_cases h2:n9=2
  case pos=>
   subst h2;have pG:=ZA w9 (G #[J 5,J 1] 76);have j9:=(C6 E9.var).c 9 rfl
   have HR:Hid (vaS (w9.alloc (G #[J 5,J 1] 76)) (U (some (O w9.heap.size 0)) 1 1) 2 1 [J 5,J 1]):=⟨rfl,by intro u hu;simp at hu;rcases hu with rfl|rfl<;>rfl,_,_,rfl,M,λW hb O e j u hu=>by
    obtain rfl:=Z9 e;have h:=Ka w9 [J 5,J 1] 76 j u hu;rw[vby]at h ⊢
    exact YR hb h⟩
   have o4:=nO s4 (G #[J 5,J 1] 76);have o3:=nO s3 (G #[J 5,J 1] 76);have Sh:=cG.xl;have Rt:w.heap.size+1<=w9.heap.size:=Nat.le_of_lt (Nat.lt_of_le_of_lt E9.ge (LQ E9.var));go_wp2_with (first|(at_builtin;refine veF (w:=w9.alloc (G #[J 5,J 1] 76)) rfl _ _ 29 rfl Tryz.underlying29 jft rfl Q Q _ D.ix.length (D.ix.map ZY.cs).flatten rfl o4 rfl HR.out (ZU _ _) ?qb ?qc ?_)|fail)
   case qb=>omega
   case qc=>simp;omega
   intro vn jC ho dp;obtain⟨an,cn,rfl⟩:=vao ho;have gX:=(E9.below pG).app o4 RN dp;have n1:=(s1.below pG).app o4 (by unfold vbo;decide) dp;have n2:=(s2.below pG).app o4 (by unfold vbo;decide) dp;have n3:=vfK o3 o4 RN dp;have k9:=(C6 gX.var).c 9 rfl;have Oh:=(C6 gX.var).f 9 rfl;have fj:vaj p a len cap zs w _ g _:=gX.set 9 (U an (D.ix.length+1) cn);have hl:D.ix.length+1=(D.ix++[(⟨5,1⟩:ZY)]).length:=M;have nN:KM (w.heap.size+1) jC (.agg (stA ⟨D.tx,D.YT,D.YS,D.cur,D.vs,D.ix++[⟨5,1⟩]⟩ a1 a2 a3 a4 a5 a6 a8 an c1 c2 c3 c4 c5 c6 c8 cn).toArray) ⟨D.tx,D.YT,D.YS,D.cur,D.vs,D.ix++[⟨5,1⟩]⟩:=⟨a1,a2,a3,a4,a5,a6,a8,an,c1,c2,c3,c4,c5,c6,c8,cn,rfl,n1,n2,n3,by rw[<- hl,MZ,List.flatten_append];simpa [ZY.cs]using ho⟩;have fj:vaj p a len cap zs w (jC.setCell (O g 9) (U an (D.ix.length+1) cn)) g (stA ⟨D.tx,D.YT,D.YS,D.cur,D.vs,D.ix++[⟨5,1⟩]⟩ a1 a2 a3 a4 a5 a6 a8 an c1 c2 c3 c4 c5 c6 c8 cn):=by
    have e:=fj;simp only[List.set_cons_succ,List.set_cons_zero]at e;simp only[stA, <- hl];exact e
   have mM:=nN.vcp (j:=9) (u:=U an (D.ix.length+1) cn) gX.var;have sX:Zr ⟨D.tx,D.YT,D.YS,D.cur,D.vs,D.ix++[⟨5,1⟩]⟩:=⟨cG.ok.YT,cG.ok.YS,cG.ok.vs,cG.ok.vl,by show(D.ix++[(⟨5,1⟩:ZY)]).length<=_;rw[<- hl];omega⟩;generalize D.ix++[(⟨5,1⟩:ZY)]=ix2 at *;rw[hl]at fj mM ho ⊢;clear E9 gX O9 nN n1 n2 n3 s1 s2 s3 s4 o3 o4 ho dp pG j9 HR;have⟨v0,v1,v2,v3,v4,v5,v6,v7,v8,v9⟩:=(C6 fj.var).ZS;have⟨r0,r1,r2,r3,r4,r5,r6,r7,r8,r9⟩:=fj.res.ZS;have⟨f0,f1,f2,f3,f4,f5,f6,f7,f8,f9⟩:=fj.res.vaV;have⟨X,hX,⟨t0,t1,t2,t3,t4,t5,t6,t7,t8,t9⟩,HP⟩:=fj.fin mM sX;have gY:=ZE HP;clear HP;go_wp2;exact ZM (v:=.agg (stA ⟨D.tx,D.YT,D.YS,D.cur,D.vs,ix2⟩ a1 a2 a3 a4 a5 a6 a8 an c1 c2 c3 c4 c5 c6 c8 cn).toArray) (by simp[results,Tryz.results19,go_sem,t0,t1,t2,t3,t4,t5,t6,t7,t8,t9,stA]) rfl gY.out
  case neg=>
  have cU:(n9==2)=false:=by simpa using h2
  by_cases h3:n9=3
  case pos=>
   subst h3;have Sf:=cG.vl;have j8:=(C6 E9.var).c 8 rfl;have jf8:=(C6 E9.var).f 8 rfl;by_cases dQ:0<D.vs.length
   case neg=>
    have ej:¬(0:Int)<(D.vs.length:Int):=Q;clear s1 s2 s3 s4;have⟨v0,v1,v2,v3,v4,v5,v6,v7,v8,v9⟩:=(C6 E9.var).ZS;have⟨r0,r1,r2,r3,r4,r5,r6,r7,r8,r9⟩:=E9.res.ZS;have⟨f0,f1,f2,f3,f4,f5,f6,f7,f8,f9⟩:=E9.res.vaV;have⟨X,hX,⟨t0,t1,t2,t3,t4,t5,t6,t7,t8,t9⟩,HP⟩:=E9.fin O9 cG.ok;have gY:=ZE HP;clear HP;go_wp2;exact ZM (v:=.agg (stA D a1 a2 a3 a4 a5 a6 a8 a9 c1 c2 c3 c4 c5 c6 c8 c9).toArray) (by simp[results,Tryz.results19,go_sem,t0,t1,t2,t3,t4,t5,t6,t7,t8,t9,stA]) rfl gY.out
   case pos=>
    have ej:(0:Int)<(D.vs.length:Int):=Q;have⟨x,hx⟩:=DV dQ;have vV:=cG.ok.vs x (ui hx);obtain⟨gv,o,rfl,hc⟩:=(vbC s3 (λ_=>rfl)).1.at (i:=0) (r:=x.cs) (by rw[Z8,hx];rfl);obtain⟨xt,xg,xi,xn,xz,xw,xp,xf⟩:=x;have k0:w9.cell? (O gv o)=some (J xt):=by simpa using hc 0 _ rfl
    have k1:w9.cell? (O gv (o+1))=some (.bool xg):=by simpa using hc 1 _ rfl
    have k2:w9.cell? (O gv (o+2))=some (J xi):=by simpa using hc 2 _ rfl
    have k3:w9.cell? (O gv (o+3))=some (I xn):=by simpa using hc 3 _ rfl
    have k4:w9.cell? (O gv (o+4))=some (I xz):=by simpa using hc 4 _ rfl
    have k5:w9.cell? (O gv (o+5))=some (J xw):=by simpa using hc 5 _ rfl
    have k6:w9.cell? (O gv (o+6))=some (J xp):=by simpa using hc 6 _ rfl
    have k7:w9.cell? (O gv (o+7))=some (J xf):=by simpa using hc 7 _ rfl
    have⟨Qt,vi,Qy,QC,QF⟩:=ji0;have hlt:=LQ E9.var;have K7:=E9.ge;have xj:some g≠(U (some (O gv o)) D.vs.length c8).ownBlock:=λe=>by
     have⟨ds,hd⟩:=vbs s3 e.symm;rw[E9.var]at hd;simp at hd
    have ba:∀o,Bw w9 (w9.drew.alloc o):=λo=>(show Bw w9 w9.drew from rW w9).alloc (ZD _) o
    have HS:=ZE (And.intro E9 (And.intro s1 (And.intro s2 s4)));clear E9 O9 hc hx s1 s2 s4;go_upto_region 19 with fail
    go_region_law (refine vez Si (.tmp 65) (.tmp 70) 28 Si (w.heap.size+1) 82 Qt (.agg #[J 0,.bool false,J 0,Rn,Rn,J 0,J 0,J 0]) 8 80 Tryz.underlying28 vi Qy QC QF rfl Q (U (some (O gv o)) D.vs.length c8) D.vs.length (D.vs.map ZN.cs).flatten Si (nO (w:=w9.drew) s3 _) (O w9.heap.size 0) 1 1 [J xt,.bool xg,J xi,I xn,I xz,J xw,J xp,J xf] Si rfl (Ka _ _ _) (by intro u hu;simp at hu;rcases hu with rfl|rfl|rfl|rfl|rfl|rfl|rfl|rfl<;>rfl) (by unfold maxLen;omega) Q RO ?_;intro vn jC ho dp;obtain⟨an,cn,rfl⟩:=vao ho;have x1:=dp.cell (a:=(O g 8)) (YR (ba _) j8) xj;have x2:=(dp.frozen_far (O g 8) RO xj).trans (((Z4 (ba _)).2 _ _ hlt).trans jf8))
    all_goals
     have⟨E9,s1,s2,s4⟩:=HS.out;have o3:=nO (w:=w9.drew) s3 (G #[J xt,.bool xg,J xi,I xn,I xz,J xw,J xp,J xf] 82);have o4:=nO (w:=w9.drew) s4 (G #[J xt,.bool xg,J xi,I xn,I xz,J xw,J xp,J xf] 82);have gX:=(E9.below (ba _)).app o3 RN dp;have n1:=(s1.below (ba _)).app o3 (by unfold vbo;decide) dp;have n2:=(s2.below (ba _)).app o3 (by unfold vbo;decide) dp;have n4:=vfK o4 o3 RN dp;have fj:=gX.set 8 (U an (D.vs.length+1) cn);have hl:D.vs.length+1=(D.vs++[(⟨xt,xg,xi,xn,xz,xw,xp,xf⟩:ZN)]).length:=M;have nN:KM (w.heap.size+1) jC (.agg (stA ⟨D.tx,D.YT,D.YS,D.cur,D.vs++[⟨xt,xg,xi,xn,xz,xw,xp,xf⟩],D.ix⟩ a1 a2 a3 a4 a5 a6 an a9 c1 c2 c3 c4 c5 c6 cn c9).toArray) ⟨D.tx,D.YT,D.YS,D.cur,D.vs++[⟨xt,xg,xi,xn,xz,xw,xp,xf⟩],D.ix⟩:=⟨a1,a2,a3,a4,a5,a6,an,a9,c1,c2,c3,c4,c5,c6,cn,c9,rfl,n1,n2,by rw[<- hl,MZ,List.flatten_append];simpa [ZN.cs]using ho,n4⟩;have fj:vaj p a len cap zs w (jC.setCell (O g 8) (U an (D.vs.length+1) cn)) g (stA ⟨D.tx,D.YT,D.YS,D.cur,D.vs++[⟨xt,xg,xi,xn,xz,xw,xp,xf⟩],D.ix⟩ a1 a2 a3 a4 a5 a6 an a9 c1 c2 c3 c4 c5 c6 cn c9):=by
      have e:=fj;simp only[List.set_cons_succ,List.set_cons_zero]at e;simp only[stA, <- hl];exact e
     have mM:=nN.vcp (j:=8) (u:=U an (D.vs.length+1) cn) gX.var
     have sX:Zr ⟨D.tx,D.YT,D.YS,D.cur,D.vs++[⟨xt,xg,xi,xn,xz,xw,xp,xf⟩],D.ix⟩:=⟨cG.ok.YT,cG.ok.YS,λv hm=>by
      rcases List.mem_append.1 hm with hm|hm
      .exact cG.ok.vs v hm
      .simp at hm;subst hm;exact vV,by show(D.vs++[(⟨xt,xg,xi,xn,xz,xw,xp,xf⟩:ZN)]).length<=_;rw[<- hl];omega,cG.ok.xl⟩
     generalize D.vs++[(⟨xt,xg,xi,xn,xz,xw,xp,xf⟩:ZN)]=vs2 at *;rw[hl]at fj mM ho ⊢;clear E9 gX nN n1 n2 n4 s1 s2 s3 s4 o3 o4 ho dp j8 jf8 HS x1 x2 k0 k1 k2 k3 k4 k5 k6 k7;have⟨v0,v1,v2,v3,v4,v5,v6,v7,v8,v9⟩:=(C6 fj.var).ZS;have⟨r0,r1,r2,r3,r4,r5,r6,r7,r8,r9⟩:=fj.res.ZS;have⟨f0,f1,f2,f3,f4,f5,f6,f7,f8,f9⟩:=fj.res.vaV;have⟨X,hX,⟨t0,t1,t2,t3,t4,t5,t6,t7,t8,t9⟩,HP⟩:=fj.fin mM sX;have gY:=ZE HP;clear HP;go_wp2;exact ZM (v:=.agg (stA ⟨D.tx,D.YT,D.YS,D.cur,vs2,D.ix⟩ a1 a2 a3 a4 a5 a6 an a9 c1 c2 c3 c4 c5 c6 cn c9).toArray) (by simp[results,Tryz.results19,go_sem,t0,t1,t2,t3,t4,t5,t6,t7,t8,t9,stA]) rfl gY.out
  case neg=>
   have fw:(n9==3)=false:=by simpa using h3
   have⟨j0,j1,j2,j3,j4,j5,j6,j7,j8,j9⟩:=(C6 E9.var).ZS;have⟨jf0,jf1,jf2,jf3,jf4,jf5,jf6,jf7,jf8,jf9⟩:=(C6 E9.var).vaV;have fj:vaj p a len cap zs w _ g (stA ⟨D.tx,D.YT,D.YT,D.cur,D.vs,D.ix⟩ a1 a2 a3 a1 a2 a3 a8 a9 c1 c2 c3 c1 c2 c3 c8 c9):=((E9.set 4 (U a1 D.YT.Vv.length c1)).set 5 (U a2 D.YT.YU.length c2)).set 6 (U a3 D.YT.YW.length c3);have⟨s1,s2,s3,s4⟩:=(((O9.vcp (j:=4) (u:=U a1 D.YT.Vv.length c1) E9.var).vcp (j:=5) (u:=U a2 D.YT.YU.length c2) (E9.set 4 _).var).vcp (j:=6) (u:=U a3 D.YT.YW.length c3) ((E9.set 4 _).set 5 _).var).rows;have mM:KM (w.heap.size+1) _ (.agg (stA ⟨D.tx,D.YT,D.YT,D.cur,D.vs,D.ix⟩ a1 a2 a3 a1 a2 a3 a8 a9 c1 c2 c3 c1 c2 c3 c8 c9).toArray) ⟨D.tx,D.YT,D.YT,D.cur,D.vs,D.ix⟩:=⟨a1,a2,a3,a1,a2,a3,a8,a9,c1,c2,c3,c1,c2,c3,c8,c9,rfl,s1,s1,s3,s4⟩;have⟨Y,hY⟩:=ZL (((w9.setCell (O g 4) (U a1 D.YT.Vv.length c1)).setCell (O g 5) (U a2 D.YT.YU.length c2)).setCell (O g 6) (U a3 D.YT.YW.length c3));rw[hY]at fj mM;have Rd:=E9.src.lt;clear E9 O9 s1 s2 s3 s4;have⟨v0,v1,v2,v3,v4,v5,v6,v7,v8,v9⟩:=(C6 fj.var).ZS;have⟨r0,r1,r2,r3,r4,r5,r6,r7,r8,r9⟩:=fj.res.ZS;have⟨f0,f1,f2,f3,f4,f5,f6,f7,f8,f9⟩:=fj.res.vaV;have⟨X,hX,⟨t0,t1,t2,t3,t4,t5,t6,t7,t8,t9⟩,HP⟩:=fj.fin mM ⟨cG.ok.YT,cG.ok.YT,cG.ok.vs,cG.ok.vl,cG.ok.xl⟩;have gY:=ZE HP;clear HP;go_wp2;exact ZM (v:=.agg (stA ⟨D.tx,D.YT,D.YT,D.cur,D.vs,D.ix⟩ a1 a2 a3 a1 a2 a3 a8 a9 c1 c2 c3 c1 c2 c3 c8 c9).toArray) (by simp[results,Tryz.results19,go_sem,t0,t1,t2,t3,t4,t5,t6,t7,t8,t9,stA]) rfl gY.out
end
section
open Go.RowKit Go.Lib Go.Sort
structure DpS(p:Nat)(a:Option Addr)(len cap:Nat)(D:ZP)(w W:World)(g:Nat)(L:List Value):Prop where
 src:xu p a len cap [] W
 var:Zh W g L
 res:Zh W w.heap.size [J 0,nS,nS,nS,nS,nS,nS,J 0,nS,nS]
 sto:KM (p+1) W (.agg L.toArray) D
 ge:p<g
 lt:w.heap.size<p
 ZB:Bw w W
section
variable {p : Nat} {a : Option Addr} {len cap : Nat} {D : ZP} {w W W' : World} {g : Nat} {L : List Value}
theorem DpS.draw(h:DpS p a len cap D w W g L)(hS:xu p a len cap [] W')(hg:W.grownBy W' (some p)):DpS p a len cap D w W' g L:=by
 have h1:=h.ge;have h2:=h.lt;exact⟨hS,h.var.grown hg RO,h.res.grown hg RO,h.sto.drawn hg Q,h1,h2,h.ZB.grown hg h.ZB.size (λk hk=>by injection hk with hk;omega)⟩
theorem DpS.below(h:DpS p a len cap D w W g L)(hb:Bw W W'):DpS p a len cap D w W' g L:=⟨h.src.grown hb,h.var.below hb,h.res.below hb,h.sto.below hb,h.ge,h.lt,h.ZB.trans (hb.mono h.ZB.size)⟩
theorem DpS.fin(h:DpS p a len cap D w W g [l0,l1,l2,l3,l4,l5,l6,l7,l8,l9]):∃X,((((((((((W.setCell (O w.heap.size 0) (l0)).setCell (O w.heap.size 1) (l1)).setCell (O w.heap.size 2) (l2)).setCell (O w.heap.size 3) (l3)).setCell (O w.heap.size 4) (l4)).setCell (O w.heap.size 5) (l5)).setCell (O w.heap.size 6) (l6)).setCell (O w.heap.size 7) (l7)).setCell (O w.heap.size 8) (l8)).setCell (O w.heap.size 9) (l9))=X/\(X.cell? (O w.heap.size 0)=some l0/\X.cell? (O w.heap.size 1)=some l1/\X.cell? (O w.heap.size 2)=some l2/\X.cell? (O w.heap.size 3)=some l3/\X.cell? (O w.heap.size 4)=some l4/\X.cell? (O w.heap.size 5)=some l5/\X.cell? (O w.heap.size 6)=some l6/\X.cell? (O w.heap.size 7)=some l7/\X.cell? (O w.heap.size 8)=some l8/\X.cell? (O w.heap.size 9)=some l9)/\Jd X (.agg #[l0,l1,l2,l3,l4,l5,l6,l7,l8,l9]) D/\Bw w X:=by
 have h2:=h.lt;have⟨X,hX,K⟩:=vaQ w.heap.size W [(0,l0),(1,l1),(2,l2),(3,l3),(4,l4),(5,l5),(6,l6),(7,l7),(8,l8),(9,l9)];exact⟨X,hX,Zh.ZS (K.var _ h.res),(h.sto.keep λk h1 _=>K.blk k Q).st,K.ZB _ _ (ZD _) h.ZB⟩
theorem DpS.vhi{m0 m1 m2 m3 m4 m5:Value}(h:DpS p a len cap D w W g [l0,l1,l2,l3,l4,l5,l6,l7,l8,l9])(he:Zh W (w.heap.size+1) [J 0,Rn,Rn,J 0,J 0,J 0])(hp:p=w.heap.size+1+1):∃X,((((((((((((((((W.setCell (O w.heap.size 0) (l0)).setCell (O w.heap.size 1) (l1)).setCell (O w.heap.size 2) (l2)).setCell (O w.heap.size 3) (l3)).setCell (O w.heap.size 4) (l4)).setCell (O w.heap.size 5) (l5)).setCell (O w.heap.size 6) (l6)).setCell (O w.heap.size 7) (l7)).setCell (O w.heap.size 8) (l8)).setCell (O w.heap.size 9) (l9)).setCell (O (w.heap.size+1) 0) (m0)).setCell (O (w.heap.size+1) 1) (m1)).setCell (O (w.heap.size+1) 2) (m2)).setCell (O (w.heap.size+1) 3) (m3)).setCell (O (w.heap.size+1) 4) (m4)).setCell (O (w.heap.size+1) 5) (m5))=X/\(X.cell? (O w.heap.size 0)=some l0/\X.cell? (O w.heap.size 1)=some l1/\X.cell? (O w.heap.size 2)=some l2/\X.cell? (O w.heap.size 3)=some l3/\X.cell? (O w.heap.size 4)=some l4/\X.cell? (O w.heap.size 5)=some l5/\X.cell? (O w.heap.size 6)=some l6/\X.cell? (O w.heap.size 7)=some l7/\X.cell? (O w.heap.size 8)=some l8/\X.cell? (O w.heap.size 9)=some l9)/\(X.cell? (O (w.heap.size+1) 0)=some m0/\X.cell? (O (w.heap.size+1) 1)=some m1/\X.cell? (O (w.heap.size+1) 2)=some m2/\X.cell? (O (w.heap.size+1) 3)=some m3/\X.cell? (O (w.heap.size+1) 4)=some m4/\X.cell? (O (w.heap.size+1) 5)=some m5)/\Jd X (.agg #[l0,l1,l2,l3,l4,l5,l6,l7,l8,l9]) D/\Bw w X:=by
 have⟨X,hX,K⟩:=vaQ w.heap.size W [(0,l0),(1,l1),(2,l2),(3,l3),(4,l4),(5,l5),(6,l6),(7,l7),(8,l8),(9,l9)];have⟨Y,hY,K2⟩:=vaQ (w.heap.size+1) X [(0,m0),(1,m1),(2,m2),(3,m3),(4,m4),(5,m5)];rw[<- hX]at hY;exact⟨Y,hY,Zh.ZS (K2.oth _ _ Q (K.var _ h.res)),Zh.six (K2.var _ (K.oth _ _ Q he)),(h.sto.keep λk h1 _=>(K2.blk k Q).trans (K.blk k Q)).st,K2.ZB _ _ Q (K.ZB _ _ (ZD _) h.ZB)⟩
end
structure DuP(w:World)(q:Ending)(w':World):Prop where
 ex:∃D a1 a2 a3 a4 a5 a6 a8 a9 c1 c2 c3 c4 c5 c6 c8 c9 ev,q=V (.tuple #[.agg (stA D a1 a2 a3 a4 a5 a6 a8 a9 c1 c2 c3 c4 c5 c6 c8 c9).toArray,Ze.v ev])/\Jd w' (.agg (stA D a1 a2 a3 a4 a5 a6 a8 a9 c1 c2 c3 c4 c5 c6 c8 c9).toArray) D/\Zr D/\ev.name.size<=100/\ev.YZ.size<=100/\0<=ev.id/\ev.id<=1000001
 ZB:Bw w w'
structure DdP(w:World)(q:Ending)(w':World):Prop where
 ex:∃D a1 a2 a3 a4 a5 a6 a8 a9 c1 c2 c3 c4 c5 c6 c8 c9 id,q=V (.tuple #[.agg (stA D a1 a2 a3 a4 a5 a6 a8 a9 c1 c2 c3 c4 c5 c6 c8 c9).toArray,J id])/\Jd w' (.agg (stA D a1 a2 a3 a4 a5 a6 a8 a9 c1 c2 c3 c4 c5 c6 c8 c9).toArray) D/\Zr D/\0<=id/\id<8
 ZB:Bw w w'
theorem vg7(a:Option Addr)(len cap:Nat)(w:World)(h:vbn w a len)(hl:len<=1048576):
  C 13 #[U a len cap] w (DdP w):=by
 have b0:=ZA w (G #[J 0,nS,nS,nS,nS,nS,nS,J 0,nS,nS] 31);have V0:=Zh.new w [J 0,nS,nS,nS,nS,nS,nS,J 0,nS,nS] 31;have h0:=h.grown b0;clear h;unfold C;go_in;go_wp2_with fail;refine(vgk a len cap _ h0 hl).mono ?_;rintro q w1 ⟨rfl,S1,b1⟩;rw[World.size_alloc]at S1 ⊢;have V1:=V0.below b1;have B1:=Zp b0 b1;clear b0 b1 V0 h0;go_wp2_with fail;refine(vgl (w.heap.size+1) a len cap [] _ S1).mono ?_;rintro q w2 iB;obtain⟨D,a1,a2,a3,a4,a5,a6,a8,a9,c1,c2,c3,c4,c5,c6,c8,c9,rfl,O2,cG⟩:=iB.ex;have g2:=iB.gr;have l1:=S1.lt;have b3:=ZA w2 (G (stA D a1 a2 a3 a4 a5 a6 a8 a9 c1 c2 c3 c4 c5 c6 c8 c9).toArray 31);have B2:Bw w w2:=B1.grown g2 Q (λk hk=>by injection hk with hk;omega);have E3:DpS (w.heap.size+1) a len cap D w _ w2.heap.size (stA D a1 a2 a3 a4 a5 a6 a8 a9 c1 c2 c3 c4 c5 c6 c8 c9):=⟨iB.src.grown b3,Zh.new w2 _ _,(V1.grown g2 M).below b3,(O2.mono Q).below b3,Nat.lt_of_lt_of_le l1 g2.size,Q,(Zp B2 b3)⟩;have⟨g,hg⟩:=ZL w2.heap.size;clear iB O2 g2 l1 b3 B1 B2 V1 S1;rw[hg]at E3;have⟨w6,qO⟩:=ZL (w2.alloc (G (stA D a1 a2 a3 a4 a5 a6 a8 a9 c1 c2 c3 c4 c5 c6 c8 c9).toArray 31));rw[qO]at E3;have E7:=E3.below (rW w6);have Ei:g≠w.heap.size:=by have:=E7.ge;omega
 have Ob:w.heap.size≠g:=λe=>Ei e.symm
 have⟨x0,x1,x2,x3,x4,x5,x6,x7,x8,x9⟩:=E7.var.ZS;clear E3;go_wp2_with fail;clear qO hg;go_region_held3 (λw'=>w'.cell? (O g 0)=some (J D.tx)/\w'.cell? (O g 1)=some (U a1 D.YT.Vv.length c1)/\w'.cell? (O g 2)=some (U a2 D.YT.YU.length c2)/\w'.cell? (O g 3)=some (U a3 D.YT.YW.length c3)/\w'.cell? (O g 4)=some (U a4 D.YS.Vv.length c4)/\w'.cell? (O g 5)=some (U a5 D.YS.YU.length c5)/\w'.cell? (O g 6)=some (U a6 D.YS.YW.length c6)/\w'.cell? (O g 7)=some (J D.cur)/\w'.cell? (O g 8)=some (U a8 D.vs.length c8)/\w'.cell? (O g 9)=some (U a9 D.ix.length c9)) (go_keep) ((go_at_call 37;refine(vad (w.heap.size+1) a len cap [] 8 _ E7.src Q Q).mono ?_;rintro q w8 ⟨n8,rfl,l8,u8,S8,g8⟩;have E9:=E7.draw S8 g8;have⟨y0,y1,y2,y3,y4,y5,y6,y7,y8,y9⟩:=E9.var.ZS;have⟨r0,r1,r2,r3,r4,r5,r6,r7,r8,r9⟩:=E9.res.ZS;have⟨f0,f1,f2,f3,f4,f5,f6,f7,f8,f9⟩:=E9.res.vaV))
 all_goals
  clear x0 x1 x2 x3 x4 x5 x6 x7 x8 x9 y0 y1 y2 y3 y4 y5 y6 y7 y8 y9 E7 S8 g8;have⟨X,hX,⟨t0,t1,t2,t3,t4,t5,t6,t7,t8,t9⟩,od,nR⟩:=E9.fin;have HX:=ZE (And.intro od nR);clear od nR E9;rw[hX];go_wp2;exact ZM (v:=.tuple #[.agg (stA D a1 a2 a3 a4 a5 a6 a8 a9 c1 c2 c3 c4 c5 c6 c8 c9).toArray,J n8]) (by simp[results,Tryz.results13,go_sem,t0,t1,t2,t3,t4,t5,t6,t7,t8,t9,stA]) rfl ⟨⟨D,a1,a2,a3,a4,a5,a6,a8,a9,c1,c2,c3,c4,c5,c6,c8,c9,n8,rfl,HX.out.1,cG,l8,u8⟩,HX.out.2⟩
theorem vg8(a:Option Addr)(len cap:Nat)(w:World)(h:vbn w a len)(hl:len<=1048576):
  C 4 #[U a len cap] w (DuP w):=by
 have⟨w0,KR,B0,V0,Q0,z0⟩:=vb3 w [J 0,nS,nS,nS,nS,nS,nS,J 0,nS,nS] [J 0,Rn,Rn,J 0,J 0,J 0] 31 33;have h0:=h.grown B0;clear h;unfold C;go_in;go_wp2_with fail;clear KR;refine(vgk a len cap _ h0 hl).mono ?_;rintro q w1 ⟨rfl,S1,b1⟩;rw[z0]at S1 ⊢;have V1:=V0.below b1;have Q1:=Q0.below b1;have B1:=Zp B0 b1;clear B0 b1 V0 Q0 h0 z0;go_wp2_with fail;refine(vgl (w.heap.size+1+1) a len cap [] _ S1).mono ?_;rintro q w2 iB;obtain⟨D,a1,a2,a3,a4,a5,a6,a8,a9,c1,c2,c3,c4,c5,c6,c8,c9,rfl,O2,cG⟩:=iB.ex;have g2:=iB.gr;have l1:=S1.lt;have b3:=ZA w2 (G (stA D a1 a2 a3 a4 a5 a6 a8 a9 c1 c2 c3 c4 c5 c6 c8 c9).toArray 31);have B2:Bw w w2:=B1.grown g2 Q (λk hk=>by injection hk with hk;omega);have E3:DpS (w.heap.size+1+1) a len cap D w _ w2.heap.size (stA D a1 a2 a3 a4 a5 a6 a8 a9 c1 c2 c3 c4 c5 c6 c8 c9):=⟨iB.src.grown b3,Zh.new w2 _ _,(V1.grown g2 RO).below b3,(O2.mono Q).below b3,Nat.lt_of_lt_of_le l1 g2.size,Q,(Zp B2 b3)⟩;have Q3:=(Q1.grown g2 M).below b3;have⟨g,hg⟩:=ZL w2.heap.size;clear iB O2 g2 l1 b3 B1 B2 V1 Q1 S1;rw[hg]at E3;have⟨w6,qO⟩:=ZL (w2.alloc (G (stA D a1 a2 a3 a4 a5 a6 a8 a9 c1 c2 c3 c4 c5 c6 c8 c9).toArray 31));rw[qO]at E3 Q3;have E7:=E3.below (rW w6);have Q7:=Q3.below (rW w6);have Ei:g≠w.heap.size:=by have:=E7.ge;omega
 have Ob:w.heap.size≠g:=λe=>Ei e.symm
 have UI:g≠w.heap.size+1:=by have:=E7.ge;omega
 have VU:w.heap.size+1≠g:=λe=>UI e.symm
 have⟨x0,x1,x2,x3,x4,x5,x6,x7,x8,x9⟩:=E7.var.ZS;clear E3 Q3;go_wp2_with fail;clear qO hg;go_region_held3 (λw'=>w'.cell? (O g 0)=some (J D.tx)/\w'.cell? (O g 1)=some (U a1 D.YT.Vv.length c1)/\w'.cell? (O g 2)=some (U a2 D.YT.YU.length c2)/\w'.cell? (O g 3)=some (U a3 D.YT.YW.length c3)/\w'.cell? (O g 4)=some (U a4 D.YS.Vv.length c4)/\w'.cell? (O g 5)=some (U a5 D.YS.YU.length c5)/\w'.cell? (O g 6)=some (U a6 D.YS.YW.length c6)/\w'.cell? (O g 7)=some (J D.cur)/\w'.cell? (O g 8)=some (U a8 D.vs.length c8)/\w'.cell? (O g 9)=some (U a9 D.ix.length c9)) (go_keep) ((go_at_call 20;refine(vgj (w.heap.size+1+1) a len cap [] _ E7.src).mono ?_;rintro q w8 ⟨⟨e1,e2,e3,e4,e5,e6⟩,rfl,z1,z2,⟨i0,i1⟩,S8,g8⟩;have E9:=E7.draw S8 g8;have Q9:=Q7.grown g8 M;simp only[Ze.v];have⟨y0,y1,y2,y3,y4,y5,y6,y7,y8,y9⟩:=E9.var.ZS;have⟨r0,r1,r2,r3,r4,r5,r6,r7,r8,r9⟩:=E9.res.ZS;have⟨f0,f1,f2,f3,f4,f5,f6,f7,f8,f9⟩:=E9.res.vaV;have⟨p0,p1,p2,p3,p4,p5⟩:=Q9.six;have⟨q0,q1,q2,q3,q4,q5⟩:=Q9.vdd))
 all_goals
  clear x0 x1 x2 x3 x4 x5 x6 x7 x8 x9 y0 y1 y2 y3 y4 y5 y6 y7 y8 y9 E7 S8 g8 Q7;have⟨X,hX,⟨t0,t1,t2,t3,t4,t5,t6,t7,t8,t9⟩,⟨u0,u1,u2,u3,u4,u5⟩,od,nR⟩:=E9.vhi (m0:=J e1) (m1:=I e2) (m2:=I e3) (m3:=J e4) (m4:=J e5) (m5:=J e6) Q9 rfl;have HX:=ZE (And.intro od nR);clear od nR E9 Q9;rw[hX];go_wp2;exact ZM (v:=.tuple #[.agg (stA D a1 a2 a3 a4 a5 a6 a8 a9 c1 c2 c3 c4 c5 c6 c8 c9).toArray,.agg #[J e1,I e2,I e3,J e4,J e5,J e6]]) (by simp[results,Tryz.results4,go_sem,t0,t1,t2,t3,t4,t5,t6,t7,t8,t9,u0,u1,u2,u3,u4,u5,stA]) rfl ⟨⟨D,a1,a2,a3,a4,a5,a6,a8,a9,c1,c2,c3,c4,c5,c6,c8,c9,⟨e1,e2,e3,e4,e5,e6⟩,rfl,HX.out.1,cG,z1,z2,i0,i1⟩,HX.out.2⟩
