import Derived.Test.YtmkjofknhdikpaaGreatDoorQBd
import Derived.Test.YtmkjofknhdikpaaGreatDoorRdEd
import Derived.Test.YtmkjofknhdikpaaGreatDoorDrPd
set_option maxRecDepth 20000
set_option maxHeartbeats 0
set_option linter.unusedSimpArgs false
open Go.RowKit
namespace Go.Proofs.YtmkjofknhdikpaaGreatDoor
variable{l0 l1 l2 l3 l4 l5 l6 l7 l8 l9 u v:Value}{tt:Array Value}{e:TypeId}{c1 c2 c3 c4 c5 c6 c8 c9 n q:Nat}{xs:List Value}{l:List Up}{t:Int}{x:TD}{a1 a2 a3 a4 a5 a6 a8 a9:Option Addr}
section
open Go.RowKit Go.Lib Go.Sort
theorem Vl.but{B g:Nat}{w W':World}{r:Un}(h:Vl B w v r)(hg:w.heap[g]? =some (G tt 31 (0,0)))(hk:∀k,B<=k->k<w.heap.size->k≠g->W'.heap[k]? =w.heap[k]?):Vl B W' v r:=h.keep λk cs t ht h1 h2=>(hk k h1 (Vt h2) (va2 h2 hg (λe=>by injection e with _ e;exact vbL (e ▸ ht)))).trans h2
theorem vbk{B g:Nat}{w W':World}(h:w.ownsRow B e q v n xs)(hg:w.heap[g]? =some (G tt 31 (0,0)))(he:e≠31)(hk:∀k,B<=k->k<w.heap.size->k≠g->W'.heap[k]? =w.heap[k]?):W'.ownsRow B e q v n xs:=YV h λk cs h1 h2=>(hk k h1 (Vt h2) (va2 h2 hg (λe=>by injection e with _ e;exact he e))).trans h2
structure vbw(s:Uo)(R:Un)(w W:World)(PV RV XV:List Value)(gx:Nat)(xr lv:Value):Prop where
 par:Zh W w.heap.size PV
 res:Zh W (w.heap.size+1) RV
 rel:Zh W gx XV
 new:Vl (w.heap.size+1+1) W xr R
 live:Jb W (w.heap.size+1+1) lv (Uf s.vs)
 ge:w.heap.size+1+1<=gx
 TQ:Bw w W
theorem vbw.below{s:Uo}{R:Un}{w W W':World}{PV RV XV:List Value}{gx:Nat}{xr lv:Value}(h:vbw s R w W PV RV XV gx xr lv)(hb:Bw W W'):vbw s R w W' PV RV XV gx xr lv:=⟨h.par.below hb,h.res.below hb,h.rel.below hb,h.new.below hb,UG h.live hb,h.ge,h.TQ.trans (hb.mono h.TQ.size)⟩
theorem vhi(s:Uo)(v:Value)(tx:ByteArray)(w:World)(hv:Jd w v s)(ok:Zr s)(Ha:tx.size<=50000)(vd:s.vs.length<=1000)(fG:s.ix.length<=1000)(hE:Vi s=true->s.vs.length<=60/\(Uf s.vs).length<=30):
  C 37 #[v,I tx] w (va9 w):=by
 have dQ:=hv;obtain⟨a,b,c,d,e,f,va,ia,ca,cb,cc,cd,ce,cf,cv,ci,rfl,_,_,hV,_,_,_⟩:=hv.form;have⟨w0,KR,ag,A0,R0,z0⟩:=vcp w (stA s a b c d e f va ia ca cb cc cd ce cf cv ci);have q1:=jh8 s _ _ (dQ.below ag) ok;have⟨x0,x1,x2,x3,x4,x5,x6,x7,x8,x9⟩:=A0.UA;by_cases MG:8000<tx.size
 case pos=>
  have MF:(8000:Int)<(tx.size:Int):=Q;delta C;go_in;have⟨r0,r1,r2,r3,r4,r5,r6,r7,r8,r9,lw,mv⟩:=R0.Wo;have⟨f0,f1,f2,f3,f4,f5,f6,f7,f8,f9,gx,l7⟩:=R0.WC;have⟨W,hW,⟨t0,t1,t2,t3,t4,t5,t6,t7,t8,t9,wJ,cq⟩,_,_,J8⟩:=R0.Yl 2;have yA:=Us (J8 _ _ Q ag);clear J8;go_wp2;exact Ue (v:=.agg #[J 0,nS,nS,nS,nS,nS,nS,J 0,nS,nS,J 0,J 2]) (by simp[results,Tryz.results37,go_sem,t0,t1,t2,t3,t4,t5,t6,t7,t8,t9,wJ,cq]) rfl ⟨VP,0,_,⟨⟨none,none,none,none,none,none,none,none,0,0,0,0,0,0,0,0,rfl,λW' _=>Yi _ W'⟩,yA.out⟩,Yk⟩
 case neg=>
 have MF:¬(8000:Int)<(tx.size:Int):=Q;delta C;go_in;go_wp2_with fail;clear KR;refine q1.mono ?_;rintro q w1 ⟨rfl,hb1⟩;have aj:=TJ ag hb1;have aH:w.heap.size+1+1<=w1.heap.size:=by rw[<- z0];exact hb1.size
 have A1:=A0.below hb1;have R1:=R0.below hb1;clear x0 x1 x2 x3 x4 x5 x6 x7 x8 x9 A0 R0 ag hb1 q1 z0;cases hs:Vi s
 case false=>
  have⟨r0,r1,r2,r3,r4,r5,r6,r7,r8,r9,lw,mv⟩:=R1.Wo;have⟨f0,f1,f2,f3,f4,f5,f6,f7,f8,f9,gx,l7⟩:=R1.WC;have⟨W,hW,⟨t0,t1,t2,t3,t4,t5,t6,t7,t8,t9,wJ,cq⟩,_,_,J8⟩:=R1.Yl 1;have yA:=Us (J8 _ _ Q aj);clear J8;go_wp2;exact Ue (v:=.agg #[J 0,nS,nS,nS,nS,nS,nS,J 0,nS,nS,J 0,J 1]) (by simp[results,Tryz.results37,go_sem,t0,t1,t2,t3,t4,t5,t6,t7,t8,t9,wJ,cq]) rfl ⟨VP,0,_,⟨⟨none,none,none,none,none,none,none,none,0,0,0,0,0,0,0,0,rfl,λW' _=>Yi _ W'⟩,yA.out⟩,Yk⟩
 case true=>
 have⟨p3,p6⟩:=hE hs;have x7:=A1.c 7 rfl;by_cases hc:s.cur=0
 case neg=>
  have cU:(s.cur==0)=false:=by simpa using hc
  have⟨r0,r1,r2,r3,r4,r5,r6,r7,r8,r9,lw,mv⟩:=R1.Wo;have⟨f0,f1,f2,f3,f4,f5,f6,f7,f8,f9,gx,l7⟩:=R1.WC;have⟨W,hW,⟨t0,t1,t2,t3,t4,t5,t6,t7,t8,t9,wJ,cq⟩,_,_,J8⟩:=R1.Yl 10;have yA:=Us (J8 _ _ Q aj);clear J8;go_wp2;exact Ue (v:=.agg #[J 0,nS,nS,nS,nS,nS,nS,J 0,nS,nS,J 0,J 10]) (by simp[results,Tryz.results37,go_sem,t0,t1,t2,t3,t4,t5,t6,t7,t8,t9,wJ,cq]) rfl ⟨VP,0,_,⟨⟨none,none,none,none,none,none,none,none,0,0,0,0,0,0,0,0,rfl,λW' _=>Yi _ W'⟩,yA.out⟩,Yk⟩
 case pos=>
 rw[hc]at x7;have hr:=vgD tx w1 Q;go_wp2_with fail;refine hr.mono ?_;rintro q w2 iB;obtain⟨ra,rb,rc,kr,ks,ku,R,ln,kd,rfl,J3,okR,ac⟩:=vgY iB;have b3:=TK w2 (G #[U ra R.Tw.length kr,U rb R.TC.length ks,U rc R.TG.length ku,J ln,J kd] 135);have X3:=Zh.new w2 [U ra R.Tw.length kr,U rb R.TC.length ks,U rc R.TG.length ku,J ln,J kd] 135;have mx:=TJ ac b3;have A3:=A1.below mx;have R3:=R1.below mx;have ax:=TJ aj mx;have eN:=(J3.mono aH).below b3;have sn:w.heap.size+1+1<=w2.heap.size:=Nat.le_trans aH ac.size;have k4:=X3.c 4 rfl;clear x7 hr iB A1 R1 J3 ac mx;by_cases tW:kd=0
 case neg=>
  have MS:(kd==0)=false:=by simpa using tW
  have⟨r0,r1,r2,r3,r4,r5,r6,r7,r8,r9,lw,mv⟩:=R3.Wo;have⟨f0,f1,f2,f3,f4,f5,f6,f7,f8,f9,gx,l7⟩:=R3.WC;have⟨W,hW,⟨t0,t1,t2,t3,t4,t5,t6,t7,t8,t9,wJ,cq⟩,_,_,J8⟩:=R3.Yl kd;have yA:=Us (J8 _ _ Q ax);clear J8;go_wp2;exact Ue (v:=.agg #[J 0,nS,nS,nS,nS,nS,nS,J 0,nS,nS,J 0,J kd]) (by simp[results,Tryz.results37,go_sem,t0,t1,t2,t3,t4,t5,t6,t7,t8,t9,wJ,cq]) rfl ⟨VP,0,_,⟨⟨none,none,none,none,none,none,none,none,0,0,0,0,0,0,0,0,rfl,λW' _=>Yi _ W'⟩,yA.out⟩,Yk⟩
 case pos=>
 subst tW;have q6:=jd1 s.vs va s.vs.length cv _ (hV.below ax) rfl Q;have x8:=A3.c 8 rfl;have⟨gx,Ej⟩:=TY w2.heap.size;go_wp2_with fail;refine q6.mono ?_;rintro q w4 ⟨lv,rfl,dX,aD⟩;rw[Ej]at X3 sn;have l3:=ax.size;have AB:w.heap.size+1+1<=(w2.alloc (G #[U ra R.Tw.length kr,U rb R.TC.length ks,U rc R.TG.length ku,J ln,J 0] 135)).heap.size:=by rw[World.size_alloc,Ej];omega
 have S4:vbw s R w w4 (stA s a b c d e f va ia ca cb cc cd ce cf cv ci) [J 0,nS,nS,nS,nS,nS,nS,J 0,nS,nS,J 0,J 0] [U ra R.Tw.length kr,U rb R.TC.length ks,U rc R.TG.length ku,J ln,J 0] gx (.agg #[U ra R.Tw.length kr,U rb R.TC.length ks,U rc R.TG.length ku]) lv:=⟨A3.below aD,R3.below aD,X3.below aD,eN.below aD,U4 dX AB,sn,(TJ ax aD)⟩;obtain⟨pl,cl,rfl,eG⟩:=jkx dX;have⟨N,hN⟩:=TY ((Uf s.vs).length);rw[hN]at S4 p6 eG ⊢;have yV:=Us S4;have HN:=Us hN;clear x8 k4 A3 R3 X3 ax eN dX aD b3 q6 S4 AB l3 aH hV hN Ej sn hc aj;go_wp2;go_loopw [7] (λs7 wr=>∃i:Nat,i<=N/\s7=J i/\Hid (vbw s R w wr (stA s a b c d e f va ia ca cb cc cd ce cf cv ci) [J 0,nS,nS,nS,nS,nS,nS,J 0,nS,nS,J 0,J 0] [U ra R.Tw.length kr,U rb R.TC.length ks,U rc R.TG.length ku,J ln,J 0] gx (.agg #[U ra R.Tw.length kr,U rb R.TC.length ks,U rc R.TG.length ku]) (U pl N cl))) (λs7 _=>N-(intOf s7).toNat)
 .exact⟨0,Q,rfl,yV⟩
 ·
  have⟨wa,dS⟩:=UL wr;subst dS;obtain⟨i,hi,rfl,HS⟩:=hrel;clear yV;by_cases hlt:i<N
  case pos=>
   obtain⟨x,hx⟩:∃x,(Uf s.vs)[i]? =some x:=⟨_,Ug (by rw[HN.out];exact hlt)⟩;obtain⟨gl,rfl⟩:=eG Q;have S:=HS.out.below (UF wa);have⟨_,_,d2,_,_,_⟩:=VO S.live hx;have y0:=S.rel.c 0 rfl;have y1:=S.rel.c 1 rfl;have y2:=S.rel.c 2 rfl;have hQ:=jd2 R _ x.TH _ S.new.at okR.sm;have i0:(0:Int)<=(i:Int):=Q;have i1:(i:Int)<(N:Int):=Q;have GD:=Us S;clear S HS hx;go_wp2_with fail;go_region_held3 (λw'=>w'.cell? (O gx 0)=some (U ra R.Tw.length kr)/\w'.cell? (O gx 1)=some (U rb R.TC.length ks)/\w'.cell? (O gx 2)=some (U rc R.TG.length ku)/\w'.cell? (O gl (i*6+2))=some (I x.TH)) (go_keep) ((go_at_call 60;refine hQ.mono ?_;rintro q wc ⟨rfl,ww⟩;have u0:=Tx ww y0;have u1:=Tx ww y1;have u2:=Tx ww y2;have u3:=Tx ww d2));have S5:=GD.out.below ww;clear hQ GD y0 y1 y2 d2 u0 u1 u2 u3 ww;generalize Yb (WG R.TC (Wk R.TG x.TH))=zz at *;by_cases lz:zz<0
   case pos=>
    have⟨r0,r1,r2,r3,r4,r5,r6,r7,r8,r9,lw,mv⟩:=S5.res.Wo;have⟨f0,f1,f2,f3,f4,f5,f6,f7,f8,f9,gx,l7⟩:=S5.res.WC;have⟨W,hW,⟨t0,t1,t2,t3,t4,t5,t6,t7,t8,t9,wJ,cq⟩,_,_,J8⟩:=S5.res.Yl 5;have yA:=Us (J8 _ _ Q S5.TQ);clear J8;go_wp2;exact Ue (v:=.agg #[J 0,nS,nS,nS,nS,nS,nS,J 0,nS,nS,J 0,J 5]) (by simp[results,Tryz.results37,go_sem,t0,t1,t2,t3,t4,t5,t6,t7,t8,t9,wJ,cq]) rfl ⟨VP,0,_,⟨⟨none,none,none,none,none,none,none,none,0,0,0,0,0,0,0,0,rfl,λW' _=>Yi _ W'⟩,yA.out⟩,Yk⟩
   case neg=>
    have Eu:=Us S5;clear S5;go_wp2;go_roundw
    .exact⟨i+1,Q,Z7,Eu⟩
    .simp[intOf];omega
  case neg=>
   have hlt2:¬(i:Int)<(N:Int):=Q;have S:=HS.out;have q5:=vc6 s _ wa (dQ.below S.TQ) ok;have⟨x0,x1,x2,x3,x4,x5,x6,x7,x8,x9⟩:=S.par.UA;go_wp2_with fail;refine q5.mono ?_;rintro q w5 fo;obtain⟨vP,rfl,uv⟩:=fo.ex;obtain⟨a1,a2,a3,a4,a5,a6,a8,a9,c1,c2,c3,c4,c5,c6,c8,c9,rfl,si,uL,JH,JJ⟩:=uv.form;have b6:=TK w5 (G (stA s a1 a2 a3 a4 a5 a6 a8 a9 c1 c2 c3 c4 c5 c6 c8 c9).toArray 31);have S6:=(S.below fo.TQ).below b6;have de:gx<w5.heap.size:=Nat.lt_of_lt_of_le (TV (S.rel.c 0 rfl)) fo.TQ.size;have V6:=Zh.new w5 (stA s a1 a2 a3 a4 a5 a6 a8 a9 c1 c2 c3 c4 c5 c6 c8 c9) 31;have CF:=heap_alloc_new w5 (G (stA s a1 a2 a3 a4 a5 a6 a8 a9 c1 c2 c3 c4 c5 c6 c8 c9).toArray 31);have oS:w.heap.size+1+1<=wa.heap.size:=Nat.le_trans S.ge (Nat.le_of_lt (TV (S.rel.c 0 rfl)));have yx:=(si.mono oS).below b6;have yZ:=(uL.mono oS).below b6;have vS:=U4 (UG JH b6) oS;have vW:=U4 (UG JJ b6) oS;have bR:w.heap.size+1+1<=w5.heap.size:=Nat.le_trans oS fo.TQ.size;have X6:=S6.rel;have R6:=S6.res;have po:=S6.new;have cp:=S6.TQ;have EJ:gx≠w5.heap.size:=Q;have⟨g,hg⟩:=TY w5.heap.size;have⟨w6,qO⟩:=TY (w5.alloc (G (stA s a1 a2 a3 a4 a5 a6 a8 a9 c1 c2 c3 c4 c5 c6 c8 c9).toArray 31));rw[hg]at V6 CF EJ bR;rw[qO]at V6 CF yx yZ vS vW X6 R6 po cp;clear S S6 HS x0 x1 x2 x3 x4 x5 x6 x7 x8 x9 q5 fo uv si uL JH JJ b6 hv dQ;by_cases fU:0<N
   case pos=>
    have rV:(0:Int)<(N:Int):=Q;have⟨w7,h7,K7⟩:=ZT g w6 [(4,U a1 s.Tz.Tw.length c1),(5,U a2 s.Tz.TC.length c2),(6,U a3 s.Tz.TG.length c3)];simp only[lH]at h7;have V7:=K7.var _ V6;have X7:=K7.oth _ _ EJ X6;have R7:=K7.oth _ _ (show w.heap.size+1≠g by omega) R6;have B7:=K7.TQ _ _ (show w.heap.size<=g by omega) cp;have⟨w8,h8,K8⟩:=ZT g w7 [(7,J 1)];simp only[lH]at h8;have V8:=K8.var _ V7;have X8:=K8.oth _ _ EJ X7;have R8:=K8.oth _ _ (show w.heap.size+1≠g by omega) R7;have B8:=K8.TQ _ _ (show w.heap.size<=g by omega) B7;have o5:∀k,k≠g->w8.heap[k]? =w6.heap[k]? :=λk hk=>(K8.blk k hk).trans (K7.blk k hk)
    have Qm:w8.heap.size=w6.heap.size:=K8.size.trans K7.size;have⟨j0,j1,j2,j3,j4,j5,j6,j7,j8,j9⟩:=V6.UA;have⟨VO,jf1,jf2,jf3,jf4,jf5,jf6,jf7,jf8,jf9⟩:=V6.XQ;have⟨RS,RT,RU,RW,RX,RY,Sa,Sb,Sc,Oh⟩:=V7.XQ;have i7:=V7.c 7 rfl;have⟨w9,h9,K9⟩:=ZT g w8 [(1,U ra R.Tw.length kr),(2,U rb R.TC.length ks),(3,U rc R.TG.length ku)];simp only[lH]at h9;have V9:=K9.var _ V8;have R9:=K9.oth _ _ (show w.heap.size+1≠g by omega) R8;have B9:=K9.TQ _ _ (show w.heap.size<=g by omega) B8;have e0:=X8.c 0 rfl;have e1:=X8.c 1 rfl;have e2:=X8.c 2 rfl;have⟨Ov,Ow,Ox,Oy,Oz,OA,OB,OE,OF,OG⟩:=V8.XQ;have⟨m0,m1,m2,m3,m4,m5,m6,m7,m8,m9⟩:=V8.UA;have⟨n0,n1,n2,n3,n4,n5,n6,n7,n8,n9⟩:=V9.UA;have⟨r0,r1,r2,r3,r4,r5,r6,r7,r8,r9,lw,mv⟩:=R9.Wo;have⟨f0,f1,f2,f3,f4,f5,f6,f7,f8,f9,gx,l7⟩:=R9.WC;have⟨W,hW,⟨t0,t1,t2,t3,t4,t5,t6,t7,t8,t9,wJ,cq⟩,TT,_,J8⟩:=R9.fin (J s.tx) (U ra R.Tw.length kr) (U rb R.TC.length ks) (U rc R.TG.length ku) (U a1 s.Tz.Tw.length c1) (U a2 s.Tz.TC.length c2) (U a3 s.Tz.TG.length c3) (J 1) (U a8 s.vs.length c8) (U a9 s.ix.length c9) (J 0) (J 0);have yA:=Us (J8 _ _ Q B9);have ED:Hid (vba w.heap.size W (.agg (stA ⟨s.tx,R,s.Tz,1,s.vs,s.ix⟩ ra rb rc a1 a2 a3 a8 a9 kr ks ku c1 c2 c3 c8 c9).toArray) ⟨s.tx,R,s.Tz,1,s.vs,s.ix⟩):=λW' tV=>by
     have hk:∀k,w.heap.size+1+1<=k->k<w6.heap.size->k≠g->W'.heap[k]? =w6.heap[k]? :=λk h1 h2 h3=>(tV k Q (Nat.lt_of_lt_of_le (by rw[K9.size,Qm];exact h2) TT.size)).trans ((TT.block k (by rw[K9.size,Qm];exact h2) (show k≠w.heap.size+1 by omega)).trans ((K9.blk k h3).trans (o5 k h3)))
     exact⟨ra,rb,rc,a1,a2,a3,a8,a9,kr,ks,ku,c1,c2,c3,c8,c9,rfl,(po.but CF hk).mono Q,(yx.but CF hk).mono Q,U4 (vbk vS CF Z5 hk) Q,U4 (vbk vW CF Z5 hk) Q⟩
    have rQ:Hid (Zr ⟨s.tx,R,s.Tz,1,s.vs,s.ix⟩/\s.vs.length<=1000/\s.ix.length<=1000):=⟨⟨okR,ok.Tz,ok.vs,ok.vl,ok.xl⟩,vd,fG⟩;clear J8 TT V9 V8 X8 R9 R8 K9 B9 B8 V6 X6 R6 po yx yZ vS vW CF o5 cp ok okR;go_wp2;exact Ue (v:=.agg (Wt ⟨s.tx,R,s.Tz,1,s.vs,s.ix⟩ ra rb rc a1 a2 a3 a8 a9 kr ks ku c1 c2 c3 c8 c9 0 0).toArray) (by simp[results,Tryz.results37,go_sem,t0,t1,t2,t3,t4,t5,t6,t7,t8,t9,wJ,cq,Wt]) rfl ⟨_,_,_,⟨⟨ra,rb,rc,a1,a2,a3,a8,a9,kr,ks,ku,c1,c2,c3,c8,c9,rfl,ED.out⟩,yA.out⟩,rQ.out⟩
   case neg=>
    have rV:¬(0:Int)<(N:Int):=Q;have⟨w8,h8⟩:=TY w6;have V8:=V6;have X8:=X6;have R8:=R6;have B8:=cp;have o5:∀k,k≠g->w8.heap[k]? =w6.heap[k]? :=λk _=>by rw[h8]
    have Qm:w8.heap.size=w6.heap.size:=by rw[h8]
    rw[h8]at V8 X8 R8 B8;have⟨w9,h9,K9⟩:=ZT g w8 [(1,U ra R.Tw.length kr),(2,U rb R.TC.length ks),(3,U rc R.TG.length ku)];simp only[lH]at h9;have V9:=K9.var _ V8;have R9:=K9.oth _ _ (show w.heap.size+1≠g by omega) R8;have B9:=K9.TQ _ _ (show w.heap.size<=g by omega) B8;have e0:=X8.c 0 rfl;have e1:=X8.c 1 rfl;have e2:=X8.c 2 rfl;have⟨Ov,Ow,Ox,Oy,Oz,OA,OB,OE,OF,OG⟩:=V8.XQ;have⟨m0,m1,m2,m3,m4,m5,m6,m7,m8,m9⟩:=V8.UA;have⟨n0,n1,n2,n3,n4,n5,n6,n7,n8,n9⟩:=V9.UA;have⟨r0,r1,r2,r3,r4,r5,r6,r7,r8,r9,lw,mv⟩:=R9.Wo;have⟨f0,f1,f2,f3,f4,f5,f6,f7,f8,f9,gx,l7⟩:=R9.WC;have⟨W,hW,⟨t0,t1,t2,t3,t4,t5,t6,t7,t8,t9,wJ,cq⟩,TT,_,J8⟩:=R9.fin (J s.tx) (U ra R.Tw.length kr) (U rb R.TC.length ks) (U rc R.TG.length ku) (U a4 s.TE.Tw.length c4) (U a5 s.TE.TC.length c5) (U a6 s.TE.TG.length c6) (J s.cur) (U a8 s.vs.length c8) (U a9 s.ix.length c9) (J 0) (J 0);have yA:=Us (J8 _ _ Q B9);have ED:Hid (vba w.heap.size W (.agg (stA ⟨s.tx,R,s.TE,s.cur,s.vs,s.ix⟩ ra rb rc a4 a5 a6 a8 a9 kr ks ku c4 c5 c6 c8 c9).toArray) ⟨s.tx,R,s.TE,s.cur,s.vs,s.ix⟩):=λW' tV=>by
     have hk:∀k,w.heap.size+1+1<=k->k<w6.heap.size->k≠g->W'.heap[k]? =w6.heap[k]? :=λk h1 h2 h3=>(tV k Q (Nat.lt_of_lt_of_le (by rw[K9.size,Qm];exact h2) TT.size)).trans ((TT.block k (by rw[K9.size,Qm];exact h2) (show k≠w.heap.size+1 by omega)).trans ((K9.blk k h3).trans (o5 k h3)))
     exact⟨ra,rb,rc,a4,a5,a6,a8,a9,kr,ks,ku,c4,c5,c6,c8,c9,rfl,(po.but CF hk).mono Q,(yZ.but CF hk).mono Q,U4 (vbk vS CF Z5 hk) Q,U4 (vbk vW CF Z5 hk) Q⟩
    have rQ:Hid (Zr ⟨s.tx,R,s.TE,s.cur,s.vs,s.ix⟩/\s.vs.length<=1000/\s.ix.length<=1000):=⟨⟨okR,ok.TE,ok.vs,ok.vl,ok.xl⟩,vd,fG⟩;clear J8 TT V9 V8 X8 R9 R8 K9 B9 B8 V6 X6 R6 po yx yZ vS vW CF o5 cp ok okR;go_wp2;exact Ue (v:=.agg (Wt ⟨s.tx,R,s.TE,s.cur,s.vs,s.ix⟩ ra rb rc a4 a5 a6 a8 a9 kr ks ku c4 c5 c6 c8 c9 0 0).toArray) (by simp[results,Tryz.results37,go_sem,t0,t1,t2,t3,t4,t5,t6,t7,t8,t9,wJ,cq,Wt]) rfl ⟨_,_,_,⟨⟨ra,rb,rc,a4,a5,a6,a8,a9,kr,ks,ku,c4,c5,c6,c8,c9,rfl,ED.out⟩,yA.out⟩,rQ.out⟩
end
structure vby(s:Uo):Prop where
 Tz:Um s.Tz=true
 TE:Um s.TE=true
 vl:s.vs.length<=60
 tx:0<=s.tx/\s.tx<=900000
 ver:Yq s.vs s.tx=true
 ll:(Uf s.vs).length<=30
 TH:∀x∈Uf s.vs,Xl s x.TH=true
theorem YX{s:Uo}(h:Vi s=true):vby s:=by
 unfold Vi at h;simp only[UM,List.all_eq_true,decide_eq_true_eq]at h;exact⟨h.1,h.2.1,jun h.2.2.2.1,WM h.2.2.1,h.2.2.2.1,h.2.2.2.2.2.2.1,h.2.2.2.2.2.2.2.1⟩
theorem vby.ev{s:Uo}(h:vby s){e:TD}(he:e∈Uf s.vs):ZF e:=by
 obtain⟨v,hm,rfl⟩:=jl5 he;exact jhs (jfk h.ver v hm)
theorem vby.id{s:Uo}(h:vby s){e:TD}(he:e∈Uf s.vs):1<=e.id/\e.id<=1000000:=by
 obtain⟨v,hm,rfl⟩:=jl5 he;have:=jfk h.ver v hm;unfold Ww at this;simp only[UM]at this;exact WM this.1
theorem vgd{e:TD}(h:x∈Uf (l++[WZ t true e])):x∈Uf l:=by
 have h:=vbh.mp h;rw[jtf]at h;split at h
 .simp[WZ]at h
 .exact vbh.mpr h
theorem vge{e:TD}(h:x∈Uf (l++[WZ t false e])):x=e\/x∈Uf l:=by
 have h:=vbh.mp h;rw[jtf]at h;split at h
 .simp[WZ,Up.ev]at h
  exact .inl h.symm
 .exact .inr (vbh.mpr h)
theorem vdn{s:Uo}(ok:Zr s)(h:s.vs.length<=60){e:TD}{g:Bool}(hv:(WZ (s.tx+1) g e).ok):Zr (Yr s e g)/\(Yr s e g).vs.length<=1000/\(Yr s e g).ix.length<=1000:=by
 have h1:(Yr s e g).vs.length=s.vs.length+1:=by simp[Yr]
 have h2:(Yr s e g).ix.length<=s.vs.length+1:=by
  have a:=jep (VA s) (Uf (s.vs++[WZ (s.tx+1) g e]));have b:=jwf (s.vs++[WZ (s.tx+1) g e]) (s.vs++[WZ (s.tx+1) g e]).length
  show(UK (VA s) (Uf (s.vs++[WZ (s.tx+1) g e]))).length<=_
  unfold Uf at a ⊢;simp at b ⊢;simp at a;omega
 refine⟨⟨ok.Tz,ok.TE,λv hm=>?_,Q,Q⟩,Q,Q⟩;rcases List.mem_append.1 hm with hm|hm
 .exact ok.vs v hm
 .simp at hm;subst hm;exact hv
structure vaw(s:Uo):Prop where
 ok:Zr s
 vl:s.vs.length<=1000
 xl:s.ix.length<=1000
theorem vhz(s:Uo)(v:Value)(e:TD)(w:World)(hv:Jd w v s)(ok:vaw s)(m1:e.name.size<=maxLen)(m2:e.TH.size<=maxLen):C 74 #[v,e.v] w (va9 w):=by
 refine(vhj s v e w hv ok.ok m1 m2 (λh=>?_) (λh he=>⟨⟨m1,m2⟩,λx hx=>?_⟩)).mono ?_
 .have R:=YX h
  exact⟨R.Tz,R.TE,R.vl,R.tx,R.ll⟩
 .rcases vge hx with rfl|hx
  .exact jhs he
  .exact(YX h).ev hx
 .intro q w' h
  refine⟨_,_,_,h,?_⟩;unfold ZA;by_cases hs:Vi s=true
  .rw[if_pos hs]
   repeat' split
   all_goals first|exact Yk|exact vdn ok.ok (YX hs).vl ⟨m1,m2⟩
  .rw[if_neg hs];exact Yk
theorem step_drop(s:Uo)(v:Value)(id:Int)(w:World)(hv:Jd w v s)(ok:vaw s):C 73 #[v,J id] w (va9 w):=by
 have sM:∀e∈Uf s.vs,(WZ (s.tx+1) true e).ok:=λe he=>by
  obtain⟨u,hu,rfl⟩:=jl5 he;exact ok.ok.vs u hu
 refine(vhg s v id w hv ok.ok (λh=>?_) (λh e he=>⟨sM e he,λx hx=>(YX h).ev (vgd hx)⟩)).mono ?_
 .have R:=YX h
  exact⟨R.Tz,R.TE,R.vl,R.tx,R.ll⟩
 .intro q w' h
  refine⟨_,_,_,h,?_⟩;unfold vao;by_cases hs:Vi s=true
  .rw [if_pos hs]
   split
   .exact Yk
   .split
    .exact Yk
    .split
     .rename_i e he
      exact vdn ok.ok (YX hs).vl (sM e (UH he))
     .exact Yk
  .rw[if_neg hs];exact Yk
theorem veA(s:Uo)(v:Value)(bv:Int)(w:World)(hv:Jd w v s)(ok:vaw s):C 72 #[v,J bv] w (va9 w):=
 vhf s v bv w hv ok.ok (λh=>⟨(YX h).Tz,(YX h).TE,(YX h).vl,(YX h).ll⟩) (λh _ he=>⟨(YX h).ev he,(YX h).id he⟩)
theorem veB(s:Uo)(v:Value)(tx:ByteArray)(w:World)(hv:Jd w v s)(ok:vaw s)(ht:tx.size<=50000):C 37 #[v,I tx] w (va9 w):=
 vhi s v tx w hv ok.ok ht ok.vl ok.xl (λh=>⟨(YX h).vl,(YX h).ll⟩)
section
open Go.RowKit Go.Lib Go.Sort
theorem Vs.drawn{p B:Nat}{w w':World}{s:Uo}(h:Vs B w v s)(hg:w.grownBy w' (some p))(hB:p<B):Vs B w' v s:=h.keep λk h1 h2=>hg.block k h2 Z6
structure vax(B p:Nat)(a:Option Addr)(len cap:Nat)(zs:List Int)(s:Uo)(w W:World)(PV:List Value):Prop where
 src:UT p a len cap zs W
 par:Zh W w.heap.size PV
 res:Zh W (w.heap.size+1) [J 0,nS,nS,nS,nS,nS,nS,J 0,nS,nS,J 0,J 0]
 sto:Vs B W (.agg PV.toArray) s
 lt:p<B
 le:B<=w.heap.size
 gr:w.grownBy W (some p)
structure vdi(B p:Nat)(a:Option Addr)(len cap:Nat)(zs:List Int)(w:World)(q:Ending)(w':World):Prop where
 ex:∃D m c a1 a2 a3 a4 a5 a6 a8 a9 c1 c2 c3 c4 c5 c6 c8 c9,q=V (.agg (Wt D a1 a2 a3 a4 a5 a6 a8 a9 c1 c2 c3 c4 c5 c6 c8 c9 m c).toArray)/\Vs B w' (.agg (stA D a1 a2 a3 a4 a5 a6 a8 a9 c1 c2 c3 c4 c5 c6 c8 c9).toArray) D/\vaw D
 src:UT p a len cap zs w'
 gr:w.grownBy w' (some p)
section
variable {B p : Nat} {a : Option Addr} {len cap : Nat} {zs : List Int} {s : Uo} {w W W' : World} {PV : List Value}
theorem vax.draw(h:vax B p a len cap zs s w W PV)(hS:UT p a len cap zs W')(hg:W.grownBy W' (some p)):vax B p a len cap zs s w W' PV:=by
 have h2:=h.lt;have h3:=h.le;exact⟨hS,h.par.grown hg Z6,h.res.grown hg Z6,h.sto.drawn hg h2,h2,h3,h.gr.trans hg⟩
theorem vax.below(h:vax B p a len cap zs s w W PV)(hb:Bw W W'):vax B p a len cap zs s w W' PV:=⟨h.src.grown hb,h.par.below hb,h.res.below hb,h.sto.below hb,h.lt,h.le,h.gr.trans (World.YN hb _)⟩
theorem vax.done{B3:Nat}{D:Uo}{m c:Int}(h:vax B p a len cap zs s w W PV)(hO:vba B3 W (.agg (stA D a1 a2 a3 a4 a5 a6 a8 a9 c1 c2 c3 c4 c5 c6 c8 c9).toArray) D)(hB:w.heap.size+1<B3)(ok:vaw D):∃X,((((((((((((W.setCell (O (w.heap.size+1) 0) (J D.tx)).setCell (O (w.heap.size+1) 1) (U a1 D.Tz.Tw.length c1)).setCell (O (w.heap.size+1) 2) (U a2 D.Tz.TC.length c2)).setCell (O (w.heap.size+1) 3) (U a3 D.Tz.TG.length c3)).setCell (O (w.heap.size+1) 4) (U a4 D.TE.Tw.length c4)).setCell (O (w.heap.size+1) 5) (U a5 D.TE.TC.length c5)).setCell (O (w.heap.size+1) 6) (U a6 D.TE.TG.length c6)).setCell (O (w.heap.size+1) 7) (J D.cur)).setCell (O (w.heap.size+1) 8) (U a8 D.vs.length c8)).setCell (O (w.heap.size+1) 9) (U a9 D.ix.length c9)).setCell (O (w.heap.size+1) 10) (J m)).setCell (O (w.heap.size+1) 11) (J c))=X/\(X.cell? (O (w.heap.size+1) 0)=some (J D.tx)/\X.cell? (O (w.heap.size+1) 1)=some (U a1 D.Tz.Tw.length c1)/\X.cell? (O (w.heap.size+1) 2)=some (U a2 D.Tz.TC.length c2)/\X.cell? (O (w.heap.size+1) 3)=some (U a3 D.Tz.TG.length c3)/\X.cell? (O (w.heap.size+1) 4)=some (U a4 D.TE.Tw.length c4)/\X.cell? (O (w.heap.size+1) 5)=some (U a5 D.TE.TC.length c5)/\X.cell? (O (w.heap.size+1) 6)=some (U a6 D.TE.TG.length c6)/\X.cell? (O (w.heap.size+1) 7)=some (J D.cur)/\X.cell? (O (w.heap.size+1) 8)=some (U a8 D.vs.length c8)/\X.cell? (O (w.heap.size+1) 9)=some (U a9 D.ix.length c9)/\X.cell? (O (w.heap.size+1) 10)=some (J m)/\X.cell? (O (w.heap.size+1) 11)=some (J c))/\vdi B p a len cap zs w (V (.agg (Wt D a1 a2 a3 a4 a5 a6 a8 a9 c1 c2 c3 c4 c5 c6 c8 c9 m c).toArray)) X:=by
 have⟨X,hX,tc,T,_,J8⟩:=h.res.fin (J D.tx) (U a1 D.Tz.Tw.length c1) (U a2 D.Tz.TC.length c2) (U a3 D.Tz.TG.length c3) (U a4 D.TE.Tw.length c4) (U a5 D.TE.TC.length c5) (U a6 D.TE.TG.length c6) (J D.cur) (U a8 D.vs.length c8) (U a9 D.ix.length c9) (J m) (J c);have h2:=h.lt;have h4:=h.le;have hs:=h.gr.size;refine⟨X,hX,tc,⟨⟨D,m,c,a1,a2,a3,a4,a5,a6,a8,a9,c1,c2,c3,c4,c5,c6,c8,c9,rfl,(hO X λk h1 h3=>T.block k h3 (show k≠w.heap.size+1 by omega)).mono Q,ok⟩,h.src.keep λk hk=>T.block k Q (show k≠w.heap.size+1 by omega),vbH h.gr (J8 _ _ Q (Ui _ _))⟩⟩
end
theorem vhu(B p:Nat)(a:Option Addr)(len cap:Nat)(zs:List Int)(s:Uo)(v:Value)(w:World)(hS:UT p a len cap zs w)(hv:Vs B w v s)(Nh:p<B)(eM:B<=w.heap.size)(ok:vaw s):
  C 39 #[.pointer (some (O p 0)),v] w (vdi B p a len cap zs w):=by
 have⟨b1,b2,b3,b4,b5,b6,b8,b9,d1,d2,d3,d4,d5,d6,d8,d9,Oa,_⟩:=hv.form;subst Oa;have⟨w0,KR,ag,A0,R0,z0⟩:=vcp w (stA s b1 b2 b3 b4 b5 b6 b8 b9 d1 d2 d3 d4 d5 d6 d8 d9);have E0:vax B p a len cap zs s w w0 (stA s b1 b2 b3 b4 b5 b6 b8 b9 d1 d2 d3 d4 d5 d6 d8 d9):=⟨hS.grown ag,A0,R0,hv.below ag,Nh,eM,World.YN ag _⟩;clear hS hv A0 R0 ag z0;delta C;go_in;go_wp2_with fail;clear KR;refine(Wd p a len cap zs 8 _ E0.src Q Q).mono ?_;rintro q w2 ⟨n2,rfl,l2,u2,S2,g2⟩;have E2:=E0.draw S2 g2;clear E0 S2 g2;by_cases h0:n2=0
 .subst h0
  have E3:=E2.below (UF w2);have⟨x0,x1,x2,x3,x4,x5,x6,x7,x8,x9⟩:=E3.par.UA;go_wp2_with fail;go_region_held3 (λw'=>w'.cell? (O w.heap.size 0)=some (J s.tx)/\w'.cell? (O w.heap.size 1)=some (U b1 s.Tz.Tw.length d1)/\w'.cell? (O w.heap.size 2)=some (U b2 s.Tz.TC.length d2)/\w'.cell? (O w.heap.size 3)=some (U b3 s.Tz.TG.length d3)/\w'.cell? (O w.heap.size 4)=some (U b4 s.TE.Tw.length d4)/\w'.cell? (O w.heap.size 5)=some (U b5 s.TE.TC.length d5)/\w'.cell? (O w.heap.size 6)=some (U b6 s.TE.TG.length d6)/\w'.cell? (O w.heap.size 7)=some (J s.cur)/\w'.cell? (O w.heap.size 8)=some (U b8 s.vs.length d8)/\w'.cell? (O w.heap.size 9)=some (U b9 s.ix.length d9)) (go_keep) ((first|(go_at_call 38;refine(vex p a len cap zs _ E3.src).mono ?_;rintro q w4 ⟨tx,rfl,Ha,S4,g4⟩;have E4:=E3.draw S4 g4;have⟨y0,y1,y2,y3,y4,y5,y6,y7,y8,y9⟩:=E4.par.UA)|(go_at_call 37;refine(veB s _ tx _ E4.sto.st ok Ha).mono ?_;rintro q w5 fo;have⟨D,m,c,jr,mU,sd,nC⟩:=fo.ex;obtain⟨a1,a2,a3,a4,a5,a6,a8,a9,c1,c2,c3,c4,c5,c6,c8,c9,rfl,jz⟩:=jr.ex;have E5:=E4.below jr.TQ;have⟨z0,z1,z2,z3,z4,z5,z6,z7,z8,z9⟩:=E5.par.UA;have⟨r0,r1,r2,r3,r4,r5,r6,r7,r8,r9,lw,mv⟩:=E5.res.Wo;have⟨f0,f1,f2,f3,f4,f5,f6,f7,f8,f9,gx,l7⟩:=E5.res.WC)))
  all_goals
   clear x0 x1 x2 x3 x4 x5 x6 x7 x8 x9 y0 y1 y2 y3 y4 y5 y6 y7 y8 y9 z0 z1 z2 z3 z4 z5 z6 z7 z8 z9 r0 r1 r2 r3 r4 r5 r6 r7 r8 r9 lw mv f0 f1 f2 f3 f4 f5 f6 f7 f8 f9 gx l7;have⟨X,hX,⟨t0,t1,t2,t3,t4,t5,t6,t7,t8,t9,wJ,cq⟩,HP⟩:=E5.done (m:=m) (c:=c) jz (TV (E4.res.c 0 rfl)) ⟨mU,sd,nC⟩;have gY:=Us HP;rw[hX];clear hX HP fo jr jz E5 E4 E3 E2 S4 g4;go_wp2;exact Ue (v:=.agg (Wt D a1 a2 a3 a4 a5 a6 a8 a9 c1 c2 c3 c4 c5 c6 c8 c9 m c).toArray) (by simp[results,Tryz.results39,go_sem,t0,t1,t2,t3,t4,t5,t6,t7,t8,t9,wJ,cq,Wt]) rfl gY.out
 have kA:(n2==0)=false:=by simpa using h0
 by_cases AK:n2=1\/n2=2
 .rcases AK with AK|AK
  .subst AK
   have E3:=E2.below (UF w2);have⟨x0,x1,x2,x3,x4,x5,x6,x7,x8,x9⟩:=E3.par.UA;go_wp2_with fail;go_region_held3 (λw'=>w'.cell? (O w.heap.size 0)=some (J s.tx)/\w'.cell? (O w.heap.size 1)=some (U b1 s.Tz.Tw.length d1)/\w'.cell? (O w.heap.size 2)=some (U b2 s.Tz.TC.length d2)/\w'.cell? (O w.heap.size 3)=some (U b3 s.Tz.TG.length d3)/\w'.cell? (O w.heap.size 4)=some (U b4 s.TE.Tw.length d4)/\w'.cell? (O w.heap.size 5)=some (U b5 s.TE.TC.length d5)/\w'.cell? (O w.heap.size 6)=some (U b6 s.TE.TG.length d6)/\w'.cell? (O w.heap.size 7)=some (J s.cur)/\w'.cell? (O w.heap.size 8)=some (U b8 s.vs.length d8)/\w'.cell? (O w.heap.size 9)=some (U b9 s.ix.length d9)) (go_keep) ((first|(go_at_call 17;refine(Wd p a len cap zs 3 _ E3.src Q Q).mono ?_;rintro q w4 ⟨n4,rfl,l4,u4,S4,g4⟩;have E4:=E3.draw S4 g4;have⟨y0,y1,y2,y3,y4,y5,y6,y7,y8,y9⟩:=E4.par.UA;have q4:IntKind.i64.wrap (1+n4)=1+n4:=(by rw[IntKind.wrap_i64];omega))|(go_at_call 72;refine(veA s _ (1+n4) _ E4.sto.st ok).mono ?_;rintro q w5 fo;have⟨D,m,c,jr,mU,sd,nC⟩:=fo.ex;obtain⟨a1,a2,a3,a4,a5,a6,a8,a9,c1,c2,c3,c4,c5,c6,c8,c9,rfl,jz⟩:=jr.ex;have E5:=E4.below jr.TQ;have⟨z0,z1,z2,z3,z4,z5,z6,z7,z8,z9⟩:=E5.par.UA;have⟨r0,r1,r2,r3,r4,r5,r6,r7,r8,r9,lw,mv⟩:=E5.res.Wo;have⟨f0,f1,f2,f3,f4,f5,f6,f7,f8,f9,gx,l7⟩:=E5.res.WC)))
   all_goals
    clear x0 x1 x2 x3 x4 x5 x6 x7 x8 x9 y0 y1 y2 y3 y4 y5 y6 y7 y8 y9 z0 z1 z2 z3 z4 z5 z6 z7 z8 z9 r0 r1 r2 r3 r4 r5 r6 r7 r8 r9 lw mv f0 f1 f2 f3 f4 f5 f6 f7 f8 f9 gx l7;have⟨X,hX,⟨t0,t1,t2,t3,t4,t5,t6,t7,t8,t9,wJ,cq⟩,HP⟩:=E5.done (m:=m) (c:=c) jz (TV (E4.res.c 0 rfl)) ⟨mU,sd,nC⟩;have gY:=Us HP;rw[hX];clear hX HP fo jr jz E5 E4 E3 E2 S4 g4;go_wp2;exact Ue (v:=.agg (Wt D a1 a2 a3 a4 a5 a6 a8 a9 c1 c2 c3 c4 c5 c6 c8 c9 m c).toArray) (by simp[results,Tryz.results39,go_sem,t0,t1,t2,t3,t4,t5,t6,t7,t8,t9,wJ,cq,Wt]) rfl gY.out
  .have aX:(n2==1)=false:=Z6
   subst AK;have E3:=E2.below (UF w2);have⟨x0,x1,x2,x3,x4,x5,x6,x7,x8,x9⟩:=E3.par.UA;go_wp2_with fail;go_region_held3 (λw'=>w'.cell? (O w.heap.size 0)=some (J s.tx)/\w'.cell? (O w.heap.size 1)=some (U b1 s.Tz.Tw.length d1)/\w'.cell? (O w.heap.size 2)=some (U b2 s.Tz.TC.length d2)/\w'.cell? (O w.heap.size 3)=some (U b3 s.Tz.TG.length d3)/\w'.cell? (O w.heap.size 4)=some (U b4 s.TE.Tw.length d4)/\w'.cell? (O w.heap.size 5)=some (U b5 s.TE.TC.length d5)/\w'.cell? (O w.heap.size 6)=some (U b6 s.TE.TG.length d6)/\w'.cell? (O w.heap.size 7)=some (J s.cur)/\w'.cell? (O w.heap.size 8)=some (U b8 s.vs.length d8)/\w'.cell? (O w.heap.size 9)=some (U b9 s.ix.length d9)) (go_keep) ((first|(go_at_call 17;refine(Wd p a len cap zs 3 _ E3.src Q Q).mono ?_;rintro q w4 ⟨n4,rfl,l4,u4,S4,g4⟩;have E4:=E3.draw S4 g4;have⟨y0,y1,y2,y3,y4,y5,y6,y7,y8,y9⟩:=E4.par.UA;have q4:IntKind.i64.wrap (1+n4)=1+n4:=(by rw[IntKind.wrap_i64];omega))|(go_at_call 72;refine(veA s _ (1+n4) _ E4.sto.st ok).mono ?_;rintro q w5 fo;have⟨D,m,c,jr,mU,sd,nC⟩:=fo.ex;obtain⟨a1,a2,a3,a4,a5,a6,a8,a9,c1,c2,c3,c4,c5,c6,c8,c9,rfl,jz⟩:=jr.ex;have E5:=E4.below jr.TQ;have⟨z0,z1,z2,z3,z4,z5,z6,z7,z8,z9⟩:=E5.par.UA;have⟨r0,r1,r2,r3,r4,r5,r6,r7,r8,r9,lw,mv⟩:=E5.res.Wo;have⟨f0,f1,f2,f3,f4,f5,f6,f7,f8,f9,gx,l7⟩:=E5.res.WC)))
   all_goals
    clear x0 x1 x2 x3 x4 x5 x6 x7 x8 x9 y0 y1 y2 y3 y4 y5 y6 y7 y8 y9 z0 z1 z2 z3 z4 z5 z6 z7 z8 z9 r0 r1 r2 r3 r4 r5 r6 r7 r8 r9 lw mv f0 f1 f2 f3 f4 f5 f6 f7 f8 f9 gx l7;have⟨X,hX,⟨t0,t1,t2,t3,t4,t5,t6,t7,t8,t9,wJ,cq⟩,HP⟩:=E5.done (m:=m) (c:=c) jz (TV (E4.res.c 0 rfl)) ⟨mU,sd,nC⟩;have gY:=Us HP;rw[hX];clear hX HP fo jr jz E5 E4 E3 E2 S4 g4;go_wp2;exact Ue (v:=.agg (Wt D a1 a2 a3 a4 a5 a6 a8 a9 c1 c2 c3 c4 c5 c6 c8 c9 m c).toArray) (by simp[results,Tryz.results39,go_sem,t0,t1,t2,t3,t4,t5,t6,t7,t8,t9,wJ,cq,Wt]) rfl gY.out
 have aX:(n2==1)=false:=Z6;have cU:(n2==2)=false:=Z6;by_cases h3:n2=3
 .subst h3
  have E3:=E2.below (UF w2);have⟨x0,x1,x2,x3,x4,x5,x6,x7,x8,x9⟩:=E3.par.UA;go_wp2_with fail;go_region_held3 (λw'=>w'.cell? (O w.heap.size 0)=some (J s.tx)/\w'.cell? (O w.heap.size 1)=some (U b1 s.Tz.Tw.length d1)/\w'.cell? (O w.heap.size 2)=some (U b2 s.Tz.TC.length d2)/\w'.cell? (O w.heap.size 3)=some (U b3 s.Tz.TG.length d3)/\w'.cell? (O w.heap.size 4)=some (U b4 s.TE.Tw.length d4)/\w'.cell? (O w.heap.size 5)=some (U b5 s.TE.TC.length d5)/\w'.cell? (O w.heap.size 6)=some (U b6 s.TE.TG.length d6)/\w'.cell? (O w.heap.size 7)=some (J s.cur)/\w'.cell? (O w.heap.size 8)=some (U b8 s.vs.length d8)/\w'.cell? (O w.heap.size 9)=some (U b9 s.ix.length d9)) (go_keep) ((first|(go_at_call 17;refine(Wd p a len cap zs 6 _ E3.src Q Q).mono ?_;rintro q w4 ⟨n4,rfl,l4,u4,S4,g4⟩;have E4:=E3.draw S4 g4;have⟨y0,y1,y2,y3,y4,y5,y6,y7,y8,y9⟩:=E4.par.UA;have q4:IntKind.i64.wrap (1+n4)=1+n4:=(by rw[IntKind.wrap_i64];omega))|(go_at_call 73;refine(step_drop s _ (1+n4) _ E4.sto.st ok).mono ?_;rintro q w5 fo;have⟨D,m,c,jr,mU,sd,nC⟩:=fo.ex;obtain⟨a1,a2,a3,a4,a5,a6,a8,a9,c1,c2,c3,c4,c5,c6,c8,c9,rfl,jz⟩:=jr.ex;have E5:=E4.below jr.TQ;have⟨z0,z1,z2,z3,z4,z5,z6,z7,z8,z9⟩:=E5.par.UA;have⟨r0,r1,r2,r3,r4,r5,r6,r7,r8,r9,lw,mv⟩:=E5.res.Wo;have⟨f0,f1,f2,f3,f4,f5,f6,f7,f8,f9,gx,l7⟩:=E5.res.WC)))
  all_goals
   clear x0 x1 x2 x3 x4 x5 x6 x7 x8 x9 y0 y1 y2 y3 y4 y5 y6 y7 y8 y9 z0 z1 z2 z3 z4 z5 z6 z7 z8 z9 r0 r1 r2 r3 r4 r5 r6 r7 r8 r9 lw mv f0 f1 f2 f3 f4 f5 f6 f7 f8 f9 gx l7;have⟨X,hX,⟨t0,t1,t2,t3,t4,t5,t6,t7,t8,t9,wJ,cq⟩,HP⟩:=E5.done (m:=m) (c:=c) jz (TV (E4.res.c 0 rfl)) ⟨mU,sd,nC⟩;have gY:=Us HP;rw[hX];clear hX HP fo jr jz E5 E4 E3 E2 S4 g4;go_wp2;exact Ue (v:=.agg (Wt D a1 a2 a3 a4 a5 a6 a8 a9 c1 c2 c3 c4 c5 c6 c8 c9 m c).toArray) (by simp[results,Tryz.results39,go_sem,t0,t1,t2,t3,t4,t5,t6,t7,t8,t9,wJ,cq,Wt]) rfl gY.out
 have fw:(n2==3)=false:=by simpa using h3
 have E3:=E2.below (UF w2);have⟨x0,x1,x2,x3,x4,x5,x6,x7,x8,x9⟩:=E3.par.UA;go_wp2_with fail;go_region_held3 (λw'=>w'.cell? (O w.heap.size 0)=some (J s.tx)/\w'.cell? (O w.heap.size 1)=some (U b1 s.Tz.Tw.length d1)/\w'.cell? (O w.heap.size 2)=some (U b2 s.Tz.TC.length d2)/\w'.cell? (O w.heap.size 3)=some (U b3 s.Tz.TG.length d3)/\w'.cell? (O w.heap.size 4)=some (U b4 s.TE.Tw.length d4)/\w'.cell? (O w.heap.size 5)=some (U b5 s.TE.TC.length d5)/\w'.cell? (O w.heap.size 6)=some (U b6 s.TE.TG.length d6)/\w'.cell? (O w.heap.size 7)=some (J s.cur)/\w'.cell? (O w.heap.size 8)=some (U b8 s.vs.length d8)/\w'.cell? (O w.heap.size 9)=some (U b9 s.ix.length d9)) (go_keep) ((first|(go_at_call 75;refine(vhq p a len cap zs _ E3.src).mono ?_;rintro q w4 ⟨⟨e1,e2,e3,e4,e5,e6⟩,rfl,m1,m2,S4,g4⟩;have E4:=E3.draw S4 g4;have⟨y0,y1,y2,y3,y4,y5,y6,y7,y8,y9⟩:=E4.par.UA)|(go_at_call 74;refine(vhz s _ ⟨e1,e2,e3,e4,e5,e6⟩ _ E4.sto.st ok (Nat.le_trans m1 (by unfold maxLen;omega)) (Nat.le_trans m2 (by unfold maxLen;omega))).mono ?_;rintro q w5 fo;have⟨D,m,c,jr,mU,sd,nC⟩:=fo.ex;obtain⟨a1,a2,a3,a4,a5,a6,a8,a9,c1,c2,c3,c4,c5,c6,c8,c9,rfl,jz⟩:=jr.ex;have E5:=E4.below jr.TQ;have⟨z0,z1,z2,z3,z4,z5,z6,z7,z8,z9⟩:=E5.par.UA;have⟨r0,r1,r2,r3,r4,r5,r6,r7,r8,r9,lw,mv⟩:=E5.res.Wo;have⟨f0,f1,f2,f3,f4,f5,f6,f7,f8,f9,gx,l7⟩:=E5.res.WC)))
 all_goals
  clear x0 x1 x2 x3 x4 x5 x6 x7 x8 x9 y0 y1 y2 y3 y4 y5 y6 y7 y8 y9 z0 z1 z2 z3 z4 z5 z6 z7 z8 z9 r0 r1 r2 r3 r4 r5 r6 r7 r8 r9 lw mv f0 f1 f2 f3 f4 f5 f6 f7 f8 f9 gx l7;have⟨X,hX,⟨t0,t1,t2,t3,t4,t5,t6,t7,t8,t9,wJ,cq⟩,HP⟩:=E5.done (m:=m) (c:=c) jz (TV (E4.res.c 0 rfl)) ⟨mU,sd,nC⟩;have gY:=Us HP;rw[hX];clear hX HP fo jr jz E5 E4 E3 E2 S4 g4;go_wp2;exact Ue (v:=.agg (Wt D a1 a2 a3 a4 a5 a6 a8 a9 c1 c2 c3 c4 c5 c6 c8 c9 m c).toArray) (by simp[results,Tryz.results39,go_sem,t0,t1,t2,t3,t4,t5,t6,t7,t8,t9,wJ,cq,Wt]) rfl gY.out
end
section
open Go.RowKit Go.Lib Go.Sort
theorem Vs.rows{B:Nat}{w:World}{D:Uo}(h:Vs B w (.agg (stA D a1 a2 a3 a4 a5 a6 a8 a9 c1 c2 c3 c4 c5 c6 c8 c9).toArray) D):Vl B w (.agg #[U a1 D.Tz.Tw.length c1,U a2 D.Tz.TC.length c2,U a3 D.Tz.TG.length c3]) D.Tz/\Vl B w (.agg #[U a4 D.TE.Tw.length c4,U a5 D.TE.TC.length c5,U a6 D.TE.TG.length c6]) D.TE/\w.ownsRow B 93 8 (U a8 D.vs.length c8) D.vs.length (D.vs.map Up.cs).flatten/\w.ownsRow B 56 2 (U a9 D.ix.length c9) D.ix.length (D.ix.map TZ.cs).flatten:=by
 have⟨e1,e2,e3,e4,e5,e6,e8,e9,k1,k2,k3,k4,k5,k6,k8,k9,hv,h1,h2,h3,h4⟩:=h.form;simp at hv;obtain⟨⟨rfl,rfl⟩,⟨rfl,rfl⟩,⟨rfl,rfl⟩,⟨rfl,rfl⟩,⟨rfl,rfl⟩,⟨rfl,rfl⟩,⟨rfl,rfl⟩,rfl,rfl⟩:=hv;exact⟨h1,h2,h3,h4⟩
theorem Vs.but{B g:Nat}{w W':World}{D:Uo}(h:Vs B w v D)(hg:w.heap[g]? =some (G tt 31 (0,0)))(hk:∀k,B<=k->k<w.heap.size->k≠g->W'.heap[k]? =w.heap[k]?):Vs B W' v D:=by
 have⟨e1,e2,e3,e4,e5,e6,e8,e9,k1,k2,k3,k4,k5,k6,k8,k9,hv,h1,h2,h3,h4⟩:=h.form;exact⟨e1,e2,e3,e4,e5,e6,e8,e9,k1,k2,k3,k4,k5,k6,k8,k9,hv,h1.but hg hk,h2.but hg hk,vbk h3 hg Z5 hk,vbk h4 hg Z5 hk⟩
theorem Vs.va5{B g j:Nat}{w:World}{D:Uo}(h:Vs B w v D)(hg:w.heap[g]? =some (G tt 31 (0,0))):Vs B (w.setCell (O g j) u) v D:=h.but hg λk _ _ az=>heap_setCell_other w (O g j) k u (by simpa using az)
structure WK(p:Nat)(a:Option Addr)(len cap:Nat)(zs:List Int)(w W:World)(g:Nat)(L:List Value):Prop where
 src:UT p a len cap zs W
 var:W.heap[g]? =some (G L.toArray 31 (0,0))
 res:Zh W w.heap.size [J 0,nS,nS,nS,nS,nS,nS,J 0,nS,nS]
 ge:w.heap.size<g
 lt:p<w.heap.size
 gr:w.grownBy W (some p)
structure vdj(p:Nat)(a:Option Addr)(len cap:Nat)(zs:List Int)(w:World)(q:Ending)(w':World):Prop where
 ex:∃D a1 a2 a3 a4 a5 a6 a8 a9 c1 c2 c3 c4 c5 c6 c8 c9,q=V (.agg (stA D a1 a2 a3 a4 a5 a6 a8 a9 c1 c2 c3 c4 c5 c6 c8 c9).toArray)/\Vs (w.heap.size+1) w' (.agg (stA D a1 a2 a3 a4 a5 a6 a8 a9 c1 c2 c3 c4 c5 c6 c8 c9).toArray) D/\Zr D
 src:UT p a len cap zs w'
 gr:w.grownBy w' (some p)
section
variable {p : Nat} {a : Option Addr} {len cap : Nat} {zs : List Int} {w W W' : World} {g : Nat} {L : List Value}
theorem WK.draw(h:WK p a len cap zs w W g L)(hS:UT p a len cap zs W')(hg:W.grownBy W' (some p)):WK p a len cap zs w W' g L:=by
 have h1:=h.ge;have h2:=h.lt;exact⟨hS,(hg.block g (Vt h.var) Z6).trans h.var,h.res.grown hg Z6,h1,h2,h.gr.trans hg⟩
theorem WK.below(h:WK p a len cap zs w W g L)(hb:Bw W W'):WK p a len cap zs w W' g L:=⟨h.src.grown hb,(hb.block g (Vt h.var)).trans h.var,h.res.below hb,h.ge,h.lt,h.gr.trans (World.YN hb _)⟩
theorem WK.set(h:WK p a len cap zs w W g L)(j:Nat)(v:Value):WK p a len cap zs w (W.setCell (O g j) v) g (L.set j v):=by
 have h1:=h.ge;have h2:=h.lt;exact⟨h.src.keep λk hk=>heap_setCell_other W (O g j) k v Z6,by rw[<- List.setIfInBounds_toArray];exact vaE h.var,h.res.other Q v,h1,h2,vbH h.gr ((Ui _ _).setCell (show w.heap.size<=g by omega) v)⟩
theorem WK.app(h:WK p a len cap zs w W g L)(ho:W.ownsRow (w.heap.size+1) e q u n xs)(he:e≠31)(hg:W.grownBy W' u.ownBlock):WK p a len cap zs w W' g L:=by
 have h1:=h.ge;have h2:=h.lt;have h3:=h.src.lt;have h4:=h.gr.size;have hl:∀k,k<=w.heap.size->some k≠u.ownBlock:=λk hk e=>by have:=(World.ownsRow.lt ho k e.symm).1;omega
 refine⟨h.src.keep λk hk=>hg.block k Q (hl k Q),(hg.block g (Vt h.var) (λe=>?_)).trans h.var,h.res.grown hg (hl _ (TP _)),h1,h2,⟨hg.os.trans h.gr.os,hg.tape.trans h.gr.tape,hg.output.trans h.gr.output,Nat.le_trans h4 hg.size,λk hk az=>(hg.block k Q (hl k Q)).trans (h.gr.block k hk az)⟩⟩;have⟨ds,hd⟩:=Zz ho e.symm;rw[h.var]at hd;simp at hd;exact he hd.2.symm
theorem vd6{e2:TypeId}{q2 n2 Bs:Nat}{ys:List Value}(h:W.ownsRow Bs e2 q2 v n2 ys)(ho:W.ownsRow Bs e q u n xs)(he:e2≠e)(hg:W.grownBy W' u.ownBlock):W'.ownsRow Bs e2 q2 v n2 ys:=World.ownsRow.kept h hg (by
 cases hb:v.ownBlock with
 |none=>exact .inl rfl
 |some k=>exact .inr (λhk=>by
  have⟨ds,hd⟩:=Zz h hb;have⟨es,Aw⟩:=Zz ho hk.symm;rw[hd]at Aw;simp at Aw
  exact he Aw.2))
theorem WK.put{D:Uo}(h:WK p a len cap zs w W g [l0,l1,l2,l3,l4,l5,l6,l7,l8,l9])(Tn:Vs (w.heap.size+1) W (.agg (stA D a1 a2 a3 a4 a5 a6 a8 a9 c1 c2 c3 c4 c5 c6 c8 c9).toArray) D):∃X,((((((((((W.setCell (O g 0) (J D.tx)).setCell (O g 1) (U a1 D.Tz.Tw.length c1)).setCell (O g 2) (U a2 D.Tz.TC.length c2)).setCell (O g 3) (U a3 D.Tz.TG.length c3)).setCell (O g 4) (U a4 D.TE.Tw.length c4)).setCell (O g 5) (U a5 D.TE.TC.length c5)).setCell (O g 6) (U a6 D.TE.TG.length c6)).setCell (O g 7) (J D.cur)).setCell (O g 8) (U a8 D.vs.length c8)).setCell (O g 9) (U a9 D.ix.length c9))=X/\WK p a len cap zs w X g (stA D a1 a2 a3 a4 a5 a6 a8 a9 c1 c2 c3 c4 c5 c6 c8 c9)/\Vs (w.heap.size+1) X (.agg (stA D a1 a2 a3 a4 a5 a6 a8 a9 c1 c2 c3 c4 c5 c6 c8 c9).toArray) D:=by
 refine⟨_,rfl,(((((((((h.set 0 _).set 1 _).set 2 _).set 3 _).set 4 _).set 5 _).set 6 _).set 7 _).set 8 _).set 9 _,Tn.but h.var λk _ _ az=>?_⟩;simp only[heap_setCell_other _ _ _ _ (show k≠((O g _):Addr).block from az)]
theorem WK.fin{D:Uo}(h:WK p a len cap zs w W g L)(Tn:Vs (w.heap.size+1) W (.agg (stA D a1 a2 a3 a4 a5 a6 a8 a9 c1 c2 c3 c4 c5 c6 c8 c9).toArray) D)(ok:Zr D):∃X,((((((((((W.setCell (O w.heap.size 0) (J D.tx)).setCell (O w.heap.size 1) (U a1 D.Tz.Tw.length c1)).setCell (O w.heap.size 2) (U a2 D.Tz.TC.length c2)).setCell (O w.heap.size 3) (U a3 D.Tz.TG.length c3)).setCell (O w.heap.size 4) (U a4 D.TE.Tw.length c4)).setCell (O w.heap.size 5) (U a5 D.TE.TC.length c5)).setCell (O w.heap.size 6) (U a6 D.TE.TG.length c6)).setCell (O w.heap.size 7) (J D.cur)).setCell (O w.heap.size 8) (U a8 D.vs.length c8)).setCell (O w.heap.size 9) (U a9 D.ix.length c9))=X/\(X.cell? (O w.heap.size 0)=some (J D.tx)/\X.cell? (O w.heap.size 1)=some (U a1 D.Tz.Tw.length c1)/\X.cell? (O w.heap.size 2)=some (U a2 D.Tz.TC.length c2)/\X.cell? (O w.heap.size 3)=some (U a3 D.Tz.TG.length c3)/\X.cell? (O w.heap.size 4)=some (U a4 D.TE.Tw.length c4)/\X.cell? (O w.heap.size 5)=some (U a5 D.TE.TC.length c5)/\X.cell? (O w.heap.size 6)=some (U a6 D.TE.TG.length c6)/\X.cell? (O w.heap.size 7)=some (J D.cur)/\X.cell? (O w.heap.size 8)=some (U a8 D.vs.length c8)/\X.cell? (O w.heap.size 9)=some (U a9 D.ix.length c9))/\vdj p a len cap zs w (V (.agg (stA D a1 a2 a3 a4 a5 a6 a8 a9 c1 c2 c3 c4 c5 c6 c8 c9).toArray)) X:=by
 have⟨X,hX,K⟩:=ZT w.heap.size W [(0,J D.tx),(1,U a1 D.Tz.Tw.length c1),(2,U a2 D.Tz.TC.length c2),(3,U a3 D.Tz.TG.length c3),(4,U a4 D.TE.Tw.length c4),(5,U a5 D.TE.TC.length c5),(6,U a6 D.TE.TG.length c6),(7,J D.cur),(8,U a8 D.vs.length c8),(9,U a9 D.ix.length c9)];have h2:=h.lt;exact⟨X,hX,Zh.UA (K.var _ h.res),⟨⟨D,a1,a2,a3,a4,a5,a6,a8,a9,c1,c2,c3,c4,c5,c6,c8,c9,rfl,Tn.keep λk h1 _=>K.blk k Q,ok⟩,h.src.keep λk hk=>K.blk k Q,vbH h.gr (K.TQ _ _ (TP _) (Ui _ _))⟩⟩
end
def vbZ(p:Nat)(a:Option Addr)(len cap:Nat)(zs:List Int)(w W:World)(g:Nat):Prop:=∃D a1 a2 a3 a4 a5 a6 a8 a9 c1 c2 c3 c4 c5 c6 c8 c9,vaw D/\WK p a len cap zs w W g (stA D a1 a2 a3 a4 a5 a6 a8 a9 c1 c2 c3 c4 c5 c6 c8 c9)/\Vs (w.heap.size+1) W (.agg (stA D a1 a2 a3 a4 a5 a6 a8 a9 c1 c2 c3 c4 c5 c6 c8 c9).toArray) D
theorem UT.three{p:Nat}{a:Option Addr}{len cap:Nat}{zs:List Int}{w:World}(h:UT p a len cap zs w):∃sz:Int,w.cell? (O p 3)=some (J sz):=by
 have⟨_,_,sz,_,_,_,_,_,_,k3,_⟩:=h;exact⟨sz,k3⟩
theorem vhR:vaw VP:=⟨Yk.1,Yk.2.1,Yk.2.2⟩
theorem vew(p:Nat)(a:Option Addr)(len cap:Nat)(zs:List Int)(w:World)(hS:UT p a len cap zs w):
  C 16 #[.pointer (some (O p 0))] w (vdj p a len cap zs w):=by
 have hp:=hS.lt;have b0:=TK w (G #[J 0,nS,nS,nS,nS,nS,nS,J 0,nS,nS] 31);have V0:=Zh.new w [J 0,nS,nS,nS,nS,nS,nS,J 0,nS,nS] 31;have S0:=hS.grown b0;have az:some w.heap.size≠some p:=Z6;clear hS;delta C;go_in;go_wp2_with fail;refine(vex p a len cap zs _ S0).mono ?_;rintro q w1 ⟨tx,rfl,Ha,S1,g1⟩;have V1:=V0.grown g1 az;have G1:=(World.YN b0 (some p)).trans g1;have z1:w.heap.size+1<=w1.heap.size:=TV (V1.c 0 rfl);have hI:=veB VP _ tx w1 (Yi (p+1) w1).st vhR Ha;clear S0 V0 b0 g1;go_wp2_with fail;refine hI.mono ?_;rintro q w2 iB;have⟨D,m,c,gS,mU,sd,nC⟩:=iB.ex;obtain⟨a1,a2,a3,a4,a5,a6,a8,a9,c1,c2,c3,c4,c5,c6,c8,c9,rfl,ch⟩:=gS.ex;have b2:=gS.TQ;have b3:=TK w2 (G (stA D a1 a2 a3 a4 a5 a6 a8 a9 c1 c2 c3 c4 c5 c6 c8 c9).toArray 31);have O3:=((ch w2 λ_ _ _=>rfl).mono z1).below b3;have E3:WK p a len cap zs w _ w2.heap.size (stA D a1 a2 a3 a4 a5 a6 a8 a9 c1 c2 c3 c4 c5 c6 c8 c9):=⟨(S1.grown b2).grown b3,heap_alloc_new w2 _,(V1.below b2).below b3,Nat.lt_of_lt_of_le z1 b2.size,hp,(G1.trans (World.YN b2 _)).trans (World.YN b3 _)⟩;have⟨sz,k3⟩:=E3.src.three;have⟨g,hg⟩:=TY w2.heap.size;clear hI iB gS ch b2 b3 S1 V1 G1 z1 az;rw[hg]at E3;have qA:∀w:World,(Instr.field 88 (.agg #[J D.tx,U a1 D.Tz.Tw.length c1,U a2 D.Tz.TC.length c2,U a3 D.Tz.TG.length c3,U a4 D.TE.Tw.length c4,U a5 D.TE.TC.length c5,U a6 D.TE.TG.length c6,J D.cur,U a8 D.vs.length c8,U a9 D.ix.length c9,J m,J c]) 0).run Tryz.prog w=.ok (.agg #[J D.tx,U a1 D.Tz.Tw.length c1,U a2 D.Tz.TC.length c2,U a3 D.Tz.TG.length c3,U a4 D.TE.Tw.length c4,U a5 D.TE.TC.length c5,U a6 D.TE.TG.length c6,J D.cur,U a8 D.vs.length c8,U a9 D.ix.length c9]) w:=λ_=>Z4
 dsimp only[Wt];go_wp2_with fail;clear qA;refine(vhn p a len cap zs (wrap64 (7+sz)) _ E3.src (vdb _).2).mono ?_;rintro q w4 ⟨k4,rfl,⟨l4,u4⟩,S4,g4⟩;have Gp:Hid (vbZ p a len cap zs w w4 g):=⟨D,a1,a2,a3,a4,a5,a6,a8,a9,c1,c2,c3,c4,c5,c6,c8,c9,⟨mU,sd,nC⟩,E3.draw S4 g4,O3.drawn g4 Q⟩;clear E3 O3 S4 g4 k3 mU sd nC hg;go_wp2;go_loopw [4,5] (λs4 _ wr=>∃k:Int, -9223372036854775808<=k/\k<=9223372036854775807/\s4=J k/\Hid (vbZ p a len cap zs w wr g)) (λs4 _ _=>(intOf s4).toNat)
 .exact⟨k4,l4,u4,rfl,Gp⟩
 ·
  have⟨wa,dS⟩:=UL wr;subst dS;obtain⟨k,lk,uk,rfl,HE⟩:=hrel;clear Gp;have⟨D,a1,a2,a3,a4,a5,a6,a8,a9,c1,c2,c3,c4,c5,c6,c8,c9,cG,E,Tn⟩:=HE.out;by_cases hk:0<k
  case pos=>
   have⟨x0,x1,x2,x3,x4,x5,x6,x7,x8,x9⟩:=(U9 E.var).UA;have rd:=vhu (w.heap.size+1) p a len cap zs D _ wa E.src Tn Q (by have:=Vt E.var;have:=E.ge;omega) cG;have qk:IntKind.i64.wrap (k-1)=k-1:=by rw[IntKind.wrap_i64];omega
   go_wp2_with fail;refine rd.mono ?_;rintro q w5 fo;obtain⟨D2,m2,Ir,e1,e2,e3,e4,e5,e6,e8,e9,k1,k2,k3,k4,k5,k6,k8,k9,rfl,O5,ok5⟩:=fo.ex;have b6:=TK w5 (G (Wt D2 e1 e2 e3 e4 e5 e6 e8 e9 k1 k2 k3 k4 k5 k6 k8 k9 m2 Ir).toArray 88);have E5:=E.draw fo.src fo.gr;have E6:=E5.below b6;have O6:=O5.below b6;have um:=Us ((Tn.drawn fo.gr Q).below b6);have Y6:=Zh.new w5 (Wt D2 e1 e2 e3 e4 e5 e6 e8 e9 k1 k2 k3 k4 k5 k6 k8 k9 m2 Ir) 88;have RM:w5.heap.size≠g:=by have:=Vt E5.var;omega
   have⟨y0,y1,y2,y3,y4,y5,y6,y7,y8,y9,y10,y11⟩:=Y6.Wo;have⟨z0,z1,z2,z3,z4,z5,z6,z7,z8,z9⟩:=(U9 E6.var).UA;have⟨SL,SM,SN,SO,NE,SP,SQ,SR,NF,SS⟩:=(U9 E6.var).XQ;clear rd fo O5 b6 E5 Y6 E Tn HE x0 x1 x2 x3 x4 x5 x6 x7 x8 x9;by_cases hc:Ir=0
   case pos=>
    subst hc;have⟨X,hX,E7,O7⟩:=E6.put O6;have Bo:Hid (vbZ p a len cap zs w X g):=⟨D2,e1,e2,e3,e4,e5,e6,e8,e9,k1,k2,k3,k4,k5,k6,k8,k9,ok5,E7,O7⟩;clear E6 O6 E7 O7 um;go_wp2;go_roundw
    .exact⟨k-1,Q,Q,Z7,Bo⟩
    .simp[intOf];omega
   case neg=>
    have cU:(Ir==0)=false:=by simpa using hc
    have Bo:Hid (vbZ p a len cap zs w _ g):=⟨D,a1,a2,a3,a4,a5,a6,a8,a9,c1,c2,c3,c4,c5,c6,c8,c9,cG,E6,um.out⟩;clear E6 O6 um;go_wp2;go_roundw
    .exact⟨k-1,Q,Q,Z7,Bo⟩
    .simp[intOf];omega
  case neg=>
  have J9:p<w.heap.size+1:=Q;go_wp2_with fail;refine(vaS p a len cap zs 20 _ E.src Q Q).mono ?_;rintro q w8 ⟨v8,rfl,S8,g8⟩;have E8:=E.draw S8 g8;have O8:=Tn.drawn g8 J9;clear E Tn HE S8 g8;cases v8
  case false=>
   have⟨v0,v1,v2,v3,v4,v5,v6,v7,v8,v9⟩:=(U9 E8.var).UA;have⟨r0,r1,r2,r3,r4,r5,r6,r7,r8,r9⟩:=E8.res.UA;have⟨f0,f1,f2,f3,f4,f5,f6,f7,f8,f9⟩:=E8.res.XQ;have⟨X,hX,⟨t0,t1,t2,t3,t4,t5,t6,t7,t8,t9⟩,HP⟩:=E8.fin O8 cG.ok;have gY:=Us HP;clear HP;go_wp2;exact Ue (v:=.agg (stA D a1 a2 a3 a4 a5 a6 a8 a9 c1 c2 c3 c4 c5 c6 c8 c9).toArray) (by simp[results,Tryz.results16,go_sem,t0,t1,t2,t3,t4,t5,t6,t7,t8,t9,stA]) rfl gY.out
  case true=>
  go_wp2_with fail;refine(Wd p a len cap zs 5 _ E8.src Q Q).mono ?_;rintro q w9 ⟨n9,rfl,l9,u9,S9,g9⟩;have E9:=E8.draw S9 g9;have O9:=O8.drawn g9 J9;clear E8 O8 S9 g9;have⟨s1,s2,s3,s4⟩:=O9.rows;by_cases h0:n9=0
  case pos=>
   subst h0;have pG:=TK w9 (G #[J 0,J 900000,J 900001] 2);go_wp2_with fail;refine(Wd p a len cap zs 3 _ (E9.src.grown pG) Q Q).mono ?_;rintro q jC ⟨qh,rfl,Ff,Ln,lJ,kL⟩;obtain⟨xG,rfl⟩:=Int.eq_ofNat_of_zero_le Ff;have gX:=(E9.below pG).draw lJ kL;have nN:=(O9.below pG).drawn kL J9;have yh:=kL.cell (a:=(O w9.heap.size xG)) (vbO w9 2 [0,900000,900001] xG Z6) (by have:=E9.src.lt;simp;omega);generalize ([0,900000,900001]:List Int).getD xG 0=sQ at *;have j0:=(U9 gX.var).c 0 rfl;have VO:=(U9 gX.var).f 0 rfl;have fj:WK p a len cap zs w _ g (stA ⟨sQ,D.Tz,D.TE,D.cur,D.vs,D.ix⟩ a1 a2 a3 a4 a5 a6 a8 a9 c1 c2 c3 c4 c5 c6 c8 c9):=gX.set 0 (J sQ);have⟨s1,s2,s3,s4⟩:=(nN.va5 (j:=0) (u:=J sQ) gX.var).rows;have mM:Vs (w.heap.size+1) (jC.setCell (O g 0) (J sQ)) (.agg (stA ⟨sQ,D.Tz,D.TE,D.cur,D.vs,D.ix⟩ a1 a2 a3 a4 a5 a6 a8 a9 c1 c2 c3 c4 c5 c6 c8 c9).toArray) ⟨sQ,D.Tz,D.TE,D.cur,D.vs,D.ix⟩:=⟨a1,a2,a3,a4,a5,a6,a8,a9,c1,c2,c3,c4,c5,c6,c8,c9,rfl,s1,s2,s3,s4⟩;clear E9 gX O9 nN lJ kL pG;have⟨v0,v1,v2,v3,v4,v5,v6,v7,v8,v9⟩:=(U9 fj.var).UA;have⟨r0,r1,r2,r3,r4,r5,r6,r7,r8,r9⟩:=fj.res.UA;have⟨f0,f1,f2,f3,f4,f5,f6,f7,f8,f9⟩:=fj.res.XQ;have⟨X,hX,⟨t0,t1,t2,t3,t4,t5,t6,t7,t8,t9⟩,HP⟩:=fj.fin mM ⟨cG.ok.Tz,cG.ok.TE,cG.ok.vs,cG.ok.vl,cG.ok.xl⟩;have gY:=Us HP;clear HP;go_wp2;exact Ue (v:=.agg (stA ⟨sQ,D.Tz,D.TE,D.cur,D.vs,D.ix⟩ a1 a2 a3 a4 a5 a6 a8 a9 c1 c2 c3 c4 c5 c6 c8 c9).toArray) (by simp[results,Tryz.results16,go_sem,t0,t1,t2,t3,t4,t5,t6,t7,t8,t9,stA]) rfl gY.out
  case neg=>
  have kA:(n9==0)=false:=by simpa using h0
  by_cases h1:n9=1
  case pos=>
   subst h1;go_wp2_with fail;refine(Wd p a len cap zs 4 _ E9.src Q Q).mono ?_;rintro q jC ⟨qh,rfl,Ff,Ln,lJ,kL⟩;have gX:=E9.draw lJ kL;have nN:=O9.drawn kL J9;have j7:=(U9 gX.var).c 7 rfl;have jf7:=(U9 gX.var).f 7 rfl;have fj:WK p a len cap zs w _ g (stA ⟨D.tx,D.Tz,D.TE,qh,D.vs,D.ix⟩ a1 a2 a3 a4 a5 a6 a8 a9 c1 c2 c3 c4 c5 c6 c8 c9):=gX.set 7 (J qh);have⟨s1,s2,s3,s4⟩:=(nN.va5 (j:=7) (u:=J qh) gX.var).rows;have mM:Vs (w.heap.size+1) (jC.setCell (O g 7) (J qh)) (.agg (stA ⟨D.tx,D.Tz,D.TE,qh,D.vs,D.ix⟩ a1 a2 a3 a4 a5 a6 a8 a9 c1 c2 c3 c4 c5 c6 c8 c9).toArray) ⟨D.tx,D.Tz,D.TE,qh,D.vs,D.ix⟩:=⟨a1,a2,a3,a4,a5,a6,a8,a9,c1,c2,c3,c4,c5,c6,c8,c9,rfl,s1,s2,s3,s4⟩;clear E9 gX O9 nN lJ kL;have⟨v0,v1,v2,v3,v4,v5,v6,v7,v8,v9⟩:=(U9 fj.var).UA;have⟨r0,r1,r2,r3,r4,r5,r6,r7,r8,r9⟩:=fj.res.UA;have⟨f0,f1,f2,f3,f4,f5,f6,f7,f8,f9⟩:=fj.res.XQ;have⟨X,hX,⟨t0,t1,t2,t3,t4,t5,t6,t7,t8,t9⟩,HP⟩:=fj.fin mM ⟨cG.ok.Tz,cG.ok.TE,cG.ok.vs,cG.ok.vl,cG.ok.xl⟩;have gY:=Us HP;clear HP;go_wp2;exact Ue (v:=.agg (stA ⟨D.tx,D.Tz,D.TE,qh,D.vs,D.ix⟩ a1 a2 a3 a4 a5 a6 a8 a9 c1 c2 c3 c4 c5 c6 c8 c9).toArray) (by simp[results,Tryz.results16,go_sem,t0,t1,t2,t3,t4,t5,t6,t7,t8,t9,stA]) rfl gY.out
  case neg=>
  have aX:(n9==1)=false:=by simpa using h1
  by_cases h2:n9=2
  case pos=>
   subst h2;have pG:=TK w9 (G #[J 5,J 1] 56);have j9:=(U9 E9.var).c 9 rfl
   have HR:Hid (Xg (w9.alloc (G #[J 5,J 1] 56)) (U (some (O w9.heap.size 0)) 1 1) 2 1 [J 5,J 1]):=⟨rfl,by intro u hu;simp at hu;rcases hu with rfl|rfl<;>rfl,_,_,rfl,M,λW hb O e j u hu=>by
    obtain rfl:=Uw e;have h:=Vy w9 [J 5,J 1] 56 j u hu;rw[Y4]at h ⊢
    exact Tx hb h⟩
   have o4:=UC s4 (G #[J 5,J 1] 56);have o3:=UC s3 (G #[J 5,J 1] 56);have Sh:=cG.xl;have Rt:w.heap.size+1<=w9.heap.size:=Nat.le_of_lt (Nat.lt_of_le_of_lt E9.ge (Vt E9.var));go_wp2_with (first|(at_builtin;refine vdc (w:=w9.alloc (G #[J 5,J 1] 56)) rfl _ _ 29 rfl Tryz.underlying29 jft rfl Q Q _ D.ix.length (D.ix.map TZ.cs).flatten rfl o4 rfl HR.out (Ui _ _) ?qb ?qc ?_)|fail)
   case qb=>omega
   case qc=>simp;omega
   intro vn jC ho dp;obtain⟨an,cn,rfl⟩:=YW ho;have gX:=(E9.below pG).app o4 Z5 dp;have n1:=(s1.below pG).app o4 (by unfold Y3;decide) dp;have n2:=(s2.below pG).app o4 (by unfold Y3;decide) dp;have n3:=vd6 o3 o4 Z5 dp;have k9:=(U9 gX.var).c 9 rfl;have Oh:=(U9 gX.var).f 9 rfl;have fj:WK p a len cap zs w _ g _:=gX.set 9 (U an (D.ix.length+1) cn);have hl:D.ix.length+1=(D.ix++[(⟨5,1⟩:TZ)]).length:=M;have nN:Vs (w.heap.size+1) jC (.agg (stA ⟨D.tx,D.Tz,D.TE,D.cur,D.vs,D.ix++[⟨5,1⟩]⟩ a1 a2 a3 a4 a5 a6 a8 an c1 c2 c3 c4 c5 c6 c8 cn).toArray) ⟨D.tx,D.Tz,D.TE,D.cur,D.vs,D.ix++[⟨5,1⟩]⟩:=⟨a1,a2,a3,a4,a5,a6,a8,an,c1,c2,c3,c4,c5,c6,c8,cn,rfl,n1,n2,n3,by rw[<- hl,Vr,List.flatten_append];simpa [TZ.cs]using ho⟩;have fj:WK p a len cap zs w (jC.setCell (O g 9) (U an (D.ix.length+1) cn)) g (stA ⟨D.tx,D.Tz,D.TE,D.cur,D.vs,D.ix++[⟨5,1⟩]⟩ a1 a2 a3 a4 a5 a6 a8 an c1 c2 c3 c4 c5 c6 c8 cn):=by
    have e:=fj;simp only[List.set_cons_succ,List.set_cons_zero]at e;simp only[stA, <- hl];exact e
   have mM:=nN.va5 (j:=9) (u:=U an (D.ix.length+1) cn) gX.var;have sX:Zr ⟨D.tx,D.Tz,D.TE,D.cur,D.vs,D.ix++[⟨5,1⟩]⟩:=⟨cG.ok.Tz,cG.ok.TE,cG.ok.vs,cG.ok.vl,by show(D.ix++[(⟨5,1⟩:TZ)]).length<=_;rw[<- hl];omega⟩;generalize D.ix++[(⟨5,1⟩:TZ)]=ix2 at *;rw[hl]at fj mM ho ⊢;clear E9 gX O9 nN n1 n2 n3 s1 s2 s3 s4 o3 o4 ho dp pG j9 HR;have⟨v0,v1,v2,v3,v4,v5,v6,v7,v8,v9⟩:=(U9 fj.var).UA;have⟨r0,r1,r2,r3,r4,r5,r6,r7,r8,r9⟩:=fj.res.UA;have⟨f0,f1,f2,f3,f4,f5,f6,f7,f8,f9⟩:=fj.res.XQ;have⟨X,hX,⟨t0,t1,t2,t3,t4,t5,t6,t7,t8,t9⟩,HP⟩:=fj.fin mM sX;have gY:=Us HP;clear HP;go_wp2;exact Ue (v:=.agg (stA ⟨D.tx,D.Tz,D.TE,D.cur,D.vs,ix2⟩ a1 a2 a3 a4 a5 a6 a8 an c1 c2 c3 c4 c5 c6 c8 cn).toArray) (by simp[results,Tryz.results16,go_sem,t0,t1,t2,t3,t4,t5,t6,t7,t8,t9,stA]) rfl gY.out
  case neg=>
  have cU:(n9==2)=false:=by simpa using h2
  by_cases h3:n9=3
  case pos=>
   subst h3;have Sf:=cG.vl;have j8:=(U9 E9.var).c 8 rfl;have jf8:=(U9 E9.var).f 8 rfl;by_cases dQ:0<D.vs.length
   case neg=>
    have ej:¬(0:Int)<(D.vs.length:Int):=Q;clear s1 s2 s3 s4;have⟨v0,v1,v2,v3,v4,v5,v6,v7,v8,v9⟩:=(U9 E9.var).UA;have⟨r0,r1,r2,r3,r4,r5,r6,r7,r8,r9⟩:=E9.res.UA;have⟨f0,f1,f2,f3,f4,f5,f6,f7,f8,f9⟩:=E9.res.XQ;have⟨X,hX,⟨t0,t1,t2,t3,t4,t5,t6,t7,t8,t9⟩,HP⟩:=E9.fin O9 cG.ok;have gY:=Us HP;clear HP;go_wp2;exact Ue (v:=.agg (stA D a1 a2 a3 a4 a5 a6 a8 a9 c1 c2 c3 c4 c5 c6 c8 c9).toArray) (by simp[results,Tryz.results16,go_sem,t0,t1,t2,t3,t4,t5,t6,t7,t8,t9,stA]) rfl gY.out
   case pos=>
    have ej:(0:Int)<(D.vs.length:Int):=Q;have⟨x,hx⟩:=Vb dQ;have vV:=cG.ok.vs x (UH hx);obtain⟨gv,o,rfl,hc⟩:=(vah s3 (λ_=>rfl)).1.at (i:=0) (r:=x.cs) (by rw[Uv,hx];rfl);obtain⟨xt,xg,xi,xn,xz,xw,xp,xf⟩:=x;have k0:w9.cell? (O gv o)=some (J xt):=by simpa using hc 0 _ rfl
    have k1:w9.cell? (O gv (o+1))=some (Z xg):=by simpa using hc 1 _ rfl
    have k2:w9.cell? (O gv (o+2))=some (J xi):=by simpa using hc 2 _ rfl
    have k3:w9.cell? (O gv (o+3))=some (I xn):=by simpa using hc 3 _ rfl
    have k4:w9.cell? (O gv (o+4))=some (I xz):=by simpa using hc 4 _ rfl
    have k5:w9.cell? (O gv (o+5))=some (J xw):=by simpa using hc 5 _ rfl
    have k6:w9.cell? (O gv (o+6))=some (J xp):=by simpa using hc 6 _ rfl
    have k7:w9.cell? (O gv (o+7))=some (J xf):=by simpa using hc 7 _ rfl
    have⟨Qt,vi,Qy,QC,QF⟩:=ji0;have hlt:=Vt E9.var;have K7:=E9.ge;have xj:some g≠(U (some (O gv o)) D.vs.length c8).ownBlock:=λe=>by
     have⟨ds,hd⟩:=Zz s3 e.symm;rw[E9.var]at hd;simp at hd
    have ba:∀o,Bw w9 (w9.drew.alloc o):=λo=>(show Bw w9 w9.drew from UF w9).alloc (TP _) o
    have HS:=Us (And.intro E9 (And.intro s1 (And.intro s2 s4)));clear E9 O9 hc hx s1 s2 s4;go_upto_region 19 with fail
    go_region_law (refine vcm Z9 (.tmp 65) (.tmp 70) 28 Z9 (w.heap.size+1) 93 Qt (.agg #[J 0,Z false,J 0,ZV,ZV,J 0,J 0,J 0]) 8 80 Tryz.underlying28 vi Qy QC QF rfl Q (U (some (O gv o)) D.vs.length c8) D.vs.length (D.vs.map Up.cs).flatten Z9 (UC (w:=w9.drew) s3 _) (O w9.heap.size 0) 1 1 [J xt,Z xg,J xi,I xn,I xz,J xw,J xp,J xf] Z9 rfl (Vy _ _ _) (by intro u hu;simp at hu;rcases hu with rfl|rfl|rfl|rfl|rfl|rfl|rfl|rfl<;>rfl) (by unfold maxLen;omega) Q Z6 ?_;intro vn jC ho dp;obtain⟨an,cn,rfl⟩:=YW ho;have x1:=dp.cell (a:=(O g 8)) (Tx (ba _) j8) xj;have x2:=(dp.frozen_far (O g 8) Z6 xj).trans (((Uq (ba _)).2 _ _ hlt).trans jf8))
    all_goals
     have⟨E9,s1,s2,s4⟩:=HS.out;have o3:=UC (w:=w9.drew) s3 (G #[J xt,Z xg,J xi,I xn,I xz,J xw,J xp,J xf] 93);have o4:=UC (w:=w9.drew) s4 (G #[J xt,Z xg,J xi,I xn,I xz,J xw,J xp,J xf] 93);have gX:=(E9.below (ba _)).app o3 Z5 dp;have n1:=(s1.below (ba _)).app o3 (by unfold Y3;decide) dp;have n2:=(s2.below (ba _)).app o3 (by unfold Y3;decide) dp;have n4:=vd6 o4 o3 Z5 dp;have fj:=gX.set 8 (U an (D.vs.length+1) cn);have hl:D.vs.length+1=(D.vs++[(⟨xt,xg,xi,xn,xz,xw,xp,xf⟩:Up)]).length:=M;have nN:Vs (w.heap.size+1) jC (.agg (stA ⟨D.tx,D.Tz,D.TE,D.cur,D.vs++[⟨xt,xg,xi,xn,xz,xw,xp,xf⟩],D.ix⟩ a1 a2 a3 a4 a5 a6 an a9 c1 c2 c3 c4 c5 c6 cn c9).toArray) ⟨D.tx,D.Tz,D.TE,D.cur,D.vs++[⟨xt,xg,xi,xn,xz,xw,xp,xf⟩],D.ix⟩:=⟨a1,a2,a3,a4,a5,a6,an,a9,c1,c2,c3,c4,c5,c6,cn,c9,rfl,n1,n2,by rw[<- hl,Vr,List.flatten_append];simpa [Up.cs]using ho,n4⟩;have fj:WK p a len cap zs w (jC.setCell (O g 8) (U an (D.vs.length+1) cn)) g (stA ⟨D.tx,D.Tz,D.TE,D.cur,D.vs++[⟨xt,xg,xi,xn,xz,xw,xp,xf⟩],D.ix⟩ a1 a2 a3 a4 a5 a6 an a9 c1 c2 c3 c4 c5 c6 cn c9):=by
      have e:=fj;simp only[List.set_cons_succ,List.set_cons_zero]at e;simp only[stA, <- hl];exact e
     have mM:=nN.va5 (j:=8) (u:=U an (D.vs.length+1) cn) gX.var
     have sX:Zr ⟨D.tx,D.Tz,D.TE,D.cur,D.vs++[⟨xt,xg,xi,xn,xz,xw,xp,xf⟩],D.ix⟩:=⟨cG.ok.Tz,cG.ok.TE,λv hm=>by
      rcases List.mem_append.1 hm with hm|hm
      .exact cG.ok.vs v hm
      .simp at hm;subst hm;exact vV,by show(D.vs++[(⟨xt,xg,xi,xn,xz,xw,xp,xf⟩:Up)]).length<=_;rw[<- hl];omega,cG.ok.xl⟩
     generalize D.vs++[(⟨xt,xg,xi,xn,xz,xw,xp,xf⟩:Up)]=vs2 at *;rw[hl]at fj mM ho ⊢;clear E9 gX nN n1 n2 n4 s1 s2 s3 s4 o3 o4 ho dp j8 jf8 HS x1 x2 k0 k1 k2 k3 k4 k5 k6 k7;have⟨v0,v1,v2,v3,v4,v5,v6,v7,v8,v9⟩:=(U9 fj.var).UA;have⟨r0,r1,r2,r3,r4,r5,r6,r7,r8,r9⟩:=fj.res.UA;have⟨f0,f1,f2,f3,f4,f5,f6,f7,f8,f9⟩:=fj.res.XQ;have⟨X,hX,⟨t0,t1,t2,t3,t4,t5,t6,t7,t8,t9⟩,HP⟩:=fj.fin mM sX;have gY:=Us HP;clear HP;go_wp2;exact Ue (v:=.agg (stA ⟨D.tx,D.Tz,D.TE,D.cur,vs2,D.ix⟩ a1 a2 a3 a4 a5 a6 an a9 c1 c2 c3 c4 c5 c6 cn c9).toArray) (by simp[results,Tryz.results16,go_sem,t0,t1,t2,t3,t4,t5,t6,t7,t8,t9,stA]) rfl gY.out
  case neg=>
   have fw:(n9==3)=false:=by simpa using h3
   have⟨j0,j1,j2,j3,j4,j5,j6,j7,j8,j9⟩:=(U9 E9.var).UA;have⟨VO,jf1,jf2,jf3,jf4,jf5,jf6,jf7,jf8,jf9⟩:=(U9 E9.var).XQ;have fj:WK p a len cap zs w _ g (stA ⟨D.tx,D.Tz,D.Tz,D.cur,D.vs,D.ix⟩ a1 a2 a3 a1 a2 a3 a8 a9 c1 c2 c3 c1 c2 c3 c8 c9):=((E9.set 4 (U a1 D.Tz.Tw.length c1)).set 5 (U a2 D.Tz.TC.length c2)).set 6 (U a3 D.Tz.TG.length c3);have⟨s1,s2,s3,s4⟩:=(((O9.va5 (j:=4) (u:=U a1 D.Tz.Tw.length c1) E9.var).va5 (j:=5) (u:=U a2 D.Tz.TC.length c2) (E9.set 4 _).var).va5 (j:=6) (u:=U a3 D.Tz.TG.length c3) ((E9.set 4 _).set 5 _).var).rows;have mM:Vs (w.heap.size+1) _ (.agg (stA ⟨D.tx,D.Tz,D.Tz,D.cur,D.vs,D.ix⟩ a1 a2 a3 a1 a2 a3 a8 a9 c1 c2 c3 c1 c2 c3 c8 c9).toArray) ⟨D.tx,D.Tz,D.Tz,D.cur,D.vs,D.ix⟩:=⟨a1,a2,a3,a1,a2,a3,a8,a9,c1,c2,c3,c1,c2,c3,c8,c9,rfl,s1,s1,s3,s4⟩;have⟨Y,hY⟩:=TY (((w9.setCell (O g 4) (U a1 D.Tz.Tw.length c1)).setCell (O g 5) (U a2 D.Tz.TC.length c2)).setCell (O g 6) (U a3 D.Tz.TG.length c3));rw[hY]at fj mM;have Rd:=E9.src.lt;clear E9 O9 s1 s2 s3 s4;have⟨v0,v1,v2,v3,v4,v5,v6,v7,v8,v9⟩:=(U9 fj.var).UA;have⟨r0,r1,r2,r3,r4,r5,r6,r7,r8,r9⟩:=fj.res.UA;have⟨f0,f1,f2,f3,f4,f5,f6,f7,f8,f9⟩:=fj.res.XQ;have⟨X,hX,⟨t0,t1,t2,t3,t4,t5,t6,t7,t8,t9⟩,HP⟩:=fj.fin mM ⟨cG.ok.Tz,cG.ok.Tz,cG.ok.vs,cG.ok.vl,cG.ok.xl⟩;have gY:=Us HP;clear HP;go_wp2;exact Ue (v:=.agg (stA ⟨D.tx,D.Tz,D.Tz,D.cur,D.vs,D.ix⟩ a1 a2 a3 a1 a2 a3 a8 a9 c1 c2 c3 c1 c2 c3 c8 c9).toArray) (by simp[results,Tryz.results16,go_sem,t0,t1,t2,t3,t4,t5,t6,t7,t8,t9,stA]) rfl gY.out
end
section
open Go.RowKit Go.Lib Go.Sort
structure DfS(a:Option Addr)(len cap:Nat)(D:Uo)(w W:World)(g:Nat)(L:List Value):Prop where
 src:UT (w.heap.size+1) a len cap [] W
 var:Zh W g L
 res:Zh W w.heap.size [J 0,nS,nS,nS,nS,nS,nS,J 0,nS,nS]
 sto:Vs (w.heap.size+1+1) W (.agg L.toArray) D
 ge:w.heap.size+1<g
 TQ:Bw w W
section
variable {a : Option Addr} {len cap : Nat} {D : Uo} {w W W' : World} {g : Nat} {L : List Value}
theorem DfS.draw(h:DfS a len cap D w W g L)(hS:UT (w.heap.size+1) a len cap [] W')(hg:W.grownBy W' (some (w.heap.size+1))):DfS a len cap D w W' g L:=by
 have h1:=h.ge;exact⟨hS,h.var.grown hg Z6,h.res.grown hg M,h.sto.drawn hg Q,h1,h.TQ.grown hg h.TQ.size (λk hk=>by injection hk with hk;omega)⟩
theorem DfS.below(h:DfS a len cap D w W g L)(hb:Bw W W'):DfS a len cap D w W' g L:=⟨h.src.grown hb,h.var.below hb,h.res.below hb,h.sto.below hb,h.ge,h.TQ.trans (hb.mono h.TQ.size)⟩
theorem DfS.fin(h:DfS a len cap D w W g [l0,l1,l2,l3,l4,l5,l6,l7,l8,l9]):∃X,((((((((((W.setCell (O w.heap.size 0) (l0)).setCell (O w.heap.size 1) (l1)).setCell (O w.heap.size 2) (l2)).setCell (O w.heap.size 3) (l3)).setCell (O w.heap.size 4) (l4)).setCell (O w.heap.size 5) (l5)).setCell (O w.heap.size 6) (l6)).setCell (O w.heap.size 7) (l7)).setCell (O w.heap.size 8) (l8)).setCell (O w.heap.size 9) (l9))=X/\(X.cell? (O w.heap.size 0)=some l0/\X.cell? (O w.heap.size 1)=some l1/\X.cell? (O w.heap.size 2)=some l2/\X.cell? (O w.heap.size 3)=some l3/\X.cell? (O w.heap.size 4)=some l4/\X.cell? (O w.heap.size 5)=some l5/\X.cell? (O w.heap.size 6)=some l6/\X.cell? (O w.heap.size 7)=some l7/\X.cell? (O w.heap.size 8)=some l8/\X.cell? (O w.heap.size 9)=some l9)/\Jd X (.agg #[l0,l1,l2,l3,l4,l5,l6,l7,l8,l9]) D/\Bw w X:=by
 have⟨X,hX,K⟩:=ZT w.heap.size W [(0,l0),(1,l1),(2,l2),(3,l3),(4,l4),(5,l5),(6,l6),(7,l7),(8,l8),(9,l9)];exact⟨X,hX,Zh.UA (K.var _ h.res),(h.sto.keep λk h1 _=>K.blk k Q).st,K.TQ _ _ (TP _) h.TQ⟩
end
structure DfP(w:World)(q:Ending)(w':World):Prop where
 ex:∃D a1 a2 a3 a4 a5 a6 a8 a9 c1 c2 c3 c4 c5 c6 c8 c9 lo hi,q=V (.tuple #[.agg (stA D a1 a2 a3 a4 a5 a6 a8 a9 c1 c2 c3 c4 c5 c6 c8 c9).toArray,J lo,J hi])/\Jd w' (.agg (stA D a1 a2 a3 a4 a5 a6 a8 a9 c1 c2 c3 c4 c5 c6 c8 c9).toArray) D/\Zr D/\ -62135596800<=lo/\lo<=hi/\hi<=253402300799
 TQ:Bw w w'
structure DwP(w:World)(q:Ending)(w':World):Prop where
 ex:∃D a1 a2 a3 a4 a5 a6 a8 a9 c1 c2 c3 c4 c5 c6 c8 c9 z lo hi,q=V (.tuple #[.agg (stA D a1 a2 a3 a4 a5 a6 a8 a9 c1 c2 c3 c4 c5 c6 c8 c9).toArray,I z,J lo,J hi])/\Jd w' (.agg (stA D a1 a2 a3 a4 a5 a6 a8 a9 c1 c2 c3 c4 c5 c6 c8 c9).toArray) D/\Zr D/\z.size<=100
 TQ:Bw w w'
theorem vfj(a:Option Addr)(len cap:Nat)(w:World)(h:Y2 w a len)(hl:len<=1048576):
  C 4 #[U a len cap] w (DfP w):=by
 have b0:=TK w (G #[J 0,nS,nS,nS,nS,nS,nS,J 0,nS,nS] 31);have V0:=Zh.new w [J 0,nS,nS,nS,nS,nS,nS,J 0,nS,nS] 31;have h0:=h.grown b0;clear h;delta C;go_in;go_wp2_with fail;refine(vev a len cap _ h0 hl).mono ?_;rintro q w1 ⟨rfl,S1,b1⟩;rw[World.size_alloc]at S1 ⊢;have V1:=V0.below b1;have B1:=TJ b0 b1;clear b0 b1 V0 h0;go_wp2_with fail;refine(vew (w.heap.size+1) a len cap [] _ S1).mono ?_;rintro q w2 iB;obtain⟨D,a1,a2,a3,a4,a5,a6,a8,a9,c1,c2,c3,c4,c5,c6,c8,c9,rfl,O2,cG⟩:=iB.ex;have g2:=iB.gr;have l1:=S1.lt;have b3:=TK w2 (G (stA D a1 a2 a3 a4 a5 a6 a8 a9 c1 c2 c3 c4 c5 c6 c8 c9).toArray 31);have B2:Bw w w2:=B1.grown g2 Q (λk hk=>by injection hk with hk;omega);have E3:DfS a len cap D w _ w2.heap.size (stA D a1 a2 a3 a4 a5 a6 a8 a9 c1 c2 c3 c4 c5 c6 c8 c9):=⟨iB.src.grown b3,Zh.new w2 _ _,(V1.grown g2 M).below b3,(O2.mono Q).below b3,Nat.lt_of_lt_of_le l1 g2.size,(TJ B2 b3)⟩;have⟨g,hg⟩:=TY w2.heap.size;clear iB O2 g2 l1 b3 B1 B2 V1 S1;rw[hg]at E3;go_wp2_with fail;refine(Wd (w.heap.size+1) a len cap [] 1500000000 _ E3.src Q Q).mono ?_;rintro q w5 ⟨n5,rfl,l5,u5,S5,g5⟩;have E5:=E3.draw S5 g5;clear E3 S5 g5;go_wp2_with fail;refine(vaS (w.heap.size+1) a len cap [] 3 _ E5.src Q Q).mono ?_;rintro q w6 ⟨v6,rfl,S6,g6⟩;have E6:=E5.draw S6 g6;clear E5 S6 g6;cases v6
 case true=>
  have E9:=E6;have⟨x0,x1,x2,x3,x4,x5,x6,x7,x8,x9⟩:=E6.var.UA;have⟨r0,r1,r2,r3,r4,r5,r6,r7,r8,r9⟩:=E6.res.UA;have⟨f0,f1,f2,f3,f4,f5,f6,f7,f8,f9⟩:=E6.res.XQ;clear E6;have⟨X,hX,⟨t0,t1,t2,t3,t4,t5,t6,t7,t8,t9⟩,od,nR⟩:=E9.fin;have HX:=Us (And.intro od nR);clear od nR E9;go_wp2;exact Ue (v:=.tuple #[.agg (stA D a1 a2 a3 a4 a5 a6 a8 a9 c1 c2 c3 c4 c5 c6 c8 c9).toArray,J (-62135596800),J (253402300799)]) (by simp[results,Tryz.results4,go_sem,t0,t1,t2,t3,t4,t5,t6,t7,t8,t9,stA]) rfl ⟨⟨D,a1,a2,a3,a4,a5,a6,a8,a9,c1,c2,c3,c4,c5,c6,c8,c9, -62135596800,253402300799,rfl,HX.out.1,cG,Q,Q,Q⟩,HX.out.2⟩
 case false=>
  have E7:=E6.below (UF w6);have Ei:g≠w.heap.size:=by have:=E7.ge;omega
  have Ob:w.heap.size≠g:=λe=>Ei e.symm
  have⟨x0,x1,x2,x3,x4,x5,x6,x7,x8,x9⟩:=E7.var.UA;clear E6;go_wp2_with fail;go_region_held3 (λw'=>w'.cell? (O g 0)=some (J D.tx)/\w'.cell? (O g 1)=some (U a1 D.Tz.Tw.length c1)/\w'.cell? (O g 2)=some (U a2 D.Tz.TC.length c2)/\w'.cell? (O g 3)=some (U a3 D.Tz.TG.length c3)/\w'.cell? (O g 4)=some (U a4 D.TE.Tw.length c4)/\w'.cell? (O g 5)=some (U a5 D.TE.TC.length c5)/\w'.cell? (O g 6)=some (U a6 D.TE.TG.length c6)/\w'.cell? (O g 7)=some (J D.cur)/\w'.cell? (O g 8)=some (U a8 D.vs.length c8)/\w'.cell? (O g 9)=some (U a9 D.ix.length c9)) (go_keep) ((go_at_call 17;refine(Wd (w.heap.size+1) a len cap [] 500000000 _ E7.src Q Q).mono ?_;rintro q w8 ⟨n8,rfl,l8,u8,S8,g8⟩;have E9:=E7.draw S8 g8;have⟨y0,y1,y2,y3,y4,y5,y6,y7,y8,y9⟩:=E9.var.UA;have⟨r0,r1,r2,r3,r4,r5,r6,r7,r8,r9⟩:=E9.res.UA;have⟨f0,f1,f2,f3,f4,f5,f6,f7,f8,f9⟩:=E9.res.XQ;have q8:IntKind.i64.wrap (n5+n8)=n5+n8:=(by rw[IntKind.wrap_i64];omega)))
  all_goals
   clear x0 x1 x2 x3 x4 x5 x6 x7 x8 x9 y0 y1 y2 y3 y4 y5 y6 y7 y8 y9 E7 S8 g8;have⟨X,hX,⟨t0,t1,t2,t3,t4,t5,t6,t7,t8,t9⟩,od,nR⟩:=E9.fin;have HX:=Us (And.intro od nR);clear od nR E9;rw[hX];go_wp2;exact Ue (v:=.tuple #[.agg (stA D a1 a2 a3 a4 a5 a6 a8 a9 c1 c2 c3 c4 c5 c6 c8 c9).toArray,J (n5),J (n5+n8)]) (by simp[results,Tryz.results4,go_sem,t0,t1,t2,t3,t4,t5,t6,t7,t8,t9,stA]) rfl ⟨⟨D,a1,a2,a3,a4,a5,a6,a8,a9,c1,c2,c3,c4,c5,c6,c8,c9,n5,n5+n8,rfl,HX.out.1,cG,Q,Q,Q⟩,HX.out.2⟩
theorem vfk(a:Option Addr)(len cap:Nat)(w:World)(h:Y2 w a len)(hl:len<=1048576):
  C 11 #[U a len cap] w (DwP w):=by
 have b0:=TK w (G #[J 0,nS,nS,nS,nS,nS,nS,J 0,nS,nS] 31);have V0:=Zh.new w [J 0,nS,nS,nS,nS,nS,nS,J 0,nS,nS] 31;have h0:=h.grown b0;clear h;delta C;go_in;go_wp2_with fail;refine(vev a len cap _ h0 hl).mono ?_;rintro q w1 ⟨rfl,S1,b1⟩;rw[World.size_alloc]at S1 ⊢;have V1:=V0.below b1;have B1:=TJ b0 b1;clear b0 b1 V0 h0;go_wp2_with fail;refine(vew (w.heap.size+1) a len cap [] _ S1).mono ?_;rintro q w2 iB;obtain⟨D,a1,a2,a3,a4,a5,a6,a8,a9,c1,c2,c3,c4,c5,c6,c8,c9,rfl,O2,cG⟩:=iB.ex;have g2:=iB.gr;have l1:=S1.lt;have b3:=TK w2 (G (stA D a1 a2 a3 a4 a5 a6 a8 a9 c1 c2 c3 c4 c5 c6 c8 c9).toArray 31);have B2:Bw w w2:=B1.grown g2 Q (λk hk=>by injection hk with hk;omega);have E3:DfS a len cap D w _ w2.heap.size (stA D a1 a2 a3 a4 a5 a6 a8 a9 c1 c2 c3 c4 c5 c6 c8 c9):=⟨iB.src.grown b3,Zh.new w2 _ _,(V1.grown g2 M).below b3,(O2.mono Q).below b3,Nat.lt_of_lt_of_le l1 g2.size,(TJ B2 b3)⟩;have⟨g,hg⟩:=TY w2.heap.size;clear iB O2 g2 l1 b3 B1 B2 V1 S1;rw[hg]at E3;go_wp2_with fail;refine(vey (w.heap.size+1) a len cap [] _ E3.src).mono ?_;rintro q w4 ⟨zn,rfl,z4,S4,g4⟩;have E3:=E3.draw S4 g4;clear S4 g4 hg;go_wp2_with fail;refine(Wd (w.heap.size+1) a len cap [] 1500000000 _ E3.src Q Q).mono ?_;rintro q w5 ⟨n5,rfl,l5,u5,S5,g5⟩;have E5:=E3.draw S5 g5;clear E3 S5 g5;go_wp2_with fail;refine(vaS (w.heap.size+1) a len cap [] 3 _ E5.src Q Q).mono ?_;rintro q w6 ⟨v6,rfl,S6,g6⟩;have E6:=E5.draw S6 g6;clear E5 S6 g6;cases v6
 case true=>
  have E9:=E6;have⟨x0,x1,x2,x3,x4,x5,x6,x7,x8,x9⟩:=E6.var.UA;have⟨r0,r1,r2,r3,r4,r5,r6,r7,r8,r9⟩:=E6.res.UA;have⟨f0,f1,f2,f3,f4,f5,f6,f7,f8,f9⟩:=E6.res.XQ;clear E6;have⟨X,hX,⟨t0,t1,t2,t3,t4,t5,t6,t7,t8,t9⟩,od,nR⟩:=E9.fin;have HX:=Us (And.intro od nR);clear od nR E9;go_wp2;exact Ue (v:=.tuple #[.agg (stA D a1 a2 a3 a4 a5 a6 a8 a9 c1 c2 c3 c4 c5 c6 c8 c9).toArray,I zn,J (-62135596800),J (253402300799)]) (by simp[results,Tryz.results11,go_sem,t0,t1,t2,t3,t4,t5,t6,t7,t8,t9,stA]) rfl ⟨⟨D,a1,a2,a3,a4,a5,a6,a8,a9,c1,c2,c3,c4,c5,c6,c8,c9,zn, -62135596800,253402300799,rfl,HX.out.1,cG,z4⟩,HX.out.2⟩
 case false=>
  have E7:=E6.below (UF w6);have Ei:g≠w.heap.size:=by have:=E7.ge;omega
  have Ob:w.heap.size≠g:=λe=>Ei e.symm
  have⟨x0,x1,x2,x3,x4,x5,x6,x7,x8,x9⟩:=E7.var.UA;clear E6;go_wp2_with fail;go_region_held3 (λw'=>w'.cell? (O g 0)=some (J D.tx)/\w'.cell? (O g 1)=some (U a1 D.Tz.Tw.length c1)/\w'.cell? (O g 2)=some (U a2 D.Tz.TC.length c2)/\w'.cell? (O g 3)=some (U a3 D.Tz.TG.length c3)/\w'.cell? (O g 4)=some (U a4 D.TE.Tw.length c4)/\w'.cell? (O g 5)=some (U a5 D.TE.TC.length c5)/\w'.cell? (O g 6)=some (U a6 D.TE.TG.length c6)/\w'.cell? (O g 7)=some (J D.cur)/\w'.cell? (O g 8)=some (U a8 D.vs.length c8)/\w'.cell? (O g 9)=some (U a9 D.ix.length c9)) (go_keep) ((go_at_call 17;refine(Wd (w.heap.size+1) a len cap [] 900000000 _ E7.src Q Q).mono ?_;rintro q w8 ⟨n8,rfl,l8,u8,S8,g8⟩;have E9:=E7.draw S8 g8;have⟨y0,y1,y2,y3,y4,y5,y6,y7,y8,y9⟩:=E9.var.UA;have⟨r0,r1,r2,r3,r4,r5,r6,r7,r8,r9⟩:=E9.res.UA;have⟨f0,f1,f2,f3,f4,f5,f6,f7,f8,f9⟩:=E9.res.XQ;have q8:IntKind.i64.wrap (n5+n8)=n5+n8:=(by rw[IntKind.wrap_i64];omega)))
  all_goals
   clear x0 x1 x2 x3 x4 x5 x6 x7 x8 x9 y0 y1 y2 y3 y4 y5 y6 y7 y8 y9 E7 S8 g8;have⟨X,hX,⟨t0,t1,t2,t3,t4,t5,t6,t7,t8,t9⟩,od,nR⟩:=E9.fin;have HX:=Us (And.intro od nR);clear od nR E9;rw[hX];go_wp2;exact Ue (v:=.tuple #[.agg (stA D a1 a2 a3 a4 a5 a6 a8 a9 c1 c2 c3 c4 c5 c6 c8 c9).toArray,I zn,J (n5),J (n5+n8)]) (by simp[results,Tryz.results11,go_sem,t0,t1,t2,t3,t4,t5,t6,t7,t8,t9,stA]) rfl ⟨⟨D,a1,a2,a3,a4,a5,a6,a8,a9,c1,c2,c3,c4,c5,c6,c8,c9,zn,n5,n5+n8,rfl,HX.out.1,cG,z4⟩,HX.out.2⟩
