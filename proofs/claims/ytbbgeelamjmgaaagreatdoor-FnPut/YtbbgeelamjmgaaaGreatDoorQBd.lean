import Derived.Test.YtbbgeelamjmgaaaGreatDoorQAd
import Derived.Test.YtbbgeelamjmgaaaGreatDoorSNd
import Derived.Test.YtbbgeelamjmgaaaGreatDoorFXd
set_option maxRecDepth 20000
set_option maxHeartbeats 0
set_option linter.unusedSimpArgs false
open Go.RowKit
namespace Go.Proofs.YtbbgeelamjmgaaaGreatDoor
variable{B base g j n nv q:Nat}{W W' w:World}{lv n3 u v vi vv w3:Value}{EV L PV RV xi xs xv:List Value}{e:TypeId}{r:ZW}{s:ZP}
theorem vge(r:ZW)(v:Value)(ev:Ze)(w:World)(hv:Zd w v r)(ok:Jk r)(hr:ZZ r=true)(jb:EvR ev){vMM:Int × Bool}(hM:vai r ev=vMM):
  C 117 #[v,ev.v] w λq w'=>q=V (.tuple #[J vMM.1,.bool vMM.2])/\Bw w w':=by
 have dQ:=hv;obtain⟨a,b,c,ca,cb,cc,rfl,_⟩:=hv.form;obtain⟨id,name,YZ,YV,Zz,Zu⟩:=ev;have⟨k1,k2,k3,k4,k5,k6,k7⟩:=jb;simp only[Ze.v]at *;have⟨w0,KR,ag,A0,E0,z0⟩:=vb3 w [U a r.Vv.length ca,U b r.YU.length cb,U c r.YW.length cc] [J id,I name,I YZ,J YV,J Zz,J Zu] 27 33;have hT:=jsy vgq r _ YZ w0 (dQ.below ag) ok.sm ok.on k1 hr;have x0:=A0.c 0 rfl;have x1:=A0.c 1 rfl;have x2:=A0.c 2 rfl;have e2:=E0.c 2 rfl;have HE:=hidL E0;have HM:=hidL hM;clear hv dQ A0 E0 hM;unfold C;go_in;go_wp2_with fail;refine hT.mono ?_;rintro q w1 hP;obtain⟨tv,rfl,hO,hb1⟩:=hP.ex;obtain⟨ta,tn,tc,rfl⟩:=Dt hO;have b2:=ZA w1 (G #[U ta tn tc,J (uC r YZ).1] 160);have C3:=Zp hb1 b2;have E1:=HE.out.below C3;have e3:=E1.c 3 rfl;have e4:=E1.c 4 rfl;have e5:=E1.c 5 rfl;have T1:=Zh.new w1 [U ta tn tc,J (uC r YZ).1] 160;have t0:=T1.c 0 rfl;have t1:=T1.c 1 rfl;have aj:=Zp ag C3;clear hT hP x0 x1 x2 e2 HE E1 T1;by_cases hk:(uC r YZ).1=0
 .have oz:=(jm1 hk).2.2.2.right
  have HR:Hid (((vbg (uC r YZ).2 YV Zz Zu).1,decide ((vbg (uC r YZ).2 YV Zz Zu).2=0))=vMM):=by
   simp only[Hid];rw[<- HM.out];unfold vai;rw[jrp hk,jri oz (jma k2 k3) (jma k4 k5) (jma k6 k7)]
  have⟨l,i9⟩:=ZL ((uC r YZ).2);rw[i9]at oz HR hO;have⟨a7,c7,h7,f8⟩:=Zf.seq hO;obtain⟨rfl,rfl,rfl⟩:ta=a7/\tn=l.length/\tc=c7:=by injection h7 with p q r;exact⟨p,q,r⟩
  have hR:=jh6 l (.agg #[U ta l.length tc]) YV Zz Zu _ ⟨ta,tc,rfl,f8.below b2⟩ (j0x oz) k2 k3 k4 k5 k6 k7;have⟨⟨n7,c7⟩,sG⟩:=ZL (vbg l YV Zz Zu);rw[sG]at hR HR;simp only[xW]at hR;rw[hk]at t1 aj t0 hR e3 e4 e5 ⊢;clear sG i9 oz hO f8 h7 hb1 b2 C3;go_wp2_with fail;refine hR.mono ?_;rintro q w2 ⟨rfl,ac⟩;have an:=(Zp aj ac).alloc (by have:=aj.size;have:=ac.size;omega) (G #[J n7,J c7] 163);have N2:=Zh.new w2 [J n7,J c7] 163;have u0:=N2.c 0 rfl;have u1:=N2.c 1 rfl;have HB:=hidL an;clear hR e3 e4 e5 t0 t1 ac aj N2 an;by_cases hc:c7=0
  .subst hc
   go_wp2_with fail;go_quiet (fail);go_wp2;go_ret2;exact⟨by rw[<- HR.out];rfl,HB.out.trans ⟨rfl,rfl,rfl,ZD _,λ_ _=>rfl⟩⟩
  .have cU:(c7==0)=false:=by simp[hc]
   go_wp2_with fail;go_quiet (fail);go_wp2;go_ret2;exact⟨by rw[<- HR.out,dfe hc];rfl,HB.out.trans ⟨rfl,rfl,rfl,ZD _,λ_ _=>rfl⟩⟩
 .have fy:((uC r YZ).1 != 0)=true:=by simpa using hk
  have HB:=hidL aj;have HK:=hidL hk;clear e3 e4 e5 aj hO b2 C3 hb1 hk;go_wp2;go_ret2;exact⟨by rw[<- HM.out];unfold vai;rw[jv3 HK.out];rfl,HB.out⟩
section
open Go.RowKit Go.Lib Go.Sort
theorem Gz.app{w':World}(h:Gz B w v r)(ho:w.ownsRow base e q u n xs)(he:¬vbo e)(hg:w.grownBy w' u.ownBlock):Gz B w' v r:=h.keep λk cs t ht _ h2=>(hg.block k (LQ h2) (λhk=>by
 have⟨ds,hd⟩:=vbs ho hk.symm;rw[h2]at hd;simp at hd
 exact he (hd.2 ▸ ht))).trans h2
theorem Gz.vdG{cs:Array Value}{t0:TypeId}(h:Gz B w v r)(hg:w.heap[g]? =some (G cs t0 (0,0)))(h0:¬vbo t0):Gz B (w.setCell (O g j) u) v r:=h.keep λk ds t ht _ h2=>vbK h2 (vcn h2 hg (λe=>by injection e with _ e;exact h0 (e ▸ ht)))
theorem vfM(h:w.ownsRow base e q v n xs)(hg:g<base):(w.setCell (O g j) u).ownsRow base e q v n xs:=vbm h λk _ h1 h2=>vbK h2 Q
theorem vc7:¬vbo 31:=by unfold vbo;decide
theorem vfI:¬vbo 82:=by unfold vbo;decide
structure vbH(s:ZP)(w W:World)(PV EV RV:List Value)(g:Nat)(L:List Value)(n3 w3 vv:Value)(nv:Nat)(xv:List Value)(vi:Value)(xi:List Value):Prop where
 par:Zh W w.heap.size PV
 ev:Zh W (w.heap.size+1) EV
 res:Zh W (w.heap.size+1+1) RV
 var:W.heap[g]? =some (G L.toArray 31 (0,0))
 YT:Gz (w.heap.size+1+1+1) W n3 s.YT
 YS:Gz (w.heap.size+1+1+1) W w3 s.YS
 vs:W.ownsRow (w.heap.size+1+1+1) 82 8 vv nv xv
 ix:W.ownsRow (w.heap.size+1+1+1) 76 2 vi s.ix.length xi
 ge:w.heap.size+1+1+1<=g
 ZB:Bw w W
theorem vbH.below(h:vbH s w W PV EV RV g L n3 w3 vv nv xv vi xi)(hb:Bw W W'):vbH s w W' PV EV RV g L n3 w3 vv nv xv vi xi:=⟨h.par.below hb,h.ev.below hb,h.res.below hb,(hb.block g (LQ h.var)).trans h.var,h.YT.below hb,h.YS.below hb,uZ h.vs hb,uZ h.ix hb,h.ge,h.ZB.trans (hb.mono h.ZB.size)⟩
theorem vbH.set(h:vbH s w W PV EV RV g L n3 w3 vv nv xv vi xi)(j:Nat)(v:Value):vbH s w (W.setCell (O g j) v) PV EV RV g (L.set j v) n3 w3 vv nv xv vi xi:=by
 have K7:=h.ge;exact⟨h.par.other Q _,h.ev.other Q _,h.res.other Q _,by rw[<- List.setIfInBounds_toArray];exact vbZ h.var,h.YT.vdG h.var vc7,h.YS.vdG h.var vc7,vaP h.vs h.var RN,vaP h.ix h.var RN,K7,h.ZB.setCell (show w.heap.size<=g by omega) _⟩
theorem vbH.app{Te:Value}{Td:Nat}{Tf:List Value}(h:vbH s w W PV EV RV g L n3 w3 vv nv xv vi xi)(ho:W'.ownsRow (w.heap.size+1+1+1) 82 8 Te Td Tf)(hg:W.grownBy W' vv.ownBlock):vbH s w W' PV EV RV g L n3 w3 Te Td Tf vi xi:=by
 have GT:∀k,k<w.heap.size+1+1+1->some k≠vv.ownBlock:=λk hk he=>by have:=(World.ownsRow.lt h.vs k he.symm).1;omega
 refine⟨h.par.grown hg (GT _ Q),h.ev.grown hg (GT _ Q),h.res.grown hg (GT _ Q),(hg.block g (LQ h.var) (λhe=>?_)).trans h.var,h.YT.app h.vs vfI hg,h.YS.app h.vs vfI hg,ho,World.ownsRow.kept h.ix hg ?_,h.ge,h.ZB.grown hg h.ZB.size (λk hk=>by have:=(World.ownsRow.lt h.vs k hk).1;omega)⟩
 .have⟨ds,hd⟩:=vbs h.vs he.symm
  rw[h.var]at hd;simp at hd
 .cases hb:vi.ownBlock with
  |none=>exact .inl rfl
  |some k=>exact .inr (λhe=>by
   have⟨ds,hd⟩:=vbs h.ix hb;have⟨es,Aw⟩:=vbs h.vs he.symm;rw[hd]at Aw
   simp at Aw)
def Ou(s:ZP)(e:Ze)(g:Bool):ZP:=⟨s.tx+1,s.YT,s.YS,s.cur,s.vs++[Gu (s.tx+1) g e],BS (My s) (ZJ (s.vs++[Gu (s.tx+1) g e]))⟩
def vcw(B:Nat)(w:World)(v:Value)(s:ZP):Prop:=∀W':World,(∀k,B<=k->k<w.heap.size->W'.heap[k]? =w.heap[k]?)->KM B W' v s
structure vcv(s:ZP)(m c:Int)(w:World)(q:Ending)(w':World):Prop where
 ex:∃a1 a2 a3 a4 a5 a6 a8 a9 c1 c2 c3 c4 c5 c6 c8 c9,q=V (.agg (Ky s a1 a2 a3 a4 a5 a6 a8 a9 c1 c2 c3 c4 c5 c6 c8 c9 m c).toArray)/\vcw w.heap.size w' (.agg (stA s a1 a2 a3 a4 a5 a6 a8 a9 c1 c2 c3 c4 c5 c6 c8 c9).toArray) s
 ZB:Bw w w'
theorem vgg(s:ZP)(ev:Ze)(gn:Bool)(v:Value)(w:World)(hv:Jd w v s)(ok:Zr s)(oG:ZZ s.YT=true)(dC:ZZ s.YS=true)(h0:0<=s.tx)(h1:s.tx<900000)(CG:s.vs.length<=800)(hL:(ZJ (s.vs++[Gu (s.tx+1) gn ev])).length<=900)(nV:∀e∈ZJ (s.vs++[Gu (s.tx+1) gn ev]),EvR e)(lH:(Gu (s.tx+1) gn ev).ok):
  C 28 #[v,ev.v,.bool gn] w (vcv (Ou s ev gn) 0 0 w):=by
 have dQ:=hv;obtain⟨a,b,c,d,e,f,va,ia,ca,cb,cc,cd,ce,cf,cv,ci,rfl,_,_,_,_,_,_⟩:=hv.form;have⟨Qt,vi,Qy,QC,QF⟩:=ji0;obtain⟨id,name,YZ,YV,Zz,Zu⟩:=ev;simp only[Ze.v]at *;have KS:IntKind.i64.wrap (s.tx+1)=s.tx+1:=by rw[IntKind.wrap_i64];omega
 have⟨w0,KR,ag,A0,E0,R0,z0⟩:=veA w (stA s a b c d e f va ia ca cb cc cd ce cf cv ci) [J id,I name,I YZ,J YV,J Zz,J Zu];have q1:=vew s _ _ (dQ.below ag) ok;have⟨x0,x1,x2,x3,x4,x5,x6,x7,x8,x9⟩:=A0.ZS;unfold C;go_in;go_wp2_with fail;refine q1.mono ?_;rintro q w1 hP;obtain⟨vP,rfl,uv⟩:=hP.ex;obtain⟨a1,a2,a3,a4,a5,a6,a8,a9,c1,c2,c3,c4,c5,c6,c8,c9,rfl,hN,hW,hV,hX⟩:=uv.form;have hb1:=hP.ZB;rw[z0]at hN hW hV hX;have l1:=hb1.size;rw[z0]at l1;have aj:=Zp ag hb1;have A1:=A0.below hb1;have E1:=E0.below hb1;have R1:=R0.below hb1;clear x0 x1 x2 x3 x4 x5 x6 x7 x8 x9 A0 E0 R0 ag q1 hP uv hb1 z0 hv dQ;have b2:=ZA w1 (G (stA s a1 a2 a3 a4 a5 a6 a8 a9 c1 c2 c3 c4 c5 c6 c8 c9).toArray 31);have S2:vbH s w (w1.alloc (G (stA s a1 a2 a3 a4 a5 a6 a8 a9 c1 c2 c3 c4 c5 c6 c8 c9).toArray 31)) (stA s a b c d e f va ia ca cb cc cd ce cf cv ci) [J id,I name,I YZ,J YV,J Zz,J Zu] [J 0,nS,nS,nS,nS,nS,nS,J 0,nS,nS,J 0,J 0] w1.heap.size (stA s a1 a2 a3 a4 a5 a6 a8 a9 c1 c2 c3 c4 c5 c6 c8 c9) (.agg #[U a1 s.YT.Vv.length c1,U a2 s.YT.YU.length c2,U a3 s.YT.YW.length c3]) (.agg #[U a4 s.YS.Vv.length c4,U a5 s.YS.YU.length c5,U a6 s.YS.YW.length c6]) (U a8 s.vs.length c8) s.vs.length (s.vs.map ZN.cs).flatten (U a9 s.ix.length c9) (s.ix.map ZY.cs).flatten:=⟨A1.below b2,E1.below b2,R1.below b2,heap_alloc_new w1 _,hN.below b2,hW.below b2,uZ hV b2,uZ hX b2,l1,(Zp aj b2)⟩;have⟨w2,gH⟩:=ZL (w1.alloc (G (stA s a1 a2 a3 a4 a5 a6 a8 a9 c1 c2 c3 c4 c5 c6 c8 c9).toArray 31));have⟨g,hg⟩:=ZL w1.heap.size;rw[gH]at S2;rw[hg]at S2 l1;clear b2 A1 E1 R1 aj hN hW hV hX;have S3:=S2.set 0 (J (s.tx+1));have⟨w3,gm⟩:=ZL (w2.setCell (O g 0) (J (s.tx+1)));rw[gm]at S3;have V2:=C6 S2.var;have V3:=C6 S3.var;have u0:=V2.c 0 rfl;have Qs:=V2.f 0 rfl;have y0:=S2.par.c 0 rfl;have v0:=V3.c 0 rfl;have v8:=V3.c 8 rfl;have e0:=S3.ev.c 0 rfl;have e1:=S3.ev.c 1 rfl;have e2:=S3.ev.c 2 rfl;have e3:=S3.ev.c 3 rfl;have e4:=S3.ev.c 4 rfl;have e5:=S3.ev.c 5 rfl;have yU:=ZE S3;have QS:w.heap.size+1+1+1<=w3.heap.size:=by have:=LQ S3.var;omega
 have gM:=ZE (rfl:(s.vs.map ZN.cs).flatten=(s.vs.map ZN.cs).flatten);have L3:=S3.vs;clear S2 S3 V2 V3;go_wp2_with (first|(at_builtin;refine wpList_append_own _ rfl _ _ 28 rfl (w.heap.size+1+1+1) 82 Qt (.agg #[J 0,.bool false,J 0,Rn,Rn,J 0,J 0,J 0]) 8 80 Tryz.underlying28 vi Qy QC QF rfl RN _ _ _ rfl (nO (w:=w3) L3 _) (O w3.heap.size 0) 1 1 [J (s.tx+1),.bool gn,J id,I name,I YZ,J YV,J Zz,J Zu] rfl ?qa ?qb ?qc ?qd ?qe ?qf ?_)|fail)
 case qa=>rfl
 case qb=>exact Ka w3 _ _
 case qc=>intro u hu;simp at hu;rcases hu with rfl|rfl|rfl|rfl|rfl|rfl|rfl|rfl<;>rfl
 case qd=>unfold maxLen;omega
 case qe=>omega
 case qf=>simp;omega
 intro vn w4 ho dp _;clear gH hg gm u0 Qs y0 v0 v8 e0 e1 e2 e3 e4 e5 L3;obtain⟨an,cn,rfl⟩:=vao ho;have S4:=(yU.out.below (ZA w3 (G #[J (s.tx+1),.bool gn,J id,I name,I YZ,J YV,J Zz,J Zu] 82))).app ho dp;have V4:=C6 S4.var;have p8:=V4.c 8 rfl;have QY:=V4.f 8 rfl;have S5:=S4.set 8 (U an (s.vs.length+1) cn);have⟨w5,oK⟩:=ZL (w4.setCell (O g 8) (U an (s.vs.length+1) cn));rw[oK]at S5;have V5:Zh w5 g [J (s.tx+1),U a1 s.YT.Vv.length c1,U a2 s.YT.YU.length c2,U a3 s.YT.YW.length c3,U a4 s.YS.Vv.length c4,U a5 s.YS.YU.length c5,U a6 s.YS.YW.length c6,J s.cur,U an (s.vs.length+1) cn,U a9 s.ix.length c9]:=C6 S5.var;have⟨z0,z1,z2,z3,z4,z5,z6,z7,z8,z9⟩:=V5.ZS;have B0:=S5.vs;have xO:Jd w5 (.agg #[J (s.tx+1),U a1 s.YT.Vv.length c1,U a2 s.YT.YU.length c2,U a3 s.YT.YW.length c3,U a4 s.YS.Vv.length c4,U a5 s.YS.YU.length c5,U a6 s.YS.YW.length c6,J s.cur,U an (s.vs.length+1) cn,U a9 s.ix.length c9]) ⟨s.tx+1,s.YT,s.YS,s.cur,s.vs++[⟨s.tx+1,gn,id,name,YZ,YV,Zz,Zu⟩],s.ix⟩:=by
  have hl:s.vs.length+1=(s.vs++[(⟨s.tx+1,gn,id,name,YZ,YV,Zz,Zu⟩:ZN)]).length:=M;have ej:=vbC (l:=s.vs++[(⟨s.tx+1,gn,id,name,YZ,YV,Zz,Zu⟩:ZN)]) (cs:=ZN.cs) (by rw[<- hl,MZ,List.flatten_append];simpa [ZN.cs]using B0) (λ_=>rfl);have NL:=vbC (cs:=ZY.cs) S5.ix (λ_=>rfl);rw[hl];exact⟨a1,a2,a3,a4,a5,a6,an,a9,c1,c2,c3,c4,c5,c6,cn,c9,rfl,S5.YT.at,S5.YS.at,ej.1,NL.1,ej.2,NL.2⟩
 have ok5:Zr ⟨s.tx+1,s.YT,s.YS,s.cur,s.vs++[⟨s.tx+1,gn,id,name,YZ,YV,Zz,Zu⟩],s.ix⟩:=⟨ok.YT,ok.YS,λv hv=>by
  rcases List.mem_append.1 hv with h|h
  .exact ok.vs v h
  .simp at h;subst h;exact lH,RO,ok.xl⟩
 have hQ:=jh5 ⟨s.tx+1,s.YT,s.YS,s.cur,s.vs++[⟨s.tx+1,gn,id,name,YZ,YV,Zz,Zu⟩],s.ix⟩ _ w5 xO ok5 oG dC RO (Nat.le_trans hL Q) nV;have O7:Hid (Ou s ⟨id,name,YZ,YV,Zz,Zu⟩ gn=⟨s.tx+1,s.YT,s.YS,s.cur,s.vs++[⟨s.tx+1,gn,id,name,YZ,YV,Zz,Zu⟩],BS (My ⟨s.tx+1,s.YT,s.YS,s.cur,s.vs++[⟨s.tx+1,gn,id,name,YZ,YV,Zz,Zu⟩],s.ix⟩) (ZJ (s.vs++[⟨s.tx+1,gn,id,name,YZ,YV,Zz,Zu⟩]))⟩):=rfl;have QP:=ZE (jep (My ⟨s.tx+1,s.YT,s.YS,s.cur,s.vs++[⟨s.tx+1,gn,id,name,YZ,YV,Zz,Zu⟩],s.ix⟩) (ZJ (s.vs++[⟨s.tx+1,gn,id,name,YZ,YV,Zz,Zu⟩])));dsimp only at hQ;generalize BS (My ⟨s.tx+1,s.YT,s.YS,s.cur,s.vs++[⟨s.tx+1,gn,id,name,YZ,YV,Zz,Zu⟩],s.ix⟩) (ZJ (s.vs++[⟨s.tx+1,gn,id,name,YZ,YV,Zz,Zu⟩]))=EE at *;have Eu:=ZE S5;clear S4 V4 S5 V5 yU ho dp xO ok5 B0 gM;go_wp2_with fail;refine hQ.mono ?_;rintro q w6 ⟨x6,rfl,fV,hb6⟩;obtain⟨px,cx,rfl⟩:=vao fV;have S6:=Eu.out.below hb6;have S7:=S6.set 9 (U px EE.length cx);have V6:=C6 S6.var;have l6:=hb6.size;have lg:=LQ Eu.out.var;have cj:=vfM (g:=g) (j:=9) (u:=U px EE.length cx) fV lg;have K7:=Eu.out.ge;have p9:=V6.c 9 rfl;have Qq:=V6.f 9 rfl;have⟨w7,yk⟩:=ZL (w6.setCell (O g 9) (U px EE.length cx));rw[yk]at S7 cj;have V7:Zh w7 g [J (s.tx+1),U a1 s.YT.Vv.length c1,U a2 s.YT.YU.length c2,U a3 s.YT.YW.length c3,U a4 s.YS.Vv.length c4,U a5 s.YS.YU.length c5,U a6 s.YS.YW.length c6,J s.cur,U an (s.vs.length+1) cn,U px EE.length cx]:=C6 S7.var;have R7:=S7.res;have⟨y0,y1,y2,y3,y4,y5,y6,y7,y8,y9⟩:=V7.ZS;have⟨r0,r1,r2,r3,r4,r5,r6,r7,r8,r9,lw,mv⟩:=R7.Nc;have⟨f0,f1,f2,f3,f4,f5,f6,f7,f8,f9,gx,l7⟩:=R7.Od;have⟨W8,PG,⟨t0,t1,t2,t3,t4,t5,t6,t7,t8,t9,wJ,cq⟩,T8,_,J8⟩:=R7.fin (J (s.tx+1)) (U a1 s.YT.Vv.length c1) (U a2 s.YT.YU.length c2) (U a3 s.YT.YW.length c3) (U a4 s.YS.Vv.length c4) (U a5 s.YS.YU.length c5) (U a6 s.YS.YW.length c6) (J s.cur) (U an (s.vs.length+1) cn) (U px EE.length cx) (J 0) (J 0);have yA:=ZE (J8 _ _ Q S7.ZB);have Ol:Hid (V (.agg #[J (s.tx+1),U a1 s.YT.Vv.length c1,U a2 s.YT.YU.length c2,U a3 s.YT.YW.length c3,U a4 s.YS.Vv.length c4,U a5 s.YS.YU.length c5,U a6 s.YS.YW.length c6,J s.cur,U an (s.vs.length+1) cn,U px EE.length cx,J 0,J 0])=V (.agg (Ky ⟨s.tx+1,s.YT,s.YS,s.cur,s.vs++[(⟨s.tx+1,gn,id,name,YZ,YV,Zz,Zu⟩:ZN)],EE⟩ a1 a2 a3 a4 a5 a6 an px c1 c2 c3 c4 c5 c6 cn cx 0 0).toArray)):=by
  have hl:(s.vs++[(⟨s.tx+1,gn,id,name,YZ,YV,Zz,Zu⟩:ZN)]).length=s.vs.length+1:=M;simp only[Hid,Ky,hl]
 have ED:Hid (vcw w.heap.size W8 (.agg (stA ⟨s.tx+1,s.YT,s.YS,s.cur,s.vs++[⟨s.tx+1,gn,id,name,YZ,YV,Zz,Zu⟩],EE⟩ a1 a2 a3 a4 a5 a6 an px c1 c2 c3 c4 c5 c6 cn cx).toArray) ⟨s.tx+1,s.YT,s.YS,s.cur,s.vs++[⟨s.tx+1,gn,id,name,YZ,YV,Zz,Zu⟩],EE⟩):=λW' hW=>by
  have Qm:=T8.size;have o5:∀k,w.heap.size+1+1+1<=k->k<w7.heap.size->W'.heap[k]? =w7.heap[k]? :=λk h1 h2=>(hW k Q Q).trans (T8.block k h2 (show k≠w.heap.size+1+1 by omega))
  have r:∀{v:Value} {r:ZW},Gz (w.heap.size+1+1+1) w7 v r->Gz w.heap.size W' v r:=λh=>(h.keep λk cs t _ h1 h2=>(o5 k Q (LQ h2)).trans h2).mono Q
  refine⟨a1,a2,a3,a4,a5,a6,an,px,c1,c2,c3,c4,c5,c6,cn,cx,rfl,r S7.YT,r S7.YS,?_,Ez (vbm cj λk cs h1 h2=>(o5 k Q (LQ h2)).trans h2) Q⟩;have jH:=Ez (vbm S7.vs λk cs h1 h2=>(o5 k Q (LQ h2)).trans h2) (show w.heap.size<=w.heap.size+1+1+1 by omega);rw[MZ,List.flatten_append]
  simpa [ZN.cs]using jH
 clear hQ fV hb6 S6 S7 V6 V7 R7 T8 cj Eu J8;go_wp2;exact ZM (v:=.agg #[J (s.tx+1),U a1 s.YT.Vv.length c1,U a2 s.YT.YU.length c2,U a3 s.YT.YW.length c3,U a4 s.YS.Vv.length c4,U a5 s.YS.YU.length c5,U a6 s.YS.YW.length c6,J s.cur,U an (s.vs.length+1) cn,U px EE.length cx,J 0,J 0]) (by simp[results,Tryz.results28,go_sem,t0,t1,t2,t3,t4,t5,t6,t7,t8,t9,wJ,cq]) rfl (by rw[O7.out];exact⟨⟨a1,a2,a3,a4,a5,a6,an,px,c1,c2,c3,c4,c5,c6,cn,cx,Ol.out,ED.out⟩,yA.out⟩)
end
def vaD(L:List Ze)(id:Int):Option Nat:=L.findIdx? λe=>decide (e.id=id)
theorem vhv{L:List Ze}{id:Int}{i:Nat}{e:Ze}(h:L[i]? =some e)(he:e.id=id)(jg:∀j y,j<i->L[j]? =some y->y.id≠id):vaD L id=some i:=by
 unfold vaD;have⟨hl,h⟩:=List.getElem?_eq_some_iff.1 h;rw[List.findIdx?_eq_some_iff_getElem];refine⟨hl,by rw[h];exact rT he,λj hj=>?_⟩;have:=jg j _ hj (ZV Q)
 simpa using this
theorem vhw{L:List Ze}{id:Int}(h:∀(j:Nat) (y:Ze),L[j]? =some y->y.id≠id):vaD L id=none:=by
 unfold vaD;rw[List.findIdx?_eq_none_iff];intro x hx;have⟨j,hj⟩:=lgo hx;exact dfe (h j x hj)
theorem vgd(L:List Ze)(a:Option Addr)(n cap:Nat)(id:Int)(w:World)(hA:Za w a 6 (L.map Ze.cs))(hn:L.length=n)(hl:n<=1048576):
  C 27 #[U a n cap,J id] w λe w'=>e=V (J (ixI (vaD L id)))/\w'=w:=by
 have HN:=hid hn;clear hn;unfold C;go_in;go_wp2;go_loop [5] (λs=>∃k:Nat,k<=n/\s=J (k:Int)/\Hid (∀j y,j<k->L[j]? =some y->y.id≠id)) (λs=>n-(intOf s).toNat)
 .exact⟨0,Q,rfl,λj y h=>Q⟩
 ·
  obtain⟨k,hk,rfl,HK⟩:=hrel;by_cases hlt:k<n
  .obtain⟨v,hv⟩:∃v,L[k]? =some v:=⟨_,ZV (by have:=HN.out;omega)⟩
   have ap:(L.map Ze.cs)[k]? =some v.cs:=by rw[Z8,hv];rfl
   obtain⟨b,o,rfl,hc⟩:=hA.at (i:=k) ap;have c0:w.cell? (O b (o+k*6))=some (J v.id):=by simpa using hc 0 _ rfl
   have s0:(0:Int)<=(k:Int):=Q;have s1:(k:Int)<(n:Int):=Q;by_cases hid:v.id=id
   .have HR:Hid (vaD L id=some k):=vhv hv hid HK.out
    have C8:(v.id==id)=true:=by simp[hid]
    clear hv ap hc hid HK;go_wp2;go_ret;exact⟨Fh (by rw[HR.out];rfl),rfl⟩
   .have HR:Hid (∀j y,j<k+1->L[j]? =some y->y.id≠id):=λj y hj hy=>by
     rcases Nat.lt_or_ge j k with h|h
     .exact HK.out j y h hy
     .obtain rfl:j=k:=Q
      rw[hv]at hy;obtain rfl:=Z9 hy;exact hid
    have C8:(v.id==id)=false:=by simp[hid]
    clear hv ap hc hid HK;go_wp2;go_round
    .exact⟨k+1,Q,RP,HR⟩
    .simp[intOf];omega
  .obtain rfl:k=n:=Q
   have HR:Hid (vaD L id=none):=vhw λj y hy=>HK.out j y (by have:=(List.getElem?_eq_some_iff.1 hy).1;have:=HN.out;omega) hy
   go_wp2;go_ret;exact⟨Fh (by rw[HR.out];rfl),rfl⟩
section
open Go.RowKit Go.Lib Go.Sort
def vbw(s:ZP)(id:Int):ZP × Int:=if BQ s=true then(match vaD (ZJ s.vs) id with
 |none=>(De,5)
 |some k=>if 60<=s.vs.length\/900000<=s.tx then(De,7)else(match (ZJ s.vs)[k]? with
  |some e=>(Ou s e true,0)
  |none=>(De,0)))else(De,1)
theorem vf9(s:ZP)(v:Value)(id:Int)(w:World)(hv:Jd w v s)(ok:Zr s)(hE:BQ s=true->ZZ s.YT=true/\ZZ s.YS=true/\s.vs.length<=60/\(0<=s.tx/\s.tx<=900000)/\(ZJ s.vs).length<=30)(nV:BQ s=true->∀e∈ZJ s.vs,(Gu (s.tx+1) true e).ok/\∀x∈ZJ (s.vs++[Gu (s.tx+1) true e]),EvR x):
  C 16 #[v,J id] w (vcv (vbw s id).1 0 (vbw s id).2 w):=by
 have dQ:=hv;obtain⟨a,b,c,d,e,f,va,ia,ca,cb,cc,cd,ce,cf,cv,ci,rfl,_,_,hV,_,_,_⟩:=hv.form;have⟨w0,KR,ag,A0,R0,_⟩:=vdh w (stA s a b c d e f va ia ca cb cc cd ce cf cv ci);have q1:=jh8 s _ _ (dQ.below ag) ok;have⟨x0,x1,x2,x3,x4,x5,x6,x7,x8,x9⟩:=A0.ZS;unfold C;go_in;go_wp2_with fail;refine q1.mono ?_;rintro q w1 ⟨rfl,hb1⟩;have aj:=Zp ag hb1;have A1:=A0.below hb1;have R1:=R0.below hb1;clear x0 x1 x2 x3 x4 x5 x6 x7 x8 x9 A0 R0 ag hb1 q1;cases hs:BQ s
 case false=>
  have HD:Hid (vbw s id=(De,1)):=by simp[Hid,vbw,hs]
  clear hE nV hs;have⟨r0,r1,r2,r3,r4,r5,r6,r7,r8,r9,lw,mv⟩:=R1.Nc;have⟨f0,f1,f2,f3,f4,f5,f6,f7,f8,f9,gx,l7⟩:=R1.Od;have⟨W,hW,⟨t0,t1,t2,t3,t4,t5,t6,t7,t8,t9,wJ,cq⟩,_,_,J8⟩:=R1.vaC 1;have yA:=ZE (J8 _ _ Q aj);clear J8;go_wp2;exact ZM (v:=.agg #[J 0,nS,nS,nS,nS,nS,nS,J 0,nS,nS,J 0,J 1]) (by simp[results,Tryz.results16,go_sem,t0,t1,t2,t3,t4,t5,t6,t7,t8,t9,wJ,cq]) rfl (by rw[HD.out];exact⟨⟨none,none,none,none,none,none,none,none,0,0,0,0,0,0,0,0,rfl,λW' _=>va1 _ W'⟩,yA.out⟩)
 case true=>
  have⟨p1,p2,p3,⟨p4,p5⟩,p6⟩:=hE hs;have dZ:=ZE (nV hs)
  have sU:Hid (vbw s id=(match vaD (ZJ s.vs) id with
   |none=>(De,5)
   |some k=>if 60<=s.vs.length\/900000<=s.tx then(De,7)else(match (ZJ s.vs)[k]? with
    |some e=>(Ou s e true,0)
    |none=>(De,0)))):=by simp[Hid,vbw,hs]
  have q2:=jd1 s.vs va s.vs.length cv w1 (hV.below aj) rfl Q;have x8:=A1.c 8 rfl;clear hE nV hs;go_wp2_with fail;refine q2.mono ?_;rintro q w2 ⟨lv,rfl,aW,ac⟩;have⟨pl,cl,Sq,dR⟩:=aW.seq;have f9:w.heap.size+1<w1.heap.size:=ZI (R1.c 0 rfl);have jg:∀g,Value.ownBlock lv=some g->w.heap.size+1<g:=λg hg=>Nat.lt_of_lt_of_le f9 (World.ownsRow.lt aW g hg).1
  subst Sq;have an:=Zp aj ac;have A2:=A1.below ac;have R2:=R1.below ac;have q3:=vgd (ZJ s.vs) pl (ZJ s.vs).length cl id w2 dR rfl Q;clear x8 A1 R1 aj ac q2 aW;go_wp2_with fail;refine q3.mono ?_;rintro q w3 ⟨rfl,rfl⟩;clear q3;cases hh:vaD (ZJ s.vs) id with
  |none=>
   have HD:Hid (vbw s id=(De,5)):=by simp only[Hid];rw[sU.out,hh]
   clear hh sU dZ;simp only[ixI];have⟨r0,r1,r2,r3,r4,r5,r6,r7,r8,r9,lw,mv⟩:=R2.Nc;have⟨f0,f1,f2,f3,f4,f5,f6,f7,f8,f9,gx,l7⟩:=R2.Od;have⟨W,hW,⟨t0,t1,t2,t3,t4,t5,t6,t7,t8,t9,wJ,cq⟩,_,_,J8⟩:=R2.vaC 5;have yA:=ZE (J8 _ _ Q an);clear J8;go_wp2;exact ZM (v:=.agg #[J 0,nS,nS,nS,nS,nS,nS,J 0,nS,nS,J 0,J 5]) (by simp[results,Tryz.results16,go_sem,t0,t1,t2,t3,t4,t5,t6,t7,t8,t9,wJ,cq]) rfl (by rw[HD.out];exact⟨⟨none,none,none,none,none,none,none,none,0,0,0,0,0,0,0,0,rfl,λW' _=>va1 _ W'⟩,yA.out⟩)
  |some k=>
   simp only[ixI];have Cd:¬((k:Int)<0):=Q;obtain⟨ev,jb⟩:∃ev,(ZJ s.vs)[k]? =some ev:=by
    unfold vaD at hh;have⟨hl,_⟩:=List.findIdx?_eq_some_iff_getElem.mp hh;exact⟨_,ZV hl⟩
   have eY:k<(ZJ s.vs).length:=(List.getElem?_eq_some_iff.1 jb).1;have a0:(0:Int)<=(k:Int):=Q;have NJ:(k:Int)<((ZJ s.vs).length:Int):=Q;have⟨x0,x1,x2,x3,x4,x5,x6,x7,x8,x9⟩:=A2.ZS;by_cases iJ:60<=s.vs.length\/900000<=s.tx
   .have HD:Hid (vbw s id=(De,7)):=by simp only[Hid];rw[sU.out,hh];simp[iJ]
    clear hh sU dZ jb;by_cases tP:60<=s.vs.length
    .have E5:(60:Int)<=(s.vs.length:Int):=Q
     clear iJ;have⟨r0,r1,r2,r3,r4,r5,r6,r7,r8,r9,lw,mv⟩:=R2.Nc;have⟨f0,f1,f2,f3,f4,f5,f6,f7,f8,f9,gx,l7⟩:=R2.Od;have⟨W,hW,⟨t0,t1,t2,t3,t4,t5,t6,t7,t8,t9,wJ,cq⟩,_,_,J8⟩:=R2.vaC 7;have yA:=ZE (J8 _ _ Q an);clear J8;go_wp2;exact ZM (v:=.agg #[J 0,nS,nS,nS,nS,nS,nS,J 0,nS,nS,J 0,J 7]) (by simp[results,Tryz.results16,go_sem,t0,t1,t2,t3,t4,t5,t6,t7,t8,t9,wJ,cq]) rfl (by rw[HD.out];exact⟨⟨none,none,none,none,none,none,none,none,0,0,0,0,0,0,0,0,rfl,λW' _=>va1 _ W'⟩,yA.out⟩)
    .have E5:¬(60:Int)<=(s.vs.length:Int):=Q
     have Pv:(900000:Int)<=s.tx:=Q;clear iJ;have⟨r0,r1,r2,r3,r4,r5,r6,r7,r8,r9,lw,mv⟩:=R2.Nc;have⟨f0,f1,f2,f3,f4,f5,f6,f7,f8,f9,gx,l7⟩:=R2.Od;have⟨W,hW,⟨t0,t1,t2,t3,t4,t5,t6,t7,t8,t9,wJ,cq⟩,_,_,J8⟩:=R2.vaC 7;have yA:=ZE (J8 _ _ Q an);clear J8;go_wp2;exact ZM (v:=.agg #[J 0,nS,nS,nS,nS,nS,nS,J 0,nS,nS,J 0,J 7]) (by simp[results,Tryz.results16,go_sem,t0,t1,t2,t3,t4,t5,t6,t7,t8,t9,wJ,cq]) rfl (by rw[HD.out];exact⟨⟨none,none,none,none,none,none,none,none,0,0,0,0,0,0,0,0,rfl,λW' _=>va1 _ W'⟩,yA.out⟩)
   .have HD:Hid (vbw s id=(Ou s ev true,0)):=by simp only[Hid];rw[sU.out,hh];simp[iJ,jb]
    have E5:¬(60:Int)<=(s.vs.length:Int):=Q;have Pv:¬(900000:Int)<=s.tx:=Q;have ap:((ZJ s.vs).map Ze.cs)[k]? =some ev.cs:=by rw[Z8,jb];rfl
    obtain⟨bl,ol,rfl,hc⟩:=dR.at (i:=k) ap;have az:bl≠w.heap.size+1:=by have:=jg bl rfl;omega
    have G0:w.heap.size+1≠bl:=λh=>az h.symm
    have c0:w3.cell? (O bl (ol+k*6))=some (J ev.id):=by simpa using hc 0 _ rfl
    have NQ:=hc 1 _ rfl;have Ir:=hc 2 _ rfl;have xD:=hc 3 _ rfl;have NS:=hc 4 _ rfl;have NT:=hc 5 _ rfl;have⟨lH,nd⟩:=dZ.out ev (ui jb);have no:=an.trans ((rW w3).mono an.size);have pv:=vgg s ev true _ w3.drew (dQ.below no) ok p1 p2 p4 Q Q (by have:=jwf (s.vs++[Gu (s.tx+1) true ev]) (s.vs++[Gu (s.tx+1) true ev]).length;unfold ZJ;simp at this ⊢;omega) nd lH;simp only[Ze.v]at pv;have O6:=ZE A2;have lh:=ZE R2;have jI:=ZE no;have iq:=ZE (And.intro c0 (And.intro NQ (And.intro Ir (And.intro xD (And.intro NS NT)))));have QV:w.heap.size+1<w3.heap.size:=ZI (R2.c 0 rfl);clear hh sU dZ jb ap hc dR iJ A2 R2 an no lH nd hv dQ hV;generalize Ou s ev true=D at *;go_wp2_with fail;go_region_held3 (λw'=>w'.cell? (O w.heap.size 0)=some (J s.tx)/\w'.cell? (O w.heap.size 1)=some (U a s.YT.Vv.length ca)/\w'.cell? (O w.heap.size 2)=some (U b s.YT.YU.length cb)/\w'.cell? (O w.heap.size 3)=some (U c s.YT.YW.length cc)/\w'.cell? (O w.heap.size 4)=some (U d s.YS.Vv.length cd)/\w'.cell? (O w.heap.size 5)=some (U e s.YS.YU.length ce)/\w'.cell? (O w.heap.size 6)=some (U f s.YS.YW.length cf)/\w'.cell? (O w.heap.size 7)=some (J s.cur)/\w'.cell? (O w.heap.size 8)=some (U va s.vs.length cv)/\w'.cell? (O w.heap.size 9)=some (U ia s.ix.length ci)/\w'.cell? (O bl (ol+k*6))=some (J ev.id)/\w'.cell? (O bl (ol+k*6+1))=some (I ev.name)/\w'.cell? (O bl (ol+k*6+2))=some (I ev.YZ)/\w'.cell? (O bl (ol+k*6+3))=some (J ev.YV)/\w'.cell? (O bl (ol+k*6+4))=some (J ev.Zz)/\w'.cell? (O bl (ol+k*6+5))=some (J ev.Zu)) (go_keep) ((go_at_call 28;refine pv.mono ?_;rintro q w4 pW;obtain⟨a1,a2,a3,a4,a5,a6,a8,a9,c1,c2,c3,c4,c5,c6,c8,c9,rfl,ux⟩:=pW.ex;have aD:=pW.ZB;have⟨Lx,Ly,Lz,LA,LB,LC,LD,LE,LF,LG⟩:=(O6.out.below ((rW w3).trans (aD.mono (ZD _)))).ZS;have R4:=lh.out.below ((rW w3).trans (aD.mono (ZD _)));have⟨r0,r1,r2,r3,r4,r5,r6,r7,r8,r9,lw,mv⟩:=R4.Nc;have⟨f0,f1,f2,f3,f4,f5,f6,f7,f8,f9,gx,l7⟩:=R4.Od;have d0:=YR aD iq.out.1;have d1:=YR aD iq.out.2.1;have d2:=YR aD iq.out.2.2.1;have d3:=YR aD iq.out.2.2.2.1;have d4:=YR aD iq.out.2.2.2.2.1;have d5:=YR aD iq.out.2.2.2.2.2));clear r0 r1 r2 r3 r4 r5 r6 r7 r8 r9 lw mv f0 f1 f2 f3 f4 f5 f6 f7 f8 f9 gx l7 Lx Ly Lz LA LB LC LD LE LF LG d0 d1 d2 d3 d4 d5;have⟨W,hW,⟨t0,t1,t2,t3,t4,t5,t6,t7,t8,t9,wJ,cq⟩,T,_,J8⟩:=R4.fin (J D.tx) (U a1 D.YT.Vv.length c1) (U a2 D.YT.YU.length c2) (U a3 D.YT.YW.length c3) (U a4 D.YS.Vv.length c4) (U a5 D.YS.YU.length c5) (U a6 D.YS.YW.length c6) (J D.cur) (U a8 D.vs.length c8) (U a9 D.ix.length c9) (J 0) (J 0);have yA:=ZE (J8 _ _ Q (Zp jI.out aD));have HT:=ZE T;have yV:=ZE ux;clear T ux J8;rw[hW];clear hW;go_wp2
    exact ZM (v:=.agg (Ky D a1 a2 a3 a4 a5 a6 a8 a9 c1 c2 c3 c4 c5 c6 c8 c9 0 0).toArray) (by simp[results,Tryz.results16,go_sem,t0,t1,t2,t3,t4,t5,t6,t7,t8,t9,wJ,cq,Ky]) rfl (by rw[HD.out];exact⟨⟨a1,a2,a3,a4,a5,a6,a8,a9,c1,c2,c3,c4,c5,c6,c8,c9,rfl,λW' hW=>(yV.out W' λk h1 h2=>(have ES:w3.heap.size<=k:=h1;(hW k Q (Nat.lt_of_lt_of_le h2 HT.out.size)).trans (HT.out.block k h2 (show k≠w.heap.size+1 by omega)))).mono (show w.heap.size<=w3.heap.size by omega)⟩,yA.out⟩)
end
section
open Go.RowKit Go.Lib Go.Sort
theorem ves:Jk ⟨[],[],[]⟩:=⟨⟨⟨Nat.zero_le _,λx hx=>by simp at hx⟩,⟨Nat.zero_le _,λx hx=>by simp at hx⟩,⟨Nat.zero_le _,λx hx=>by simp at hx⟩⟩,⟨Nat.zero_le _,Nat.zero_le _,Nat.zero_le _,λx hx=>by simp at hx⟩,λx hx=>by simp at hx⟩
theorem viH:ZZ ⟨[],[],[]⟩=true:=RN
structure vcu(w:World)(q:Ending)(w':World):Prop where
 ex:∃s m c,vcv s m c w q w'/\Zr s/\s.vs.length<=1000/\s.ix.length<=1000
theorem va3:Zr De/\De.vs.length<=1000/\De.ix.length<=1000:=⟨⟨ves,ves,λv hv=>by simp[De]at hv,Nat.zero_le _,Nat.zero_le _⟩,Nat.zero_le _,Nat.zero_le _⟩
def atC(s:ZP)(z:Int):ZP:=⟨s.tx,s.YT,s.YS,z,s.vs,s.ix⟩
structure vbE(s:ZP)(w W:World)(PV RV:List Value)(g:Nat)(L:List Value)(n3 w3 vv vi lv:Value):Prop where
 par:Zh W w.heap.size PV
 res:Zh W (w.heap.size+1) RV
 var:W.heap[g]? =some (G L.toArray 31 (0,0))
 YT:Gz (w.heap.size+1+1) W n3 s.YT
 YS:Gz (w.heap.size+1+1) W w3 s.YS
 vs:W.ownsRow (w.heap.size+1+1) 82 8 vv s.vs.length (s.vs.map ZN.cs).flatten
 ix:W.ownsRow (w.heap.size+1+1) 76 2 vi s.ix.length (s.ix.map ZY.cs).flatten
 live:Jb W (w.heap.size+1+1) lv (ZJ s.vs)
 ge:w.heap.size+1+1<=g
 ZB:Bw w W
theorem vbE.below(h:vbE s w W PV RV g L n3 w3 vv vi lv)(hb:Bw W W'):vbE s w W' PV RV g L n3 w3 vv vi lv:=⟨h.par.below hb,h.res.below hb,(hb.block g (LQ h.var)).trans h.var,h.YT.below hb,h.YS.below hb,uZ h.vs hb,uZ h.ix hb,uZ h.live hb,h.ge,h.ZB.trans (hb.mono h.ZB.size)⟩
theorem vbE.set(h:vbE s w W PV RV g L n3 w3 vv vi lv)(j:Nat)(v:Value):vbE s w (W.setCell (O g j) v) PV RV g (L.set j v) n3 w3 vv vi lv:=by
 have K7:=h.ge;exact⟨h.par.other Q _,h.res.other Q _,by rw[<- List.setIfInBounds_toArray];exact vbZ h.var,h.YT.vdG h.var vc7,h.YS.vdG h.var vc7,vaP h.vs h.var RN,vaP h.ix h.var RN,vaP h.live h.var RN,K7,h.ZB.setCell (show w.heap.size<=g by omega) _⟩
theorem viU(s:ZP)(v:Value)(bv:Int)(w:World)(hv:Jd w v s)(ok:Zr s)(hE:BQ s=true->ZZ s.YT=true/\ZZ s.YS=true/\s.vs.length<=60/\(ZJ s.vs).length<=30)(nV:BQ s=true->∀e∈ZJ s.vs,EvR e/\1<=e.id/\e.id<=1000000):
  C 78 #[v,J bv] w (vcu w):=by
 have dQ:=hv;obtain⟨a,b,c,d,e,f,va,ia,ca,cb,cc,cd,ce,cf,cv,ci,rfl,KE,L4,hV,_,_,_⟩:=hv.form;have⟨w0,KR,ag,A0,R0,z0⟩:=vdh w (stA s a b c d e f va ia ca cb cc cd ce cf cv ci);have q1:=jh8 s _ _ (dQ.below ag) ok;have⟨x0,x1,x2,x3,x4,x5,x6,x7,x8,x9⟩:=A0.ZS;unfold C;go_in;go_wp2_with fail;clear KR;refine q1.mono ?_;rintro q w1 ⟨rfl,hb1⟩;have aj:=Zp ag hb1;have aH:w.heap.size+1+1<=w1.heap.size:=by rw[<- z0];exact hb1.size
 have A1:=A0.below hb1;have R1:=R0.below hb1;clear x0 x1 x2 x3 x4 x5 x6 x7 x8 x9 A0 R0 ag hb1 q1 z0;cases hs:BQ s
 case false=>
  clear hE nV hs;have⟨r0,r1,r2,r3,r4,r5,r6,r7,r8,r9,lw,mv⟩:=R1.Nc;have⟨f0,f1,f2,f3,f4,f5,f6,f7,f8,f9,gx,l7⟩:=R1.Od;have⟨W,hW,⟨t0,t1,t2,t3,t4,t5,t6,t7,t8,t9,wJ,cq⟩,_,_,J8⟩:=R1.vaC 1;have yA:=ZE (J8 _ _ Q aj);clear J8;go_wp2;exact ZM (v:=.agg #[J 0,nS,nS,nS,nS,nS,nS,J 0,nS,nS,J 0,J 1]) (by simp[results,Tryz.results78,go_sem,t0,t1,t2,t3,t4,t5,t6,t7,t8,t9,wJ,cq]) rfl ⟨De,0,_,⟨⟨none,none,none,none,none,none,none,none,0,0,0,0,0,0,0,0,rfl,λW' _=>va1 _ W'⟩,yA.out⟩,va3⟩
 case true=>
  have⟨p1,p2,p3,p6⟩:=hE hs;have dZ:=ZE (nV hs);clear hE nV hs;by_cases hr:1<=bv/\bv<=1000
  case neg=>
   have hI:=jnc bv 1 1000 w1 Q;clear dZ hr;go_wp2_with fail;refine hI.mono ?_;rintro q w2 ⟨rfl,rfl⟩;have⟨r0,r1,r2,r3,r4,r5,r6,r7,r8,r9,lw,mv⟩:=R1.Nc;have⟨f0,f1,f2,f3,f4,f5,f6,f7,f8,f9,gx,l7⟩:=R1.Od;have⟨W,hW,⟨t0,t1,t2,t3,t4,t5,t6,t7,t8,t9,wJ,cq⟩,_,_,J8⟩:=R1.vaC 1;have yA:=ZE (J8 _ _ Q aj);clear J8;go_wp2;exact ZM (v:=.agg #[J 0,nS,nS,nS,nS,nS,nS,J 0,nS,nS,J 0,J 1]) (by simp[results,Tryz.results78,go_sem,t0,t1,t2,t3,t4,t5,t6,t7,t8,t9,wJ,cq]) rfl ⟨De,0,_,⟨⟨none,none,none,none,none,none,none,none,0,0,0,0,0,0,0,0,rfl,λW' _=>va1 _ W'⟩,yA.out⟩,va3⟩
  case pos=>
  have hI:=jnb bv 1 1000 w1 hr.1 hr.2;have x7:=A1.c 7 rfl;by_cases hc:s.cur=0
  case pos=>
   rw[hc]at x7;clear dZ hr;go_wp2_with fail;refine hI.mono ?_;rintro q w2 ⟨rfl,rfl⟩;have⟨r0,r1,r2,r3,r4,r5,r6,r7,r8,r9,lw,mv⟩:=R1.Nc;have⟨f0,f1,f2,f3,f4,f5,f6,f7,f8,f9,gx,l7⟩:=R1.Od;have⟨W,hW,⟨t0,t1,t2,t3,t4,t5,t6,t7,t8,t9,wJ,cq⟩,_,_,J8⟩:=R1.vaC 10;have yA:=ZE (J8 _ _ Q aj);clear J8;go_wp2;exact ZM (v:=.agg #[J 0,nS,nS,nS,nS,nS,nS,J 0,nS,nS,J 0,J 10]) (by simp[results,Tryz.results78,go_sem,t0,t1,t2,t3,t4,t5,t6,t7,t8,t9,wJ,cq]) rfl ⟨De,0,_,⟨⟨none,none,none,none,none,none,none,none,0,0,0,0,0,0,0,0,rfl,λW' _=>va1 _ W'⟩,yA.out⟩,va3⟩
  case neg=>
  obtain⟨m,hm⟩:∃m:Nat,bv=m:=⟨bv.toNat,Q⟩;subst hm;have cU:(s.cur==0)=false:=by simpa using hc
  have q5:=vew s _ w1 (dQ.below aj) ok;have⟨x0,x1,x2,x3,x4,x5,x6,_,x8,x9⟩:=A1.ZS;go_wp2_with fail;refine hI.mono ?_;rintro q w2 ⟨rfl,rfl⟩;clear hI;go_wp2_with fail;refine q5.mono ?_;rintro q w2 iB;obtain⟨vP,rfl,uv⟩:=iB.ex;obtain⟨a1,a2,a3,a4,a5,a6,a8,a9,c1,c2,c3,c4,c5,c6,c8,c9,rfl,pP,sq,FC,BJ⟩:=uv.form;have ac:=iB.ZB;have b3:=ZA w2 (G (stA s a1 a2 a3 a4 a5 a6 a8 a9 c1 c2 c3 c4 c5 c6 c8 c9).toArray 31);have mx:=Zp ac b3;have q6:=jd1 s.vs va s.vs.length cv _ ((hV.below aj).below mx) rfl Q;have A3:=A1.below mx;have y8:=A3.c 8 rfl;have eS:(w2.alloc (G (stA s a1 a2 a3 a4 a5 a6 a8 a9 c1 c2 c3 c4 c5 c6 c8 c9).toArray 31)).heap[w2.heap.size]? =some (G (stA s a1 a2 a3 a4 a5 a6 a8 a9 c1 c2 c3 c4 c5 c6 c8 c9).toArray 31 (0,0)):=heap_alloc_new w2 _;have aF:=ac.size;have⟨g,hg⟩:=ZL w2.heap.size;clear x0 x1 x2 x3 x4 x5 x6 x7 x8 x9 q5 iB uv;go_wp2_with fail;refine q6.mono ?_;rintro q w4 ⟨lv,rfl,dX,aD⟩;have ua:=Zp b3 aD;have S4:vbE s w w4 (stA s a b c d e f va ia ca cb cc cd ce cf cv ci) [J 0,nS,nS,nS,nS,nS,nS,J 0,nS,nS,J 0,J 0] g (stA (atC s s.cur) a1 a2 a3 a4 a5 a6 a8 a9 c1 c2 c3 c4 c5 c6 c8 c9) (.agg #[U a1 s.YT.Vv.length c1,U a2 s.YT.YU.length c2,U a3 s.YT.YW.length c3]) (.agg #[U a4 s.YS.Vv.length c4,U a5 s.YS.YU.length c5,U a6 s.YS.YW.length c6]) (U a8 s.vs.length c8) (U a9 s.ix.length c9) lv:=⟨A3.below aD,(R1.below mx).below aD,by rw[<- hg];exact(aD.block _ (LQ eS)).trans eS,(pP.mono aH).below ua,(sq.mono aH).below ua,Ez (uZ FC ua) aH,Ez (uZ BJ ua) aH,Ez dX (by have:=b3.size;omega),Q,aj.trans ((Zp mx aD).mono aj.size)⟩;obtain⟨pl,cl,rfl,eG⟩:=jkx dX;have⟨N,hN⟩:=ZL ((ZJ s.vs).length);have Jh:=ZE (And.intro KE L4);rw[hN]at S4 p6 eG ⊢;have yV:=ZE S4;have HN:=ZE hN;clear A3 y8 eS dX aD ua pP sq FC BJ ac b3 mx aj A1 R1 q6 S4 aH aF hv KE L4 hN;clear hg;go_wp2;go_loopw [7,8,9,10,11,12,13,14] (λs7 s8 s9 mY _ _ _ _ wr=>∃(i dd n:Nat) (z:Int),i<=N/\mY=J i/\s9=.bool false/\s8=J dd/\s7=J n/\dd<=i/\n<=i/\Hid (vbE s w wr (stA s a b c d e f va ia ca cb cc cd ce cf cv ci) [J 0,nS,nS,nS,nS,nS,nS,J 0,nS,nS,J 0,J 0] g (stA (atC s z) a1 a2 a3 a4 a5 a6 a8 a9 c1 c2 c3 c4 c5 c6 c8 c9) (.agg #[U a1 s.YT.Vv.length c1,U a2 s.YT.YU.length c2,U a3 s.YT.YW.length c3]) (.agg #[U a4 s.YS.Vv.length c4,U a5 s.YS.YU.length c5,U a6 s.YS.YW.length c6]) (U a8 s.vs.length c8) (U a9 s.ix.length c9) (U pl N cl))) (λ_ _ _ mY _ _ _ _ _=>N-(intOf mY).toNat)
  .exact⟨0,0,0,s.cur,Q,rfl,rfl,rfl,rfl,Q,Q,yV⟩
  ·
   have⟨wa,dS⟩:=wL wr;subst dS;obtain⟨i,dd,n,z,hi,rfl,rfl,rfl,rfl,QR,vX,HS⟩:=hrel;clear yV;by_cases hlt:i<N
   rotate_left
   -- all have Pa Hc
   have S:=HS.out;have vVV:=C6 S.var;have⟨v0,v1,v2,v3,v4,v5,v6,v7,v8,v9⟩:=vVV.ZS;have⟨g0,g1,g2,g3,g4,g5,g6,g7,g8,g9⟩:=vVV.vaV;have S5:=(((S.set 7 (J 0)).set 4 nS).set 5 nS).set 6 nS;have⟨wb,mQ⟩:=ZL ((((wa.setCell (O g 7) (J 0)).setCell (O g 4) nS).setCell (O g 5) nS).setCell (O g 6) nS);rw[mQ]at S5;have HT:Hid (∃s2 d4 d5 d6 e4 e5 e6,vbE s2 w wb (stA s a b c d e f va ia ca cb cc cd ce cf cv ci) [J 0,nS,nS,nS,nS,nS,nS,J 0,nS,nS,J 0,J 0] g (stA s2 a1 a2 a3 d4 d5 d6 a8 a9 c1 c2 c3 e4 e5 e6 c8 c9) (.agg #[U a1 s2.YT.Vv.length c1,U a2 s2.YT.YU.length c2,U a3 s2.YT.YW.length c3]) (.agg #[U d4 s2.YS.Vv.length e4,U d5 s2.YS.YU.length e5,U d6 s2.YS.YW.length e6]) (U a8 s2.vs.length c8) (U a9 s2.ix.length c9) (U pl N cl)/\Zr s2/\ZZ s2.YT=true/\ZZ s2.YS=true/\s2.vs.length<=1000/\(ZJ s2.vs).length<=1000/\(∀x∈ZJ s2.vs,EvR x)):=⟨⟨s.tx,s.YT,⟨[],[],[]⟩,0,s.vs,s.ix⟩,none,none,none,0,0,0,⟨S5.par,S5.res,S5.var,S5.YT,veq _ _,S5.vs,S5.ix,S5.live,S5.ge,S5.ZB⟩,⟨ok.YT,ves,ok.vs,ok.vl,ok.xl⟩,p1,viH,by show s.vs.length<=1000;omega,by show(ZJ s.vs).length<=1000;rw[HN.out];omega,λx hx=>(dZ.out x hx).1⟩;have hlt2:¬(i:Int)<(N:Int):=Q;clear S vVV S5 HS
   rotate_left
   -- one is to be Hc
   obtain⟨x,hx⟩:∃x,(ZJ s.vs)[i]? =some x:=⟨_,ZV (by rw[HN.out];exact hlt)⟩;obtain⟨gl,rfl⟩:=eG Q;have S:=HS.out;have⟨c0,NQ,Ir,xD,NS,NT⟩:=jf0 S.live hx;have x7:=S.par.c 7 rfl;have⟨NR,QW⟩:=dZ.out x (ui hx);have i0:(0:Int)<=(i:Int):=Q;have i1:(i:Int)<(N:Int):=Q;by_cases hw:x.id<s.cur
   .have q1:decide (x.id<s.cur)=true:=rT hw
    clear hx S;go_wp2_with fail;go_quiet (fail);go_wp2;go_roundw
    .exact⟨i+1,dd,n,z,Q,RP,rfl,rfl,rfl,Q,Q,HS.out.below (blN wa nq)⟩
    .simp[intOf];omega
   have q1:decide (x.id<s.cur)=false:=dfe hw;by_cases hd:dd=m
   rotate_left
   .have q2:((dd:Int)==(m:Int))=false:=RO
    have⟨P,hP⟩:=ZL (vai s.YS x);have⟨vQQ,hQ⟩:=ZL (vai s.YT x);have KS:IntKind.i64.wrap (x.id+1)=x.id+1:=by rw[IntKind.wrap_i64];omega
    have se:=λW (h:Bw w W)=>vge s.YS _ x W (Jh.out.2.below h) ok.YS p2 NR hP
    have nX:=λW (h:Bw w W)=>vge s.YT _ x W (Jh.out.1.below h) ok.YT p1 NR hQ
    simp only[Ze.v]at se nX;clear hP hQ;go_wp2_with fail;go_quiet (fail);go_wp2_with fail;have S2:=S.below (blN wa nq);clear HS S c0 NQ Ir xD NS NT x7;generalize wa.drewN nq=wb at *;have S3:=S2.below (rW wb);have⟨d0,d1,d2,d3,d4,d5⟩:=jf0 S3.live hx;have y4:=S3.par.c 4 rfl;have y5:=S3.par.c 5 rfl;have y6:=S3.par.c 6 rfl;have L1:=se _ S3.ZB;have yU:=ZE S3;clear S2 S3 se;obtain⟨P1,P2⟩:=P;obtain⟨Q1,Q2⟩:=vQQ;go_region_held3 (λw'=>w'.cell? (O w.heap.size 4)=some (U d s.YS.Vv.length cd)/\w'.cell? (O w.heap.size 5)=some (U e s.YS.YU.length ce)/\w'.cell? (O w.heap.size 6)=some (U f s.YS.YW.length cf)/\w'.cell? (O gl (i*6))=some (J x.id)/\w'.cell? (O gl (i*6+1))=some (I x.name)/\w'.cell? (O gl (i*6+2))=some (I x.YZ)/\w'.cell? (O gl (i*6+3))=some (J x.YV)/\w'.cell? (O gl (i*6+4))=some (J x.Zz)/\w'.cell? (O gl (i*6+5))=some (J x.Zu)) (go_keep) ((go_at_call 117;refine L1.mono ?_;rintro q wc ⟨rfl,ww⟩;have u4:=YR ww y4;have u5:=YR ww y5;have u6:=YR ww y6;have t0:=YR ww d0;have t1:=YR ww d1;have t2:=YR ww d2;have t3:=YR ww d3;have t4:=YR ww d4;have t5:=YR ww d5));have S5:=(yU.out.below ww).below (rW wc);clear L1 yU d0 d1 d2 d3 d4 d5 y4 y5 y6 u4 u5 u6 t0 t1 t2 t3 t4 t5 ww;have⟨d0,d1,d2,d3,d4,d5⟩:=jf0 S5.live hx;have y1:=S5.par.c 1 rfl;have y2:=S5.par.c 2 rfl;have y3:=S5.par.c 3 rfl;have L2:=nX _ S5.ZB;have Eu:=ZE S5;clear S5 nX;go_wp2_with fail;go_region_held3 (λw'=>w'.cell? (O w.heap.size 1)=some (U a s.YT.Vv.length ca)/\w'.cell? (O w.heap.size 2)=some (U b s.YT.YU.length cb)/\w'.cell? (O w.heap.size 3)=some (U c s.YT.YW.length cc)/\w'.cell? (O gl (i*6))=some (J x.id)/\w'.cell? (O gl (i*6+1))=some (I x.name)/\w'.cell? (O gl (i*6+2))=some (I x.YZ)/\w'.cell? (O gl (i*6+3))=some (J x.YV)/\w'.cell? (O gl (i*6+4))=some (J x.Zz)/\w'.cell? (O gl (i*6+5))=some (J x.Zu)) (go_keep) ((go_at_call 117;refine L2.mono ?_;rintro q wd ⟨rfl,ou⟩;have u1:=YR ou y1;have u2:=YR ou y2;have u3:=YR ou y3;have t0:=YR ou d0;have t1:=YR ou d1;have t2:=YR ou d2;have t3:=YR ou d3;have t4:=YR ou d4;have t5:=YR ou d5));have S6:=Eu.out.below ou;have S7:=S6.set 7 (J (x.id+1));have v7:=(C6 S6.var).c 7 rfl;have f7:=(C6 S6.var).f 7 rfl;have C2:=ZE S7;have FQ:IntKind.i64.wrap ((n:Int)+1)=(n:Int)+1:=by rw[IntKind.wrap_i64];omega
    clear Eu L2 S6 S7 d0 d1 d2 d3 d4 d5 y1 y2 y3 u1 u2 u3 t1 t2 t3 t4 t5 ou hx;by_cases fZ:P1=Q1
    .subst fZ
     cases P2<;>cases Q2
     all_goals
      go_wp2;go_roundw
      .first|exact⟨i+1,dd+1,n,x.id+1,Q,RP,rfl,RP,rfl,Q,Q,C2⟩|exact⟨i+1,dd+1,n+1,x.id+1,Q,RP,rfl,RP,RP,Q,Q,C2⟩
      .simp[intOf];omega
    .have PH:(P1==Q1)=false:=by simpa using fZ
     cases P2<;>cases Q2
     all_goals
      go_wp2;go_roundw
      .first|exact⟨i+1,dd+1,n,x.id+1,Q,RP,rfl,RP,rfl,Q,Q,C2⟩|exact⟨i+1,dd+1,n+1,x.id+1,Q,RP,rfl,RP,RP,Q,Q,C2⟩
      .simp[intOf];omega
   rotate_left
   have q2:((dd:Int)==(m:Int))=true:=RO
   case' pos=>
    go_wp2_with fail;go_quiet (fail);have S5:=HS.out.below (blN wa nq);generalize wa.drewN nq=wb at *
   have HT:Hid (∃s2 d4 d5 d6 e4 e5 e6,vbE s2 w wb (stA s a b c d e f va ia ca cb cc cd ce cf cv ci) [J 0,nS,nS,nS,nS,nS,nS,J 0,nS,nS,J 0,J 0] g (stA s2 a1 a2 a3 d4 d5 d6 a8 a9 c1 c2 c3 e4 e5 e6 c8 c9) (.agg #[U a1 s2.YT.Vv.length c1,U a2 s2.YT.YU.length c2,U a3 s2.YT.YW.length c3]) (.agg #[U d4 s2.YS.Vv.length e4,U d5 s2.YS.YU.length e5,U d6 s2.YS.YW.length e6]) (U a8 s2.vs.length c8) (U a9 s2.ix.length c9) (so gl N cl)/\Zr s2/\ZZ s2.YT=true/\ZZ s2.YS=true/\s2.vs.length<=1000/\(ZJ s2.vs).length<=1000/\(∀x∈ZJ s2.vs,EvR x)):=⟨atC s z,a4,a5,a6,c4,c5,c6,⟨S5.par,S5.res,S5.var,S5.YT,S5.YS,S5.vs,S5.ix,S5.live,S5.ge,S5.ZB⟩,⟨ok.YT,ok.YS,ok.vs,ok.vl,ok.xl⟩,p1,p2,by show s.vs.length<=1000;omega,by show(ZJ s.vs).length<=1000;rw[HN.out];omega,λx hx=>(dZ.out x hx).1⟩;clear S5 S HS hx c0 NQ Ir xD NS NT x7
   all_goals
    have hT:=HT.out;clear HT;have⟨s2,d4,d5,d6,e4,e5,e6,T,kS,r1,r2,l1,l2,Ft⟩:=hT;have vVV:=C6 T.var;have⟨z0,z1,z2,z3,z4,z5,z6,z7,z8,z9⟩:=vVV.ZS;have hQ:=jh5 s2 _ wb ⟨a1,a2,a3,d4,d5,d6,a8,a9,c1,c2,c3,e4,e5,e6,c8,c9,rfl,T.YT.at,T.YS.at,(vbC T.vs (λ_=>rfl)).1,(vbC T.ix (λ_=>rfl)).1,(vbC T.vs (λ_=>rfl)).2,(vbC T.ix (λ_=>rfl)).2⟩ kS r1 r2 l1 l2 Ft;have HT:=ZE T;have lZ:=jep (My s2) (ZJ s2.vs);generalize BS (My s2) (ZJ s2.vs)=EE at *;clear vVV T;go_wp2_with fail;refine hQ.mono ?_;rintro q w6 ⟨x6,rfl,fV,hb6⟩;obtain⟨px,cx,rfl⟩:=vao fV;have S6:=HT.out.below hb6;have S7:=S6.set 9 (U px EE.length cx);have V6:=C6 S6.var;have l6:=hb6.size;have lg:=LQ HT.out.var;have cj:=vfM (g:=g) (j:=9) (u:=U px EE.length cx) fV lg;have K7:=HT.out.ge;have p9:w6.cell? (O g 9)=some (U a9 s2.ix.length c9):=V6.c 9 rfl;have Qq:w6.frozen? (O g 9)=false:=V6.f 9 (u:=U a9 s2.ix.length c9) rfl;have⟨w7,yk⟩:=ZL (w6.setCell (O g 9) (U px EE.length cx));rw[yk]at S7 cj;have V7:Zh w7 g (stA ⟨s2.tx,s2.YT,s2.YS,s2.cur,s2.vs,EE⟩ a1 a2 a3 d4 d5 d6 a8 px c1 c2 c3 e4 e5 e6 c8 cx):=C6 S7.var;have R7:=S7.res;have⟨k0,k1,k2,k3,k4,k5,k6,k7,k8,k9⟩:=V7.ZS;have⟨r0,QZ,R8,r3,r4,r5,r6,r7,r8,r9,lw,mv⟩:=R7.Nc;have⟨f0,f1,f2,f3,f4,f5,f6,f7,f8,f9,gx,l7⟩:=R7.Od;have⟨W8,PG,⟨t0,t1,t2,t3,t4,t5,t6,t7,t8,t9,wJ,cq⟩,T8,_,J8⟩:=R7.fin (J s2.tx) (U a1 s2.YT.Vv.length c1) (U a2 s2.YT.YU.length c2) (U a3 s2.YT.YW.length c3) (U d4 s2.YS.Vv.length e4) (U d5 s2.YS.YU.length e5) (U d6 s2.YS.YW.length e6) (J s2.cur) (U a8 s2.vs.length c8) (U px EE.length cx) (J (n:Int)) (J 0);have yA:=ZE (J8 _ _ Q S7.ZB);have ED:Hid (vcw w.heap.size W8 (.agg (stA ⟨s2.tx,s2.YT,s2.YS,s2.cur,s2.vs,EE⟩ a1 a2 a3 d4 d5 d6 a8 px c1 c2 c3 e4 e5 e6 c8 cx).toArray) ⟨s2.tx,s2.YT,s2.YS,s2.cur,s2.vs,EE⟩):=λW' hW=>by
     have Qm:=T8.size;have o5:∀k,w.heap.size+1+1<=k->k<w7.heap.size->W'.heap[k]? =w7.heap[k]? :=λk h1 h2=>(hW k Q Q).trans (T8.block k h2 (show k≠w.heap.size+1 by omega))
     have r:∀{v:Value} {r:ZW},Gz (w.heap.size+1+1) w7 v r->Gz w.heap.size W' v r:=λh=>(h.keep λk cs t _ h1 h2=>(o5 k Q (LQ h2)).trans h2).mono Q
     exact⟨a1,a2,a3,d4,d5,d6,a8,px,c1,c2,c3,e4,e5,e6,c8,cx,rfl,r S7.YT,r S7.YS,Ez (vbm S7.vs λk cs h1 h2=>(o5 k Q (LQ h2)).trans h2) Q,Ez (vbm cj λk cs h1 h2=>(o5 k Q (LQ h2)).trans h2) Q⟩
    have rQ:Hid (Zr ⟨s2.tx,s2.YT,s2.YS,s2.cur,s2.vs,EE⟩/\s2.vs.length<=1000/\EE.length<=1000):=⟨⟨kS.YT,kS.YS,kS.vs,kS.vl,show EE.length<=1048576 by omega⟩,l1,Q⟩;clear hQ fV hb6 S6 S7 V6 V7 R7 T8 cj HT J8;go_wp2;exact ZM (v:=.agg (Ky ⟨s2.tx,s2.YT,s2.YS,s2.cur,s2.vs,EE⟩ a1 a2 a3 d4 d5 d6 a8 px c1 c2 c3 e4 e5 e6 c8 cx (n:Int) 0).toArray) (by simp[results,Tryz.results78,go_sem,t0,t1,t2,t3,t4,t5,t6,t7,t8,t9,wJ,cq,Ky]) rfl ⟨_,_,_,⟨⟨a1,a2,a3,d4,d5,d6,a8,px,c1,c2,c3,e4,e5,e6,c8,cx,rfl,ED.out⟩,yA.out⟩,rQ.out⟩
end
section
open Go.RowKit Go.Lib Go.Sort
def va9(s:ZP)(e:Ze):ZP × Int:=if BQ s=true then(if Lr e=true then(if jdv s e.YZ=true then(if 60<=s.vs.length\/900000<=s.tx\/(30<=(ZJ s.vs).length/\vaD (ZJ s.vs) e.id=none)then(De,7)else(Ou s e false,0))else(De,5))else(De,1))else(De,1)
theorem vgb(s:ZP)(v:Value)(ev:Ze)(w:World)(hv:Jd w v s)(ok:Zr s)(m1:ev.name.size<=maxLen)(m2:ev.YZ.size<=maxLen)(hE:BQ s=true->ZZ s.YT=true/\ZZ s.YS=true/\s.vs.length<=60/\(0<=s.tx/\s.tx<=900000)/\(ZJ s.vs).length<=30)(nV:BQ s=true->Lr ev=true->(Gu (s.tx+1) false ev).ok/\∀x∈ZJ (s.vs++[Gu (s.tx+1) false ev]),EvR x):
  C 6 #[v,ev.v] w (vcv (va9 s ev).1 0 (va9 s ev).2 w):=by
 have dQ:=hv;obtain⟨a,b,c,d,e,f,va,ia,ca,cb,cc,cd,ce,cf,cv,ci,rfl,_,_,hV,_,_,_⟩:=hv.form;obtain⟨id,name,YZ,YV,Zz,Zu⟩:=ev;have⟨w0,KR,ag,A0,E0,R0,_⟩:=veA w (stA s a b c d e f va ia ca cb cc cd ce cf cv ci) [J id,I name,I YZ,J YV,J Zz,J Zu];have q1:=jh8 s _ _ (dQ.below ag) ok;have q2:=λW=>jlo ⟨id,name,YZ,YV,Zz,Zu⟩ W m1 m2
 simp only[Ze.v]at *;have⟨x0,x1,x2,x3,x4,x5,x6,x7,x8,x9⟩:=A0.ZS;unfold C;go_in;go_wp2_with fail;clear KR;refine q1.mono ?_;rintro q w1 ⟨rfl,hb1⟩;have aj:=Zp ag hb1;have A1:=A0.below hb1;have E1:=E0.below hb1;have R1:=R0.below hb1;clear x0 x1 x2 x3 x4 x5 x6 x7 x8 x9 A0 E0 R0 ag hb1 q1;cases hs:BQ s
 case false=>
  clear hE nV;have HD:Hid (va9 s ⟨id,name,YZ,YV,Zz,Zu⟩=(De,1)):=by simp[Hid,va9,hs]
  have⟨r0,r1,r2,r3,r4,r5,r6,r7,r8,r9,lw,mv⟩:=R1.Nc;have⟨f0,f1,f2,f3,f4,f5,f6,f7,f8,f9,gx,l7⟩:=R1.Od;have⟨W,hW,⟨t0,t1,t2,t3,t4,t5,t6,t7,t8,t9,wJ,cq⟩,_,_,J8⟩:=R1.vaC 1;have yA:=ZE (J8 _ _ Q aj);clear J8;go_wp2;exact ZM (v:=.agg #[J 0,nS,nS,nS,nS,nS,nS,J 0,nS,nS,J 0,J 1]) (by simp[results,Tryz.results6,go_sem,t0,t1,t2,t3,t4,t5,t6,t7,t8,t9,wJ,cq]) rfl (by rw[HD.out];exact⟨⟨none,none,none,none,none,none,none,none,0,0,0,0,0,0,0,0,rfl,λW' _=>va1 _ W'⟩,yA.out⟩)
 case true=>
  have⟨p1,p2,p3,⟨p4,p5⟩,p6⟩:=hE hs;have e0:=E1.c 0 rfl;have e1:=E1.c 1 rfl;have e2:=E1.c 2 rfl;have e3:=E1.c 3 rfl;have e4:=E1.c 4 rfl;have e5:=E1.c 5 rfl;go_wp2_with fail;refine(q2 _).mono ?_;rintro q w2 ⟨rfl,ac⟩;have an:=Zp aj ac;have A2:=A1.below ac;have E2:=E1.below ac;have R2:=R1.below ac;clear e0 e1 e2 e3 e4 e5 A1 E1 R1 aj ac q2 hE;cases he:Lr ⟨id,name,YZ,YV,Zz,Zu⟩
  case false=>
   clear nV;have HD:Hid (va9 s ⟨id,name,YZ,YV,Zz,Zu⟩=(De,1)):=by simp[Hid,va9,hs,he]
   have⟨r0,r1,r2,r3,r4,r5,r6,r7,r8,r9,lw,mv⟩:=R2.Nc;have⟨f0,f1,f2,f3,f4,f5,f6,f7,f8,f9,gx,l7⟩:=R2.Od;have⟨W,hW,⟨t0,t1,t2,t3,t4,t5,t6,t7,t8,t9,wJ,cq⟩,_,_,J8⟩:=R2.vaC 1;have yA:=ZE (J8 _ _ Q an);clear J8;go_wp2;exact ZM (v:=.agg #[J 0,nS,nS,nS,nS,nS,nS,J 0,nS,nS,J 0,J 1]) (by simp[results,Tryz.results6,go_sem,t0,t1,t2,t3,t4,t5,t6,t7,t8,t9,wJ,cq]) rfl (by rw[HD.out];exact⟨⟨none,none,none,none,none,none,none,none,0,0,0,0,0,0,0,0,rfl,λW' _=>va1 _ W'⟩,yA.out⟩)
  case true=>
   have dZ:=ZE (nV hs he);have q3:=jm4 s _ YZ w2 (dQ.below an) ok;have⟨x0,x1,x2,x3,x4,x5,x6,x7,x8,x9⟩:=A2.ZS;have e2:=E2.c 2 rfl;clear nV;go_wp2_with fail;refine q3.mono ?_;rintro q w3 ⟨rfl,ar⟩;have ax:=Zp an ar;have A3:=A2.below ar;have E3:=E2.below ar;have R3:=R2.below ar;clear x0 x1 x2 x3 x4 x5 x6 x7 x8 x9 e2 A2 E2 R2 an ar q3;cases hz:jdv s YZ
   case false=>
    have HD:Hid (va9 s ⟨id,name,YZ,YV,Zz,Zu⟩=(De,5)):=by simp[Hid,va9,hs,he,hz]
    have⟨r0,r1,r2,r3,r4,r5,r6,r7,r8,r9,lw,mv⟩:=R3.Nc;have⟨f0,f1,f2,f3,f4,f5,f6,f7,f8,f9,gx,l7⟩:=R3.Od;have⟨W,hW,⟨t0,t1,t2,t3,t4,t5,t6,t7,t8,t9,wJ,cq⟩,_,_,J8⟩:=R3.vaC 5;have yA:=ZE (J8 _ _ Q ax);clear J8;go_wp2;exact ZM (v:=.agg #[J 0,nS,nS,nS,nS,nS,nS,J 0,nS,nS,J 0,J 5]) (by simp[results,Tryz.results6,go_sem,t0,t1,t2,t3,t4,t5,t6,t7,t8,t9,wJ,cq]) rfl (by rw[HD.out];exact⟨⟨none,none,none,none,none,none,none,none,0,0,0,0,0,0,0,0,rfl,λW' _=>va1 _ W'⟩,yA.out⟩)
   case true=>
    have q4:=jd1 s.vs va s.vs.length cv w3 (hV.below ax) rfl Q;have x8:=A3.c 8 rfl;go_wp2_with fail;refine q4.mono ?_;rintro q w4 ⟨lv,rfl,dX,aD⟩;have⟨pl,cl,Sq,mN⟩:=dX.seq;subst Sq;have aR:=Zp ax aD;have A4:=A3.below aD;have E4:=E3.below aD;have R4:=R3.below aD;clear x8 A3 E3 R3 ax aD q4 dX;have x8:=A4.c 8 rfl;have x0:=A4.c 0 rfl;have e0:=E4.c 0 rfl;go_upto_region 6 with fail
    go_cut [44]from 24 to 44 (λsx wx=>∃bb:Bool,sx=.bool bb/\wx=w4/\Hid (bb=true↔(60<=s.vs.length\/900000<=s.tx\/(30<=(ZJ s.vs).length/\vaD (ZJ s.vs) id=none))))
    case first=>
     by_cases tP:60<=s.vs.length
     .have E5:(60:Int)<=(s.vs.length:Int):=Q
      go_wp2;go_meet;exact⟨true,rfl,rfl,by simp[Hid,tP]⟩
     have E5:¬(60:Int)<=(s.vs.length:Int):=Q;by_cases Ha:900000<=s.tx
     .go_wp2
      go_meet;exact⟨true,rfl,rfl,by simp[Hid,Ha]⟩
     by_cases lm:30<=(ZJ s.vs).length
     .have Pu:(30:Int)<=((ZJ s.vs).length:Int):=Q
      go_wp2_with fail;refine(vgd (ZJ s.vs) pl (ZJ s.vs).length cl id w4 mN rfl Q).mono ?_;rintro q w5 ⟨rfl,oK⟩;have oK:=oK.symm;subst oK;cases hh:vaD (ZJ s.vs) id with
      |none=>
       simp only[ixI];go_wp2;go_meet;exact⟨true,rfl,rfl,by simp[Hid,lm,hh]⟩
      |some k=>
       have Cd:¬((k:Int)<0):=Q;simp only[ixI];go_wp2;go_meet;exact⟨false,rfl,rfl,by simp[Hid,tP,Ha,hh]⟩
     .have Pu:¬(30:Int)<=((ZJ s.vs).length:Int):=Q
      go_wp2;go_meet;exact⟨false,rfl,rfl,by simp[Hid,tP,Ha,lm]⟩
    obtain⟨bb,rfl,yj,HF⟩:=hcut;have yj:=yj.symm;subst yj;clear x0 x8 e0;cases bb
    case true=>
     have hfl:=HF.out.mp rfl;clear HF;have HD:Hid (va9 s ⟨id,name,YZ,YV,Zz,Zu⟩=(De,7)):=by simp only[Hid,va9];rw[if_pos hs,if_pos he,if_pos hz,if_pos hfl]
     have⟨r0,r1,r2,r3,r4,r5,r6,r7,r8,r9,lw,mv⟩:=R4.Nc;have⟨f0,f1,f2,f3,f4,f5,f6,f7,f8,f9,gx,l7⟩:=R4.Od;have⟨W,hW,⟨t0,t1,t2,t3,t4,t5,t6,t7,t8,t9,wJ,cq⟩,_,_,J8⟩:=R4.vaC 7;have yA:=ZE (J8 _ _ Q aR);clear J8;go_wp2;exact ZM (v:=.agg #[J 0,nS,nS,nS,nS,nS,nS,J 0,nS,nS,J 0,J 7]) (by simp[results,Tryz.results6,go_sem,t0,t1,t2,t3,t4,t5,t6,t7,t8,t9,wJ,cq]) rfl (by rw[HD.out];exact⟨⟨none,none,none,none,none,none,none,none,0,0,0,0,0,0,0,0,rfl,λW' _=>va1 _ W'⟩,yA.out⟩)
    case false=>
     have hfl:¬_:=λk=>Bool.noConfusion (HF.out.mpr k)
     have tP:s.vs.length<60/\s.tx<900000:=Q;have HD:Hid (va9 s ⟨id,name,YZ,YV,Zz,Zu⟩=(Ou s ⟨id,name,YZ,YV,Zz,Zu⟩ false,0)):=by simp only[Hid,va9];rw[if_pos hs,if_pos he,if_pos hz,if_neg hfl]
     have⟨lH,nd⟩:=dZ.out;have pv:=vgg s ⟨id,name,YZ,YV,Zz,Zu⟩ false _ w4 (dQ.below aR) ok p1 p2 p4 Q Q (by have:=jwf (s.vs++[Gu (s.tx+1) false ⟨id,name,YZ,YV,Zz,Zu⟩]) (s.vs++[Gu (s.tx+1) false ⟨id,name,YZ,YV,Zz,Zu⟩]).length;unfold ZJ;simp at this ⊢;omega) nd lH;simp only[Ze.v]at pv;generalize Ou s ⟨id,name,YZ,YV,Zz,Zu⟩ false=D at *;have⟨x0,x1,x2,x3,x4,x5,x6,x7,x8,x9⟩:=A4.ZS;have e0:=E4.c 0 rfl;have e1:=E4.c 1 rfl;have e2:=E4.c 2 rfl;have e3:=E4.c 3 rfl;have e4:=E4.c 4 rfl;have e5:=E4.c 5 rfl;go_wp2_with fail;refine pv.mono ?_;rintro q w9 pY;obtain⟨a1,a2,a3,a4,a5,a6,a8,a9,c1,c2,c3,c4,c5,c6,c8,c9,rfl,xx⟩:=pY.ex;have bZ:=pY.ZB;have R9:=R4.below bZ;have l9:w.heap.size+1+1<w4.heap.size:=ZI (R4.c 0 rfl);have⟨r0,r1,r2,r3,r4,r5,r6,r7,r8,r9,lw,mv⟩:=R9.Nc;have⟨f0,f1,f2,f3,f4,f5,f6,f7,f8,f9,gx,l7⟩:=R9.Od;have⟨W,hW,⟨t0,t1,t2,t3,t4,t5,t6,t7,t8,t9,wJ,cq⟩,T,_,J8⟩:=R9.fin (J D.tx) (U a1 D.YT.Vv.length c1) (U a2 D.YT.YU.length c2) (U a3 D.YT.YW.length c3) (U a4 D.YS.Vv.length c4) (U a5 D.YS.YU.length c5) (U a6 D.YS.YW.length c6) (J D.cur) (U a8 D.vs.length c8) (U a9 D.ix.length c9) (J 0) (J 0);have yA:=ZE (J8 _ _ Q (Zp aR bZ));have HT:=ZE T;have Ql:=ZE xx;clear T xx J8 x0 x1 x2 x3 x4 x5 x6 x7 x8 x9 e0 e1 e2 e3 e4 e5 pv;go_wp2;exact ZM (v:=.agg (Ky D a1 a2 a3 a4 a5 a6 a8 a9 c1 c2 c3 c4 c5 c6 c8 c9 0 0).toArray) (by simp[results,Tryz.results6,go_sem,t0,t1,t2,t3,t4,t5,t6,t7,t8,t9,wJ,cq,Ky]) rfl (by rw[HD.out];exact⟨⟨a1,a2,a3,a4,a5,a6,a8,a9,c1,c2,c3,c4,c5,c6,c8,c9,rfl,λW' hW=>(Ql.out W' λk h1 h2=>(hW k Q (Nat.lt_of_lt_of_le h2 HT.out.size)).trans (HT.out.block k h2 (show k≠w.heap.size+1+1 by omega))).mono (show w.heap.size<=w4.heap.size by omega)⟩,yA.out⟩)
