import Derived.Test.YtmkjofknhdikpaaGreatDoorQAd
import Derived.Test.YtmkjofknhdikpaaGreatDoorSNd
import Derived.Test.YtmkjofknhdikpaaGreatDoorFXd
set_option maxRecDepth 20000
set_option maxHeartbeats 0
set_option linter.unusedSimpArgs false
open Go.RowKit
namespace Go.Proofs.YtmkjofknhdikpaaGreatDoor
variable{B base g j n nv q:Nat}{W W' w:World}{lv n3 u v vi vv w3:Value}{EV L PV RV xi xs xv:List Value}{e:TypeId}{r:Un}{s:Uo}
theorem vep(r:Un)(v:Value)(ev:TD)(w:World)(hv:Zd w v r)(ok:Jk r)(hr:Um r=true)(jb:ZF ev){lH:Int × Bool}(hM:Vf r ev=lH):
  C 112 #[v,ev.v] w λq w'=>q=V (.tuple #[J lH.1,Z lH.2])/\Bw w w':=by
 have dQ:=hv;obtain⟨a,b,c,ca,cb,cc,rfl,_⟩:=hv.form;obtain⟨id,name,TH,Ty,TM,TL⟩:=ev;have⟨k1,k2,k3,k4,k5,k6,k7⟩:=jb;simp only[TD.v]at *;have⟨w0,KR,ag,A0,E0,z0⟩:=vco w [U a r.Tw.length ca,U b r.TC.length cb,U c r.TG.length cc] [J id,I name,I TH,J Ty,J TM,J TL] 27 43;have hT:=jsy veC r _ TH w0 (dQ.below ag) ok.sm ok.on k1 hr;have x0:=A0.c 0 rfl;have x1:=A0.c 1 rfl;have x2:=A0.c 2 rfl;have e2:=E0.c 2 rfl;have HE:=hidL E0;have HM:=hidL hM;clear hv dQ A0 E0 hM;delta C;go_in;go_wp2_with fail;refine hT.mono ?_;rintro q w1 hP;obtain⟨tv,rfl,hO,hb1⟩:=hP.ex;obtain⟨ta,tn,tc,rfl⟩:=UY hO;have b2:=TK w1 (G #[U ta tn tc,J (UJ r TH).1] 110);have C3:=TJ hb1 b2;have E1:=HE.out.below C3;have e3:=E1.c 3 rfl;have e4:=E1.c 4 rfl;have e5:=E1.c 5 rfl;have T1:=Zh.new w1 [U ta tn tc,J (UJ r TH).1] 110;have t0:=T1.c 0 rfl;have t1:=T1.c 1 rfl;have aj:=TJ ag C3;clear hT hP x0 x1 x2 e2 HE E1 T1;by_cases hk:(UJ r TH).1=0
 .have oz:=(jm1 hk).2.2.2.right
  have HR:Hid (((YD (UJ r TH).2 Ty TM TL).1,decide ((YD (UJ r TH).2 Ty TM TL).2=0))=lH):=by
   simp only[Hid];rw[<- HM.out];unfold Vf;rw[jrp hk,jri oz (ZS k2 k3) (ZS k4 k5) (ZS k6 k7)]
  have⟨l,i9⟩:=TY ((UJ r TH).2);rw[i9]at oz HR hO;have⟨a7,c7,h7,f8⟩:=Zf.seq hO;obtain⟨rfl,rfl,rfl⟩:ta=a7/\tn=l.length/\tc=c7:=by injection h7 with p q r;exact⟨p,q,r⟩
  have hR:=jh6 l (.agg #[U ta l.length tc]) Ty TM TL _ ⟨ta,tc,rfl,f8.below b2⟩ (j0x oz) k2 k3 k4 k5 k6 k7;have⟨⟨n7,c7⟩,sG⟩:=TY (YD l Ty TM TL);rw[sG]at hR HR;simp only[UW]at hR;rw[hk]at t1 aj t0 hR e3 e4 e5 ⊢;clear sG i9 oz hO f8 h7 hb1 b2 C3;go_wp2_with fail;refine hR.mono ?_;rintro q w2 ⟨rfl,ac⟩;have an:=(TJ aj ac).alloc (by have:=aj.size;have:=ac.size;omega) (G #[J n7,J c7] 113);have N2:=Zh.new w2 [J n7,J c7] 113;have u0:=N2.c 0 rfl;have u1:=N2.c 1 rfl;have HB:=hidL an;clear hR e3 e4 e5 t0 t1 ac aj N2 an;by_cases hc:c7=0
  .subst hc
   go_wp2_with fail;go_quiet (fail);go_wp2;go_ret2;exact⟨by rw[<- HR.out];rfl,HB.out.trans ⟨rfl,rfl,rfl,TP _,λ_ _=>rfl⟩⟩
  .have cU:(c7==0)=false:=by simp[hc]
   go_wp2_with fail;go_quiet (fail);go_wp2;go_ret2;exact⟨by rw[<- HR.out,dfe hc];rfl,HB.out.trans ⟨rfl,rfl,rfl,TP _,λ_ _=>rfl⟩⟩
 .have fy:((UJ r TH).1 != 0)=true:=by simpa using hk
  have HB:=hidL aj;have HK:=hidL hk;clear e3 e4 e5 aj hO b2 C3 hb1 hk;go_wp2;go_ret2;exact⟨by rw[<- HM.out];unfold Vf;rw[jv3 HK.out];rfl,HB.out⟩
section
open Go.RowKit Go.Lib Go.Sort
theorem Vl.app{w':World}(h:Vl B w v r)(ho:w.ownsRow base e q u n xs)(he:¬Y3 e)(hg:w.grownBy w' u.ownBlock):Vl B w' v r:=h.keep λk cs t ht _ h2=>(hg.block k (Vt h2) (λhk=>by
 have⟨ds,hd⟩:=Zz ho hk.symm;rw[h2]at hd;simp at hd
 exact he (hd.2 ▸ ht))).trans h2
theorem Vl.vcj{cs:Array Value}{t0:TypeId}(h:Vl B w v r)(hg:w.heap[g]? =some (G cs t0 (0,0)))(h0:¬Y3 t0):Vl B (w.setCell (O g j) u) v r:=h.keep λk ds t ht _ h2=>vas h2 (va2 h2 hg (λe=>by injection e with _ e;exact h0 (e ▸ ht)))
theorem vd7(h:w.ownsRow base e q v n xs)(hg:g<base):(w.setCell (O g j) u).ownsRow base e q v n xs:=YV h λk _ h1 h2=>vas h2 Q
theorem vbL:¬Y3 31:=by unfold Y3;decide
theorem vd3:¬Y3 93:=by unfold Y3;decide
structure van(s:Uo)(w W:World)(PV EV RV:List Value)(g:Nat)(L:List Value)(n3 w3 vv:Value)(nv:Nat)(xv:List Value)(vi:Value)(xi:List Value):Prop where
 par:Zh W w.heap.size PV
 ev:Zh W (w.heap.size+1) EV
 res:Zh W (w.heap.size+1+1) RV
 var:W.heap[g]? =some (G L.toArray 31 (0,0))
 Tz:Vl (w.heap.size+1+1+1) W n3 s.Tz
 TE:Vl (w.heap.size+1+1+1) W w3 s.TE
 vs:W.ownsRow (w.heap.size+1+1+1) 93 8 vv nv xv
 ix:W.ownsRow (w.heap.size+1+1+1) 56 2 vi s.ix.length xi
 ge:w.heap.size+1+1+1<=g
 TQ:Bw w W
theorem van.below(h:van s w W PV EV RV g L n3 w3 vv nv xv vi xi)(hb:Bw W W'):van s w W' PV EV RV g L n3 w3 vv nv xv vi xi:=⟨h.par.below hb,h.ev.below hb,h.res.below hb,(hb.block g (Vt h.var)).trans h.var,h.Tz.below hb,h.TE.below hb,UG h.vs hb,UG h.ix hb,h.ge,h.TQ.trans (hb.mono h.TQ.size)⟩
theorem van.set(h:van s w W PV EV RV g L n3 w3 vv nv xv vi xi)(j:Nat)(v:Value):van s w (W.setCell (O g j) v) PV EV RV g (L.set j v) n3 w3 vv nv xv vi xi:=by
 have K7:=h.ge;exact⟨h.par.other Q _,h.ev.other Q _,h.res.other Q _,by rw[<- List.setIfInBounds_toArray];exact vaE h.var,h.Tz.vcj h.var vbL,h.TE.vcj h.var vbL,XO h.vs h.var Z5,XO h.ix h.var Z5,K7,h.TQ.setCell (show w.heap.size<=g by omega) _⟩
theorem van.app{Te:Value}{Td:Nat}{Tf:List Value}(h:van s w W PV EV RV g L n3 w3 vv nv xv vi xi)(ho:W'.ownsRow (w.heap.size+1+1+1) 93 8 Te Td Tf)(hg:W.grownBy W' vv.ownBlock):van s w W' PV EV RV g L n3 w3 Te Td Tf vi xi:=by
 have GT:∀k,k<w.heap.size+1+1+1->some k≠vv.ownBlock:=λk hk he=>by have:=(World.ownsRow.lt h.vs k he.symm).1;omega
 refine⟨h.par.grown hg (GT _ Q),h.ev.grown hg (GT _ Q),h.res.grown hg (GT _ Q),(hg.block g (Vt h.var) (λhe=>?_)).trans h.var,h.Tz.app h.vs vd3 hg,h.TE.app h.vs vd3 hg,ho,World.ownsRow.kept h.ix hg ?_,h.ge,h.TQ.grown hg h.TQ.size (λk hk=>by have:=(World.ownsRow.lt h.vs k hk).1;omega)⟩
 .have⟨ds,hd⟩:=Zz h.vs he.symm
  rw[h.var]at hd;simp at hd
 .cases hb:vi.ownBlock with
  |none=>exact .inl rfl
  |some k=>exact .inr (λhe=>by
   have⟨ds,hd⟩:=Zz h.ix hb;have⟨es,Aw⟩:=Zz h.vs he.symm;rw[hd]at Aw
   simp at Aw)
def Yr(s:Uo)(e:TD)(g:Bool):Uo:=⟨s.tx+1,s.Tz,s.TE,s.cur,s.vs++[WZ (s.tx+1) g e],UK (VA s) (Uf (s.vs++[WZ (s.tx+1) g e]))⟩
def vba(B:Nat)(w:World)(v:Value)(s:Uo):Prop:=∀W':World,(∀k,B<=k->k<w.heap.size->W'.heap[k]? =w.heap[k]?)->Vs B W' v s
structure vbX(s:Uo)(m c:Int)(w:World)(q:Ending)(w':World):Prop where
 ex:∃a1 a2 a3 a4 a5 a6 a8 a9 c1 c2 c3 c4 c5 c6 c8 c9,q=V (.agg (Wt s a1 a2 a3 a4 a5 a6 a8 a9 c1 c2 c3 c4 c5 c6 c8 c9 m c).toArray)/\vba w.heap.size w' (.agg (stA s a1 a2 a3 a4 a5 a6 a8 a9 c1 c2 c3 c4 c5 c6 c8 c9).toArray) s
 TQ:Bw w w'
theorem ves(s:Uo)(ev:TD)(gn:Bool)(v:Value)(w:World)(hv:Jd w v s)(ok:Zr s)(oG:Um s.Tz=true)(dC:Um s.TE=true)(h0:0<=s.tx)(h1:s.tx<900000)(CG:s.vs.length<=800)(hL:(Uf (s.vs++[WZ (s.tx+1) gn ev])).length<=900)(nV:∀e∈Uf (s.vs++[WZ (s.tx+1) gn ev]),ZF e)(hok:(WZ (s.tx+1) gn ev).ok):
  C 114 #[v,ev.v,Z gn] w (vbX (Yr s ev gn) 0 0 w):=by
 have dQ:=hv;obtain⟨a,b,c,d,e,f,va,ia,ca,cb,cc,cd,ce,cf,cv,ci,rfl,_,_,_,_,_,_⟩:=hv.form;have⟨Qt,vi,Qy,QC,QF⟩:=ji0;obtain⟨id,name,TH,Ty,TM,TL⟩:=ev;simp only[TD.v]at *;have KS:IntKind.i64.wrap (s.tx+1)=s.tx+1:=by rw[IntKind.wrap_i64];omega
 have⟨w0,KR,ag,A0,E0,R0,z0⟩:=veD w (stA s a b c d e f va ia ca cb cc cd ce cf cv ci) [J id,I name,I TH,J Ty,J TM,J TL];have q1:=vc6 s _ _ (dQ.below ag) ok;have⟨x0,x1,x2,x3,x4,x5,x6,x7,x8,x9⟩:=A0.UA;delta C;go_in;go_wp2_with fail;refine q1.mono ?_;rintro q w1 hP;obtain⟨vP,rfl,uv⟩:=hP.ex;obtain⟨a1,a2,a3,a4,a5,a6,a8,a9,c1,c2,c3,c4,c5,c6,c8,c9,rfl,hN,hW,hV,hX⟩:=uv.form;have hb1:=hP.TQ;rw[z0]at hN hW hV hX;have l1:=hb1.size;rw[z0]at l1;have aj:=TJ ag hb1;have A1:=A0.below hb1;have E1:=E0.below hb1;have R1:=R0.below hb1;clear x0 x1 x2 x3 x4 x5 x6 x7 x8 x9 A0 E0 R0 ag q1 hP uv hb1 z0 hv dQ;have b2:=TK w1 (G (stA s a1 a2 a3 a4 a5 a6 a8 a9 c1 c2 c3 c4 c5 c6 c8 c9).toArray 31);have S2:van s w (w1.alloc (G (stA s a1 a2 a3 a4 a5 a6 a8 a9 c1 c2 c3 c4 c5 c6 c8 c9).toArray 31)) (stA s a b c d e f va ia ca cb cc cd ce cf cv ci) [J id,I name,I TH,J Ty,J TM,J TL] [J 0,nS,nS,nS,nS,nS,nS,J 0,nS,nS,J 0,J 0] w1.heap.size (stA s a1 a2 a3 a4 a5 a6 a8 a9 c1 c2 c3 c4 c5 c6 c8 c9) (.agg #[U a1 s.Tz.Tw.length c1,U a2 s.Tz.TC.length c2,U a3 s.Tz.TG.length c3]) (.agg #[U a4 s.TE.Tw.length c4,U a5 s.TE.TC.length c5,U a6 s.TE.TG.length c6]) (U a8 s.vs.length c8) s.vs.length (s.vs.map Up.cs).flatten (U a9 s.ix.length c9) (s.ix.map TZ.cs).flatten:=⟨A1.below b2,E1.below b2,R1.below b2,heap_alloc_new w1 _,hN.below b2,hW.below b2,UG hV b2,UG hX b2,l1,(TJ aj b2)⟩;have⟨w2,gH⟩:=TY (w1.alloc (G (stA s a1 a2 a3 a4 a5 a6 a8 a9 c1 c2 c3 c4 c5 c6 c8 c9).toArray 31));have⟨g,hg⟩:=TY w1.heap.size;rw[gH]at S2;rw[hg]at S2 l1;clear b2 A1 E1 R1 aj hN hW hV hX;have S3:=S2.set 0 (J (s.tx+1));have⟨w3,gm⟩:=TY (w2.setCell (O g 0) (J (s.tx+1)));rw[gm]at S3;have V2:=U9 S2.var;have V3:=U9 S3.var;have u0:=V2.c 0 rfl;have Qs:=V2.f 0 rfl;have y0:=S2.par.c 0 rfl;have v0:=V3.c 0 rfl;have v8:=V3.c 8 rfl;have e0:=S3.ev.c 0 rfl;have e1:=S3.ev.c 1 rfl;have e2:=S3.ev.c 2 rfl;have e3:=S3.ev.c 3 rfl;have e4:=S3.ev.c 4 rfl;have e5:=S3.ev.c 5 rfl;have yU:=Us S3;have QS:w.heap.size+1+1+1<=w3.heap.size:=by have:=Vt S3.var;omega
 have gM:=Us (rfl:(s.vs.map Up.cs).flatten=(s.vs.map Up.cs).flatten);have L3:=S3.vs;clear S2 S3 V2 V3;go_wp2_with (first|(at_builtin;refine wpList_append_own _ rfl _ _ 28 rfl (w.heap.size+1+1+1) 93 Qt (.agg #[J 0,Z false,J 0,ZV,ZV,J 0,J 0,J 0]) 8 80 Tryz.underlying28 vi Qy QC QF rfl Z5 _ _ _ rfl (UC (w:=w3) L3 _) (O w3.heap.size 0) 1 1 [J (s.tx+1),Z gn,J id,I name,I TH,J Ty,J TM,J TL] rfl ?qa ?qb ?qc ?qd ?qe ?qf ?_)|fail)
 case qa=>rfl
 case qb=>exact Vy w3 _ _
 case qc=>intro u hu;simp at hu;rcases hu with rfl|rfl|rfl|rfl|rfl|rfl|rfl|rfl<;>rfl
 case qd=>unfold maxLen;omega
 case qe=>omega
 case qf=>simp;omega
 intro vn w4 ho dp _;clear gH hg gm u0 Qs y0 v0 v8 e0 e1 e2 e3 e4 e5 L3;obtain⟨an,cn,rfl⟩:=YW ho;have S4:=(yU.out.below (TK w3 (G #[J (s.tx+1),Z gn,J id,I name,I TH,J Ty,J TM,J TL] 93))).app ho dp;have V4:=U9 S4.var;have p8:=V4.c 8 rfl;have QY:=V4.f 8 rfl;have S5:=S4.set 8 (U an (s.vs.length+1) cn);have⟨w5,oK⟩:=TY (w4.setCell (O g 8) (U an (s.vs.length+1) cn));rw[oK]at S5;have V5:Zh w5 g [J (s.tx+1),U a1 s.Tz.Tw.length c1,U a2 s.Tz.TC.length c2,U a3 s.Tz.TG.length c3,U a4 s.TE.Tw.length c4,U a5 s.TE.TC.length c5,U a6 s.TE.TG.length c6,J s.cur,U an (s.vs.length+1) cn,U a9 s.ix.length c9]:=U9 S5.var;have⟨z0,z1,z2,z3,z4,z5,z6,z7,z8,z9⟩:=V5.UA;have B0:=S5.vs;have xO:Jd w5 (.agg #[J (s.tx+1),U a1 s.Tz.Tw.length c1,U a2 s.Tz.TC.length c2,U a3 s.Tz.TG.length c3,U a4 s.TE.Tw.length c4,U a5 s.TE.TC.length c5,U a6 s.TE.TG.length c6,J s.cur,U an (s.vs.length+1) cn,U a9 s.ix.length c9]) ⟨s.tx+1,s.Tz,s.TE,s.cur,s.vs++[⟨s.tx+1,gn,id,name,TH,Ty,TM,TL⟩],s.ix⟩:=by
  have hl:s.vs.length+1=(s.vs++[(⟨s.tx+1,gn,id,name,TH,Ty,TM,TL⟩:Up)]).length:=M;have ej:=vah (l:=s.vs++[(⟨s.tx+1,gn,id,name,TH,Ty,TM,TL⟩:Up)]) (cs:=Up.cs) (by rw[<- hl,Vr,List.flatten_append];simpa [Up.cs]using B0) (λ_=>rfl);have NL:=vah (cs:=TZ.cs) S5.ix (λ_=>rfl);rw[hl];exact⟨a1,a2,a3,a4,a5,a6,an,a9,c1,c2,c3,c4,c5,c6,cn,c9,rfl,S5.Tz.at,S5.TE.at,ej.1,NL.1,ej.2,NL.2⟩
 have O5:Zr ⟨s.tx+1,s.Tz,s.TE,s.cur,s.vs++[⟨s.tx+1,gn,id,name,TH,Ty,TM,TL⟩],s.ix⟩:=⟨ok.Tz,ok.TE,λv hv=>by
  rcases List.mem_append.1 hv with h|h
  .exact ok.vs v h
  .simp at h;subst h;exact hok,Z6,ok.xl⟩
 have hQ:=jh5 ⟨s.tx+1,s.Tz,s.TE,s.cur,s.vs++[⟨s.tx+1,gn,id,name,TH,Ty,TM,TL⟩],s.ix⟩ _ w5 xO O5 oG dC Z6 (Nat.le_trans hL Q) nV;have O7:Hid (Yr s ⟨id,name,TH,Ty,TM,TL⟩ gn=⟨s.tx+1,s.Tz,s.TE,s.cur,s.vs++[⟨s.tx+1,gn,id,name,TH,Ty,TM,TL⟩],UK (VA ⟨s.tx+1,s.Tz,s.TE,s.cur,s.vs++[⟨s.tx+1,gn,id,name,TH,Ty,TM,TL⟩],s.ix⟩) (Uf (s.vs++[⟨s.tx+1,gn,id,name,TH,Ty,TM,TL⟩]))⟩):=rfl;have QP:=Us (jep (VA ⟨s.tx+1,s.Tz,s.TE,s.cur,s.vs++[⟨s.tx+1,gn,id,name,TH,Ty,TM,TL⟩],s.ix⟩) (Uf (s.vs++[⟨s.tx+1,gn,id,name,TH,Ty,TM,TL⟩])));dsimp only at hQ;generalize UK (VA ⟨s.tx+1,s.Tz,s.TE,s.cur,s.vs++[⟨s.tx+1,gn,id,name,TH,Ty,TM,TL⟩],s.ix⟩) (Uf (s.vs++[⟨s.tx+1,gn,id,name,TH,Ty,TM,TL⟩]))=EE at *;have Eu:=Us S5;clear S4 V4 S5 V5 yU ho dp xO O5 B0 gM;go_wp2_with fail;refine hQ.mono ?_;rintro q w6 ⟨x6,rfl,fV,hb6⟩;obtain⟨px,cx,rfl⟩:=YW fV;have S6:=Eu.out.below hb6;have S7:=S6.set 9 (U px EE.length cx);have V6:=U9 S6.var;have l6:=hb6.size;have lg:=Vt Eu.out.var;have cj:=vd7 (g:=g) (j:=9) (u:=U px EE.length cx) fV lg;have K7:=Eu.out.ge;have p9:=V6.c 9 rfl;have Qq:=V6.f 9 rfl;have⟨w7,yk⟩:=TY (w6.setCell (O g 9) (U px EE.length cx));rw[yk]at S7 cj;have V7:Zh w7 g [J (s.tx+1),U a1 s.Tz.Tw.length c1,U a2 s.Tz.TC.length c2,U a3 s.Tz.TG.length c3,U a4 s.TE.Tw.length c4,U a5 s.TE.TC.length c5,U a6 s.TE.TG.length c6,J s.cur,U an (s.vs.length+1) cn,U px EE.length cx]:=U9 S7.var;have R7:=S7.res;have⟨y0,y1,y2,y3,y4,y5,y6,y7,y8,y9⟩:=V7.UA;have⟨r0,r1,r2,r3,r4,r5,r6,r7,r8,r9,lw,mv⟩:=R7.Wo;have⟨f0,f1,f2,f3,f4,f5,f6,f7,f8,f9,gx,l7⟩:=R7.WC;have⟨W8,PG,⟨t0,t1,t2,t3,t4,t5,t6,t7,t8,t9,wJ,cq⟩,T8,_,J8⟩:=R7.fin (J (s.tx+1)) (U a1 s.Tz.Tw.length c1) (U a2 s.Tz.TC.length c2) (U a3 s.Tz.TG.length c3) (U a4 s.TE.Tw.length c4) (U a5 s.TE.TC.length c5) (U a6 s.TE.TG.length c6) (J s.cur) (U an (s.vs.length+1) cn) (U px EE.length cx) (J 0) (J 0);have yA:=Us (J8 _ _ Q S7.TQ);have Ol:Hid (V (.agg #[J (s.tx+1),U a1 s.Tz.Tw.length c1,U a2 s.Tz.TC.length c2,U a3 s.Tz.TG.length c3,U a4 s.TE.Tw.length c4,U a5 s.TE.TC.length c5,U a6 s.TE.TG.length c6,J s.cur,U an (s.vs.length+1) cn,U px EE.length cx,J 0,J 0])=V (.agg (Wt ⟨s.tx+1,s.Tz,s.TE,s.cur,s.vs++[(⟨s.tx+1,gn,id,name,TH,Ty,TM,TL⟩:Up)],EE⟩ a1 a2 a3 a4 a5 a6 an px c1 c2 c3 c4 c5 c6 cn cx 0 0).toArray)):=by
  have hl:(s.vs++[(⟨s.tx+1,gn,id,name,TH,Ty,TM,TL⟩:Up)]).length=s.vs.length+1:=M;simp only[Hid,Wt,hl]
 have ED:Hid (vba w.heap.size W8 (.agg (stA ⟨s.tx+1,s.Tz,s.TE,s.cur,s.vs++[⟨s.tx+1,gn,id,name,TH,Ty,TM,TL⟩],EE⟩ a1 a2 a3 a4 a5 a6 an px c1 c2 c3 c4 c5 c6 cn cx).toArray) ⟨s.tx+1,s.Tz,s.TE,s.cur,s.vs++[⟨s.tx+1,gn,id,name,TH,Ty,TM,TL⟩],EE⟩):=λW' hW=>by
  have Qm:=T8.size;have o5:∀k,w.heap.size+1+1+1<=k->k<w7.heap.size->W'.heap[k]? =w7.heap[k]? :=λk h1 h2=>(hW k Q Q).trans (T8.block k h2 (show k≠w.heap.size+1+1 by omega))
  have r:∀{v:Value} {r:Un},Vl (w.heap.size+1+1+1) w7 v r->Vl w.heap.size W' v r:=λh=>(h.keep λk cs t _ h1 h2=>(o5 k Q (Vt h2)).trans h2).mono Q
  refine⟨a1,a2,a3,a4,a5,a6,an,px,c1,c2,c3,c4,c5,c6,cn,cx,rfl,r S7.Tz,r S7.TE,?_,U4 (YV cj λk cs h1 h2=>(o5 k Q (Vt h2)).trans h2) Q⟩;have jH:=U4 (YV S7.vs λk cs h1 h2=>(o5 k Q (Vt h2)).trans h2) (show w.heap.size<=w.heap.size+1+1+1 by omega);rw[Vr,List.flatten_append]
  simpa [Up.cs]using jH
 clear hQ fV hb6 S6 S7 V6 V7 R7 T8 cj Eu J8;go_wp2;exact Ue (v:=.agg #[J (s.tx+1),U a1 s.Tz.Tw.length c1,U a2 s.Tz.TC.length c2,U a3 s.Tz.TG.length c3,U a4 s.TE.Tw.length c4,U a5 s.TE.TC.length c5,U a6 s.TE.TG.length c6,J s.cur,U an (s.vs.length+1) cn,U px EE.length cx,J 0,J 0]) (by simp[results,Tryz.results114,go_sem,t0,t1,t2,t3,t4,t5,t6,t7,t8,t9,wJ,cq]) rfl (by rw[O7.out];exact⟨⟨a1,a2,a3,a4,a5,a6,an,px,c1,c2,c3,c4,c5,c6,cn,cx,Ol.out,ED.out⟩,yA.out⟩)
end
def YO(L:List TD)(id:Int):Option Nat:=L.findIdx? λe=>decide (e.id=id)
theorem vfN{L:List TD}{id:Int}{i:Nat}{e:TD}(h:L[i]? =some e)(he:e.id=id)(jg:∀j y,j<i->L[j]? =some y->y.id≠id):YO L id=some i:=by
 unfold YO;have⟨hl,h⟩:=List.getElem?_eq_some_iff.1 h;rw[List.findIdx?_eq_some_iff_getElem];refine⟨hl,by rw[h];exact Uy he,λj hj=>?_⟩;have:=jg j _ hj (Ug Q)
 simpa using this
theorem vfO{L:List TD}{id:Int}(h:∀(j:Nat) (y:TD),L[j]? =some y->y.id≠id):YO L id=none:=by
 unfold YO;rw[List.findIdx?_eq_none_iff];intro x hx;have⟨j,hj⟩:=Wq hx;exact dfe (h j x hj)
theorem veo(L:List TD)(a:Option Addr)(n cap:Nat)(id:Int)(w:World)(hA:Za w a 6 (L.map TD.cs))(hn:L.length=n)(hl:n<=1048576):
  C 113 #[U a n cap,J id] w λe w'=>e=V (J (Yb (YO L id)))/\w'=w:=by
 have HN:=hid hn;clear hn;delta C;go_in;go_wp2;go_loop [5] (λs=>∃k:Nat,k<=n/\s=J (k:Int)/\Hid (∀j y,j<k->L[j]? =some y->y.id≠id)) (λs=>n-(intOf s).toNat)
 .exact⟨0,Q,rfl,λj y h=>Q⟩
 ·
  obtain⟨k,hk,rfl,HK⟩:=hrel;by_cases hlt:k<n
  .obtain⟨v,hv⟩:∃v,L[k]? =some v:=⟨_,Ug (by have:=HN.out;omega)⟩
   have ap:(L.map TD.cs)[k]? =some v.cs:=by rw[Uv,hv];rfl
   obtain⟨b,o,rfl,hc⟩:=hA.at (i:=k) ap;have c0:w.cell? (O b (o+k*6))=some (J v.id):=by simpa using hc 0 _ rfl
   have s0:(0:Int)<=(k:Int):=Q;have s1:(k:Int)<(n:Int):=Q;by_cases hid:v.id=id
   .have HR:Hid (YO L id=some k):=vfN hv hid HK.out
    have C8:(v.id==id)=true:=by simp[hid]
    clear hv ap hc hid HK;go_wp2;go_ret;exact⟨Vh (by rw[HR.out];rfl),rfl⟩
   .have HR:Hid (∀j y,j<k+1->L[j]? =some y->y.id≠id):=λj y hj hy=>by
     rcases Nat.lt_or_ge j k with h|h
     .exact HK.out j y h hy
     .obtain rfl:j=k:=Q
      rw[hv]at hy;obtain rfl:=Uw hy;exact hid
    have C8:(v.id==id)=false:=by simp[hid]
    clear hv ap hc hid HK;go_wp2;go_round
    .exact⟨k+1,Q,Z7,HR⟩
    .simp[intOf];omega
  .obtain rfl:k=n:=Q
   have HR:Hid (YO L id=none):=vfO λj y hy=>HK.out j y (by have:=(List.getElem?_eq_some_iff.1 hy).1;have:=HN.out;omega) hy
   go_wp2;go_ret;exact⟨Vh (by rw[HR.out];rfl),rfl⟩
section
open Go.RowKit Go.Lib Go.Sort
def vao(s:Uo)(id:Int):Uo × Int:=if Vi s=true then(match YO (Uf s.vs) id with
 |none=>(VP,5)
 |some k=>if 60<=s.vs.length\/900000<=s.tx then(VP,7)else(match (Uf s.vs)[k]? with
  |some e=>(Yr s e true,0)
  |none=>(VP,0)))else(VP,1)
theorem vhg(s:Uo)(v:Value)(id:Int)(w:World)(hv:Jd w v s)(ok:Zr s)(hE:Vi s=true->Um s.Tz=true/\Um s.TE=true/\s.vs.length<=60/\(0<=s.tx/\s.tx<=900000)/\(Uf s.vs).length<=30)(nV:Vi s=true->∀e∈Uf s.vs,(WZ (s.tx+1) true e).ok/\∀x∈Uf (s.vs++[WZ (s.tx+1) true e]),ZF x):
  C 73 #[v,J id] w (vbX (vao s id).1 0 (vao s id).2 w):=by
 have dQ:=hv;obtain⟨a,b,c,d,e,f,va,ia,ca,cb,cc,cd,ce,cf,cv,ci,rfl,_,_,hV,_,_,_⟩:=hv.form;have⟨w0,KR,ag,A0,R0,_⟩:=vcp w (stA s a b c d e f va ia ca cb cc cd ce cf cv ci);have q1:=jh8 s _ _ (dQ.below ag) ok;have⟨x0,x1,x2,x3,x4,x5,x6,x7,x8,x9⟩:=A0.UA;delta C;go_in;go_wp2_with fail;refine q1.mono ?_;rintro q w1 ⟨rfl,hb1⟩;have aj:=TJ ag hb1;have A1:=A0.below hb1;have R1:=R0.below hb1;clear x0 x1 x2 x3 x4 x5 x6 x7 x8 x9 A0 R0 ag hb1 q1;cases hs:Vi s
 case false=>
  have HD:Hid (vao s id=(VP,1)):=by simp[Hid,vao,hs]
  clear hE nV hs;have⟨r0,r1,r2,r3,r4,r5,r6,r7,r8,r9,lw,mv⟩:=R1.Wo;have⟨f0,f1,f2,f3,f4,f5,f6,f7,f8,f9,gx,l7⟩:=R1.WC;have⟨W,hW,⟨t0,t1,t2,t3,t4,t5,t6,t7,t8,t9,wJ,cq⟩,_,_,J8⟩:=R1.Yl 1;have yA:=Us (J8 _ _ Q aj);clear J8;go_wp2;exact Ue (v:=.agg #[J 0,nS,nS,nS,nS,nS,nS,J 0,nS,nS,J 0,J 1]) (by simp[results,Tryz.results73,go_sem,t0,t1,t2,t3,t4,t5,t6,t7,t8,t9,wJ,cq]) rfl (by rw[HD.out];exact⟨⟨none,none,none,none,none,none,none,none,0,0,0,0,0,0,0,0,rfl,λW' _=>Yi _ W'⟩,yA.out⟩)
 case true=>
  have⟨p1,p2,p3,⟨p4,p5⟩,p6⟩:=hE hs;have dZ:=Us (nV hs)
  have sU:Hid (vao s id=(match YO (Uf s.vs) id with
   |none=>(VP,5)
   |some k=>if 60<=s.vs.length\/900000<=s.tx then(VP,7)else(match (Uf s.vs)[k]? with
    |some e=>(Yr s e true,0)
    |none=>(VP,0)))):=by simp[Hid,vao,hs]
  have q2:=jd1 s.vs va s.vs.length cv w1 (hV.below aj) rfl Q;have x8:=A1.c 8 rfl;clear hE nV hs;go_wp2_with fail;refine q2.mono ?_;rintro q w2 ⟨lv,rfl,aW,ac⟩;have⟨pl,cl,Sq,dR⟩:=aW.seq;have f9:w.heap.size+1<w1.heap.size:=TV (R1.c 0 rfl);have jg:∀g,Value.ownBlock lv=some g->w.heap.size+1<g:=λg hg=>Nat.lt_of_lt_of_le f9 (World.ownsRow.lt aW g hg).1
  subst Sq;have an:=TJ aj ac;have A2:=A1.below ac;have R2:=R1.below ac;have q3:=veo (Uf s.vs) pl (Uf s.vs).length cl id w2 dR rfl Q;clear x8 A1 R1 aj ac q2 aW;go_wp2_with fail;refine q3.mono ?_;rintro q w3 ⟨rfl,rfl⟩;clear q3;cases hh:YO (Uf s.vs) id with
  |none=>
   have HD:Hid (vao s id=(VP,5)):=by simp only[Hid];rw[sU.out,hh]
   clear hh sU dZ;simp only[Yb];have⟨r0,r1,r2,r3,r4,r5,r6,r7,r8,r9,lw,mv⟩:=R2.Wo;have⟨f0,f1,f2,f3,f4,f5,f6,f7,f8,f9,gx,l7⟩:=R2.WC;have⟨W,hW,⟨t0,t1,t2,t3,t4,t5,t6,t7,t8,t9,wJ,cq⟩,_,_,J8⟩:=R2.Yl 5;have yA:=Us (J8 _ _ Q an);clear J8;go_wp2;exact Ue (v:=.agg #[J 0,nS,nS,nS,nS,nS,nS,J 0,nS,nS,J 0,J 5]) (by simp[results,Tryz.results73,go_sem,t0,t1,t2,t3,t4,t5,t6,t7,t8,t9,wJ,cq]) rfl (by rw[HD.out];exact⟨⟨none,none,none,none,none,none,none,none,0,0,0,0,0,0,0,0,rfl,λW' _=>Yi _ W'⟩,yA.out⟩)
  |some k=>
   simp only[Yb];have Cd:¬((k:Int)<0):=Q;obtain⟨ev,jb⟩:∃ev,(Uf s.vs)[k]? =some ev:=by
    unfold YO at hh;have⟨hl,_⟩:=List.findIdx?_eq_some_iff_getElem.mp hh;exact⟨_,Ug hl⟩
   have eY:k<(Uf s.vs).length:=(List.getElem?_eq_some_iff.1 jb).1;have a0:(0:Int)<=(k:Int):=Q;have NJ:(k:Int)<((Uf s.vs).length:Int):=Q;have⟨x0,x1,x2,x3,x4,x5,x6,x7,x8,x9⟩:=A2.UA;by_cases iJ:60<=s.vs.length\/900000<=s.tx
   .have HD:Hid (vao s id=(VP,7)):=by simp only[Hid];rw[sU.out,hh];simp[iJ]
    clear hh sU dZ jb;by_cases tP:60<=s.vs.length
    .have E5:(60:Int)<=(s.vs.length:Int):=Q
     clear iJ;have⟨r0,r1,r2,r3,r4,r5,r6,r7,r8,r9,lw,mv⟩:=R2.Wo;have⟨f0,f1,f2,f3,f4,f5,f6,f7,f8,f9,gx,l7⟩:=R2.WC;have⟨W,hW,⟨t0,t1,t2,t3,t4,t5,t6,t7,t8,t9,wJ,cq⟩,_,_,J8⟩:=R2.Yl 7;have yA:=Us (J8 _ _ Q an);clear J8;go_wp2;exact Ue (v:=.agg #[J 0,nS,nS,nS,nS,nS,nS,J 0,nS,nS,J 0,J 7]) (by simp[results,Tryz.results73,go_sem,t0,t1,t2,t3,t4,t5,t6,t7,t8,t9,wJ,cq]) rfl (by rw[HD.out];exact⟨⟨none,none,none,none,none,none,none,none,0,0,0,0,0,0,0,0,rfl,λW' _=>Yi _ W'⟩,yA.out⟩)
    .have E5:¬(60:Int)<=(s.vs.length:Int):=Q
     have Pv:(900000:Int)<=s.tx:=Q;clear iJ;have⟨r0,r1,r2,r3,r4,r5,r6,r7,r8,r9,lw,mv⟩:=R2.Wo;have⟨f0,f1,f2,f3,f4,f5,f6,f7,f8,f9,gx,l7⟩:=R2.WC;have⟨W,hW,⟨t0,t1,t2,t3,t4,t5,t6,t7,t8,t9,wJ,cq⟩,_,_,J8⟩:=R2.Yl 7;have yA:=Us (J8 _ _ Q an);clear J8;go_wp2;exact Ue (v:=.agg #[J 0,nS,nS,nS,nS,nS,nS,J 0,nS,nS,J 0,J 7]) (by simp[results,Tryz.results73,go_sem,t0,t1,t2,t3,t4,t5,t6,t7,t8,t9,wJ,cq]) rfl (by rw[HD.out];exact⟨⟨none,none,none,none,none,none,none,none,0,0,0,0,0,0,0,0,rfl,λW' _=>Yi _ W'⟩,yA.out⟩)
   .have HD:Hid (vao s id=(Yr s ev true,0)):=by simp only[Hid];rw[sU.out,hh];simp[iJ,jb]
    have E5:¬(60:Int)<=(s.vs.length:Int):=Q;have Pv:¬(900000:Int)<=s.tx:=Q;have ap:((Uf s.vs).map TD.cs)[k]? =some ev.cs:=by rw[Uv,jb];rfl
    obtain⟨bl,ol,rfl,hc⟩:=dR.at (i:=k) ap;have az:bl≠w.heap.size+1:=by have:=jg bl rfl;omega
    have G0:w.heap.size+1≠bl:=λh=>az h.symm
    have c0:w3.cell? (O bl (ol+k*6))=some (J ev.id):=by simpa using hc 0 _ rfl
    have NQ:=hc 1 _ rfl;have Ir:=hc 2 _ rfl;have xD:=hc 3 _ rfl;have NS:=hc 4 _ rfl;have NT:=hc 5 _ rfl;have⟨hok,nd⟩:=dZ.out ev (UH jb);have no:=an.trans ((UF w3).mono an.size);have pv:=ves s ev true _ w3.drew (dQ.below no) ok p1 p2 p4 Q Q (by have:=jwf (s.vs++[WZ (s.tx+1) true ev]) (s.vs++[WZ (s.tx+1) true ev]).length;unfold Uf;simp at this ⊢;omega) nd hok;simp only[TD.v]at pv;have O6:=Us A2;have lh:=Us R2;have jI:=Us no;have iq:=Us (And.intro c0 (And.intro NQ (And.intro Ir (And.intro xD (And.intro NS NT)))));have QV:w.heap.size+1<w3.heap.size:=TV (R2.c 0 rfl);clear hh sU dZ jb ap hc dR iJ A2 R2 an no hok nd hv dQ hV;generalize Yr s ev true=D at *;go_wp2_with fail;go_region_held3 (λw'=>w'.cell? (O w.heap.size 0)=some (J s.tx)/\w'.cell? (O w.heap.size 1)=some (U a s.Tz.Tw.length ca)/\w'.cell? (O w.heap.size 2)=some (U b s.Tz.TC.length cb)/\w'.cell? (O w.heap.size 3)=some (U c s.Tz.TG.length cc)/\w'.cell? (O w.heap.size 4)=some (U d s.TE.Tw.length cd)/\w'.cell? (O w.heap.size 5)=some (U e s.TE.TC.length ce)/\w'.cell? (O w.heap.size 6)=some (U f s.TE.TG.length cf)/\w'.cell? (O w.heap.size 7)=some (J s.cur)/\w'.cell? (O w.heap.size 8)=some (U va s.vs.length cv)/\w'.cell? (O w.heap.size 9)=some (U ia s.ix.length ci)/\w'.cell? (O bl (ol+k*6))=some (J ev.id)/\w'.cell? (O bl (ol+k*6+1))=some (I ev.name)/\w'.cell? (O bl (ol+k*6+2))=some (I ev.TH)/\w'.cell? (O bl (ol+k*6+3))=some (J ev.Ty)/\w'.cell? (O bl (ol+k*6+4))=some (J ev.TM)/\w'.cell? (O bl (ol+k*6+5))=some (J ev.TL)) (go_keep) ((go_at_call 114;refine pv.mono ?_;rintro q w4 pW;obtain⟨a1,a2,a3,a4,a5,a6,a8,a9,c1,c2,c3,c4,c5,c6,c8,c9,rfl,ux⟩:=pW.ex;have aD:=pW.TQ;have⟨Lx,Ly,Lz,LA,LB,LC,LD,LE,LF,LG⟩:=(O6.out.below ((UF w3).trans (aD.mono (TP _)))).UA;have R4:=lh.out.below ((UF w3).trans (aD.mono (TP _)));have⟨r0,r1,r2,r3,r4,r5,r6,r7,r8,r9,lw,mv⟩:=R4.Wo;have⟨f0,f1,f2,f3,f4,f5,f6,f7,f8,f9,gx,l7⟩:=R4.WC;have d0:=Tx aD iq.out.1;have d1:=Tx aD iq.out.2.1;have d2:=Tx aD iq.out.2.2.1;have d3:=Tx aD iq.out.2.2.2.1;have d4:=Tx aD iq.out.2.2.2.2.1;have d5:=Tx aD iq.out.2.2.2.2.2));clear r0 r1 r2 r3 r4 r5 r6 r7 r8 r9 lw mv f0 f1 f2 f3 f4 f5 f6 f7 f8 f9 gx l7 Lx Ly Lz LA LB LC LD LE LF LG d0 d1 d2 d3 d4 d5;have⟨W,hW,⟨t0,t1,t2,t3,t4,t5,t6,t7,t8,t9,wJ,cq⟩,T,_,J8⟩:=R4.fin (J D.tx) (U a1 D.Tz.Tw.length c1) (U a2 D.Tz.TC.length c2) (U a3 D.Tz.TG.length c3) (U a4 D.TE.Tw.length c4) (U a5 D.TE.TC.length c5) (U a6 D.TE.TG.length c6) (J D.cur) (U a8 D.vs.length c8) (U a9 D.ix.length c9) (J 0) (J 0);have yA:=Us (J8 _ _ Q (TJ jI.out aD));have HT:=Us T;have yV:=Us ux;clear T ux J8;rw[hW];clear hW;go_wp2
    exact Ue (v:=.agg (Wt D a1 a2 a3 a4 a5 a6 a8 a9 c1 c2 c3 c4 c5 c6 c8 c9 0 0).toArray) (by simp[results,Tryz.results73,go_sem,t0,t1,t2,t3,t4,t5,t6,t7,t8,t9,wJ,cq,Wt]) rfl (by rw[HD.out];exact⟨⟨a1,a2,a3,a4,a5,a6,a8,a9,c1,c2,c3,c4,c5,c6,c8,c9,rfl,λW' hW=>(yV.out W' λk h1 h2=>(have ES:w3.heap.size<=k:=h1;(hW k Q (Nat.lt_of_lt_of_le h2 HT.out.size)).trans (HT.out.block k h2 (show k≠w.heap.size+1 by omega)))).mono (show w.heap.size<=w3.heap.size by omega)⟩,yA.out⟩)
end
section
open Go.RowKit Go.Lib Go.Sort
theorem vc1:Jk ⟨[],[],[]⟩:=⟨⟨⟨Nat.zero_le _,λx hx=>by simp at hx⟩,⟨Nat.zero_le _,λx hx=>by simp at hx⟩,⟨Nat.zero_le _,λx hx=>by simp at hx⟩⟩,⟨Nat.zero_le _,Nat.zero_le _,Nat.zero_le _,λx hx=>by simp at hx⟩,λx hx=>by simp at hx⟩
theorem vgX:Um ⟨[],[],[]⟩=true:=Z5
structure va9(w:World)(q:Ending)(w':World):Prop where
 ex:∃s m c,vbX s m c w q w'/\Zr s/\s.vs.length<=1000/\s.ix.length<=1000
theorem Yk:Zr VP/\VP.vs.length<=1000/\VP.ix.length<=1000:=⟨⟨vc1,vc1,λv hv=>by simp[VP]at hv,Nat.zero_le _,Nat.zero_le _⟩,Nat.zero_le _,Nat.zero_le _⟩
def atC(s:Uo)(z:Int):Uo:=⟨s.tx,s.Tz,s.TE,z,s.vs,s.ix⟩
structure vaj(s:Uo)(w W:World)(PV RV:List Value)(g:Nat)(L:List Value)(n3 w3 vv vi lv:Value):Prop where
 par:Zh W w.heap.size PV
 res:Zh W (w.heap.size+1) RV
 var:W.heap[g]? =some (G L.toArray 31 (0,0))
 Tz:Vl (w.heap.size+1+1) W n3 s.Tz
 TE:Vl (w.heap.size+1+1) W w3 s.TE
 vs:W.ownsRow (w.heap.size+1+1) 93 8 vv s.vs.length (s.vs.map Up.cs).flatten
 ix:W.ownsRow (w.heap.size+1+1) 56 2 vi s.ix.length (s.ix.map TZ.cs).flatten
 live:Jb W (w.heap.size+1+1) lv (Uf s.vs)
 ge:w.heap.size+1+1<=g
 TQ:Bw w W
theorem vaj.below(h:vaj s w W PV RV g L n3 w3 vv vi lv)(hb:Bw W W'):vaj s w W' PV RV g L n3 w3 vv vi lv:=⟨h.par.below hb,h.res.below hb,(hb.block g (Vt h.var)).trans h.var,h.Tz.below hb,h.TE.below hb,UG h.vs hb,UG h.ix hb,UG h.live hb,h.ge,h.TQ.trans (hb.mono h.TQ.size)⟩
theorem vaj.set(h:vaj s w W PV RV g L n3 w3 vv vi lv)(j:Nat)(v:Value):vaj s w (W.setCell (O g j) v) PV RV g (L.set j v) n3 w3 vv vi lv:=by
 have K7:=h.ge;exact⟨h.par.other Q _,h.res.other Q _,by rw[<- List.setIfInBounds_toArray];exact vaE h.var,h.Tz.vcj h.var vbL,h.TE.vcj h.var vbL,XO h.vs h.var Z5,XO h.ix h.var Z5,XO h.live h.var Z5,K7,h.TQ.setCell (show w.heap.size<=g by omega) _⟩
theorem vhf(s:Uo)(v:Value)(bv:Int)(w:World)(hv:Jd w v s)(ok:Zr s)(hE:Vi s=true->Um s.Tz=true/\Um s.TE=true/\s.vs.length<=60/\(Uf s.vs).length<=30)(nV:Vi s=true->∀e∈Uf s.vs,ZF e/\1<=e.id/\e.id<=1000000):
  C 72 #[v,J bv] w (va9 w):=by
 have dQ:=hv;obtain⟨a,b,c,d,e,f,va,ia,ca,cb,cc,cd,ce,cf,cv,ci,rfl,KE,L4,hV,_,_,_⟩:=hv.form;have⟨w0,KR,ag,A0,R0,z0⟩:=vcp w (stA s a b c d e f va ia ca cb cc cd ce cf cv ci);have q1:=jh8 s _ _ (dQ.below ag) ok;have⟨x0,x1,x2,x3,x4,x5,x6,x7,x8,x9⟩:=A0.UA;delta C;go_in;go_wp2_with fail;clear KR;refine q1.mono ?_;rintro q w1 ⟨rfl,hb1⟩;have aj:=TJ ag hb1;have aH:w.heap.size+1+1<=w1.heap.size:=by rw[<- z0];exact hb1.size
 have A1:=A0.below hb1;have R1:=R0.below hb1;clear x0 x1 x2 x3 x4 x5 x6 x7 x8 x9 A0 R0 ag hb1 q1 z0;cases hs:Vi s
 case false=>
  clear hE nV hs;have⟨r0,r1,r2,r3,r4,r5,r6,r7,r8,r9,lw,mv⟩:=R1.Wo;have⟨f0,f1,f2,f3,f4,f5,f6,f7,f8,f9,gx,l7⟩:=R1.WC;have⟨W,hW,⟨t0,t1,t2,t3,t4,t5,t6,t7,t8,t9,wJ,cq⟩,_,_,J8⟩:=R1.Yl 1;have yA:=Us (J8 _ _ Q aj);clear J8;go_wp2;exact Ue (v:=.agg #[J 0,nS,nS,nS,nS,nS,nS,J 0,nS,nS,J 0,J 1]) (by simp[results,Tryz.results72,go_sem,t0,t1,t2,t3,t4,t5,t6,t7,t8,t9,wJ,cq]) rfl ⟨VP,0,_,⟨⟨none,none,none,none,none,none,none,none,0,0,0,0,0,0,0,0,rfl,λW' _=>Yi _ W'⟩,yA.out⟩,Yk⟩
 case true=>
  have⟨p1,p2,p3,p6⟩:=hE hs;have dZ:=Us (nV hs);clear hE nV hs;by_cases hr:1<=bv/\bv<=1000
  case neg=>
   have hI:=jnc bv 1 1000 w1 Q;clear dZ hr;go_wp2_with fail;refine hI.mono ?_;rintro q w2 ⟨rfl,rfl⟩;have⟨r0,r1,r2,r3,r4,r5,r6,r7,r8,r9,lw,mv⟩:=R1.Wo;have⟨f0,f1,f2,f3,f4,f5,f6,f7,f8,f9,gx,l7⟩:=R1.WC;have⟨W,hW,⟨t0,t1,t2,t3,t4,t5,t6,t7,t8,t9,wJ,cq⟩,_,_,J8⟩:=R1.Yl 1;have yA:=Us (J8 _ _ Q aj);clear J8;go_wp2;exact Ue (v:=.agg #[J 0,nS,nS,nS,nS,nS,nS,J 0,nS,nS,J 0,J 1]) (by simp[results,Tryz.results72,go_sem,t0,t1,t2,t3,t4,t5,t6,t7,t8,t9,wJ,cq]) rfl ⟨VP,0,_,⟨⟨none,none,none,none,none,none,none,none,0,0,0,0,0,0,0,0,rfl,λW' _=>Yi _ W'⟩,yA.out⟩,Yk⟩
  case pos=>
  have hI:=jnb bv 1 1000 w1 hr.1 hr.2;have x7:=A1.c 7 rfl;by_cases hc:s.cur=0
  case pos=>
   rw[hc]at x7;clear dZ hr;go_wp2_with fail;refine hI.mono ?_;rintro q w2 ⟨rfl,rfl⟩;have⟨r0,r1,r2,r3,r4,r5,r6,r7,r8,r9,lw,mv⟩:=R1.Wo;have⟨f0,f1,f2,f3,f4,f5,f6,f7,f8,f9,gx,l7⟩:=R1.WC;have⟨W,hW,⟨t0,t1,t2,t3,t4,t5,t6,t7,t8,t9,wJ,cq⟩,_,_,J8⟩:=R1.Yl 10;have yA:=Us (J8 _ _ Q aj);clear J8;go_wp2;exact Ue (v:=.agg #[J 0,nS,nS,nS,nS,nS,nS,J 0,nS,nS,J 0,J 10]) (by simp[results,Tryz.results72,go_sem,t0,t1,t2,t3,t4,t5,t6,t7,t8,t9,wJ,cq]) rfl ⟨VP,0,_,⟨⟨none,none,none,none,none,none,none,none,0,0,0,0,0,0,0,0,rfl,λW' _=>Yi _ W'⟩,yA.out⟩,Yk⟩
  case neg=>
  obtain⟨m,hm⟩:∃m:Nat,bv=m:=⟨bv.toNat,Q⟩;subst hm;have cU:(s.cur==0)=false:=by simpa using hc
  have q5:=vc6 s _ w1 (dQ.below aj) ok;have⟨x0,x1,x2,x3,x4,x5,x6,_,x8,x9⟩:=A1.UA;go_wp2_with fail;refine hI.mono ?_;rintro q w2 ⟨rfl,rfl⟩;clear hI;go_wp2_with fail;refine q5.mono ?_;rintro q w2 iB;obtain⟨vP,rfl,uv⟩:=iB.ex;obtain⟨a1,a2,a3,a4,a5,a6,a8,a9,c1,c2,c3,c4,c5,c6,c8,c9,rfl,pP,sq,FC,BJ⟩:=uv.form;have ac:=iB.TQ;have b3:=TK w2 (G (stA s a1 a2 a3 a4 a5 a6 a8 a9 c1 c2 c3 c4 c5 c6 c8 c9).toArray 31);have mx:=TJ ac b3;have q6:=jd1 s.vs va s.vs.length cv _ ((hV.below aj).below mx) rfl Q;have A3:=A1.below mx;have y8:=A3.c 8 rfl;have eS:(w2.alloc (G (stA s a1 a2 a3 a4 a5 a6 a8 a9 c1 c2 c3 c4 c5 c6 c8 c9).toArray 31)).heap[w2.heap.size]? =some (G (stA s a1 a2 a3 a4 a5 a6 a8 a9 c1 c2 c3 c4 c5 c6 c8 c9).toArray 31 (0,0)):=heap_alloc_new w2 _;have aF:=ac.size;have⟨g,hg⟩:=TY w2.heap.size;clear x0 x1 x2 x3 x4 x5 x6 x7 x8 x9 q5 iB uv;go_wp2_with fail;refine q6.mono ?_;rintro q w4 ⟨lv,rfl,dX,aD⟩;have ua:=TJ b3 aD;have S4:vaj s w w4 (stA s a b c d e f va ia ca cb cc cd ce cf cv ci) [J 0,nS,nS,nS,nS,nS,nS,J 0,nS,nS,J 0,J 0] g (stA (atC s s.cur) a1 a2 a3 a4 a5 a6 a8 a9 c1 c2 c3 c4 c5 c6 c8 c9) (.agg #[U a1 s.Tz.Tw.length c1,U a2 s.Tz.TC.length c2,U a3 s.Tz.TG.length c3]) (.agg #[U a4 s.TE.Tw.length c4,U a5 s.TE.TC.length c5,U a6 s.TE.TG.length c6]) (U a8 s.vs.length c8) (U a9 s.ix.length c9) lv:=⟨A3.below aD,(R1.below mx).below aD,by rw[<- hg];exact(aD.block _ (Vt eS)).trans eS,(pP.mono aH).below ua,(sq.mono aH).below ua,U4 (UG FC ua) aH,U4 (UG BJ ua) aH,U4 dX (by have:=b3.size;omega),Q,aj.trans ((TJ mx aD).mono aj.size)⟩;obtain⟨pl,cl,rfl,eG⟩:=jkx dX;have⟨N,hN⟩:=TY ((Uf s.vs).length);have Jh:=Us (And.intro KE L4);rw[hN]at S4 p6 eG ⊢;have yV:=Us S4;have HN:=Us hN;clear A3 y8 eS dX aD ua pP sq FC BJ ac b3 mx aj A1 R1 q6 S4 aH aF hv KE L4 hN;clear hg;go_wp2;go_loopw [7,8,9,10,11,12,13,14] (λs7 s8 s9 mY _ _ _ _ wr=>∃(i dd n:Nat) (z:Int),i<=N/\mY=J i/\s9=Z false/\s8=J dd/\s7=J n/\dd<=i/\n<=i/\Hid (vaj s w wr (stA s a b c d e f va ia ca cb cc cd ce cf cv ci) [J 0,nS,nS,nS,nS,nS,nS,J 0,nS,nS,J 0,J 0] g (stA (atC s z) a1 a2 a3 a4 a5 a6 a8 a9 c1 c2 c3 c4 c5 c6 c8 c9) (.agg #[U a1 s.Tz.Tw.length c1,U a2 s.Tz.TC.length c2,U a3 s.Tz.TG.length c3]) (.agg #[U a4 s.TE.Tw.length c4,U a5 s.TE.TC.length c5,U a6 s.TE.TG.length c6]) (U a8 s.vs.length c8) (U a9 s.ix.length c9) (U pl N cl))) (λ_ _ _ mY _ _ _ _ _=>N-(intOf mY).toNat)
  .exact⟨0,0,0,s.cur,Q,rfl,rfl,rfl,rfl,Q,Q,yV⟩
  ·
   have⟨wa,dS⟩:=UL wr;subst dS;obtain⟨i,dd,n,z,hi,rfl,rfl,rfl,rfl,QR,vX,HS⟩:=hrel;clear yV;by_cases hlt:i<N
   rotate_left
   -- all have Pa Hc
   have S:=HS.out;have Tu:=U9 S.var;have⟨v0,v1,v2,v3,v4,v5,v6,v7,v8,v9⟩:=Tu.UA;have⟨g0,g1,g2,g3,g4,g5,g6,g7,g8,g9⟩:=Tu.XQ;have S5:=(((S.set 7 (J 0)).set 4 nS).set 5 nS).set 6 nS;have⟨wb,mQ⟩:=TY ((((wa.setCell (O g 7) (J 0)).setCell (O g 4) nS).setCell (O g 5) nS).setCell (O g 6) nS);rw[mQ]at S5;have HT:Hid (∃s2 d4 d5 d6 e4 e5 e6,vaj s2 w wb (stA s a b c d e f va ia ca cb cc cd ce cf cv ci) [J 0,nS,nS,nS,nS,nS,nS,J 0,nS,nS,J 0,J 0] g (stA s2 a1 a2 a3 d4 d5 d6 a8 a9 c1 c2 c3 e4 e5 e6 c8 c9) (.agg #[U a1 s2.Tz.Tw.length c1,U a2 s2.Tz.TC.length c2,U a3 s2.Tz.TG.length c3]) (.agg #[U d4 s2.TE.Tw.length e4,U d5 s2.TE.TC.length e5,U d6 s2.TE.TG.length e6]) (U a8 s2.vs.length c8) (U a9 s2.ix.length c9) (U pl N cl)/\Zr s2/\Um s2.Tz=true/\Um s2.TE=true/\s2.vs.length<=1000/\(Uf s2.vs).length<=1000/\(∀x∈Uf s2.vs,ZF x)):=⟨⟨s.tx,s.Tz,⟨[],[],[]⟩,0,s.vs,s.ix⟩,none,none,none,0,0,0,⟨S5.par,S5.res,S5.var,S5.Tz,vc0 _ _,S5.vs,S5.ix,S5.live,S5.ge,S5.TQ⟩,⟨ok.Tz,vc1,ok.vs,ok.vl,ok.xl⟩,p1,vgX,by show s.vs.length<=1000;omega,by show(Uf s.vs).length<=1000;rw[HN.out];omega,λx hx=>(dZ.out x hx).1⟩;have hlt2:¬(i:Int)<(N:Int):=Q;clear S Tu S5 HS
   rotate_left
   -- one is to be Hc
   obtain⟨x,hx⟩:∃x,(Uf s.vs)[i]? =some x:=⟨_,Ug (by rw[HN.out];exact hlt)⟩;obtain⟨gl,rfl⟩:=eG Q;have S:=HS.out;have⟨c0,NQ,Ir,xD,NS,NT⟩:=VO S.live hx;have x7:=S.par.c 7 rfl;have⟨NR,QW⟩:=dZ.out x (UH hx);have i0:(0:Int)<=(i:Int):=Q;have i1:(i:Int)<(N:Int):=Q;by_cases hw:x.id<s.cur
   .have q1:decide (x.id<s.cur)=true:=Uy hw
    clear hx S;go_wp2_with fail;go_quiet (fail);go_wp2;go_roundw
    .exact⟨i+1,dd,n,z,Q,Z7,rfl,rfl,rfl,Q,Q,HS.out.below (YJ wa nq)⟩
    .simp[intOf];omega
   have q1:decide (x.id<s.cur)=false:=dfe hw;by_cases hd:dd=m
   rotate_left
   .have q2:((dd:Int)==(m:Int))=false:=Z6
    have⟨P,hP⟩:=TY (Vf s.TE x);have⟨OU,hQ⟩:=TY (Vf s.Tz x);have KS:IntKind.i64.wrap (x.id+1)=x.id+1:=by rw[IntKind.wrap_i64];omega
    have se:=λW (h:Bw w W)=>vep s.TE _ x W (Jh.out.2.below h) ok.TE p2 NR hP
    have nX:=λW (h:Bw w W)=>vep s.Tz _ x W (Jh.out.1.below h) ok.Tz p1 NR hQ
    simp only[TD.v]at se nX;clear hP hQ;go_wp2_with fail;go_quiet (fail);go_wp2_with fail;have S2:=S.below (YJ wa nq);clear HS S c0 NQ Ir xD NS NT x7;generalize wa.drewN nq=wb at *;have S3:=S2.below (UF wb);have⟨d0,d1,d2,d3,d4,d5⟩:=VO S3.live hx;have y4:=S3.par.c 4 rfl;have y5:=S3.par.c 5 rfl;have y6:=S3.par.c 6 rfl;have L1:=se _ S3.TQ;have yU:=Us S3;clear S2 S3 se;obtain⟨P1,P2⟩:=P;obtain⟨Q1,Q2⟩:=OU;go_region_held3 (λw'=>w'.cell? (O w.heap.size 4)=some (U d s.TE.Tw.length cd)/\w'.cell? (O w.heap.size 5)=some (U e s.TE.TC.length ce)/\w'.cell? (O w.heap.size 6)=some (U f s.TE.TG.length cf)/\w'.cell? (O gl (i*6))=some (J x.id)/\w'.cell? (O gl (i*6+1))=some (I x.name)/\w'.cell? (O gl (i*6+2))=some (I x.TH)/\w'.cell? (O gl (i*6+3))=some (J x.Ty)/\w'.cell? (O gl (i*6+4))=some (J x.TM)/\w'.cell? (O gl (i*6+5))=some (J x.TL)) (go_keep) ((go_at_call 112;refine L1.mono ?_;rintro q wc ⟨rfl,ww⟩;have u4:=Tx ww y4;have u5:=Tx ww y5;have u6:=Tx ww y6;have t0:=Tx ww d0;have t1:=Tx ww d1;have t2:=Tx ww d2;have t3:=Tx ww d3;have t4:=Tx ww d4;have t5:=Tx ww d5));have S5:=(yU.out.below ww).below (UF wc);clear L1 yU d0 d1 d2 d3 d4 d5 y4 y5 y6 u4 u5 u6 t0 t1 t2 t3 t4 t5 ww;have⟨d0,d1,d2,d3,d4,d5⟩:=VO S5.live hx;have y1:=S5.par.c 1 rfl;have y2:=S5.par.c 2 rfl;have y3:=S5.par.c 3 rfl;have L2:=nX _ S5.TQ;have Eu:=Us S5;clear S5 nX;go_wp2_with fail;go_region_held3 (λw'=>w'.cell? (O w.heap.size 1)=some (U a s.Tz.Tw.length ca)/\w'.cell? (O w.heap.size 2)=some (U b s.Tz.TC.length cb)/\w'.cell? (O w.heap.size 3)=some (U c s.Tz.TG.length cc)/\w'.cell? (O gl (i*6))=some (J x.id)/\w'.cell? (O gl (i*6+1))=some (I x.name)/\w'.cell? (O gl (i*6+2))=some (I x.TH)/\w'.cell? (O gl (i*6+3))=some (J x.Ty)/\w'.cell? (O gl (i*6+4))=some (J x.TM)/\w'.cell? (O gl (i*6+5))=some (J x.TL)) (go_keep) ((go_at_call 112;refine L2.mono ?_;rintro q wd ⟨rfl,ou⟩;have u1:=Tx ou y1;have u2:=Tx ou y2;have u3:=Tx ou y3;have t0:=Tx ou d0;have t1:=Tx ou d1;have t2:=Tx ou d2;have t3:=Tx ou d3;have t4:=Tx ou d4;have t5:=Tx ou d5));have S6:=Eu.out.below ou;have S7:=S6.set 7 (J (x.id+1));have v7:=(U9 S6.var).c 7 rfl;have f7:=(U9 S6.var).f 7 rfl;have C2:=Us S7;have FQ:IntKind.i64.wrap ((n:Int)+1)=(n:Int)+1:=by rw[IntKind.wrap_i64];omega
    clear Eu L2 S6 S7 d0 d1 d2 d3 d4 d5 y1 y2 y3 u1 u2 u3 t1 t2 t3 t4 t5 ou hx;by_cases fZ:P1=Q1
    .subst fZ
     cases P2<;>cases Q2
     all_goals
      go_wp2;go_roundw
      .first|exact⟨i+1,dd+1,n,x.id+1,Q,Z7,rfl,Z7,rfl,Q,Q,C2⟩|exact⟨i+1,dd+1,n+1,x.id+1,Q,Z7,rfl,Z7,Z7,Q,Q,C2⟩
      .simp[intOf];omega
    .have PH:(P1==Q1)=false:=by simpa using fZ
     cases P2<;>cases Q2
     all_goals
      go_wp2;go_roundw
      .first|exact⟨i+1,dd+1,n,x.id+1,Q,Z7,rfl,Z7,rfl,Q,Q,C2⟩|exact⟨i+1,dd+1,n+1,x.id+1,Q,Z7,rfl,Z7,Z7,Q,Q,C2⟩
      .simp[intOf];omega
   rotate_left
   have q2:((dd:Int)==(m:Int))=true:=Z6
   case' pos=>
    go_wp2_with fail;go_quiet (fail);have S5:=HS.out.below (YJ wa nq);generalize wa.drewN nq=wb at *
   have HT:Hid (∃s2 d4 d5 d6 e4 e5 e6,vaj s2 w wb (stA s a b c d e f va ia ca cb cc cd ce cf cv ci) [J 0,nS,nS,nS,nS,nS,nS,J 0,nS,nS,J 0,J 0] g (stA s2 a1 a2 a3 d4 d5 d6 a8 a9 c1 c2 c3 e4 e5 e6 c8 c9) (.agg #[U a1 s2.Tz.Tw.length c1,U a2 s2.Tz.TC.length c2,U a3 s2.Tz.TG.length c3]) (.agg #[U d4 s2.TE.Tw.length e4,U d5 s2.TE.TC.length e5,U d6 s2.TE.TG.length e6]) (U a8 s2.vs.length c8) (U a9 s2.ix.length c9) (so gl N cl)/\Zr s2/\Um s2.Tz=true/\Um s2.TE=true/\s2.vs.length<=1000/\(Uf s2.vs).length<=1000/\(∀x∈Uf s2.vs,ZF x)):=⟨atC s z,a4,a5,a6,c4,c5,c6,⟨S5.par,S5.res,S5.var,S5.Tz,S5.TE,S5.vs,S5.ix,S5.live,S5.ge,S5.TQ⟩,⟨ok.Tz,ok.TE,ok.vs,ok.vl,ok.xl⟩,p1,p2,by show s.vs.length<=1000;omega,by show(Uf s.vs).length<=1000;rw[HN.out];omega,λx hx=>(dZ.out x hx).1⟩;clear S5 S HS hx c0 NQ Ir xD NS NT x7
   all_goals
    have hT:=HT.out;clear HT;have⟨s2,d4,d5,d6,e4,e5,e6,T,kS,r1,r2,l1,l2,Ft⟩:=hT;have Tu:=U9 T.var;have⟨z0,z1,z2,z3,z4,z5,z6,z7,z8,z9⟩:=Tu.UA;have hQ:=jh5 s2 _ wb ⟨a1,a2,a3,d4,d5,d6,a8,a9,c1,c2,c3,e4,e5,e6,c8,c9,rfl,T.Tz.at,T.TE.at,(vah T.vs (λ_=>rfl)).1,(vah T.ix (λ_=>rfl)).1,(vah T.vs (λ_=>rfl)).2,(vah T.ix (λ_=>rfl)).2⟩ kS r1 r2 l1 l2 Ft;have HT:=Us T;have lZ:=jep (VA s2) (Uf s2.vs);generalize UK (VA s2) (Uf s2.vs)=EE at *;clear Tu T;go_wp2_with fail;refine hQ.mono ?_;rintro q w6 ⟨x6,rfl,fV,hb6⟩;obtain⟨px,cx,rfl⟩:=YW fV;have S6:=HT.out.below hb6;have S7:=S6.set 9 (U px EE.length cx);have V6:=U9 S6.var;have l6:=hb6.size;have lg:=Vt HT.out.var;have cj:=vd7 (g:=g) (j:=9) (u:=U px EE.length cx) fV lg;have K7:=HT.out.ge;have p9:w6.cell? (O g 9)=some (U a9 s2.ix.length c9):=V6.c 9 rfl;have Qq:w6.frozen? (O g 9)=false:=V6.f 9 (u:=U a9 s2.ix.length c9) rfl;have⟨w7,yk⟩:=TY (w6.setCell (O g 9) (U px EE.length cx));rw[yk]at S7 cj;have V7:Zh w7 g (stA ⟨s2.tx,s2.Tz,s2.TE,s2.cur,s2.vs,EE⟩ a1 a2 a3 d4 d5 d6 a8 px c1 c2 c3 e4 e5 e6 c8 cx):=U9 S7.var;have R7:=S7.res;have⟨k0,k1,k2,k3,k4,k5,k6,k7,k8,k9⟩:=V7.UA;have⟨r0,QZ,R8,r3,r4,r5,r6,r7,r8,r9,lw,mv⟩:=R7.Wo;have⟨f0,f1,f2,f3,f4,f5,f6,f7,f8,f9,gx,l7⟩:=R7.WC;have⟨W8,PG,⟨t0,t1,t2,t3,t4,t5,t6,t7,t8,t9,wJ,cq⟩,T8,_,J8⟩:=R7.fin (J s2.tx) (U a1 s2.Tz.Tw.length c1) (U a2 s2.Tz.TC.length c2) (U a3 s2.Tz.TG.length c3) (U d4 s2.TE.Tw.length e4) (U d5 s2.TE.TC.length e5) (U d6 s2.TE.TG.length e6) (J s2.cur) (U a8 s2.vs.length c8) (U px EE.length cx) (J (n:Int)) (J 0);have yA:=Us (J8 _ _ Q S7.TQ);have ED:Hid (vba w.heap.size W8 (.agg (stA ⟨s2.tx,s2.Tz,s2.TE,s2.cur,s2.vs,EE⟩ a1 a2 a3 d4 d5 d6 a8 px c1 c2 c3 e4 e5 e6 c8 cx).toArray) ⟨s2.tx,s2.Tz,s2.TE,s2.cur,s2.vs,EE⟩):=λW' hW=>by
     have Qm:=T8.size;have o5:∀k,w.heap.size+1+1<=k->k<w7.heap.size->W'.heap[k]? =w7.heap[k]? :=λk h1 h2=>(hW k Q Q).trans (T8.block k h2 (show k≠w.heap.size+1 by omega))
     have r:∀{v:Value} {r:Un},Vl (w.heap.size+1+1) w7 v r->Vl w.heap.size W' v r:=λh=>(h.keep λk cs t _ h1 h2=>(o5 k Q (Vt h2)).trans h2).mono Q
     exact⟨a1,a2,a3,d4,d5,d6,a8,px,c1,c2,c3,e4,e5,e6,c8,cx,rfl,r S7.Tz,r S7.TE,U4 (YV S7.vs λk cs h1 h2=>(o5 k Q (Vt h2)).trans h2) Q,U4 (YV cj λk cs h1 h2=>(o5 k Q (Vt h2)).trans h2) Q⟩
    have rQ:Hid (Zr ⟨s2.tx,s2.Tz,s2.TE,s2.cur,s2.vs,EE⟩/\s2.vs.length<=1000/\EE.length<=1000):=⟨⟨kS.Tz,kS.TE,kS.vs,kS.vl,show EE.length<=1048576 by omega⟩,l1,Q⟩;clear hQ fV hb6 S6 S7 V6 V7 R7 T8 cj HT J8;go_wp2;exact Ue (v:=.agg (Wt ⟨s2.tx,s2.Tz,s2.TE,s2.cur,s2.vs,EE⟩ a1 a2 a3 d4 d5 d6 a8 px c1 c2 c3 e4 e5 e6 c8 cx (n:Int) 0).toArray) (by simp[results,Tryz.results72,go_sem,t0,t1,t2,t3,t4,t5,t6,t7,t8,t9,wJ,cq,Wt]) rfl ⟨_,_,_,⟨⟨a1,a2,a3,d4,d5,d6,a8,px,c1,c2,c3,e4,e5,e6,c8,cx,rfl,ED.out⟩,yA.out⟩,rQ.out⟩
end
section
open Go.RowKit Go.Lib Go.Sort
def ZA(s:Uo)(e:TD):Uo × Int:=if Vi s=true then(if Ww e=true then(if Xl s e.TH=true then(if 60<=s.vs.length\/900000<=s.tx\/(30<=(Uf s.vs).length/\YO (Uf s.vs) e.id=none)then(VP,7)else(Yr s e false,0))else(VP,5))else(VP,1))else(VP,1)
theorem vhj(s:Uo)(v:Value)(ev:TD)(w:World)(hv:Jd w v s)(ok:Zr s)(m1:ev.name.size<=maxLen)(m2:ev.TH.size<=maxLen)(hE:Vi s=true->Um s.Tz=true/\Um s.TE=true/\s.vs.length<=60/\(0<=s.tx/\s.tx<=900000)/\(Uf s.vs).length<=30)(nV:Vi s=true->Ww ev=true->(WZ (s.tx+1) false ev).ok/\∀x∈Uf (s.vs++[WZ (s.tx+1) false ev]),ZF x):
  C 74 #[v,ev.v] w (vbX (ZA s ev).1 0 (ZA s ev).2 w):=by
 have dQ:=hv;obtain⟨a,b,c,d,e,f,va,ia,ca,cb,cc,cd,ce,cf,cv,ci,rfl,_,_,hV,_,_,_⟩:=hv.form;obtain⟨id,name,TH,Ty,TM,TL⟩:=ev;have⟨w0,KR,ag,A0,E0,R0,_⟩:=veD w (stA s a b c d e f va ia ca cb cc cd ce cf cv ci) [J id,I name,I TH,J Ty,J TM,J TL];have q1:=jh8 s _ _ (dQ.below ag) ok;have q2:=λW=>jlo ⟨id,name,TH,Ty,TM,TL⟩ W m1 m2
 simp only[TD.v]at *;have⟨x0,x1,x2,x3,x4,x5,x6,x7,x8,x9⟩:=A0.UA;delta C;go_in;go_wp2_with fail;clear KR;refine q1.mono ?_;rintro q w1 ⟨rfl,hb1⟩;have aj:=TJ ag hb1;have A1:=A0.below hb1;have E1:=E0.below hb1;have R1:=R0.below hb1;clear x0 x1 x2 x3 x4 x5 x6 x7 x8 x9 A0 E0 R0 ag hb1 q1;cases hs:Vi s
 case false=>
  clear hE nV;have HD:Hid (ZA s ⟨id,name,TH,Ty,TM,TL⟩=(VP,1)):=by simp[Hid,ZA,hs]
  have⟨r0,r1,r2,r3,r4,r5,r6,r7,r8,r9,lw,mv⟩:=R1.Wo;have⟨f0,f1,f2,f3,f4,f5,f6,f7,f8,f9,gx,l7⟩:=R1.WC;have⟨W,hW,⟨t0,t1,t2,t3,t4,t5,t6,t7,t8,t9,wJ,cq⟩,_,_,J8⟩:=R1.Yl 1;have yA:=Us (J8 _ _ Q aj);clear J8;go_wp2;exact Ue (v:=.agg #[J 0,nS,nS,nS,nS,nS,nS,J 0,nS,nS,J 0,J 1]) (by simp[results,Tryz.results74,go_sem,t0,t1,t2,t3,t4,t5,t6,t7,t8,t9,wJ,cq]) rfl (by rw[HD.out];exact⟨⟨none,none,none,none,none,none,none,none,0,0,0,0,0,0,0,0,rfl,λW' _=>Yi _ W'⟩,yA.out⟩)
 case true=>
  have⟨p1,p2,p3,⟨p4,p5⟩,p6⟩:=hE hs;have e0:=E1.c 0 rfl;have e1:=E1.c 1 rfl;have e2:=E1.c 2 rfl;have e3:=E1.c 3 rfl;have e4:=E1.c 4 rfl;have e5:=E1.c 5 rfl;go_wp2_with fail;refine(q2 _).mono ?_;rintro q w2 ⟨rfl,ac⟩;have an:=TJ aj ac;have A2:=A1.below ac;have E2:=E1.below ac;have R2:=R1.below ac;clear e0 e1 e2 e3 e4 e5 A1 E1 R1 aj ac q2 hE;cases he:Ww ⟨id,name,TH,Ty,TM,TL⟩
  case false=>
   clear nV;have HD:Hid (ZA s ⟨id,name,TH,Ty,TM,TL⟩=(VP,1)):=by simp[Hid,ZA,hs,he]
   have⟨r0,r1,r2,r3,r4,r5,r6,r7,r8,r9,lw,mv⟩:=R2.Wo;have⟨f0,f1,f2,f3,f4,f5,f6,f7,f8,f9,gx,l7⟩:=R2.WC;have⟨W,hW,⟨t0,t1,t2,t3,t4,t5,t6,t7,t8,t9,wJ,cq⟩,_,_,J8⟩:=R2.Yl 1;have yA:=Us (J8 _ _ Q an);clear J8;go_wp2;exact Ue (v:=.agg #[J 0,nS,nS,nS,nS,nS,nS,J 0,nS,nS,J 0,J 1]) (by simp[results,Tryz.results74,go_sem,t0,t1,t2,t3,t4,t5,t6,t7,t8,t9,wJ,cq]) rfl (by rw[HD.out];exact⟨⟨none,none,none,none,none,none,none,none,0,0,0,0,0,0,0,0,rfl,λW' _=>Yi _ W'⟩,yA.out⟩)
  case true=>
   have dZ:=Us (nV hs he);have q3:=jm4 s _ TH w2 (dQ.below an) ok;have⟨x0,x1,x2,x3,x4,x5,x6,x7,x8,x9⟩:=A2.UA;have e2:=E2.c 2 rfl;clear nV;go_wp2_with fail;refine q3.mono ?_;rintro q w3 ⟨rfl,ar⟩;have ax:=TJ an ar;have A3:=A2.below ar;have E3:=E2.below ar;have R3:=R2.below ar;clear x0 x1 x2 x3 x4 x5 x6 x7 x8 x9 e2 A2 E2 R2 an ar q3;cases hz:Xl s TH
   case false=>
    have HD:Hid (ZA s ⟨id,name,TH,Ty,TM,TL⟩=(VP,5)):=by simp[Hid,ZA,hs,he,hz]
    have⟨r0,r1,r2,r3,r4,r5,r6,r7,r8,r9,lw,mv⟩:=R3.Wo;have⟨f0,f1,f2,f3,f4,f5,f6,f7,f8,f9,gx,l7⟩:=R3.WC;have⟨W,hW,⟨t0,t1,t2,t3,t4,t5,t6,t7,t8,t9,wJ,cq⟩,_,_,J8⟩:=R3.Yl 5;have yA:=Us (J8 _ _ Q ax);clear J8;go_wp2;exact Ue (v:=.agg #[J 0,nS,nS,nS,nS,nS,nS,J 0,nS,nS,J 0,J 5]) (by simp[results,Tryz.results74,go_sem,t0,t1,t2,t3,t4,t5,t6,t7,t8,t9,wJ,cq]) rfl (by rw[HD.out];exact⟨⟨none,none,none,none,none,none,none,none,0,0,0,0,0,0,0,0,rfl,λW' _=>Yi _ W'⟩,yA.out⟩)
   case true=>
    have q4:=jd1 s.vs va s.vs.length cv w3 (hV.below ax) rfl Q;have x8:=A3.c 8 rfl;go_wp2_with fail;refine q4.mono ?_;rintro q w4 ⟨lv,rfl,dX,aD⟩;have⟨pl,cl,Sq,mN⟩:=dX.seq;subst Sq;have aR:=TJ ax aD;have A4:=A3.below aD;have E4:=E3.below aD;have R4:=R3.below aD;clear x8 A3 E3 R3 ax aD q4 dX;have x8:=A4.c 8 rfl;have x0:=A4.c 0 rfl;have e0:=E4.c 0 rfl;go_upto_region 6 with fail
    go_cut [44]from 24 to 44 (λsx wx=>∃bb:Bool,sx=Z bb/\wx=w4/\Hid (bb=true↔(60<=s.vs.length\/900000<=s.tx\/(30<=(Uf s.vs).length/\YO (Uf s.vs) id=none))))
    case first=>
     by_cases tP:60<=s.vs.length
     .have E5:(60:Int)<=(s.vs.length:Int):=Q
      go_wp2;go_meet;exact⟨true,rfl,rfl,by simp[Hid,tP]⟩
     have E5:¬(60:Int)<=(s.vs.length:Int):=Q;by_cases Ha:900000<=s.tx
     .go_wp2
      go_meet;exact⟨true,rfl,rfl,by simp[Hid,Ha]⟩
     by_cases lm:30<=(Uf s.vs).length
     .have Pu:(30:Int)<=((Uf s.vs).length:Int):=Q
      go_wp2_with fail;refine(veo (Uf s.vs) pl (Uf s.vs).length cl id w4 mN rfl Q).mono ?_;rintro q w5 ⟨rfl,oK⟩;have oK:=oK.symm;subst oK;cases hh:YO (Uf s.vs) id with
      |none=>
       simp only[Yb];go_wp2;go_meet;exact⟨true,rfl,rfl,by simp[Hid,lm,hh]⟩
      |some k=>
       have Cd:¬((k:Int)<0):=Q;simp only[Yb];go_wp2;go_meet;exact⟨false,rfl,rfl,by simp[Hid,tP,Ha,hh]⟩
     .have Pu:¬(30:Int)<=((Uf s.vs).length:Int):=Q
      go_wp2;go_meet;exact⟨false,rfl,rfl,by simp[Hid,tP,Ha,lm]⟩
    obtain⟨bb,rfl,yj,HF⟩:=hcut;have yj:=yj.symm;subst yj;clear x0 x8 e0;cases bb
    case true=>
     have D4:=HF.out.mp rfl;clear HF;have HD:Hid (ZA s ⟨id,name,TH,Ty,TM,TL⟩=(VP,7)):=by simp only[Hid,ZA];rw[if_pos hs,if_pos he,if_pos hz,if_pos D4]
     have⟨r0,r1,r2,r3,r4,r5,r6,r7,r8,r9,lw,mv⟩:=R4.Wo;have⟨f0,f1,f2,f3,f4,f5,f6,f7,f8,f9,gx,l7⟩:=R4.WC;have⟨W,hW,⟨t0,t1,t2,t3,t4,t5,t6,t7,t8,t9,wJ,cq⟩,_,_,J8⟩:=R4.Yl 7;have yA:=Us (J8 _ _ Q aR);clear J8;go_wp2;exact Ue (v:=.agg #[J 0,nS,nS,nS,nS,nS,nS,J 0,nS,nS,J 0,J 7]) (by simp[results,Tryz.results74,go_sem,t0,t1,t2,t3,t4,t5,t6,t7,t8,t9,wJ,cq]) rfl (by rw[HD.out];exact⟨⟨none,none,none,none,none,none,none,none,0,0,0,0,0,0,0,0,rfl,λW' _=>Yi _ W'⟩,yA.out⟩)
    case false=>
     have D4:¬_:=λk=>Bool.noConfusion (HF.out.mpr k)
     have tP:s.vs.length<60/\s.tx<900000:=Q;have HD:Hid (ZA s ⟨id,name,TH,Ty,TM,TL⟩=(Yr s ⟨id,name,TH,Ty,TM,TL⟩ false,0)):=by simp only[Hid,ZA];rw[if_pos hs,if_pos he,if_pos hz,if_neg D4]
     have⟨hok,nd⟩:=dZ.out;have pv:=ves s ⟨id,name,TH,Ty,TM,TL⟩ false _ w4 (dQ.below aR) ok p1 p2 p4 Q Q (by have:=jwf (s.vs++[WZ (s.tx+1) false ⟨id,name,TH,Ty,TM,TL⟩]) (s.vs++[WZ (s.tx+1) false ⟨id,name,TH,Ty,TM,TL⟩]).length;unfold Uf;simp at this ⊢;omega) nd hok;simp only[TD.v]at pv;generalize Yr s ⟨id,name,TH,Ty,TM,TL⟩ false=D at *;have⟨x0,x1,x2,x3,x4,x5,x6,x7,x8,x9⟩:=A4.UA;have e0:=E4.c 0 rfl;have e1:=E4.c 1 rfl;have e2:=E4.c 2 rfl;have e3:=E4.c 3 rfl;have e4:=E4.c 4 rfl;have e5:=E4.c 5 rfl;go_wp2_with fail;refine pv.mono ?_;rintro q w9 pY;obtain⟨a1,a2,a3,a4,a5,a6,a8,a9,c1,c2,c3,c4,c5,c6,c8,c9,rfl,xx⟩:=pY.ex;have bZ:=pY.TQ;have R9:=R4.below bZ;have l9:w.heap.size+1+1<w4.heap.size:=TV (R4.c 0 rfl);have⟨r0,r1,r2,r3,r4,r5,r6,r7,r8,r9,lw,mv⟩:=R9.Wo;have⟨f0,f1,f2,f3,f4,f5,f6,f7,f8,f9,gx,l7⟩:=R9.WC;have⟨W,hW,⟨t0,t1,t2,t3,t4,t5,t6,t7,t8,t9,wJ,cq⟩,T,_,J8⟩:=R9.fin (J D.tx) (U a1 D.Tz.Tw.length c1) (U a2 D.Tz.TC.length c2) (U a3 D.Tz.TG.length c3) (U a4 D.TE.Tw.length c4) (U a5 D.TE.TC.length c5) (U a6 D.TE.TG.length c6) (J D.cur) (U a8 D.vs.length c8) (U a9 D.ix.length c9) (J 0) (J 0);have yA:=Us (J8 _ _ Q (TJ aR bZ));have HT:=Us T;have Ql:=Us xx;clear T xx J8 x0 x1 x2 x3 x4 x5 x6 x7 x8 x9 e0 e1 e2 e3 e4 e5 pv;go_wp2;exact Ue (v:=.agg (Wt D a1 a2 a3 a4 a5 a6 a8 a9 c1 c2 c3 c4 c5 c6 c8 c9 0 0).toArray) (by simp[results,Tryz.results74,go_sem,t0,t1,t2,t3,t4,t5,t6,t7,t8,t9,wJ,cq,Wt]) rfl (by rw[HD.out];exact⟨⟨a1,a2,a3,a4,a5,a6,a8,a9,c1,c2,c3,c4,c5,c6,c8,c9,rfl,λW' hW=>(Ql.out W' λk h1 h2=>(hW k Q (Nat.lt_of_lt_of_le h2 HT.out.size)).trans (HT.out.block k h2 (show k≠w.heap.size+1+1 by omega))).mono (show w.heap.size<=w4.heap.size by omega)⟩,yA.out⟩)
