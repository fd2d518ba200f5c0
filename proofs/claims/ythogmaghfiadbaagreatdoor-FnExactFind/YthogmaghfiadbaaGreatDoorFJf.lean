/- Packed. -/
import Derived.Test.YthogmaghfiadbaaGreatDoorFIf
import Derived.Test.YthogmaghfiadbaaGreatDoorMarkStoref
import Derived.Test.YthogmaghfiadbaaGreatDoorSJf
set_option maxRecDepth 20000
set_option maxHeartbeats 20000000
set_option linter.unusedSimpArgs false
namespace Go.Proofs.YthogmaghfiadbaaGreatDoor
section
open Go.RowKit Go.Sort
theorem Zb.touch{S:Nat->Prop}{w w':World}{base:Nat}{v:Value}{L:List EntryD}(h:Zb w base v L)(ht:Zc S w w')(hs:∀g,v.ownBlock=some g->¬S g):Zb w' base v L:=by
 refine⟨h.1,?_⟩
 rcases h.2 with h|⟨g,cap,cur,rfl,h1,h2,h3⟩
 ·exact .inl h
 ·refine .inr ⟨g,cap,cur,rfl,h1,?_,h3⟩
  have hl:g<w.heap.size:=(Array.getElem?_eq_some_iff.mp h2).1
  exact(ht.block g hl (hs g rfl)).trans h2
theorem walkF(s:StoreD)(H:List EntryD)(lo hi:Int)(v:Value)(w:World)(hv:Jd w v s)(yq:s.ok)(cg:Zx w)(hH:H.length<=s.vs.length)(hI:Zr s->∀v w,Zx w->Jd w v s->Cl 7 #[v,iv lo,iv hi] w fun e w'=>∃x,e=.returned x/\Zb w' w.heap.size x H/\Bw w w')(hS:Zr s->∀v w,Jd w v s->Cl 5 #[v,iv lo,iv hi] w fun e w'=>∃x,e=.returned x/\Zb w' w.heap.size x H/\Bw w w'):
  Cl 3 #[v,iv lo,iv hi] w fun e w'=>e=.returned (.bool true)/\Bw w w':=by
 have dQ:=hv
 obtain⟨a,b,c,d,e,f,va,ia,ca,cb,cc,cd,ce,cf,cv,ci,rfl,_,_,_,_,_,_⟩:=hv.form
 have ag:=qal w (.cells (stA s a b c d e f va ia ca cb cc cd ce cf cv ci).toArray 30)
 have A0:=Zh.new w (stA s a b c d e f va ia ca cb cc cd ce cf cv ci) 30
 have hZ:=jn0 s _ 1048576 _ (dQ.below ag) yq (by omega) (by omega)
 obtain⟨x0,x1,x2,x3,x4,x5,x6,x7,x8,x9⟩:=A0.ten
 by_cases g:1048576-(s.sz:Int)<0
 ·rw[jal g]at hZ
  clear g
  go_enter Tryz.func3,Tryz.ntmps3
  go_wp2_with fail
  refine hZ.mono ?_
  rintro e1 w1 ⟨rfl,hb1⟩
  go_wp2
  go_ret
  exact⟨rfl,(qtr ag hb1)⟩
 rw[jbb (by omega)]at hZ
 have ok:=yq.store (by omega)
 have hsz:s.now.sz<=1048576/\s.was.sz<=1048576:=by unfold StoreD.sz at g;omega
 have lB:=fun w h=>jnu s (.agg (stA s a b c d e f va ia ca cb cc cd ce cf cv ci).toArray) w h ok
 have Fg:=fun v w hE h=>hI ok v w hE h
 have JK:=fun v w h=>hS ok v w h
 have Jy:=fun v v2 w h h2=>jn5 s v v2 w h h2 ok
 have Fk:=fun v B U w h hU=>jj3 s v B U w h hU hsz.1 hsz.2 ok.vl ok.xl
 have jA:=Nat.le_trans hH ok.vl
 have hQ:=fun a a2 c c2 w h h2=>jfs H a a2 c c2 w h h2 jA
 have g2:¬(1048576-(s.sz:Int)<0):=g
 clear g hI hS hsz
 generalize (s.sz:Int)=sz at *
 go_enter Tryz.func3,Tryz.ntmps3
 go_wp2_with fail
 refine hZ.mono ?_
 rintro e1 w1 ⟨rfl,hb1⟩
 have aj:=qtr ag hb1
 have A1:=A0.below hb1
 clear x0 x1 x2 x3 x4 x5 x6 x7 x8 x9 hb1 A0 ag hZ
 obtain⟨x0,x1,x2,x3,x4,x5,x6,x7,x8,x9⟩:=A1.ten
 go_wp2_with fail
 refine(lB _ (dQ.below aj)).mono ?_
 rintro e2 w2 ⟨v2,rfl,aW,ac⟩
 have an:=qtr aj ac
 have A2:=A1.below ac
 have qf:=aW.st
 clear x0 x1 x2 x3 x4 x5 x6 x7 x8 x9 ac A1 aj aW
 go_wp2_with fail
 refine(JK v2 _ qf).mono ?_
 rintro e3 w3 ⟨x3,rfl,qo,ar⟩
 have ax:=qtr an ar
 have A3:=A2.below ar
 have l3:=ar.size
 have lw:∀g,x3.ownBlock=some g->g<w3.heap.size:=fun g hg=>(qo.lt g hg).2
 have I4:=hid qo
 obtain⟨p3,c3,eI,kN⟩:=qo.seq
 subst eI
 clear ar A2 an qf qo
 obtain⟨x0,x1,x2,x3,x4,x5,x6,x7,x8,x9⟩:=A3.ten
 have la:w.heap.size<w3.heap.size:=qbl x0
 go_wp2_with fail
 refine(lB _ (dQ.below ax)).mono ?_
 rintro e4 w4 ⟨v4,rfl,dX,aD⟩
 have aR:=qtr ax aD
 have A4:=A3.below aD
 have uH:=dX.st
 have mN:=kN.below aD
 have l4:=aD.size
 obtain⟨ga,gb,gc,gd,ge,gf,gv,gx,KO,_⟩:=dX.form
 subst KO
 have Ep:=hid dX
 clear x0 x1 x2 x3 x4 x5 x6 x7 x8 x9 aD A3 ax dX kN
 have b5:=qal w4 (.cells (stA s (some (ad ga 0)) (some (ad gb 0)) (some (ad gc 0)) (some (ad gd 0)) (some (ad ge 0)) (some (ad gf 0)) (some (ad gv 0)) (some (ad gx 0)) s.now.rules.length s.now.zones.length s.now.links.length s.was.rules.length s.was.zones.length s.was.links.length s.vs.length s.ix.length).toArray 41)
 have bG:=qtr aR b5
 have A5:=A4.below b5
 have sl:=uH.below b5
 have gG:=mN.below b5
 have X5:=Zh.new w4 (stA s (some (ad ga 0)) (some (ad gb 0)) (some (ad gc 0)) (some (ad gd 0)) (some (ad ge 0)) (some (ad gf 0)) (some (ad gv 0)) (some (ad gx 0)) s.now.rules.length s.now.zones.length s.now.links.length s.was.rules.length s.was.zones.length s.was.links.length s.vs.length s.ix.length) 41
 have z5:(w4.alloc (.cells (stA s (some (ad ga 0)) (some (ad gb 0)) (some (ad gc 0)) (some (ad gd 0)) (some (ad ge 0)) (some (ad gf 0)) (some (ad gv 0)) (some (ad gx 0)) s.now.rules.length s.now.zones.length s.now.links.length s.was.rules.length s.was.zones.length s.was.links.length s.vs.length s.ix.length).toArray 41)).heap.size=w4.heap.size+1:=by simp
 obtain⟨y0,y1,y2,y3,y4,y5,y6,y7,y8,y9⟩:=X5.ten
 clear A4 aR uH mN
 go_wp2_with fail
 refine(Fg _ _ (cg.of_below bG) sl).mono ?_
 rintro e6 w6 ⟨x6,rfl,uj,hb6⟩
 rw[z5]at uj
 have cp:=qtr bG hb6
 have A6:=A5.below hb6
 have X6:=X5.below hb6
 have xN:=sl.below hb6
 have EH:=qtr b5 hb6
 have qM:=gG.below hb6
 have lg:∀g,x6.ownBlock=some g->w4.heap.size+1<=g:=fun g hg=>(uj.lt g hg).1
 obtain⟨p6,c6,Gp,GT⟩:=uj.seq
 subst Gp
 clear y0 y1 y2 y3 y4 y5 y6 y7 y8 y9 hb6 A5 X5 bG sl b5 gG z5
 go_wp2_with fail
 refine(hQ _ _ _ _ _ GT qM).mono ?_
 rintro e7 w7 ⟨rfl,ay⟩
 have bD:=jab w7
 have nL:=qtr ay bD
 have jr:Hid (Bw w w7.drew):=qtr cp nL
 have AD:=A6.below nL
 have XD:=X6.below nL
 have xc:=hid AD
 have xu:=hid XD
 have Ew:Hid (Jd w7.drew (.agg (stA s (some (ad ga 0)) (some (ad gb 0)) (some (ad gc 0)) (some (ad gd 0)) (some (ad ge 0)) (some (ad gf 0)) (some (ad gv 0)) (some (ad gx 0)) s.now.rules.length s.now.zones.length s.now.links.length s.was.rules.length s.was.zones.length s.was.links.length s.vs.length s.ix.length).toArray) s):=xN.below nL
 have rN:Hid (Zb w7.drew (w4.heap.size+1) (.slice p6 H.length c6) H):=uj.below nL
 have Ez:Hid (Za w7.drew p3 2 (H.map EntryD.cs)):=qM.below nL
 have DZ:Hid (Bw w4 w7.drew):=qtr EH nL
 obtain⟨x0,x1,x2,x3,x4,x5,x6,x7,x8,x9⟩:=AD.ten
 obtain⟨y0,y1,y2,y3,y4,y5,y6,y7,y8,y9⟩:=XD.ten
 have mj:=lB w7.drew (dQ.below jr.out)
 clear A6 X6 AD XD xN bD nL ay cp EH uj GT qM
 go_wp2_with fail
 go_region_held3 (fun w'=>w'.cell? (ad w.heap.size 0)=some (iv s.tx)/\w'.cell? (ad w.heap.size 1)=some (.slice a s.now.rules.length ca)/\w'.cell? (ad w.heap.size 2)=some (.slice b s.now.zones.length cb)/\w'.cell? (ad w.heap.size 3)=some (.slice c s.now.links.length cc)/\w'.cell? (ad w.heap.size 4)=some (.slice d s.was.rules.length cd)/\w'.cell? (ad w.heap.size 5)=some (.slice e s.was.zones.length ce)/\w'.cell? (ad w.heap.size 6)=some (.slice f s.was.links.length cf)/\w'.cell? (ad w.heap.size 7)=some (iv s.cur)/\w'.cell? (ad w.heap.size 8)=some (.slice va s.vs.length cv)/\w'.cell? (ad w.heap.size 9)=some (.slice ia s.ix.length ci)/\w'.cell? (ad w4.heap.size 0)=some (iv s.tx)/\w'.cell? (ad w4.heap.size 1)=some (so ga s.now.rules.length s.now.rules.length)/\w'.cell? (ad w4.heap.size 2)=some (so gb s.now.zones.length s.now.zones.length)/\w'.cell? (ad w4.heap.size 3)=some (so gc s.now.links.length s.now.links.length)/\w'.cell? (ad w4.heap.size 4)=some (so gd s.was.rules.length s.was.rules.length)/\w'.cell? (ad w4.heap.size 5)=some (so ge s.was.zones.length s.was.zones.length)/\w'.cell? (ad w4.heap.size 6)=some (so gf s.was.links.length s.was.links.length)/\w'.cell? (ad w4.heap.size 7)=some (iv s.cur)/\w'.cell? (ad w4.heap.size 8)=some (so gv s.vs.length s.vs.length)/\w'.cell? (ad w4.heap.size 9)=some (so gx s.ix.length s.ix.length)) (go_keep) (first|(go_at_call 6;refine mj.mono ?_;rintro e8 w8 ⟨v8,rfl,dF,qs⟩;have BC:=dF.st;clear dF;obtain⟨Lx,Ly,Lz,LA,LB,LC,LD,LE,LF,LG⟩:=(xc.out.below qs).ten;obtain⟨LK,LL,LN,LP,LQ,LR,LS,LT,LU,LV⟩:=(xu.out.below qs).ten;have Jw:=Jy _ v8 w8 (Ew.out.below qs) BC;obtain⟨a7,b7,c7,d7,e7,f7,PP,Pt,O8,Ob,Od,Oe,Of,Og,Oi,Oh,KP,_⟩:=BC.form;subst KP;clear BC)|(go_at_call 9;refine Jw.mono ?_;rintro e9 w9 ⟨rfl,bZ⟩;obtain⟨mU,rd,LW,LX,LY,LZ,M0,M3,M4,M5⟩:=((xc.out.below qs).below bZ).ten;obtain⟨De,Di,Dk,Dm,Do,Dq,Ds,Dt,Du,Dv⟩:=((xu.out.below qs).below bZ).ten))
 have oS:=qtr qs bZ
 have fS:=qtr jr.out oS
 have A9:=xc.out.below oS
 have X9:=xu.out.below oS
 have Fb:=rN.out.below oS
 have vE:=Ez.out.below oS
 have za:=qtr DZ.out oS
 have FB:=Ep.out.upto l4 za
 have GD:=za.size
 clear x0 x1 x2 x3 x4 x5 x6 x7 x8 x9 y0 y1 y2 y3 y4 y5 y6 y7 y8 y9 Lx Ly Lz LA LB LC LD LE LF LG LK LL LN LP LQ LR LS LT LU LV
 clear mU rd LW LX LY LZ M0 M3 M4 M5 De Di Dk Dm Do Dq Ds Dt Du Dv
 clear jr xc xu rN Ez DZ Ep Ew I4 qs bZ oS za mj
 obtain⟨y0,y1,y2,y3,y4,y5,y6,y7,y8,y9⟩:=X9.ten
 go_wp2_with fail
 refine(Fk _ _ _ _ FB GD).mono ?_
 rintro Ou MF ⟨⟨K,rfl⟩,wJ⟩
 have lW:=wJ.below (fun x hx=>by have:w3.heap.size<=x/\x<w4.heap.size:=hx;omega) fS.size fS
 have DV:=A9.touch wJ (show ¬(w3.heap.size<=w.heap.size/\w.heap.size<w4.heap.size) by omega)
 have pJ:=Fb.touch wJ (fun g hg=>by show ¬(w3.heap.size<=g/\g<w4.heap.size);have:=lg g hg;omega)
 have qL:=vE.touchV (n:=H.length) (cap:=c3) wJ (fun g hg=>by show ¬(w3.heap.size<=g/\g<w4.heap.size);have:=lw g hg;omega)
 obtain⟨pq,cq,hp,wl⟩:=pJ.seq
 injection hp with e1 e2 e3
 subst e1 e3
 have kk:¬((K:Int)<0):=by omega
 clear wJ Fb vE A9 X9 fS FB Fk GD e2 y0 y1 y2 y3 y4 y5 y6 y7 y8 y9
 go_wp2_with fail
 refine(hQ _ _ _ _ _ wl qL).mono ?_
 rintro Ov MG ⟨rfl,ku⟩
 have pj:=qtr lW ku
 have DW:=DV.below ku
 have uh:=pJ.below ku
 have vx:=qL.below ku
 clear ku lW DV pJ qL wl
 have hK:=jnq H _ _ 1 MG uh (by omega) (by omega)
 have Fd:=fun w h=>jix H.length c6 1 p6 w h (by omega) (by omega)
 have OU:(0:Int)<=((1+2*H.length:Nat):Int):=by omega
 generalize hd4:1+2*H.length=d3 at *
 clear hd4
 go_wp2_with fail
 refine hK.mono ?_
 rintro Ow PT ⟨rfl,KE,yr⟩
 obtain⟨am,cm,em,rB⟩:=KE
 injection em with m1 m2 m3
 subst m1 m3
 have tS:=yr.below (fun x hx=>by have:=lg x hx;omega) pj.size pj
 have DX:=DW.touch yr (fun h=>by have:=lg _ h;omega)
 have vy:=vx.touchV (n:=H.length) (cap:=c3) yr (fun g hg h=>by have:=lg _ h;have:=lw g hg;omega)
 clear yr uh vx DW pj hK m2
 have dd:¬((d3:Int)<0):=by omega
 go_wp2_with fail
 refine(Fd _ rB).mono ?_
 rintro Ox PU ⟨rfl,kv⟩
 have pk:=qtr tS kv
 have DY:=DX.below kv
 have wu:=rB.below kv
 have vB:=vy.below kv
 clear kv tS DX rB vy
 obtain⟨x0,x1,x2,x3,x4,x5,x6,x7,x8,x9⟩:=DY.ten
 go_wp2_with fail
 refine(lB _ (dQ.below pk)).mono ?_
 rintro Oy PV ⟨PO,rfl,uy,mr⟩
 have pm:=qtr pk mr
 have ww:=wu.below mr
 have vC:=vB.below mr
 have uG:=uy.st
 clear mr pk DY wu vB uy x0 x1 x2 x3 x4 x5 x6 x7 x8 x9
 go_wp2_with fail
 refine(Fg _ _ (cg.of_below pm) uG).mono ?_
 rintro Oz PW ⟨DD,rfl,ui,ms⟩
 have tT:=qtr pm ms
 have wG:=ww.below ms
 have vD:=vC.below ms
 obtain⟨PH,NR,CJ,ws⟩:=ui.seq
 subst CJ
 clear ms pm ww vC uG ui
 go_wp2_with fail
 refine(hQ _ _ _ _ _ ws vD).mono ?_
 rintro OA PX ⟨rfl,qr⟩
 have AU:=qtr tT qr
 have Dx:=wG.below qr
 clear qr tT wG vD ws
 go_wp2_with fail
 refine(Fd _ Dx).mono ?_
 rintro OB PY ⟨rfl,BM⟩
 go_wp2
 go_ret
 exact⟨rfl,(qtr AU BM)⟩
end
section
open Go.RowKit Go.ChangeMaps Go.MapKept Go.WideMaps
structure NowAt(X:List (Nat × Nat × Value))(w0 w:World)(r:RelD)(nm nn:Nat):Prop where
 bel:Bw w0 w
 cn:Zi w nm nn r
 bn:w0.heap.size<=nm
 more:∀p∈X,w.cell? (ad p.1 p.2.1)=some p.2.2
theorem j1y(X:List (Nat × Nat × Value))(w0:World)(r:RelD)(lb nm B N k0:Nat)(a b c:Option Addr)(ca cb cc:Nat)(hE:Zx w0)(hN:Zd w0 (.agg #[.slice a r.rules.length ca,.slice b r.zones.length cb,.slice c r.links.length cc]) r)(ok:Jk r)(hr:relB r=true)(hB:w0.heap.size<=B)(h2:nm<B)(h4:nm≠lb)(JH:N+k0<=1000)(hX:∀p∈X,p.1≠nm/\p.1<B):
  MoK 58 #[.agg #[.slice a r.rules.length ca,.slice b r.zones.length cb,.slice c r.links.length cc,.map (some nm)]] (momD r) (fun k W=>NowAt X w0 W r nm (k0+k)) lb B N where
 enter:=fun _ _=>by kernel_rfl
 call:=fun k ev W hk hI=>(jfd r a b c ca cb cc nm (k0+k) ev W (hE.of_below hI.bel) (hN.below hI.bel) ok hr hI.cn (by omega)).mono fun q W' hP=>⟨hP.ex,⟨j3y hI.bel hP.grown hI.bn,hP.cache,hI.bn,fun p hp=>hP.grown.cell (hI.more p hp) (fun e=>by injection e with e;exact(hX p hp).1 e)⟩,_,h4,jjr hI.cn,hP.grown⟩
 below:=fun k W W' hI hb=>⟨hI.bel.trans (hb.mono hI.bel.size),hI.cn.below hb,hI.bn,fun p hp=>jaa hb (hI.more p hp)⟩
 row:=fun k W W' x hI hg hx ht=>⟨j3y hI.bel hg (by omega),hI.cn.grown hg (by omega) ht,hI.bn,fun p hp=>hg.cell (hI.more p hp) (fun e=>by injection e with e;have h:=(hX p hp).2;have e2:p.1=x:=e;omega)⟩
theorem jpy(hS:SortC)(s:StoreD)(w w':World)(bb lb n:Nat)(a8:Option Addr)(c8:Nat)(ok:Zr s)(hM:Zm w' lb n (jch s.vs))(lm:(jan s.vs).length<=30)(hB:BookO s w w' bb lb a8 c8):∃a b c ca cb cc nm,(w'.cell? (ad bb 11)=some (.slice a s.now.rules.length ca)/\w'.cell? (ad bb 12)=some (.slice b s.now.zones.length cb)/\w'.cell? (ad bb 13)=some (.slice c s.now.links.length cc)/\w'.cell? (ad bb 14)=some (.map (some nm)))/\Bw w w'/\
  ∀W (X:List (Nat × Nat × Value)),Bw w' W->(∀p∈X,W.cell? (ad p.1 p.2.1)=some p.2.2/\(w'.heap.size<=p.1\/p.1=bb))->Cl 57 #[.map (some lb),.func (.func 58) #[.agg #[.slice a s.now.rules.length ca,.slice b s.now.zones.length cb,.slice c s.now.links.length cc,.map (some nm)]] #[]] W fun q W'=>∃v,q=.returned v/\Zb W' W.heap.size v (entF (momD s.now) (jan s.vs))/\Bw w W'/\(∀p∈X,W'.cell? (ad p.1 p.2.1)=some p.2.2)/\W.heap.size<=W'.heap.size:=by
 obtain⟨nm,wm,k,w0,a,b,c,d,e,f,ca,cb,cc,cd,ce,cf,hb,hk,h0,hE,hN,_,h4,_,hr,_⟩:=hB.ex
 refine⟨a,b,c,ca,cb,cc,nm,⟨hb.n0,hb.n1,hb.n2,hb.n3⟩,h0.trans (hb.bel.mono h0.size),fun W X hW hX=>?_⟩
 have iE:=hb.below hW
 have Co:=hb.cn.lt
 have hK:=j1y X w0 s.now lb nm W.heap.size (jan s.vs).length k a b c ca cb cc hE hN ok.now hr iE.bel.size iE.cn.lt h4 (by omega) (fun p hp=>⟨by have:=hb.ne_n;rcases(hX p hp).2 with h|h<;>omega,qbl (hX p hp).1⟩)
 have hC:=jg2 hS (jch s.vs) (jan s.vs) W hK (hM.below hW) (jga s.vs) (jhr s.vs.length) (by omega) ⟨iE.bel,iE.cn,iE.bn,fun p hp=>(hX p hp).1⟩
 refine hC.mono fun q W' hP=>?_
 obtain⟨v,hq,hO⟩:=hP.ex
 obtain⟨k2,_,hI⟩:=hP.inv
 exact⟨v,hq,hO,h0.trans (hI.bel.mono h0.size),hI.more,hP.size⟩
end
section
open Go.RowKit
def momF(g:EventD->Int × Bool)(lo hi:Int)(e:EventD):Int × Bool:=((g e).1,(g e).2&&rgB lo hi (g e).1)
theorem jt4{g:EventD->Int × Bool}{lo hi:Int}{L:List EventD}(hL:L.Pairwise fun x y=>x.id<y.id):((entF g L).filter fun x=>rgB lo hi x.at_)=entF (momF g lo hi) L:=by
 refine jus (List.Pairwise.filter _ (jq2 hL)) (jq2 hL) fun x=>?_
 rw[List.mem_filter,entF_mem,entF_mem]
 constructor
 ·rintro⟨⟨e,he,hg,rfl⟩,hr⟩
  exact⟨e,he,by simp only[momF,hg,Bool.true_and];exact hr,rfl⟩
 ·rintro⟨e,he,hg,rfl⟩
  simp only[momF,bat]at hg ⊢
  exact⟨⟨e,he,hg.1,rfl⟩,hg.2⟩
end
section
open Go.RowKit Go.Sort
theorem jtu(hS:SortC)(s:StoreD)(w w':World)(bb lb n:Nat)(a8:Option Addr)(c8:Nat)(lo hi:Int)(ok:Zr s)(hM:Zm w' lb n (jch s.vs))(lm:(jan s.vs).length<=30)(hB:BookO s w w' bb lb a8 c8)(AJ:w'.cell? (ad bb 10)=some (.map (some lb))):
  Cl 24 #[.pointer (some (ad bb 0)),iv lo,iv hi] w' fun e W'=>∃x,e=.returned x/\Zb W' w'.heap.size x (entF (momF (momD s.now) lo hi) (jan s.vs))/\Bw w W':=by
 obtain⟨a,b,c,ca,cb,cc,nm,⟨n0,n1,n2,n3⟩,hw,jy⟩:=jpy hS s w w' bb lb n a8 c8 ok hM lm hB
 have b1:Bw w' ((w'.alloc (.cells #[iv lo] 2)).alloc (.cells #[iv hi] 2)):=(qal _ _).alloc (by simp) _
 have dI:(((w'.alloc (.cells #[iv lo] 2)).alloc (.cells #[iv hi] 2))).heap.size=w'.heap.size+1+1:=by simp
 obtain⟨e0,e1⟩:(fun z:World=>z.cell? (ad w'.heap.size 0)=some (iv lo)/\z.cell? (ad (w'.heap.size+1) 0)=some (iv hi)) (((w'.alloc (.cells #[iv lo] 2)).alloc (.cells #[iv hi] 2))):=by simp[go_sem]
 obtain⟨W,hW⟩:=qeb (((w'.alloc (.cells #[iv lo] 2)).alloc (.cells #[iv hi] 2)))
 rw[hW]at b1 dI e0 e1
 have bD:=jab W
 have b2:=qtr b1 bD
 have Nk:W.drew.cell? (ad bb 10)=some (.map (some lb)):=jaa b2 AJ
 have DL:W.drew.cell? (ad bb 11)=some (.slice a s.now.rules.length ca):=jaa b2 n0
 have yx:W.drew.cell? (ad bb 12)=some (.slice b s.now.zones.length cb):=jaa b2 n1
 have wW:W.drew.cell? (ad bb 13)=some (.slice c s.now.links.length cc):=jaa b2 n2
 have wX:W.drew.cell? (ad bb 14)=some (.map (some nm)):=jaa b2 n3
 have hE:=jy W.drew [(w'.heap.size,0,iv lo),(w'.heap.size+1,0,iv hi),(bb,10,.map (some lb)),(bb,11,.slice a s.now.rules.length ca),(bb,12,.slice b s.now.zones.length cb),(bb,13,.slice c s.now.links.length cc),(bb,14,.map (some nm))] b2 (fun p hp=>by
  simp only[List.mem_cons,List.not_mem_nil,or_false]at hp
  rcases hp with rfl|rfl|rfl|rfl|rfl|rfl|rfl
  ·exact⟨jaa bD e0,.inl (nlr _)⟩
  ·exact⟨jaa bD e1,.inl (Nat.le_succ _)⟩
  ·exact⟨Nk,.inr rfl⟩
  ·exact⟨DL,.inr rfl⟩
  ·exact⟨yx,.inr rfl⟩
  ·exact⟨wW,.inr rfl⟩
  ·exact⟨wX,.inr rfl⟩)
 have KC:W.drew.heap.size=w'.heap.size+1+1:=dI
 rw[KC]at hE
 have HL:Hid ((entF (momD s.now) (jan s.vs)).length<=1000):=Nat.le_trans (jep _ _) (by omega)
 have HF:Hid (((entF (momD s.now) (jan s.vs)).filter fun x=>rgB lo hi x.at_)=entF (momF (momD s.now) lo hi) (jan s.vs)):=jt4 (jhr s.vs.length)
 generalize entF (momD s.now) (jan s.vs)=E at *
 generalize entF (momF (momD s.now) lo hi) (jan s.vs)=E2 at *
 have iF:bb<w'.heap.size+1+1:=by have:=qbl n0;simp at this;omega
 clear jy n0 n1 n2 n3 AJ hB hM b1 e0 e1 bD
 go_enter Tryz.func24,Tryz.ntmps24
 go_wp2_with fail
 clear hW
 go_region_held3 (fun wz=>wz.cell? (ad bb 10)=some (.map (some lb))/\wz.cell? (ad bb 11)=some (.slice a s.now.rules.length ca)/\wz.cell? (ad bb 12)=some (.slice b s.now.zones.length cb)/\wz.cell? (ad bb 13)=some (.slice c s.now.links.length cc)/\wz.cell? (ad bb 14)=some (.map (some nm))) (go_keep) (first|(go_at_call 57;refine hE.mono ?_;rintro q w2 ⟨v2,rfl,aW,an,oL,dR⟩;obtain⟨p2,m2,k2,rfl⟩:=jad aW;have hD:=jox E _ _ w'.heap.size (w'.heap.size+1) lo hi w2 aW ⟨oL (w'.heap.size,0,iv lo) (by simp),oL (w'.heap.size+1,0,iv hi) (by simp)⟩ (by omega) (by omega) dR HL.out;have jI:Hid (Bw w w2):=an;have L1:w2.cell? (ad bb 10)=some (.map (some lb)):=oL (bb,10,.map (some lb)) (by simp);have L2:w2.cell? (ad bb 11)=some (.slice a s.now.rules.length ca):=oL (bb,11,.slice a s.now.rules.length ca) (by simp);have L3:w2.cell? (ad bb 12)=some (.slice b s.now.zones.length cb):=oL (bb,12,.slice b s.now.zones.length cb) (by simp);have L4:w2.cell? (ad bb 13)=some (.slice c s.now.links.length cc):=oL (bb,13,.slice c s.now.links.length cc) (by simp);have L5:w2.cell? (ad bb 14)=some (.map (some nm)):=oL (bb,14,.map (some nm)) (by simp);clear oL aW an)|(go_at_call 56;refine hD.mono ?_;rintro q w3 ⟨v3,rfl,dE,ax⟩;obtain⟨p3,m3,k3,rfl⟩:=jad dE;have Pu:=(ax.cell (p:=(ad bb 10)) iF).trans L1;have Pv:=(ax.cell (p:=(ad bb 11)) iF).trans L2;have Pw:=(ax.cell (p:=(ad bb 12)) iF).trans L3;have Px:=(ax.cell (p:=(ad bb 13)) iF).trans L4;have Py:=(ax.cell (p:=(ad bb 14)) iF).trans L5))
 all_goals
  have po:Bw w w3:=jI.out.trans (ax.mono (by have:=hw.size;omega))
  have yN:Hid (Zb w3 w'.heap.size (.slice p3 m3 k3) E2):=by rw[HF.out]at dE;exact jaj dE (by omega)
  clear dE ax hD hE
  go_wp2
  go_ret
  exact⟨_,rfl,yN.out,po⟩
end
section
open Go.RowKit Go.Sort
def fndI(s:StoreD)(lo hi:Int):List EntryD:=if storeI s=true then entF (momF (momD s.now) lo hi) (jan s.vs)else []
theorem j2p(s:StoreD)(lo hi:Int):(fndI s lo hi).length<=s.vs.length:=by
 unfold fndI
 split
 ·exact Nat.le_trans (jep _ _) (jwf _ _)
 ·simp
theorem j2n{s:StoreD}(h:storeI s=true):(jan s.vs).length<=30:=by
 unfold storeI jov jnr at h
 simp only[bat,decide_eq_true_eq]at h
 exact h.1.2.2.2.1
theorem jww(hS:SortC)(s:StoreD)(v:Value)(lo hi:Int)(w:World)(hE:Zx w)(hv:Jd w v s)(ok:Zr s):
  Cl 7 #[v,iv lo,iv hi] w fun e w'=>∃x,e=.returned x/\Zb w' w.heap.size x (fndI s lo hi)/\Bw w w':=by
 have dQ:=hv
 obtain⟨a,b,c,d,e,f,va,ia,ca,cb,cc,cd,ce,cf,cv,ci,rfl,_,_,_,_,_,_⟩:=hv.form
 have ag:=qal w (.cells (stA s a b c d e f va ia ca cb cc cd ce cf cv ci).toArray 41)
 have A0:=Zh.new w (stA s a b c d e f va ia ca cb cc cd ce cf cv ci) 41
 have hO:=ji8 hS s _ _ (hE.of_below ag) (dQ.below ag) ok
 obtain⟨x0,x1,x2,x3,x4,x5,x6,x7,x8,x9⟩:=A0.ten
 obtain⟨tb,jj⟩:=qeb (storeI s)
 have HT:=hid jj
 clear hv dQ jj
 go_enter Tryz.func7,Tryz.ntmps7
 go_wp2_with fail
 refine hO.mono ?_
 rintro e1 w1 hP
 obtain⟨x,lD,hx⟩:=hP.ex
 rw[HT.out]at lD hx
 subst lD
 have aj:=ag.trans (hP.bel.mono ag.size)
 clear hP x0 x1 x2 x3 x4 x5 x6 x7 x8 x9 A0 hO
 cases tb
 ·clear hx
  have HF:Hid (fndI s lo hi=[]):=by simp only[Hid,fndI,HT.out];rfl
  go_wp2
  go_ret
  exact⟨_,rfl,by rw[HF.out];exact World.ownsRow_nil _ _ _ _,aj⟩
 ·obtain⟨bb,lb,n,a8,c8,rfl,hl,hM,_,_,_,_,hK⟩:=hx rfl
  have hC:=jtu hS s _ w1 bb lb n a8 c8 lo hi ok hM (j2n HT.out) hK hl
  have HF:Hid (fndI s lo hi=entF (momF (momD s.now) lo hi) (jan s.vs)):=by simp only[Hid,fndI,HT.out];rfl
  generalize entF (momF (momD s.now) lo hi) (jan s.vs)=E at *
  clear hx hK hM hl
  go_wp2_with fail
  refine hC.mono ?_
  rintro e2 w2 ⟨v2,rfl,aW,ac⟩
  obtain⟨p,m,c2,rfl⟩:=jad aW
  have an:=qtr ag ac
  go_wp2
  go_ret
  exact⟨_,rfl,by rw[HF.out];exact jaj aW aj.size,an⟩
end
end Go.Proofs.YthogmaghfiadbaaGreatDoor
