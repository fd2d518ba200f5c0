import Derived.Test.YtlmgdfoiejpbcaaGreatDoorFXd
set_option maxRecDepth 20000
set_option maxHeartbeats 0
set_option linter.unusedSimpArgs false
open Go.RowKit Go.Sort
namespace Go.Proofs.YtlmgdfoiejpbcaaGreatDoor
theorem Zp.clip{w:World}{B M:Nat}{v:Value}{r:RelD}(h:Zp w B M v r):Zp w B (max B (min M w.heap.size)) v r:=by
 obtain⟨a,b,c,hv,hB,⟨u1,u2,u3⟩,fZ,h1,h2,h3,h4⟩:=h.form
 refine⟨a,b,c,hv,hB,⟨fun h=>by have:=u1 h;have:=h1.lt (by omega);omega,fun h=>by have:=u2 h;have:=h2.lt (by omega);omega,fun h=>by have:=u3 h;have:=h4.lt (by omega);omega⟩,fZ,h1,h2,fun i z hz=>?_,h4⟩
 obtain⟨q,hq,hu,c1,hr⟩:=h3 i z hz
 exact⟨q,hq,fun h=>by have:=hu h;have:=hr.lt (by omega);omega,c1,hr⟩
theorem Zq.rise{w:World}{B M d e f:Nat}{r:RelD}(h:Zq w B (.agg #[so d r.rules.length r.rules.length,so e r.zones.length r.zones.length,so f r.links.length r.links.length]) r)(h1:M<=d)(h2:M<=e)(h3:M<=f):
  Zq w M (.agg #[so d r.rules.length r.rules.length,so e r.zones.length r.zones.length,so f r.links.length r.links.length]) r:=by
 obtain⟨a,b,c,hv,_,k⟩:=h.form
 simp at hv
 obtain⟨rfl,rfl,rfl⟩:=hv
 exact⟨_,_,_,rfl,⟨h1,h2,h3⟩,k⟩
theorem Zp.touch{S:Nat->Prop}{w w':World}{B U:Nat}{v:Value}{r:RelD}(h:Zp w B U v r)(ht:Zc S w w')(hS:∀b,B<=b->¬S b):Zp w' B U v r:=by
 obtain⟨a,b,c,hv,hB,hU,fZ,h1,h2,h3,h4⟩:=h.form
 exact⟨a,b,c,hv,hB,hU,fZ,ht.room _ _ h1,ht.room _ _ h2,h3.touch ht (hS _ hB.2.1),ht.room _ _ h4⟩
theorem Zh.touch{S:Nat->Prop}{w w':World}{b:Nat}{l:List Value}(h:Zh w b l)(ht:Zc S w w')(hs:¬S b):Zh w' b l:=fun i u hu=>
 have h1:=h i u hu
 ⟨ht.cell hs h1.1,(ht.frozen (qbl h1.1) hs).trans h1.2⟩
structure OwnStU(w:World)(B U:Nat)(v:Value)(s:StoreD):Prop where
 form:∃a b c d e f va ia,v=.agg #[iv s.tx,so a s.now.rules.length s.now.rules.length,so b s.now.zones.length s.now.zones.length,so c s.now.links.length s.now.links.length,so d s.was.rules.length s.was.rules.length,so e s.was.zones.length s.was.zones.length,so f s.was.links.length s.was.links.length,iv s.cur,so va s.vs.length s.vs.length,so ia s.ix.length s.ix.length]/\
  ∃M,B<=M/\M<=U/\Zp w B M (.agg #[so a s.now.rules.length s.now.rules.length,so b s.now.zones.length s.now.zones.length,so c s.now.links.length s.now.links.length]) s.now/\
   Zp w M U (.agg #[so d s.was.rules.length s.was.rules.length,so e s.was.zones.length s.was.zones.length,so f s.was.links.length s.was.links.length]) s.was/\
   (B<=va/\(0<s.vs.length->va<U)/\Zg w va (s.vs.length*8))/\(B<=ia/\(0<s.ix.length->ia<U)/\Zg w ia (s.ix.length*2))
theorem OwnSt.upto{w w':World}{B:Nat}{v:Value}{s:StoreD}(h:OwnSt w B v s)(hB:B<=w.heap.size)(hb:Bw w w'):OwnStU w' B w.heap.size v s:=by
 obtain⟨a,b,c,d,e,f,va,ia,hv,h1,h2,⟨b3,h3,r3⟩,⟨b4,h4,r4⟩,M,hM,m1,m2,m3⟩:=h.form
 have k2:=h2
 obtain⟨a',b',c',eQ,an,_⟩:=k2.form
 simp at eQ
 obtain⟨rfl,rfl,rfl⟩:=eQ
 exact⟨a,b,c,d,e,f,va,ia,hv,_,by omega,by omega,hM.clip.below hb,(h2.rise (M:=max B (min M w.heap.size)) (by omega) (by omega) (by omega)).upto hb,⟨b3,fun h=>r3.lt (by omega),r3.below hb⟩,⟨b4,fun h=>r4.lt (by omega),r4.below hb⟩⟩
theorem jj3(s:StoreD)(v:Value)(B U:Nat)(w:World)(hv:OwnStU w B U v s)(hU:U<=w.heap.size)(h1:s.now.sz<=1048576)(h2:s.was.sz<=1048576)(CG:s.vs.length<=1048576)(de:s.ix.length<=1048576):
  Cl 10 #[v,iv 1] w fun e w'=>(∃K:Nat,e=.returned (iv (K:Int)))/\Zc (fun b=>B<=b/\b<U) w w':=by
 obtain⟨a,b,c,d,e,f,va,ia,rfl,M,OO,OR,hN,hW,⟨bv,uv,rv⟩,⟨bx,ux,rx⟩⟩:=hv.form
 have ag:=qal w (.cells (stA s (some (ad a 0)) (some (ad b 0)) (some (ad c 0)) (some (ad d 0)) (some (ad e 0)) (some (ad f 0)) (some (ad va 0)) (some (ad ia 0)) s.now.rules.length s.now.zones.length s.now.links.length s.was.rules.length s.was.zones.length s.was.links.length s.vs.length s.ix.length).toArray 42)
 have A0:=Zh.new w (stA s (some (ad a 0)) (some (ad b 0)) (some (ad c 0)) (some (ad d 0)) (some (ad e 0)) (some (ad f 0)) (some (ad va 0)) (some (ad ia 0)) s.now.rules.length s.now.zones.length s.now.links.length s.was.rules.length s.was.zones.length s.was.links.length s.vs.length s.ix.length) 42
 have az:¬(B<=w.heap.size/\w.heap.size<U):=by omega
 have q1:=fun w h hU=>jdb s.now (.agg #[so a s.now.rules.length s.now.rules.length,so b s.now.zones.length s.now.zones.length,so c s.now.links.length s.now.links.length]) 1 B M w h hU h1 (by omega) (by omega)
 have q2:=fun k w h hU hk fy=>jdb s.was (.agg #[so d s.was.rules.length s.was.rules.length,so e s.was.zones.length s.was.zones.length,so f s.was.links.length s.was.links.length]) k M U w h hU h2 hk fy
 have q3:=fun k w h h0 h1=>jgb s.vs.length va s.vs.length k w h h0 h1
 have q4:=fun k w h h0 h1=>jd7 s.ix.length ia s.ix.length k w h h0 h1
 have HN:=hid hN
 have HW:=hid hW
 have T0:Zc (fun b=>B<=b/\b<U) w _:=Zc.of_below ag
 have x1:=A0.c 1 rfl
 have x2:=A0.c 2 rfl
 have x3:=A0.c 3 rfl
 clear hN hW hv h1 h2
 unfold Cl;go_in
 go_wp2_with fail
 refine(q1 _ (HN.out.below ag) (by simp;omega)).mono ?_
 rintro e1 w1 ⟨⟨K1,rfl,k1,k2⟩,t1⟩
 have T1:=T0.trans (t1.mono (S2:=fun b=>B<=b/\b<U) fun x _ hx=>⟨hx.1,by have:=hx.2;omega⟩)
 have A1:=A0.touch t1 (fun h=>az ⟨h.1,by have:=h.2;omega⟩)
 have W1:=(HW.out.below ag).touch t1 (fun x hx h=>by have:=h.2;omega)
 have V1:=T1.room _ _ rv
 have X1:=T1.room _ _ rx
 have s1:=T1.size
 clear x1 x2 x3 A0 T0 t1 q1 HN HW ag
 have x4:=A1.c 4 rfl
 have x5:=A1.c 5 rfl
 have x6:=A1.c 6 rfl
 go_wp2_with fail
 refine(q2 K1 _ W1 (by omega) (by omega) (by omega)).mono ?_
 rintro e2 w2 ⟨⟨K2,rfl,k3,k4⟩,t2⟩
 have wL:=t2.mono (S2:=fun b=>B<=b/\b<U) fun x _ hx=>⟨by have:=hx.1;omega,hx.2⟩
 have T2:=T1.trans wL
 have A2:=A1.touch wL az
 have V2:=wL.room _ _ V1
 have X2:=wL.room _ _ X1
 clear x4 x5 x6 A1 T1 t2 wL q2 W1 V1 X1
 have x8:=A2.c 8 rfl
 go_wp2_with fail
 refine(q3 K2 _ V2 (by omega) (by omega)).mono ?_
 rintro e3 w3 ⟨rfl,_,_,t3⟩
 have sS:=t3.mono (S2:=fun b=>B<=b/\b<U) fun x _ hx=>by have e1:x=va:=hx.1;have e2:=uv hx.2;show B<=x/\x<U;omega
 have T3:=T2.trans sS
 have A3:=A2.touch sS az
 have X3:=sS.room _ _ X2
 clear x8 A2 T2 t3 sS q3 V2 X2
 have x9:=A3.c 9 rfl
 go_wp2_with fail
 refine(q4 (K2+8*s.vs.length) _ X3 (by omega) (by omega)).mono ?_
 rintro e4 w4 ⟨rfl,_,_,t4⟩
 have Ml:=t4.mono (S2:=fun b=>B<=b/\b<U) fun x _ hx=>by have e1:x=ia:=hx.1;have e2:=ux hx.2;show B<=x/\x<U;omega
 have T4:=T3.trans Ml
 go_wp2
 go_ret
 exact⟨⟨_,rfl⟩,T4⟩
theorem Jb.touch{S:Nat->Prop}{w w':World}{base:Nat}{v:Value}{L:List EventD}(h:Jb w base v L)(ht:Zc S w w')(hs:∀g,v.ownBlock=some g->¬S g):Jb w' base v L:=by
 refine⟨h.1,?_⟩
 rcases h.2 with h|⟨g,cap,cur,rfl,h1,h2,h3⟩
 ·exact .inl h
 ·refine .inr ⟨g,cap,cur,rfl,h1,?_,h3⟩
  have hl:g<w.heap.size:=(Array.getElem?_eq_some_iff.mp h2).1
  exact(ht.block g hl (hs g rfl)).trans h2
theorem walkW(z:ByteArray)(lo hi:Int)(s:StoreD)(H:List EventD)(v:Value)(w:World)(hv:Jd w v s)(yq:s.ok)(cg:Zx w)(hH:H.length<=s.vs.length)(hI:z.size<=1048576->Zr s->∀v w,Zx w->Jd w v s->Cl 7 #[v,.string z,iv lo,iv hi] w fun e w'=>∃x,e=.returned x/\Jb w' w.heap.size x H/\Bw w w')(hS:z.size<=1048576->Zr s->∀v w,Jd w v s->Cl 5 #[v,.string z,iv lo,iv hi] w fun e w'=>∃x,e=.returned x/\Jb w' w.heap.size x H/\Bw w w'):
  Cl 3 #[v,.string z,iv lo,iv hi] w fun e w'=>e=.returned (.bool true)/\Bw w w':=by
 have dQ:=hv
 obtain⟨a,b,c,d,e,f,va,ia,ca,cb,cc,cd,ce,cf,cv,ci,rfl,_,_,_,_,_,_⟩:=hv.form
 have ag:=qal w (.cells (stA s a b c d e f va ia ca cb cc cd ce cf cv ci).toArray 30)
 have A0:=Zh.new w (stA s a b c d e f va ia ca cb cc cd ce cf cv ci) 30
 have hZ:=jn0 s _ 1048576 _ (dQ.below ag) yq (by omega) (by omega)
 obtain⟨x0,x1,x2,x3,x4,x5,x6,x7,x8,x9⟩:=A0.ten
 by_cases xz:z.size<=1048576
 case neg=>
  have Gr:(1048576:Int)<(z.size:Int):=by omega
  clear hZ x0 x1 x2 x3 x4 x5 x6 x7 x8 x9 A0
  unfold Cl;go_in
  go_wp2
  go_ret
  exact⟨rfl,ag⟩
 have Gr:¬(1048576:Int)<(z.size:Int):=by omega
 have hI:=hI xz
 have hS:=hS xz
 by_cases g:1048576-(s.sz:Int)<0
 ·rw[jal g]at hZ
  clear g
  unfold Cl;go_in
  go_wp2_with fail
  refine hZ.mono ?_
  rintro e1 w1 ⟨rfl,hb1⟩
  go_wp2
  go_ret
  exact⟨rfl,(qtr ag hb1)⟩
 rw[jbb (by omega)]at hZ
 have ok:=yq.store (by omega)
 have hsz:s.now.sz<=1048576/\s.was.sz<=1048576:=by unfold StoreD.sz at g;omega
 have lB:=fun w h=>jnu s (.agg (stA s a b c d e f va ia ca cb cc cd ce cf cv ci).toArray) w h ok
 have Fg:=fun v w hE h=>hI ok v w hE h
 have JK:=fun v w h=>hS ok v w h
 have Jy:=fun v v2 w h h2=>jn5 s v v2 w h h2 ok
 have Fk:=fun v B U w h hU=>jj3 s v B U w h hU hsz.1 hsz.2 ok.vl ok.xl
 have jA:=Nat.le_trans hH ok.vl
 have hQ:=fun a a2 c c2 w h h2=>laws_eqEventS H a a2 c c2 w h h2 jA
 have g2:¬(1048576-(s.sz:Int)<0):=g
 clear g hI hS hsz
 generalize (s.sz:Int)=sz at *
 unfold Cl;go_in
 go_wp2_with fail
 refine hZ.mono ?_
 rintro e1 w1 ⟨rfl,hb1⟩
 have aj:=qtr ag hb1
 have A1:=A0.below hb1
 clear x0 x1 x2 x3 x4 x5 x6 x7 x8 x9 hb1 A0 ag hZ
 obtain⟨x0,x1,x2,x3,x4,x5,x6,x7,x8,x9⟩:=A1.ten
 go_wp2_with fail
 refine(lB _ (dQ.below aj)).mono ?_
 rintro e2 w2 ⟨v2,rfl,aW,ac⟩
 have an:=qtr aj ac
 have A2:=A1.below ac
 have qf:=aW.st
 clear x0 x1 x2 x3 x4 x5 x6 x7 x8 x9 ac A1 aj aW
 go_wp2_with fail
 refine(JK v2 _ qf).mono ?_
 rintro e3 w3 ⟨x3,rfl,qo,ar⟩
 have ax:=qtr an ar
 have A3:=A2.below ar
 have l3:=ar.size
 have lw:∀g,x3.ownBlock=some g->g<w3.heap.size:=fun g hg=>(qo.lt g hg).2
 have Si:=hid qo
 obtain⟨p3,c3,eI,kN⟩:=qo.seq
 subst eI
 clear ar A2 an qf qo
 obtain⟨x0,x1,x2,x3,x4,x5,x6,x7,x8,x9⟩:=A3.ten
 have la:w.heap.size<w3.heap.size:=qbl x0
 go_wp2_with fail
 refine(lB _ (dQ.below ax)).mono ?_
 rintro e4 w4 ⟨v4,rfl,dX,aD⟩
 have aR:=qtr ax aD
 have A4:=A3.below aD
 have uH:=dX.st
 have mN:=kN.below aD
 have l4:=aD.size
 obtain⟨ga,gb,gc,gd,ge,gf,gv,gx,KO,_⟩:=dX.form
 subst KO
 have Ep:=hid dX
 clear x0 x1 x2 x3 x4 x5 x6 x7 x8 x9 aD A3 ax dX kN
 have b5:=qal w4 (.cells (stA s (some (ad ga 0)) (some (ad gb 0)) (some (ad gc 0)) (some (ad gd 0)) (some (ad ge 0)) (some (ad gf 0)) (some (ad gv 0)) (some (ad gx 0)) s.now.rules.length s.now.zones.length s.now.links.length s.was.rules.length s.was.zones.length s.was.links.length s.vs.length s.ix.length).toArray 42)
 have bG:=qtr aR b5
 have A5:=A4.below b5
 have sl:=uH.below b5
 have gG:=mN.below b5
 have X5:=Zh.new w4 (stA s (some (ad ga 0)) (some (ad gb 0)) (some (ad gc 0)) (some (ad gd 0)) (some (ad ge 0)) (some (ad gf 0)) (some (ad gv 0)) (some (ad gx 0)) s.now.rules.length s.now.zones.length s.now.links.length s.was.rules.length s.was.zones.length s.was.links.length s.vs.length s.ix.length) 42
 have z5:(w4.alloc (.cells (stA s (some (ad ga 0)) (some (ad gb 0)) (some (ad gc 0)) (some (ad gd 0)) (some (ad ge 0)) (some (ad gf 0)) (some (ad gv 0)) (some (ad gx 0)) s.now.rules.length s.now.zones.length s.now.links.length s.was.rules.length s.was.zones.length s.was.links.length s.vs.length s.ix.length).toArray 42)).heap.size=w4.heap.size+1:=by simp
 obtain⟨y0,y1,y2,y3,y4,y5,y6,y7,y8,y9⟩:=X5.ten
 clear A4 aR uH mN
 go_wp2_with fail
 refine(Fg _ _ (cg.of_below bG) sl).mono ?_
 rintro e6 w6 ⟨x6,rfl,uj,hb6⟩
 rw[z5]at uj
 have cp:=qtr bG hb6
 have A6:=A5.below hb6
 have X6:=X5.below hb6
 have xN:=sl.below hb6
 have EH:=qtr b5 hb6
 have qM:=gG.below hb6
 have lg:∀g,x6.ownBlock=some g->w4.heap.size+1<=g:=fun g hg=>(uj.lt g hg).1
 obtain⟨p6,c6,Gp,S4⟩:=uj.seq
 subst Gp
 clear y0 y1 y2 y3 y4 y5 y6 y7 y8 y9 hb6 A5 X5 bG sl b5 gG z5
 go_wp2_with fail
 refine(hQ _ _ _ _ _ S4 qM).mono ?_
 rintro e7 w7 ⟨rfl,ay⟩
 have bD:=jab w7
 have nL:=qtr ay bD
 have jr:Hid (Bw w w7.drew):=qtr cp nL
 have AD:=A6.below nL
 have XD:=X6.below nL
 have xc:=hid AD
 have xu:=hid XD
 have Ew:Hid (Jd w7.drew (.agg (stA s (some (ad ga 0)) (some (ad gb 0)) (some (ad gc 0)) (some (ad gd 0)) (some (ad ge 0)) (some (ad gf 0)) (some (ad gv 0)) (some (ad gx 0)) s.now.rules.length s.now.zones.length s.now.links.length s.was.rules.length s.was.zones.length s.was.links.length s.vs.length s.ix.length).toArray) s):=xN.below nL
 have rN:Hid (Jb w7.drew (w4.heap.size+1) (.slice p6 H.length c6) H):=uj.below nL
 have Ez:Hid (Za w7.drew p3 6 (H.map EventD.cs)):=qM.below nL
 have DZ:Hid (Bw w4 w7.drew):=qtr EH nL
 obtain⟨x0,x1,x2,x3,x4,x5,x6,x7,x8,x9⟩:=AD.ten
 obtain⟨y0,y1,y2,y3,y4,y5,y6,y7,y8,y9⟩:=XD.ten
 have mj:=lB w7.drew (dQ.below jr.out)
 clear A6 X6 AD XD xN bD nL ay cp EH uj S4 qM
 go_wp2_with fail
 go_region_held3 (fun w'=>w'.cell? (ad w.heap.size 0)=some (iv s.tx)/\w'.cell? (ad w.heap.size 1)=some (.slice a s.now.rules.length ca)/\w'.cell? (ad w.heap.size 2)=some (.slice b s.now.zones.length cb)/\w'.cell? (ad w.heap.size 3)=some (.slice c s.now.links.length cc)/\w'.cell? (ad w.heap.size 4)=some (.slice d s.was.rules.length cd)/\w'.cell? (ad w.heap.size 5)=some (.slice e s.was.zones.length ce)/\w'.cell? (ad w.heap.size 6)=some (.slice f s.was.links.length cf)/\w'.cell? (ad w.heap.size 7)=some (iv s.cur)/\w'.cell? (ad w.heap.size 8)=some (.slice va s.vs.length cv)/\w'.cell? (ad w.heap.size 9)=some (.slice ia s.ix.length ci)/\w'.cell? (ad w4.heap.size 0)=some (iv s.tx)/\w'.cell? (ad w4.heap.size 1)=some (so ga s.now.rules.length s.now.rules.length)/\w'.cell? (ad w4.heap.size 2)=some (so gb s.now.zones.length s.now.zones.length)/\w'.cell? (ad w4.heap.size 3)=some (so gc s.now.links.length s.now.links.length)/\w'.cell? (ad w4.heap.size 4)=some (so gd s.was.rules.length s.was.rules.length)/\w'.cell? (ad w4.heap.size 5)=some (so ge s.was.zones.length s.was.zones.length)/\w'.cell? (ad w4.heap.size 6)=some (so gf s.was.links.length s.was.links.length)/\w'.cell? (ad w4.heap.size 7)=some (iv s.cur)/\w'.cell? (ad w4.heap.size 8)=some (so gv s.vs.length s.vs.length)/\w'.cell? (ad w4.heap.size 9)=some (so gx s.ix.length s.ix.length)) (go_keep) (first|(go_at_call 6;refine mj.mono ?_;rintro e8 w8 ⟨v8,rfl,dF,qs⟩;have BC:=dF.st;clear dF;obtain⟨Lx,Ly,Lz,LA,LB,LC,LD,LE,LF,LG⟩:=(xc.out.below qs).ten;obtain⟨LK,LL,LN,LP,LQ,LR,LS,LT,LU,LV⟩:=(xu.out.below qs).ten;have Jw:=Jy _ v8 w8 (Ew.out.below qs) BC;obtain⟨a7,b7,c7,d7,e7,f7,PP,Pt,O8,Ob,Od,Oe,Of,Og,Oi,Oh,KP,_⟩:=BC.form;subst KP;clear BC)|(go_at_call 9;refine Jw.mono ?_;rintro e9 w9 ⟨rfl,bZ⟩;obtain⟨mU,rd,LW,LX,LY,LZ,M0,M3,M4,M5⟩:=((xc.out.below qs).below bZ).ten;obtain⟨De,Di,Dk,Dm,Do,Dq,Ds,Dt,Du,Dv⟩:=((xu.out.below qs).below bZ).ten))
 have oS:=qtr qs bZ
 have fS:=qtr jr.out oS
 have A9:=xc.out.below oS
 have X9:=xu.out.below oS
 have Fb:=rN.out.below oS
 have vE:=Ez.out.below oS
 have za:=qtr DZ.out oS
 have FB:=Ep.out.upto l4 za
 have GD:=za.size
 clear x0 x1 x2 x3 x4 x5 x6 x7 x8 x9 y0 y1 y2 y3 y4 y5 y6 y7 y8 y9 Lx Ly Lz LA LB LC LD LE LF LG LK LL LN LP LQ LR LS LT LU LV
 clear mU rd LW LX LY LZ M0 M3 M4 M5 De Di Dk Dm Do Dq Ds Dt Du Dv
 clear jr xc xu rN Ez DZ Ep Ew Si qs bZ oS za mj
 obtain⟨y0,y1,y2,y3,y4,y5,y6,y7,y8,y9⟩:=X9.ten
 go_wp2_with fail
 refine(Fk _ _ _ _ FB GD).mono ?_
 rintro Ou MF ⟨⟨K,rfl⟩,wJ⟩
 have lW:=wJ.below (fun x hx=>by have:w3.heap.size<=x/\x<w4.heap.size:=hx;omega) fS.size fS
 have DV:=A9.touch wJ (show ¬(w3.heap.size<=w.heap.size/\w.heap.size<w4.heap.size) by omega)
 have pJ:=Fb.touch wJ (fun g hg=>by show ¬(w3.heap.size<=g/\g<w4.heap.size);have:=lg g hg;omega)
 have qL:=vE.touchV (n:=H.length) (cap:=c3) wJ (fun g hg=>by show ¬(w3.heap.size<=g/\g<w4.heap.size);have:=lw g hg;omega)
 obtain⟨pq,cq,hp,Py⟩:=pJ.seq
 injection hp with e1 e2 e3
 subst e1 e3
 have kk:¬((K:Int)<0):=by omega
 clear wJ Fb vE A9 X9 fS FB Fk GD e2 y0 y1 y2 y3 y4 y5 y6 y7 y8 y9
 go_wp2_with fail
 refine(hQ _ _ _ _ _ Py qL).mono ?_
 rintro Ov MG ⟨rfl,ku⟩
 have pj:=qtr lW ku
 have DW:=DV.below ku
 have uh:=pJ.below ku
 have vx:=qL.below ku
 clear ku lW DV pJ qL Py
 have hK:=mark_events H _ _ 1 MG uh (by omega) (by omega)
 have Fd:=fun w h=>laws_heldEventS H.length c6 1 p6 w h (by omega) (by omega)
 have OU:(0:Int)<=((1+6*H.length:Nat):Int):=by omega
 generalize hd4:1+6*H.length=d3 at *
 clear hd4
 go_wp2_with fail
 refine hK.mono ?_
 rintro Ow PT ⟨rfl,Sy,yr⟩
 obtain⟨am,cm,em,rB⟩:=Sy
 injection em with m1 m2 m3
 subst m1 m3
 have tS:=yr.below (fun x hx=>by have:=lg x hx;omega) pj.size pj
 have DX:=DW.touch yr (fun h=>by have:=lg _ h;omega)
 have vy:=vx.touchV (n:=H.length) (cap:=c3) yr (fun g hg h=>by have:=lg _ h;have:=lw g hg;omega)
 clear yr uh vx DW pj hK m2
 have dd:¬((d3:Int)<0):=by omega
 go_wp2_with fail
 refine(Fd _ rB).mono ?_
 rintro Ox PU ⟨rfl,kv⟩
 have pk:=qtr tS kv
 have DY:=DX.below kv
 have wu:=rB.below kv
 have vB:=vy.below kv
 clear kv tS DX rB vy
 obtain⟨x0,x1,x2,x3,x4,x5,x6,x7,x8,x9⟩:=DY.ten
 go_wp2_with fail
 refine(lB _ (dQ.below pk)).mono ?_
 rintro Vr VF ⟨Td,rfl,RR,wH⟩
 have Oy:=qtr pk wH
 have Tu:=wu.below wH
 have QI:=vB.below wH
 have Sz:=RR.st
 clear wH pk DY wu vB RR x0 x1 x2 x3 x4 x5 x6 x7 x8 x9
 go_wp2_with fail
 refine(Fg _ _ (cg.of_below Oy) Sz).mono ?_
 rintro Vs PW ⟨DD,rfl,ui,ms⟩
 have tT:=qtr Oy ms
 have wG:=Tu.below ms
 have vD:=QI.below ms
 obtain⟨Tb,SW,QQ,ws⟩:=ui.seq
 subst QQ
 clear ms Oy Tu QI Sz ui
 go_wp2_with fail
 refine(hQ _ _ _ _ _ ws vD).mono ?_
 rintro OA PX ⟨rfl,qr⟩
 have AU:=qtr tT qr
 have Dx:=wG.below qr
 clear qr tT wG vD ws
 go_wp2_with fail
 refine(Fd _ Dx).mono ?_
 rintro OB PY ⟨rfl,BM⟩
 go_wp2
 go_ret
 exact⟨rfl,(qtr AU BM)⟩
