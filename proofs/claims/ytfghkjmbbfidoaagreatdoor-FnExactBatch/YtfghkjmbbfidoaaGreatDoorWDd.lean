import Derived.Test.YtfghkjmbbfidoaaGreatDoorBMd
set_option maxRecDepth 20000
set_option maxHeartbeats 0
set_option linter.unusedSimpArgs false
open Go.RowKit Go.Sort
namespace Go.Proofs.YtfghkjmbbfidoaaGreatDoor
theorem Zp.clip{w:World}{B M:Nat}{v:Value}{r:RelD}(h:Zp w B M v r):Zp w B (max B (min M w.heap.size)) v r:=by
 obtain⟨a,b,c,hv,hB,⟨u1,u2,u3⟩,fZ,h1,h2,h3,h4⟩:=h.form
 refine⟨a,b,c,hv,hB,⟨fun h=>by have:=u1 h;have:=h1.lt (by omega);omega,fun h=>by have:=u2 h;have:=h2.lt (by omega);omega,fun h=>by have:=u3 h;have:=h4.lt (by omega);omega⟩,fZ,h1,h2,fun i z hz=>?_,h4⟩
 obtain⟨q,hq,hu,c1,hr⟩:=h3 i z hz
 exact⟨q,hq,fun h=>by have:=hu h;have:=hr.lt (by omega);omega,c1,hr⟩
theorem Zq.rise{w:World}{B M d e f:Nat}{r:RelD}(h:Zq w B (.agg #[so d r.rules.length r.rules.length,so e r.zones.length r.zones.length,so f r.links.length r.links.length]) r)(h1:M<=d)(h2:M<=e)(h3:M<=f):
  Zq w M (.agg #[so d r.rules.length r.rules.length,so e r.zones.length r.zones.length,so f r.links.length r.links.length]) r:=by
 obtain⟨a,b,c,hv,_,k⟩:=h.form
 simp at hv
 obtain⟨rfl,rfl,rfl⟩:=hv
 exact⟨_,_,_,rfl,⟨h1,h2,h3⟩,k⟩
theorem Zp.touch{S:Nat->Prop}{w w':World}{B U:Nat}{v:Value}{r:RelD}(h:Zp w B U v r)(ht:Zc S w w')(hS:∀b,B<=b->¬S b):Zp w' B U v r:=by
 obtain⟨a,b,c,hv,hB,hU,fZ,h1,h2,h3,h4⟩:=h.form
 exact⟨a,b,c,hv,hB,hU,fZ,ht.room _ _ h1,ht.room _ _ h2,h3.touch ht (hS _ hB.2.1),ht.room _ _ h4⟩
theorem Zh.touch{S:Nat->Prop}{w w':World}{b:Nat}{l:List Value}(h:Zh w b l)(ht:Zc S w w')(hs:¬S b):Zh w' b l:=fun i u hu=>
 have h1:=h i u hu
 ⟨ht.cell hs h1.1,(ht.frozen (qbl h1.1) hs).trans h1.2⟩
structure OwnStU(w:World)(B U:Nat)(v:Value)(s:StoreD):Prop where
 form:∃a b c d e f va ia,v=.agg #[iv s.tx,so a s.now.rules.length s.now.rules.length,so b s.now.zones.length s.now.zones.length,so c s.now.links.length s.now.links.length,so d s.was.rules.length s.was.rules.length,so e s.was.zones.length s.was.zones.length,so f s.was.links.length s.was.links.length,iv s.cur,so va s.vs.length s.vs.length,so ia s.ix.length s.ix.length]/\
  ∃M,B<=M/\M<=U/\Zp w B M (.agg #[so a s.now.rules.length s.now.rules.length,so b s.now.zones.length s.now.zones.length,so c s.now.links.length s.now.links.length]) s.now/\
   Zp w M U (.agg #[so d s.was.rules.length s.was.rules.length,so e s.was.zones.length s.was.zones.length,so f s.was.links.length s.was.links.length]) s.was/\
   (B<=va/\(0<s.vs.length->va<U)/\Zg w va (s.vs.length*8))/\(B<=ia/\(0<s.ix.length->ia<U)/\Zg w ia (s.ix.length*2))
theorem OwnSt.upto{w w':World}{B:Nat}{v:Value}{s:StoreD}(h:OwnSt w B v s)(hB:B<=w.heap.size)(hb:Bw w w'):OwnStU w' B w.heap.size v s:=by
 obtain⟨a,b,c,d,e,f,va,ia,hv,h1,h2,⟨b3,h3,r3⟩,⟨b4,h4,r4⟩,M,hM,m1,m2,m3⟩:=h.form
 have k2:=h2
 obtain⟨a',b',c',eQ,an,_⟩:=k2.form
 simp at eQ
 obtain⟨rfl,rfl,rfl⟩:=eQ
 exact⟨a,b,c,d,e,f,va,ia,hv,_,by omega,by omega,hM.clip.below hb,(h2.rise (M:=max B (min M w.heap.size)) (by omega) (by omega) (by omega)).upto hb,⟨b3,fun h=>r3.lt (by omega),r3.below hb⟩,⟨b4,fun h=>r4.lt (by omega),r4.below hb⟩⟩
theorem jj3(s:StoreD)(v:Value)(B U:Nat)(w:World)(hv:OwnStU w B U v s)(hU:U<=w.heap.size)(h1:s.now.sz<=1048576)(h2:s.was.sz<=1048576)(CG:s.vs.length<=1048576)(de:s.ix.length<=1048576):
  Cl 10 #[v,iv 1] w fun e w'=>(∃K:Nat,e=.returned (iv (K:Int)))/\Zc (fun b=>B<=b/\b<U) w w':=by
 obtain⟨a,b,c,d,e,f,va,ia,rfl,M,OO,OR,hN,hW,⟨bv,uv,rv⟩,⟨bx,ux,rx⟩⟩:=hv.form
 have ag:=qal w (.cells (stA s (some (ad a 0)) (some (ad b 0)) (some (ad c 0)) (some (ad d 0)) (some (ad e 0)) (some (ad f 0)) (some (ad va 0)) (some (ad ia 0)) s.now.rules.length s.now.zones.length s.now.links.length s.was.rules.length s.was.zones.length s.was.links.length s.vs.length s.ix.length).toArray 40)
 have A0:=Zh.new w (stA s (some (ad a 0)) (some (ad b 0)) (some (ad c 0)) (some (ad d 0)) (some (ad e 0)) (some (ad f 0)) (some (ad va 0)) (some (ad ia 0)) s.now.rules.length s.now.zones.length s.now.links.length s.was.rules.length s.was.zones.length s.was.links.length s.vs.length s.ix.length) 40
 have az:¬(B<=w.heap.size/\w.heap.size<U):=by omega
 have q1:=fun w h hU=>jdb s.now (.agg #[so a s.now.rules.length s.now.rules.length,so b s.now.zones.length s.now.zones.length,so c s.now.links.length s.now.links.length]) 1 B M w h hU h1 (by omega) (by omega)
 have q2:=fun k w h hU hk fy=>jdb s.was (.agg #[so d s.was.rules.length s.was.rules.length,so e s.was.zones.length s.was.zones.length,so f s.was.links.length s.was.links.length]) k M U w h hU h2 hk fy
 have q3:=fun k w h h0 h1=>jgb s.vs.length va s.vs.length k w h h0 h1
 have q4:=fun k w h h0 h1=>jd7 s.ix.length ia s.ix.length k w h h0 h1
 have HN:=hid hN
 have HW:=hid hW
 have T0:Zc (fun b=>B<=b/\b<U) w _:=Zc.of_below ag
 have x1:=A0.c 1 rfl
 have x2:=A0.c 2 rfl
 have x3:=A0.c 3 rfl
 clear hN hW hv h1 h2
 unfold Cl;go_in
 go_wp2_with fail
 refine(q1 _ (HN.out.below ag) (by simp;omega)).mono ?_
 rintro e1 w1 ⟨⟨K1,rfl,k1,k2⟩,t1⟩
 have T1:=T0.trans (t1.mono (S2:=fun b=>B<=b/\b<U) fun x _ hx=>⟨hx.1,by have:=hx.2;omega⟩)
 have A1:=A0.touch t1 (fun h=>az ⟨h.1,by have:=h.2;omega⟩)
 have W1:=(HW.out.below ag).touch t1 (fun x hx h=>by have:=h.2;omega)
 have V1:=T1.room _ _ rv
 have X1:=T1.room _ _ rx
 have s1:=T1.size
 clear x1 x2 x3 A0 T0 t1 q1 HN HW ag
 have x4:=A1.c 4 rfl
 have x5:=A1.c 5 rfl
 have x6:=A1.c 6 rfl
 go_wp2_with fail
 refine(q2 K1 _ W1 (by omega) (by omega) (by omega)).mono ?_
 rintro e2 w2 ⟨⟨K2,rfl,k3,k4⟩,t2⟩
 have wL:=t2.mono (S2:=fun b=>B<=b/\b<U) fun x _ hx=>⟨by have:=hx.1;omega,hx.2⟩
 have T2:=T1.trans wL
 have A2:=A1.touch wL az
 have V2:=wL.room _ _ V1
 have X2:=wL.room _ _ X1
 clear x4 x5 x6 A1 T1 t2 wL q2 W1 V1 X1
 have x8:=A2.c 8 rfl
 go_wp2_with fail
 refine(q3 K2 _ V2 (by omega) (by omega)).mono ?_
 rintro e3 w3 ⟨rfl,_,_,t3⟩
 have sS:=t3.mono (S2:=fun b=>B<=b/\b<U) fun x _ hx=>by have e1:x=va:=hx.1;have e2:=uv hx.2;show B<=x/\x<U;omega
 have T3:=T2.trans sS
 have A3:=A2.touch sS az
 have X3:=sS.room _ _ X2
 clear x8 A2 T2 t3 sS q3 V2 X2
 have x9:=A3.c 9 rfl
 go_wp2_with fail
 refine(q4 (K2+8*s.vs.length) _ X3 (by omega) (by omega)).mono ?_
 rintro e4 w4 ⟨rfl,_,_,t4⟩
 have Ml:=t4.mono (S2:=fun b=>B<=b/\b<U) fun x _ hx=>by have e1:x=ia:=hx.1;have e2:=ux hx.2;show B<=x/\x<U;omega
 have T4:=T3.trans Ml
 go_wp2
 go_ret
 exact⟨⟨_,rfl⟩,T4⟩
theorem walkB(s D:StoreD)(M C id:Int)(v:Value)(w:World)(hv:Jd w v s)(yq:s.ok)(cg:Zx w)(wl:D.now.sz<=s.now.sz/\D.was.sz<=s.was.sz)(Pa:Zr s->Zr D)(hI:Zr s->∀v w,Zx w->Jd w v s->Cl 7 #[v,iv id] w (OutP D M C w))(hS:Zr s->∀v B w,OwnSt w B v s->Cl 5 #[v,iv id] w (OutM D M C w)):
  Cl 3 #[v,iv id] w fun e w'=>e=.returned (.bool true)/\Bw w w':=by
 have dQ:=hv
 obtain⟨a,b,c,d,e,f,va,ia,ca,cb,cc,cd,ce,cf,cv,ci,rfl,_,_,_,_,_,_⟩:=hv.form
 have ag:=qal w (.cells (stA s a b c d e f va ia ca cb cc cd ce cf cv ci).toArray 30)
 have A0:=Zh.new w (stA s a b c d e f va ia ca cb cc cd ce cf cv ci) 30
 have hZ:=jn0 s _ 1048576 _ (dQ.below ag) yq (by omega) (by omega)
 obtain⟨x0,x1,x2,x3,x4,x5,x6,x7,x8,x9⟩:=A0.ten
 by_cases g:1048576-(s.sz:Int)<0
 ·rw[jal g]at hZ
  clear g
  unfold Cl;go_in
  go_wp2_with fail
  refine hZ.mono ?_
  rintro e1 w1 ⟨rfl,hb1⟩
  go_wp2
  go_ret
  exact⟨rfl,(qtr ag hb1)⟩
 rw[jbb (by omega)]at hZ
 have ok:=yq.store (by omega)
 have hsz:s.now.sz<=1048576/\s.was.sz<=1048576:=by unfold StoreD.sz at g;omega
 have lB:=fun w h=>jnu s (.agg (stA s a b c d e f va ia ca cb cc cd ce cf cv ci).toArray) w h ok
 have Fg:=fun v w hE h=>hI ok v w hE h
 have JK:=fun v B w h=>hS ok v B w h
 have Yz:=Pa ok
 have aH:D.now.sz<=1048576:=Nat.le_trans wl.1 hsz.1
 have aF:D.was.sz<=1048576:=Nat.le_trans wl.2 hsz.2
 have Jy:=fun v v2 w h h2=>jn5 s v v2 w h h2 ok
 have Fk:=fun v B U w h hU=>jj3 s v B U w h hU hsz.1 hsz.2 ok.vl ok.xl
 have hQ:=fun a b c d e f va ia ca cb cc cd ce cf cv ci a2 b2 c2 d2 e2 f2 rG qS fJ nN nO rT rU rV rX rW w h h2=>laws_eqStoreOut D a b c d e f va ia ca cb cc cd ce cf cv ci a2 b2 c2 d2 e2 f2 rG qS fJ nN nO rT rU rV rX rW M C w h h2 Yz
 have g2:¬(1048576-(s.sz:Int)<0):=g
 clear g hI hS hsz wl Pa
 generalize (s.sz:Int)=sz at *
 unfold Cl;go_in
 go_wp2_with fail
 refine hZ.mono ?_
 rintro e1 w1 ⟨rfl,hb1⟩
 have aj:=qtr ag hb1
 have A1:=A0.below hb1
 clear x0 x1 x2 x3 x4 x5 x6 x7 x8 x9 hb1 A0 ag hZ
 obtain⟨x0,x1,x2,x3,x4,x5,x6,x7,x8,x9⟩:=A1.ten
 go_wp2_with fail
 refine(lB _ (dQ.below aj)).mono ?_
 rintro e2 w2 ⟨v2,rfl,aW,ac⟩
 have an:=qtr aj ac
 have A2:=A1.below ac
 clear x0 x1 x2 x3 x4 x5 x6 x7 x8 x9 ac A1 aj
 go_wp2_with fail
 refine(JK v2 _ _ aW).mono ?_
 rintro e3 wa jC
 obtain⟨Wt,Wu,Wv,Ww,Wx,Wy,Wz,WB,WC,WE,WF,WG,WH,WI,WJ,WK,rfl,eN⟩:=jC.ex
 have ar:=jC.bel
 have ba:=qal wa (.cells (outA D Wt Wu Wv Ww Wx Wy Wz WB WC WE WF WG WH WI WJ WK M C).toArray 42)
 have V3:=Zh.new wa (outA D Wt Wu Wv Ww Wx Wy Wz WB WC WE WF WG WH WI WJ WK M C) 42
 have ax:=qtr an ar
 have ax:=qtr ax ba
 have A3:=A2.below ar
 have la:w.heap.size<wa.heap.size:=qbl (A3.c 0 rfl)
 have A3:=A3.below ba
 have z3:(wa.alloc (.cells (outA D Wt Wu Wv Ww Wx Wy Wz WB WC WE WF WG WH WI WJ WK M C).toArray 42)).heap.size=wa.heap.size+1:=by simp
 obtain⟨w3,UU⟩:=qeb (wa.alloc (.cells (outA D Wt Wu Wv Ww Wx Wy Wz WB WC WE WF WG WH WI WJ WK M C).toArray 42))
 obtain⟨pw,Pe⟩:=qeb wa.heap.size
 have HF:Hid (∀wk,Below pw wa wk->Jd wk (.agg (stA D Wt Wu Wv Ww Wx Wy Wz WB WC WE WF WG WH WI WJ WK).toArray) D):=fun wk bk=>eN wk fun k _ h2=>bk.block k (Nat.lt_of_lt_of_eq h2 Pe)
 rw[UU]at V3 ax A3 ba z3
 rw[Pe]at V3 z3 la
 have kN:Below pw wa w3:=ba.mono (Nat.le_of_eq Pe.symm)
 clear ar A2 an aW jC eN ba
 obtain⟨x0,x1,x2,x3,x4,x5,x6,x7,x8,x9⟩:=A3.ten
 go_wp2_with fail
 have Hb:=hid Pe
 clear UU Pe
 refine(lB _ (dQ.below ax)).mono ?_
 rintro e4 w4 ⟨v4,rfl,dX,aD⟩
 have aR:=qtr ax aD
 have A4:=A3.below aD
 have uH:=dX.st
 have mN:=kN.trans (aD.mono (Hb.out ▸ kN.size))
 have V4:=V3.below aD
 have l4:=aD.size
 obtain⟨ga,gb,gc,gd,ge,gf,gv,gx,KO,_⟩:=dX.form
 subst KO
 have Ep:=hid dX
 clear x0 x1 x2 x3 x4 x5 x6 x7 x8 x9 aD A3 ax dX kN V3
 have b5:=qal w4 (.cells (stO s ga gb gc gd ge gf gv gx).toArray 40)
 have bG:=qtr aR b5
 have A5:=A4.below b5
 have sl:=uH.below b5
 have gG:=mN.trans (b5.mono (Hb.out ▸ mN.size))
 have V5:=V4.below b5
 have X5:=Zh.new w4 (stO s ga gb gc gd ge gf gv gx) 40
 have z5:(w4.alloc (.cells (stO s ga gb gc gd ge gf gv gx).toArray 40)).heap.size=w4.heap.size+1:=by simp
 obtain⟨y0,y1,y2,y3,y4,y5,y6,y7,y8,y9⟩:=X5.ten
 clear A4 aR uH mN V4
 go_wp2_with fail
 refine(Fg _ _ (cg.of_below bG) sl).mono ?_
 rintro e6 wb jD
 obtain⟨U0,U1,U2,U3,U4,U5,U6,U7,U8,U9,Ua,Ub,Uc,Ud,Ue,Uf,rfl,uj⟩:=jD.ex
 have hb6:=jD.bel
 rw[z5]at uj
 have l6:=hb6.size
 rw[z5]at l6
 have bz:=qal wb (.cells (outA D U0 U1 U2 U3 U4 U5 U6 U7 U8 U9 Ua Ub Uc Ud Ue Uf M C).toArray 42)
 have hb6:=qtr hb6 bz
 have G6:=Zh.new wb (outA D U0 U1 U2 U3 U4 U5 U6 U7 U8 U9 Ua Ub Uc Ud Ue Uf M C) 42
 have cp:=qtr bG hb6
 have A6:=A5.below hb6
 have X6:=X5.below hb6
 have xN:=sl.below hb6
 have EH:=qtr b5 hb6
 have qM:=gG.trans (hb6.mono (Hb.out ▸ gG.size))
 have V6:=V5.below hb6
 have uj:=uj.below bz
 have z6:wb.heap.size<(wb.alloc (.cells (outA D U0 U1 U2 U3 U4 U5 U6 U7 U8 U9 Ua Ub Uc Ud Ue Uf M C).toArray 42)).heap.size:=by simp
 obtain⟨w6,UV⟩:=qeb (wb.alloc (.cells (outA D U0 U1 U2 U3 U4 U5 U6 U7 U8 U9 Ua Ub Uc Ud Ue Uf M C).toArray 42))
 obtain⟨pg,Vc⟩:=qeb wb.heap.size
 rw[UV]at G6 cp A6 X6 xN EH qM V6 uj z6
 rw[Vc]at G6 l6 uj z6
 clear y0 y1 y2 y3 y4 y5 y6 y7 y8 y9 hb6 A5 X5 bG sl b5 gG z5 V5 bz jD
 obtain⟨g0,g1,g2,g3,g4,g5,g6,g7,g8,g9⟩:=G6.ten
 have SL:=G6.c 10 rfl
 have SM:=G6.c 11 rfl
 obtain⟨v0,v1,v2,v3,v4,v5,v6,v7,v8,v9⟩:=V6.ten
 have v10:=V6.c 10 rfl
 have v11:=V6.c 11 rfl
 go_wp2_with fail
 clear UV Vc g0 g1 g2 g3 g4 g5 g6 g7 g8 g9 SL SM v0 v1 v2 v3 v4 v5 v6 v7 v8 v9 v10 v11
 refine(hQ _ _ _ _ _ _ _ _ _ _ _ _ _ _ _ _ _ _ _ _ _ _ _ _ _ _ _ _ _ _ _ _ _ uj.st (HF.out _ qM)).mono ?_
 rintro e7 w7 ⟨rfl,ay⟩
 have bD:=jab w7
 have nL:=qtr ay bD
 have jr:Hid (Bw w w7.drew):=qtr cp nL
 have AD:=A6.below nL
 have XD:=X6.below nL
 have xc:=hid AD
 have xu:=hid XD
 have Ew:Hid (Jd w7.drew (.agg (stO s ga gb gc gd ge gf gv gx).toArray) s):=xN.below nL
 have rN:Hid (StC w7.drew (w4.heap.size+1) pg (.agg (stA D U0 U1 U2 U3 U4 U5 U6 U7 U8 U9 Ua Ub Uc Ud Ue Uf).toArray) D):=uj.below nL
 have Hc:Hid (Zh w7.drew pg (outA D U0 U1 U2 U3 U4 U5 U6 U7 U8 U9 Ua Ub Uc Ud Ue Uf M C)):=G6.below nL
 have L1:Hid (Zh w7.drew pw (outA D Wt Wu Wv Ww Wx Wy Wz WB WC WE WF WG WH WI WJ WK M C)):=V6.below nL
 have z7:pg<w7.drew.heap.size:=Nat.lt_of_lt_of_le z6 nL.size
 have Ez:Hid (Below pw wa w7.drew):=qM.trans (nL.mono (Hb.out ▸ qM.size))
 have DZ:Hid (Bw w4 w7.drew):=qtr EH nL
 obtain⟨x0,x1,x2,x3,x4,x5,x6,x7,x8,x9⟩:=AD.ten
 obtain⟨y0,y1,y2,y3,y4,y5,y6,y7,y8,y9⟩:=XD.ten
 have mj:=lB w7.drew (dQ.below jr.out)
 clear A6 X6 AD XD xN bD nL ay cp EH uj qM G6 V6 z6
 go_wp2_with fail
 go_region_held3 (fun w'=>w'.cell? (ad w.heap.size 0)=some (iv s.tx)/\w'.cell? (ad w.heap.size 1)=some (.slice a s.now.rules.length ca)/\w'.cell? (ad w.heap.size 2)=some (.slice b s.now.zones.length cb)/\w'.cell? (ad w.heap.size 3)=some (.slice c s.now.links.length cc)/\w'.cell? (ad w.heap.size 4)=some (.slice d s.was.rules.length cd)/\w'.cell? (ad w.heap.size 5)=some (.slice e s.was.zones.length ce)/\w'.cell? (ad w.heap.size 6)=some (.slice f s.was.links.length cf)/\w'.cell? (ad w.heap.size 7)=some (iv s.cur)/\w'.cell? (ad w.heap.size 8)=some (.slice va s.vs.length cv)/\w'.cell? (ad w.heap.size 9)=some (.slice ia s.ix.length ci)/\w'.cell? (ad w4.heap.size 0)=some (iv s.tx)/\w'.cell? (ad w4.heap.size 1)=some (so ga s.now.rules.length s.now.rules.length)/\w'.cell? (ad w4.heap.size 2)=some (so gb s.now.zones.length s.now.zones.length)/\w'.cell? (ad w4.heap.size 3)=some (so gc s.now.links.length s.now.links.length)/\w'.cell? (ad w4.heap.size 4)=some (so gd s.was.rules.length s.was.rules.length)/\w'.cell? (ad w4.heap.size 5)=some (so ge s.was.zones.length s.was.zones.length)/\w'.cell? (ad w4.heap.size 6)=some (so gf s.was.links.length s.was.links.length)/\w'.cell? (ad w4.heap.size 7)=some (iv s.cur)/\w'.cell? (ad w4.heap.size 8)=some (so gv s.vs.length s.vs.length)/\w'.cell? (ad w4.heap.size 9)=some (so gx s.ix.length s.ix.length)) (go_keep) (first|(go_at_call 6;refine mj.mono ?_;rintro e8 w8 ⟨v8,rfl,dF,qs⟩;have BC:=dF.st;clear dF;obtain⟨Lx,Ly,Lz,LA,LB,LC,LD,LE,LF,LG⟩:=(xc.out.below qs).ten;obtain⟨LK,LL,LN,LP,LQ,LR,LS,LT,LU,LV⟩:=(xu.out.below qs).ten;have Jw:=Jy _ v8 w8 (Ew.out.below qs) BC;obtain⟨a7,b7,c7,d7,e7,f7,PP,Pt,O8,Ob,Od,Oe,Of,Og,Oi,Oh,KP,_⟩:=BC.form;subst KP;clear BC)|(go_at_call 9;refine Jw.mono ?_;rintro e9 w9 ⟨rfl,bZ⟩;obtain⟨mU,rd,LW,LX,LY,LZ,M0,M3,M4,M5⟩:=((xc.out.below qs).below bZ).ten;obtain⟨De,Di,Dk,Dm,Do,Dq,Ds,Dt,Du,Dv⟩:=((xu.out.below qs).below bZ).ten))
 have oS:=qtr qs bZ
 have fS:=qtr jr.out oS
 have A9:=xc.out.below oS
 have X9:=xu.out.below oS
 have Fb:=rN.out.below oS
 have vE:=Ez.out.trans (oS.mono (Hb.out ▸ Ez.out.size))
 have z9:=Nat.lt_of_lt_of_le z7 oS.size
 have G9:=Hc.out.below oS
 have V9:=L1.out.below oS
 have za:=qtr DZ.out oS
 have FB:=Ep.out.upto l4 za
 have GD:=za.size
 clear x0 x1 x2 x3 x4 x5 x6 x7 x8 x9 y0 y1 y2 y3 y4 y5 y6 y7 y8 y9 Lx Ly Lz LA LB LC LD LE LF LG LK LL LN LP LQ LR LS LT LU LV
 clear mU rd LW LX LY LZ M0 M3 M4 M5 De Di Dk Dm Do Dq Ds Dt Du Dv
 clear z7 jr xc xu rN Ez DZ Ep Ew Hc L1 qs bZ oS za mj
 obtain⟨y0,y1,y2,y3,y4,y5,y6,y7,y8,y9⟩:=X9.ten
 go_wp2_with fail
 refine(Fk _ _ _ _ FB GD).mono ?_
 rintro Ou MF ⟨⟨K,rfl⟩,wJ⟩
 have lW:=wJ.below (fun x hx=>by have:w3.heap.size<=x/\x<w4.heap.size:=hx;omega) fS.size fS
 have DV:=A9.touch wJ (show ¬(w3.heap.size<=w.heap.size/\w.heap.size<w4.heap.size) by omega)
 have pJ:=Fb.touch wJ (fun g hg _=>by show ¬(w3.heap.size<=g/\g<w4.heap.size);omega)
 have qL:=wJ.below (B:=pw) (fun x hx=>by have:w3.heap.size<=x/\x<w4.heap.size:=hx;omega) (Hb.out ▸ vE.size) vE
 have z10:=Nat.lt_of_lt_of_le z9 wJ.size
 have WL:=G9.touch wJ (show ¬(w3.heap.size<=pg/\pg<w4.heap.size) by omega)
 have WX:=V9.touch wJ (show ¬(w3.heap.size<=pw/\pw<w4.heap.size) by omega)
 have kk:¬((K:Int)<0):=by omega
 clear wJ Fb vE A9 X9 fS FB Fk GD y0 y1 y2 y3 y4 y5 y6 y7 y8 y9 G9 V9 z9
 obtain⟨g0,g1,g2,g3,g4,g5,g6,g7,g8,g9⟩:=WL.ten
 have SL:=WL.c 10 rfl
 have SM:=WL.c 11 rfl
 obtain⟨v0,v1,v2,v3,v4,v5,v6,v7,v8,v9⟩:=WX.ten
 have v10:=WX.c 10 rfl
 have v11:=WX.c 11 rfl
 go_wp2_with fail
 clear g0 g1 g2 g3 g4 g5 g6 g7 g8 g9 SL SM v0 v1 v2 v3 v4 v5 v6 v7 v8 v9 v10 v11
 refine(hQ _ _ _ _ _ _ _ _ _ _ _ _ _ _ _ _ _ _ _ _ _ _ _ _ _ _ _ _ _ _ _ _ _ pJ.st (HF.out _ qL)).mono ?_
 rintro Ov MG ⟨rfl,ku⟩
 have pj:=qtr lW ku
 have DW:=DV.below ku
 have uh:=pJ.below ku
 have vx:=qL.trans (ku.mono (Hb.out ▸ qL.size))
 have WM:=WL.below ku
 have L5:=WX.below ku
 have z11:=Nat.lt_of_lt_of_le z10 ku.size
 clear ku lW DV pJ qL WL WX z10
 obtain⟨g0,g1,g2,g3,g4,g5,g6,g7,g8,g9⟩:=WM.ten
 have SL:=WM.c 10 rfl
 have SM:=WM.c 11 rfl
 have hK:=laws_markStoreOut D U0 U1 U2 U3 U4 U5 U6 U7 U8 U9 Ua Ub Uc Ud Ue Uf M C _ _ MG uh (by omega) aH aF Yz.vl Yz.xl
 have Fd:=fun w h=>laws_heldStoreOut D U0 U1 U2 U3 U4 U5 U6 U7 U8 U9 Ua Ub Uc Ud Ue Uf M C (w4.heap.size+1) pg w h aH aF Yz.vl Yz.xl
 have OU:(0:Int)<=((1+sc D:Nat):Int):=by omega
 generalize hd4:1+sc D=d3 at *
 clear hd4
 go_wp2_with fail
 clear g0 g1 g2 g3 g4 g5 g6 g7 g8 g9 SL SM
 refine hK.mono ?_
 rintro Ow PT ⟨rfl,rB,yr⟩
 have tS:=yr.below (fun x hx=>by have:w4.heap.size+1<=x/\x<pg:=hx;omega) pj.size pj
 have DX:=DW.touch yr (show ¬(w4.heap.size+1<=w.heap.size/\w.heap.size<pg) by omega)
 have vy:=yr.below (B:=pw) (fun x hx=>by have:w4.heap.size+1<=x/\x<pg:=hx;omega) (Hb.out ▸ vx.size) vx
 have WN:=WM.touch yr (show ¬(w4.heap.size+1<=pg/\pg<pg) by omega)
 have Lg:=L5.touch yr (show ¬(w4.heap.size+1<=pw/\pw<pg) by omega)
 clear yr uh vx DW pj hK WM L5
 obtain⟨g0,g1,g2,g3,g4,g5,g6,g7,g8,g9⟩:=WN.ten
 have SL:=WN.c 10 rfl
 have SM:=WN.c 11 rfl
 have dd:¬((d3:Int)<0):=by omega
 go_wp2_with fail
 clear g0 g1 g2 g3 g4 g5 g6 g7 g8 g9 SL SM
 refine(Fd _ rB).mono ?_
 rintro Ox PU ⟨rfl,kv⟩
 have pk:=qtr tS kv
 have DY:=DX.below kv
 have wu:=rB.below kv
 have vB:=vy.trans (kv.mono (Hb.out ▸ vy.size))
 have Ha:=WN.below kv
 have Nk:=Lg.below kv
 clear kv tS DX rB vy WN Lg
 obtain⟨x0,x1,x2,x3,x4,x5,x6,x7,x8,x9⟩:=DY.ten
 go_wp2_with fail
 refine(lB _ (dQ.below pk)).mono ?_
 rintro Vr VF ⟨v14,rfl,RR,wH⟩
 have Oy:=qtr pk wH
 have Tu:=wu.below wH
 have QI:=vB.trans (wH.mono (Hb.out ▸ vB.size))
 have UF:=Ha.below wH
 have UM:=Nk.below wH
 have Sz:=RR.st
 clear wH pk DY wu vB RR Ha Nk x0 x1 x2 x3 x4 x5 x6 x7 x8 x9
 go_wp2_with fail
 refine(Fg _ _ (cg.of_below Oy) Sz).mono ?_
 rintro Vs wc Qp
 obtain⟨JS,gZ,FL,yx,yM,yZ,BE,CJ,aX,cU,fw,FO,JX,mu,BT,CL,rfl,ui⟩:=Qp.ex
 have ms:=Qp.bel
 have bz:=qal wc (.cells (outA D JS gZ FL yx yM yZ BE CJ aX cU fw FO JX mu BT CL M C).toArray 42)
 have ms:=qtr ms bz
 have Wf:=Zh.new wc (outA D JS gZ FL yx yM yZ BE CJ aX cU fw FO JX mu BT CL M C) 42
 have tT:=qtr Oy ms
 have wG:=Tu.below ms
 have vD:=QI.trans (ms.mono (Hb.out ▸ QI.size))
 have Z1:=UF.below ms
 have WY:=UM.below ms
 have ws:=(ui.below bz).st
 obtain⟨PW,Rm⟩:=qeb (wc.alloc (.cells (outA D JS gZ FL yx yM yZ BE CJ aX cU fw FO JX mu BT CL M C).toArray 42))
 obtain⟨ph,qK⟩:=qeb wc.heap.size
 rw[Rm]at Wf tT wG vD Z1 WY ws
 rw[qK]at Wf
 clear ms Oy Tu QI Sz ui UF UM bz Qp
 obtain⟨g0,g1,g2,g3,g4,g5,g6,g7,g8,g9⟩:=Wf.ten
 have SL:=Wf.c 10 rfl
 have SM:=Wf.c 11 rfl
 obtain⟨v0,v1,v2,v3,v4,v5,v6,v7,v8,v9⟩:=WY.ten
 have v10:=WY.c 10 rfl
 have v11:=WY.c 11 rfl
 go_wp2_with fail
 clear Rm qK g0 g1 g2 g3 g4 g5 g6 g7 g8 g9 SL SM v0 v1 v2 v3 v4 v5 v6 v7 v8 v9 v10 v11
 refine(hQ _ _ _ _ _ _ _ _ _ _ _ _ _ _ _ _ _ _ _ _ _ _ _ _ _ _ _ _ _ _ _ _ _ ws (HF.out _ vD)).mono ?_
 rintro OA PX ⟨rfl,qr⟩
 have AU:=qtr tT qr
 have Dx:=wG.below qr
 have Z2:=Z1.below qr
 clear qr tT wG vD ws Z1 WY Wf
 obtain⟨g0,g1,g2,g3,g4,g5,g6,g7,g8,g9⟩:=Z2.ten
 have SL:=Z2.c 10 rfl
 have SM:=Z2.c 11 rfl
 go_wp2_with fail
 refine(Fd _ Dx).mono ?_
 rintro OB PY ⟨rfl,BM⟩
 go_wp2
 go_ret
 exact⟨rfl,(qtr AU BM)⟩
end Go.Proofs.YtfghkjmbbfidoaaGreatDoor
namespace Go.Proofs.YtfghkjmbbfidoaaGreatDoor.batch
open Go.RowKit
theorem walk(s:StoreD)(v:Value)(n:Int)(w:World)(hv:Jd w v s)(yq:s.ok)(hT:Tab w)(gw:Mx w):
  Cl 3 #[v,iv n] w fun e w'=>e=.returned (.bool true)/\Bw w w':=
 walkB s _ _ _ n v w hv yq ⟨hT,gw⟩ (bat_sz s n) (fun ok=>bat_ok ok n) (fun ok v w hE h=>impl_Batch s v n w hE h ok) (fun ok v B w h=>bat_spec s v n B w h ok)
