/- Packed. -/
import Derived.Test.YtckpddkjlpojlaaGreatDoorMarkStored
import Derived.Test.YtckpddkjlpojlaaGreatDoorDUd
set_option maxHeartbeats 20000000
set_option linter.unusedSimpArgs false
namespace Go.Proofs.YtckpddkjlpojlaaGreatDoor
open Go.RowKit Go.Sort
set_option maxRecDepth 20000 in
theorem walkD(s D:StoreD)(C id:Int)(v:Value)(w:World)(hv:Jd w v s)(yq:s.ok)(cg:Zx w)(wl:D.now.sz<=s.now.sz/\D.was.sz<=s.was.sz)(Pa:Zr s->Zr D)(hI:Zr s->∀v w,Zx w->Jd w v s->Cl 18 #[v,iv id] w (OutP D 0 C w))(hS:Zr s->∀v B w,OwnSt w B v s->Cl 17 #[v,iv id] w (OutM D 0 C w)):
  Cl 4 #[v,iv id] w fun e w'=>e=.returned (.bool true)/\Bw w w':=by
 have dQ:=hv
 obtain⟨a,b,c,d,e,f,va,ia,ca,cb,cc,cd,ce,cf,cv,ci,rfl,_,_,_,_,_,_⟩:=hv.form
 have ag:=qal w (.cells (stA s a b c d e f va ia ca cb cc cd ce cf cv ci).toArray 30)
 have A0:=Zh.new w (stA s a b c d e f va ia ca cb cc cd ce cf cv ci) 30
 have hZ:=jn0 s _ 1048576 _ (dQ.below ag) yq (by omega) (by omega)
 obtain⟨x0,x1,x2,x3,x4,x5,x6,x7,x8,x9⟩:=A0.ten
 by_cases g:1048576-(s.sz:Int)<0
 ·rw[jal g]at hZ
  clear g
  go_enter Tryz.func4,Tryz.ntmps4
  go_wp2_with fail
  refine hZ.mono ?_
  rintro e1 w1 ⟨rfl,hb1⟩
  go_wp2
  go_ret
  exact⟨rfl,(qtr ag hb1)⟩
 rw[jbb (by omega)]at hZ
 have ok:=yq.store (by omega)
 have hsz:s.now.sz<=1048576/\s.was.sz<=1048576:=by unfold StoreD.sz at g;omega
 have lB:=fun w h=>jnu s (.agg (stA s a b c d e f va ia ca cb cc cd ce cf cv ci).toArray) w h ok
 have Fg:=fun v w hE h=>hI ok v w hE h
 have JK:=fun v B w h=>hS ok v B w h
 have Yz:=Pa ok
 have aH:D.now.sz<=1048576:=Nat.le_trans wl.1 hsz.1
 have aF:D.was.sz<=1048576:=Nat.le_trans wl.2 hsz.2
 have Jy:=fun v v2 w h h2=>jn5 s v v2 w h h2 ok
 have Fk:=fun v B U w h hU=>jj3 s v B U w h hU hsz.1 hsz.2 ok.vl ok.xl
 have hQ:=fun a b c d e f va ia ca cb cc cd ce cf cv ci a2 b2 c2 d2 e2 f2 rG qS fJ nN nO rT rU rV rX rW w h h2=>laws_eqStoreOut D a b c d e f va ia ca cb cc cd ce cf cv ci a2 b2 c2 d2 e2 f2 rG qS fJ nN nO rT rU rV rX rW 0 C w h h2 Yz
 have g2:¬(1048576-(s.sz:Int)<0):=g
 clear g hI hS hsz wl Pa
 generalize (s.sz:Int)=sz at *
 go_enter Tryz.func4,Tryz.ntmps4
 go_wp2_with fail
 refine hZ.mono ?_
 rintro e1 w1 ⟨rfl,hb1⟩
 have aj:=qtr ag hb1
 have A1:=A0.below hb1
 clear x0 x1 x2 x3 x4 x5 x6 x7 x8 x9 hb1 A0 ag hZ
 obtain⟨x0,x1,x2,x3,x4,x5,x6,x7,x8,x9⟩:=A1.ten
 go_wp2_with fail
 refine(lB _ (dQ.below aj)).mono ?_
 rintro e2 w2 ⟨v2,rfl,aW,ac⟩
 have an:=qtr aj ac
 have A2:=A1.below ac
 clear x0 x1 x2 x3 x4 x5 x6 x7 x8 x9 ac A1 aj
 go_wp2_with fail
 refine(JK v2 _ _ aW).mono ?_
 rintro e3 wa jC
 obtain⟨Wt,Wu,Wv,Ww,Wx,Wy,Wz,WB,WC,WE,WF,WG,WH,WI,WJ,WK,rfl,eN⟩:=jC.ex
 have ar:=jC.bel
 have ba:=qal wa (.cells (outA D Wt Wu Wv Ww Wx Wy Wz WB WC WE WF WG WH WI WJ WK 0 C).toArray 45)
 have V3:=Zh.new wa (outA D Wt Wu Wv Ww Wx Wy Wz WB WC WE WF WG WH WI WJ WK 0 C) 45
 have ax:=qtr an ar
 have ax:=qtr ax ba
 have A3:=A2.below ar
 have la:w.heap.size<wa.heap.size:=qbl (A3.c 0 rfl)
 have A3:=A3.below ba
 have z3:(wa.alloc (.cells (outA D Wt Wu Wv Ww Wx Wy Wz WB WC WE WF WG WH WI WJ WK 0 C).toArray 45)).heap.size=wa.heap.size+1:=by simp
 obtain⟨w3,Oo⟩:=qeb (wa.alloc (.cells (outA D Wt Wu Wv Ww Wx Wy Wz WB WC WE WF WG WH WI WJ WK 0 C).toArray 45))
 obtain⟨pw,Pe⟩:=qeb wa.heap.size
 have HF:Hid (∀wk,Below pw wa wk->Jd wk (.agg (stA D Wt Wu Wv Ww Wx Wy Wz WB WC WE WF WG WH WI WJ WK).toArray) D):=fun wk bk=>eN wk fun k _ h2=>bk.block k (Nat.lt_of_lt_of_eq h2 Pe)
 rw[Oo]at V3 ax A3 ba z3
 rw[Pe]at V3 z3 la
 have kN:Below pw wa w3:=ba.mono (Nat.le_of_eq Pe.symm)
 clear ar A2 an aW jC eN ba
 obtain⟨x0,x1,x2,x3,x4,x5,x6,x7,x8,x9⟩:=A3.ten
 go_wp2_with fail
 have Sz:=hid Pe
 clear Oo Pe
 refine(lB _ (dQ.below ax)).mono ?_
 rintro e4 w4 ⟨v4,rfl,dX,aD⟩
 have aR:=qtr ax aD
 have A4:=A3.below aD
 have uH:=dX.st
 have mN:=kN.trans (aD.mono (Sz.out ▸ kN.size))
 have V4:=V3.below aD
 have l4:=aD.size
 obtain⟨ga,gb,gc,gd,ge,gf,gv,gx,KO,_⟩:=dX.form
 subst KO
 have Ep:=hid dX
 clear x0 x1 x2 x3 x4 x5 x6 x7 x8 x9 aD A3 ax dX kN V3
 have b5:=qal w4 (.cells (stO s ga gb gc gd ge gf gv gx).toArray 43)
 have bG:=qtr aR b5
 have A5:=A4.below b5
 have sl:=uH.below b5
 have gG:=mN.trans (b5.mono (Sz.out ▸ mN.size))
 have V5:=V4.below b5
 have X5:=Zh.new w4 (stO s ga gb gc gd ge gf gv gx) 43
 have z5:(w4.alloc (.cells (stO s ga gb gc gd ge gf gv gx).toArray 43)).heap.size=w4.heap.size+1:=by simp
 obtain⟨y0,y1,y2,y3,y4,y5,y6,y7,y8,y9⟩:=X5.ten
 clear A4 aR uH mN V4
 go_wp2_with fail
 refine(Fg _ _ (cg.of_below bG) sl).mono ?_
 rintro e6 wb jD
 obtain⟨U0,U1,U2,U3,U4,U5,U6,U7,U8,U9,Ua,Ub,Uc,Ud,Ue,Uf,rfl,uj⟩:=jD.ex
 have hb6:=jD.bel
 rw[z5]at uj
 have l6:=hb6.size
 rw[z5]at l6
 have bz:=qal wb (.cells (outA D U0 U1 U2 U3 U4 U5 U6 U7 U8 U9 Ua Ub Uc Ud Ue Uf 0 C).toArray 45)
 have hb6:=qtr hb6 bz
 have G6:=Zh.new wb (outA D U0 U1 U2 U3 U4 U5 U6 U7 U8 U9 Ua Ub Uc Ud Ue Uf 0 C) 45
 have cp:=qtr bG hb6
 have A6:=A5.below hb6
 have X6:=X5.below hb6
 have xN:=sl.below hb6
 have EH:=qtr b5 hb6
 have qM:=gG.trans (hb6.mono (Sz.out ▸ gG.size))
 have V6:=V5.below hb6
 have uj:=uj.below bz
 have z6:wb.heap.size<(wb.alloc (.cells (outA D U0 U1 U2 U3 U4 U5 U6 U7 U8 U9 Ua Ub Uc Ud Ue Uf 0 C).toArray 45)).heap.size:=by simp
 obtain⟨w6,Oq⟩:=qeb (wb.alloc (.cells (outA D U0 U1 U2 U3 U4 U5 U6 U7 U8 U9 Ua Ub Uc Ud Ue Uf 0 C).toArray 45))
 obtain⟨pg,Qp⟩:=qeb wb.heap.size
 rw[Oq]at G6 cp A6 X6 xN EH qM V6 uj z6
 rw[Qp]at G6 l6 uj z6
 clear y0 y1 y2 y3 y4 y5 y6 y7 y8 y9 hb6 A5 X5 bG sl b5 gG z5 V5 bz jD
 obtain⟨g0,g1,g2,g3,g4,g5,g6,g7,g8,g9⟩:=G6.ten
 have SL:=G6.c 10 rfl
 have SM:=G6.c 11 rfl
 obtain⟨v0,v1,v2,v3,v4,v5,v6,v7,v8,v9⟩:=V6.ten
 have v10:=V6.c 10 rfl
 have v11:=V6.c 11 rfl
 go_wp2_with fail
 clear Oq Qp g0 g1 g2 g3 g4 g5 g6 g7 g8 g9 SL SM v0 v1 v2 v3 v4 v5 v6 v7 v8 v9 v10 v11
 refine(hQ _ _ _ _ _ _ _ _ _ _ _ _ _ _ _ _ _ _ _ _ _ _ _ _ _ _ _ _ _ _ _ _ _ uj.st (HF.out _ qM)).mono ?_
 rintro e7 w7 ⟨rfl,ay⟩
 have bD:=jab w7
 have nL:=qtr ay bD
 have jr:Hid (Bw w w7.drew):=qtr cp nL
 have AD:=A6.below nL
 have XD:=X6.below nL
 have xc:=hid AD
 have xu:=hid XD
 have Ew:Hid (Jd w7.drew (.agg (stO s ga gb gc gd ge gf gv gx).toArray) s):=xN.below nL
 have rN:Hid (StC w7.drew (w4.heap.size+1) pg (.agg (stA D U0 U1 U2 U3 U4 U5 U6 U7 U8 U9 Ua Ub Uc Ud Ue Uf).toArray) D):=uj.below nL
 have Hc:Hid (Zh w7.drew pg (outA D U0 U1 U2 U3 U4 U5 U6 U7 U8 U9 Ua Ub Uc Ud Ue Uf 0 C)):=G6.below nL
 have L1:Hid (Zh w7.drew pw (outA D Wt Wu Wv Ww Wx Wy Wz WB WC WE WF WG WH WI WJ WK 0 C)):=V6.below nL
 have z7:pg<w7.drew.heap.size:=Nat.lt_of_lt_of_le z6 nL.size
 have Ez:Hid (Below pw wa w7.drew):=qM.trans (nL.mono (Sz.out ▸ qM.size))
 have DZ:Hid (Bw w4 w7.drew):=qtr EH nL
 obtain⟨x0,x1,x2,x3,x4,x5,x6,x7,x8,x9⟩:=AD.ten
 obtain⟨y0,y1,y2,y3,y4,y5,y6,y7,y8,y9⟩:=XD.ten
 have mj:=lB w7.drew (dQ.below jr.out)
 clear A6 X6 AD XD xN bD nL ay cp EH uj qM G6 V6 z6
 go_wp2_with fail
 go_region_held3 (fun w'=>w'.cell? (ad w.heap.size 0)=some (iv s.tx)/\w'.cell? (ad w.heap.size 1)=some (.slice a s.now.rules.length ca)/\w'.cell? (ad w.heap.size 2)=some (.slice b s.now.zones.length cb)/\w'.cell? (ad w.heap.size 3)=some (.slice c s.now.links.length cc)/\w'.cell? (ad w.heap.size 4)=some (.slice d s.was.rules.length cd)/\w'.cell? (ad w.heap.size 5)=some (.slice e s.was.zones.length ce)/\w'.cell? (ad w.heap.size 6)=some (.slice f s.was.links.length cf)/\w'.cell? (ad w.heap.size 7)=some (iv s.cur)/\w'.cell? (ad w.heap.size 8)=some (.slice va s.vs.length cv)/\w'.cell? (ad w.heap.size 9)=some (.slice ia s.ix.length ci)/\w'.cell? (ad w4.heap.size 0)=some (iv s.tx)/\w'.cell? (ad w4.heap.size 1)=some (so ga s.now.rules.length s.now.rules.length)/\w'.cell? (ad w4.heap.size 2)=some (so gb s.now.zones.length s.now.zones.length)/\w'.cell? (ad w4.heap.size 3)=some (so gc s.now.links.length s.now.links.length)/\w'.cell? (ad w4.heap.size 4)=some (so gd s.was.rules.length s.was.rules.length)/\w'.cell? (ad w4.heap.size 5)=some (so ge s.was.zones.length s.was.zones.length)/\w'.cell? (ad w4.heap.size 6)=some (so gf s.was.links.length s.was.links.length)/\w'.cell? (ad w4.heap.size 7)=some (iv s.cur)/\w'.cell? (ad w4.heap.size 8)=some (so gv s.vs.length s.vs.length)/\w'.cell? (ad w4.heap.size 9)=some (so gx s.ix.length s.ix.length)) (go_keep) (first|(go_at_call 9;refine mj.mono ?_;rintro e8 w8 ⟨v8,rfl,dF,qs⟩;have BC:=dF.st;clear dF;obtain⟨Lx,Ly,Lz,LA,LB,LC,LD,LE,LF,LG⟩:=(xc.out.below qs).ten;obtain⟨LK,LL,LN,LP,LQ,LR,LS,LT,LU,LV⟩:=(xu.out.below qs).ten;have Jw:=Jy _ v8 w8 (Ew.out.below qs) BC;obtain⟨a7,b7,c7,d7,e7,f7,PP,Pt,O8,Ob,Od,Oe,Of,Og,Oi,Oh,KP,_⟩:=BC.form;subst KP;clear BC)|(go_at_call 13;refine Jw.mono ?_;rintro e9 w9 ⟨rfl,bZ⟩;obtain⟨mU,rd,LW,LX,LY,LZ,M0,M3,M4,M5⟩:=((xc.out.below qs).below bZ).ten;obtain⟨De,Di,Dk,Dm,Do,Dq,Ds,Dt,Du,Dv⟩:=((xu.out.below qs).below bZ).ten))
 have oS:=qtr qs bZ
 have fS:=qtr jr.out oS
 have A9:=xc.out.below oS
 have X9:=xu.out.below oS
 have Fb:=rN.out.below oS
 have vE:=Ez.out.trans (oS.mono (Sz.out ▸ Ez.out.size))
 have z9:=Nat.lt_of_lt_of_le z7 oS.size
 have G9:=Hc.out.below oS
 have V9:=L1.out.below oS
 have za:=qtr DZ.out oS
 have FB:=Ep.out.upto l4 za
 have GD:=za.size
 clear x0 x1 x2 x3 x4 x5 x6 x7 x8 x9 y0 y1 y2 y3 y4 y5 y6 y7 y8 y9 Lx Ly Lz LA LB LC LD LE LF LG LK LL LN LP LQ LR LS LT LU LV
 clear mU rd LW LX LY LZ M0 M3 M4 M5 De Di Dk Dm Do Dq Ds Dt Du Dv
 clear z7 jr xc xu rN Ez DZ Ep Ew Hc L1 qs bZ oS za mj
 obtain⟨y0,y1,y2,y3,y4,y5,y6,y7,y8,y9⟩:=X9.ten
 go_wp2_with fail
 refine(Fk _ _ _ _ FB GD).mono ?_
 rintro Ou MF ⟨⟨K,rfl⟩,wJ⟩
 have lW:=wJ.below (fun x hx=>by have:w3.heap.size<=x/\x<w4.heap.size:=hx;omega) fS.size fS
 have DV:=A9.touch wJ (show ¬(w3.heap.size<=w.heap.size/\w.heap.size<w4.heap.size) by omega)
 have pJ:=Fb.touch wJ (fun g hg _=>by show ¬(w3.heap.size<=g/\g<w4.heap.size);omega)
 have qL:=wJ.below (B:=pw) (fun x hx=>by have:w3.heap.size<=x/\x<w4.heap.size:=hx;omega) (Sz.out ▸ vE.size) vE
 have z10:=Nat.lt_of_lt_of_le z9 wJ.size
 have WL:=G9.touch wJ (show ¬(w3.heap.size<=pg/\pg<w4.heap.size) by omega)
 have WX:=V9.touch wJ (show ¬(w3.heap.size<=pw/\pw<w4.heap.size) by omega)
 have kk:¬((K:Int)<0):=by omega
 clear wJ Fb vE A9 X9 fS FB Fk GD y0 y1 y2 y3 y4 y5 y6 y7 y8 y9 G9 V9 z9
 obtain⟨g0,g1,g2,g3,g4,g5,g6,g7,g8,g9⟩:=WL.ten
 have SL:=WL.c 10 rfl
 have SM:=WL.c 11 rfl
 obtain⟨v0,v1,v2,v3,v4,v5,v6,v7,v8,v9⟩:=WX.ten
 have v10:=WX.c 10 rfl
 have v11:=WX.c 11 rfl
 go_wp2_with fail
 clear g0 g1 g2 g3 g4 g5 g6 g7 g8 g9 SL SM v0 v1 v2 v3 v4 v5 v6 v7 v8 v9 v10 v11
 refine(hQ _ _ _ _ _ _ _ _ _ _ _ _ _ _ _ _ _ _ _ _ _ _ _ _ _ _ _ _ _ _ _ _ _ pJ.st (HF.out _ qL)).mono ?_
 rintro Ov MG ⟨rfl,ku⟩
 have pj:=qtr lW ku
 have DW:=DV.below ku
 have uh:=pJ.below ku
 have vx:=qL.trans (ku.mono (Sz.out ▸ qL.size))
 have WM:=WL.below ku
 have L5:=WX.below ku
 have z11:=Nat.lt_of_lt_of_le z10 ku.size
 clear ku lW DV pJ qL WL WX z10
 obtain⟨g0,g1,g2,g3,g4,g5,g6,g7,g8,g9⟩:=WM.ten
 have SL:=WM.c 10 rfl
 have SM:=WM.c 11 rfl
 have hK:=laws_markStoreOut D U0 U1 U2 U3 U4 U5 U6 U7 U8 U9 Ua Ub Uc Ud Ue Uf 0 C _ _ MG uh (by omega) aH aF Yz.vl Yz.xl
 have Fd:=fun w h=>laws_heldStoreOut D U0 U1 U2 U3 U4 U5 U6 U7 U8 U9 Ua Ub Uc Ud Ue Uf 0 C (w4.heap.size+1) pg w h aH aF Yz.vl Yz.xl
 have OU:(0:Int)<=((1+sc D:Nat):Int):=by omega
 generalize hd4:1+sc D=d3 at *
 clear hd4
 go_wp2_with fail
 clear g0 g1 g2 g3 g4 g5 g6 g7 g8 g9 SL SM
 refine hK.mono ?_
 rintro Ow PT ⟨rfl,rB,yr⟩
 have tS:=yr.below (fun x hx=>by have:w4.heap.size+1<=x/\x<pg:=hx;omega) pj.size pj
 have DX:=DW.touch yr (show ¬(w4.heap.size+1<=w.heap.size/\w.heap.size<pg) by omega)
 have vy:=yr.below (B:=pw) (fun x hx=>by have:w4.heap.size+1<=x/\x<pg:=hx;omega) (Sz.out ▸ vx.size) vx
 have WN:=WM.touch yr (show ¬(w4.heap.size+1<=pg/\pg<pg) by omega)
 have Lg:=L5.touch yr (show ¬(w4.heap.size+1<=pw/\pw<pg) by omega)
 clear yr uh vx DW pj hK WM L5
 obtain⟨g0,g1,g2,g3,g4,g5,g6,g7,g8,g9⟩:=WN.ten
 have SL:=WN.c 10 rfl
 have SM:=WN.c 11 rfl
 have dd:¬((d3:Int)<0):=by omega
 go_wp2_with fail
 clear g0 g1 g2 g3 g4 g5 g6 g7 g8 g9 SL SM
 refine(Fd _ rB).mono ?_
 rintro Ox PU ⟨rfl,kv⟩
 have pk:=qtr tS kv
 have DY:=DX.below kv
 have wu:=rB.below kv
 have vB:=vy.trans (kv.mono (Sz.out ▸ vy.size))
 have Ha:=WN.below kv
 have Nk:=Lg.below kv
 clear kv tS DX rB vy WN Lg
 obtain⟨x0,x1,x2,x3,x4,x5,x6,x7,x8,x9⟩:=DY.ten
 go_wp2_with fail
 refine(lB _ (dQ.below pk)).mono ?_
 rintro Oy PV ⟨v14,rfl,uy,mr⟩
 have pm:=qtr pk mr
 have ww:=wu.below mr
 have vC:=vB.trans (mr.mono (Sz.out ▸ vB.size))
 have Hb:=Ha.below mr
 have Nl:=Nk.below mr
 have uG:=uy.st
 clear mr pk DY wu vB uy Ha Nk x0 x1 x2 x3 x4 x5 x6 x7 x8 x9
 go_wp2_with fail
 refine(Fg _ _ (cg.of_below pm) uG).mono ?_
 rintro Oz wc VT
 obtain⟨JS,gZ,FL,yx,yM,yZ,BE,CJ,aX,cU,fw,FO,JX,mu,BT,CL,rfl,ui⟩:=VT.ex
 have ms:=VT.bel
 have bz:=qal wc (.cells (outA D JS gZ FL yx yM yZ BE CJ aX cU fw FO JX mu BT CL 0 C).toArray 45)
 have ms:=qtr ms bz
 have Wf:=Zh.new wc (outA D JS gZ FL yx yM yZ BE CJ aX cU fw FO JX mu BT CL 0 C) 45
 have tT:=qtr pm ms
 have wG:=ww.below ms
 have vD:=vC.trans (ms.mono (Sz.out ▸ vC.size))
 have Z1:=Hb.below ms
 have WY:=Nl.below ms
 have ws:=(ui.below bz).st
 obtain⟨PW,Xq⟩:=qeb (wc.alloc (.cells (outA D JS gZ FL yx yM yZ BE CJ aX cU fw FO JX mu BT CL 0 C).toArray 45))
 obtain⟨ph,qK⟩:=qeb wc.heap.size
 rw[Xq]at Wf tT wG vD Z1 WY ws
 rw[qK]at Wf
 clear ms pm ww vC uG ui Hb Nl bz VT
 obtain⟨g0,g1,g2,g3,g4,g5,g6,g7,g8,g9⟩:=Wf.ten
 have SL:=Wf.c 10 rfl
 have SM:=Wf.c 11 rfl
 obtain⟨v0,v1,v2,v3,v4,v5,v6,v7,v8,v9⟩:=WY.ten
 have v10:=WY.c 10 rfl
 have v11:=WY.c 11 rfl
 go_wp2_with fail
 clear Xq qK g0 g1 g2 g3 g4 g5 g6 g7 g8 g9 SL SM v0 v1 v2 v3 v4 v5 v6 v7 v8 v9 v10 v11
 refine(hQ _ _ _ _ _ _ _ _ _ _ _ _ _ _ _ _ _ _ _ _ _ _ _ _ _ _ _ _ _ _ _ _ _ ws (HF.out _ vD)).mono ?_
 rintro OA PX ⟨rfl,qr⟩
 have AU:=qtr tT qr
 have Dx:=wG.below qr
 have Z2:=Z1.below qr
 clear qr tT wG vD ws Z1 WY Wf
 obtain⟨g0,g1,g2,g3,g4,g5,g6,g7,g8,g9⟩:=Z2.ten
 have SL:=Z2.c 10 rfl
 have SM:=Z2.c 11 rfl
 go_wp2_with fail
 refine(Fd _ Dx).mono ?_
 rintro OB PY ⟨rfl,BM⟩
 go_wp2
 go_ret
 exact⟨rfl,(qtr AU BM)⟩
end Go.Proofs.YtckpddkjlpojlaaGreatDoor
namespace Go.Proofs.YtckpddkjlpojlaaGreatDoor.drop
open Go.RowKit
theorem walk(s:StoreD)(v:Value)(n:Int)(w:World)(hv:Jd w v s)(yq:s.ok)(hw:(Lit.int .i64 n).wf=true)(hT:Tab w)(gw:Mx w):
  Cl 4 #[v,iv n] w fun e w'=>e=.returned (.bool true)/\Bw w w':=
 walkD s _ _ n v w hv yq ⟨hT,gw⟩ (drop_sz s n) (fun ok=>drop_ok ok n) (fun ok v w hE h=>impl_Drop s v n w hE h ok hw) (fun ok v B w h=>drop_spec s v n B w h ok)
end Go.Proofs.YtckpddkjlpojlaaGreatDoor.drop
