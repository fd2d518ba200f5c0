import Derived.Test.YtbbgeelamjmgaaaGreatDoorPAd
set_option maxRecDepth 100000
set_option maxHeartbeats 0
set_option linter.unusedSimpArgs false
namespace Go.Proofs.YtbbgeelamjmgaaaGreatDoor
variable{w:World}{s:ZP}
section
open Go.RowKit Go.Lib Go.Sort
theorem vcq(s:ZP)(v:Value)(w:World)(hv:Jd w v s)(ok:Zr s):C 10 #[v] w λe w'=>e=V (.bool (wZ s))/\Bw w w':=by
 have h:=jh8 s v w hv ok;rw[jkt]at h;exact h
theorem vb9{B:Nat}{v:Value}{L:List Ze}(h:Jb w B v L):∃p c,v=U p L.length c/\Za w p 6 (L.map Ze.cs):=by
 obtain⟨p,c,rfl⟩:=vao h;exact⟨p,c,rfl,(vbC h (λ_=>rfl)).1⟩
theorem vcJ{b o k i j:Nat}{rows:List (List Value)}{r:List Value}{c:Value}(h:Za w (some (O b o)) k rows)(hi:rows[i]? =some r)(hj:r[j]? =some c):w.cell? (O b (o+i*k+j))=some c:=by
 have⟨b',o',he,hc⟩:=h.at hi;cases he
 exact hc j c hj
theorem vfC(s t:ZP)(v1 v2:Value)(id:Int)(has:Bool)(ev:Ze)(w:World)(hE:Zx w)(h1:Jd w v1 s)(h2:Jd w v2 t)(TD:Zr s)(kS:Zr t)(hs:wZ s=true)(ht:wZ t=true)(hl:(ZJ s.vs).length<=30)(hlt:(ZJ t.vs).length<=30)(hid:has=true->ev.id=id)(hL:ZJ t.vs=vdq has ev (vaK (ZJ s.vs) id)):
  C 12 #[v1,v2,J id,.bool has,ev.v] w λe w'=>e=V (.bool true)/\Bw w w':=by
 have k1:=h1;have k2:=h2;obtain⟨a1,a2,a3,a4,a5,a6,a8,a9,c1,c2,c3,c4,c5,c6,c8,c9,rfl,_,_,_,_,_,_⟩:=h1.form;obtain⟨b1,b2,b3,b4,b5,b6,b8,b9,d1,d2,d3,d4,d5,d6,d8,d9,rfl,_,_,_,_,_,_⟩:=h2.form;have⟨w2,gH,B2,A2,T2,z2⟩:=vb3 w (stA s a1 a2 a3 a4 a5 a6 a8 a9 c1 c2 c3 c4 c5 c6 c8 c9) (stA t b1 b2 b3 b4 b5 b6 b8 b9 d1 d2 d3 d4 d5 d6 d8 d9) 31 31;have Vf:∀i,i=(ZJ s.vs).length->vcj has ev (vbS has id ev (ZJ s.vs) i)=ZJ t.vs:=λi hi=>(vgY (jhr _) hid hi).trans hL.symm
 have Uw:=ZE Vf;clear Vf hL hid h1 h2;obtain⟨e1,e2,e3,e4,e5,e6⟩:=ev;simp only[Ze.v];have b3:=ZA w2 (G #[J e1,I e2,I e3,J e4,J e5,J e6] 33);have E3:=Zh.new w2 [J e1,I e2,I e3,J e4,J e5,J e6] 33;have A3:=A2.below b3;have T3:=T2.below b3;have B3:=Zp B2 b3;rw[z2]at E3;have⟨w3,gm⟩:=ZL (w2.alloc (G #[J e1,I e2,I e3,J e4,J e5,J e6] 33));have z3:w3.heap.size=w.heap.size+1+1+1:=by rw[<- gm];simp[z2]
 replace E3:Zh w3 (w.heap.size+1+1) [J e1,I e2,I e3,J e4,J e5,J e6]:=by rw[<- gm];exact E3
 rw[gm]at A3 T3 B3;clear b3 A2 T2 B2;have b4:=ZA w3 (G #[] 33);have O4:=ja5 w3 33 6;have A4:=A3.below b4;have B4:=Zp B3 b4;have⟨w4,yj⟩:=ZL (w3.alloc (G #[] 33));have z4:w4.heap.size=w3.heap.size+1:=by rw[<- yj];simp
 rw[yj]at b4 O4 A4 B4;have us:=vga s _ w4 (k1.below B4) λW h=>vcq s _ W h TD
 have Uk:=ZE (λW (h:Bw w3 W)=>vfo j29 t _ W (hE.of_below (Zp B3 h)) (k2.below (Zp B3 h)) kS);rw[if_pos hs]at us;rw[if_pos ht]at Uk;have⟨x0,x1,x2,x3,x4,x5,x6,x7,x8,x9⟩:=A4.ZS;clear A3 A4 k1 k2 TD hs ht;unfold C;go_in;go_wp2_with fail;clear gH gm yj;refine us.mono ?_;rintro q w5 ⟨x5,rfl,fe,b5⟩;have Vr:=λk hk=>(World.ownsRow.lt fe k hk)
 obtain⟨pm,cm,rfl,R5⟩:=vb9 fe
 have I5:BuI w3 pm (ZJ s.vs) [] w5 w3.heap.size 0 0:=⟨uZ O4 b5,rfl,R5,λa ha=>by
  have:=Vr a.block (by rw[ha];rfl)
  exact⟨Q,this.2⟩,(Zp b4 b5)⟩
 rw[z3]at I5;clear us fe R5 O4 b4 b5 B4 Vr x0 x1 x2 x3 x4 x5 x6 x7 x8 x9;have VE:=ZE (jhr (l:=s.vs) s.vs.length);have Gx:=ZE hlt;generalize ZJ t.vs=LT at *;change Hid ((ZJ s.vs).Pairwise _)at VE;generalize ZJ s.vs=vMM at *;have⟨n,hn⟩:=ZL vMM.length;have HN:=ZE hn;rw[hn]at hl ⊢;clear hn;go_wp2;go_loopw [11,13,14] (λM6 Dg kY wr=>∃(i m g c:Nat) (L:List Ze) (pb:Bool),i<=n/\m<=2*i/\kY=J i/\Dg=.bool pb/\M6=so g m c/\Hid (vbS has id ⟨e1,e2,e3,e4,e5,e6⟩ vMM i=(L,pb))/\BuI w3 pm vMM L wr g m c) (λ_ _ kY _=>n-(intOf kY).toNat)
 .exact⟨0,0,_,0,[],false,Q,Q,rfl,rfl,rfl,rfl,I5⟩
 ·
  have⟨wa,dS⟩:=wL wr;subst dS;obtain⟨i,m,g,c,L,pb,hin,P8,rfl,rfl,rfl,HK,hI⟩:=hrel;have f0:=(E3.below hI.ZB).c 0 rfl;have f1:=(E3.below hI.ZB).c 1 rfl;have f2:=(E3.below hI.ZB).c 2 rfl;have f3:=(E3.below hI.ZB).c 3 rfl;have f4:=(E3.below hI.ZB).c 4 rfl;have f5:=(E3.below hI.ZB).c 5 rfl;by_cases hlt:i<n
  case neg=>
   have a1:¬(i:Int)<(n:Int):=Q;obtain rfl:i=n:=Q;have HF:Hid (vcj has ⟨e1,e2,e3,e4,e5,e6⟩ (L,pb)=LT):=by
    simp only[Hid];rw[<- HK.out];exact Uw.out _ HN.out.symm
   clear Uw HK I5;cases has<;>cases pb
   case' true.false=>
    have HF:Hid (L++[⟨e1,e2,e3,e4,e5,e6⟩]=LT):=HF;go_wp2_with (first|(at_builtin;refine hI.push ⟨e1,e2,e3,e4,e5,e6⟩ Q rfl _ _ rfl rfl rfl ?_)|fail);clear hI;intro g c W hI
   case' false.false=>have HF:Hid (L=LT):=HF
   case' false.true=>have HF:Hid (L=LT):=HF
   case' true.true=>have HF:Hid (L=LT):=HF
   all_goals
    have⟨x0,x1,x2,x3,x4,x5,x6,x7,x8,x9⟩:=(T3.below hI.ZB).ZS;have jB:=Uk.out _ hI.ZB;clear f0 f1 f2 f3 f4 f5 Uk;go_wp2_with fail;refine jB.mono ?_;rintro q w7 ⟨x7,rfl,cj,b7⟩;obtain⟨p7,c7,rfl,R7⟩:=vb9 cj;have hQ:=hI.seq.below b7;rw[HF.out]at hQ;have au:=hI.len;rw[HF.out]at au;have HB:=ZE (B3.trans ((hI.ZB.trans (b7.mono hI.ZB.size)).mono B3.size));rw[au];have i9:=Gx.out;clear hI cj jB x0 x1 x2 x3 x4 x5 x6 x7 x8 x9 HF;go_wp2_with fail;refine(vdw LT _ _ _ _ _ w7 (by exact R7) (by exact hQ) au Q).mono ?_;rintro q w8 ⟨rfl,b8⟩;have Vy:=ZE (Zp HB.out b8);go_wp2;go_ret;exact⟨rfl,Vy.out⟩
  case pos=>
   have a1:(i:Int)<(n:Int):=Q;have a0:(0:Int)<=(i:Int):=Q;obtain⟨x,hx⟩:∃v,vMM[i]? =some v:=⟨_,ZV (by have:=HN.out;omega)⟩;have HS:=ZE (vgW (has:=has) (id:=id) (e:=⟨e1,e2,e3,e4,e5,e6⟩) hx);rw[HK.out]at HS;obtain⟨bm,om,rfl,_⟩:=hI.row.at (i:=i) (r:=x.cs) (by rw[Z8,hx];rfl);have HR:Hid (∀(W:World) (g m c:Nat) (L:List Ze),BuI w3 (some (O bm om)) vMM L W g m c->W.cell? (O bm (om+i*6))=some (J x.id)/\W.cell? (O bm (om+i*6+1))=some (I x.name)/\W.cell? (O bm (om+i*6+1+1))=some (I x.YZ)/\W.cell? (O bm (om+i*6+1+1+1))=some (J x.YV)/\W.cell? (O bm (om+i*6+1+1+1+1))=some (J x.Zz)/\W.cell? (O bm (om+i*6+1+1+1+1+1))=some (J x.Zu)):=λW g m c L h=>by
    have hr:(vMM.map Ze.cs)[i]? =some x.cs:=by rw[Z8,hx];rfl
    exact⟨vcJ h.row hr (j:=0) rfl,vcJ h.row hr (j:=1) rfl,vcJ h.row hr (j:=2) rfl,vcJ h.row hr (j:=3) rfl,vcJ h.row hr (j:=4) rfl,vcJ h.row hr (j:=5) rfl⟩
   clear hx HK Uw Uk I5 T3;by_cases hA:(has&& !pb&&decide (id<=x.id))=true
   case pos=>
    simp only[vB,Bool.not_eq_true',decide_eq_true_eq]at hA;obtain⟨⟨rfl,rfl⟩,K7⟩:=hA;have jM:Hid (vbS true id ⟨e1,e2,e3,e4,e5,e6⟩ vMM (i+1)=if x.id=id then(L++[⟨e1,e2,e3,e4,e5,e6⟩],true)else(L++[⟨e1,e2,e3,e4,e5,e6⟩,x],true)):=by
     simp only[Hid];rw[HS.out];unfold vbp;simp[K7]
    have c0:=(HR.out _ _ _ _ _ hI).1;have hd:decide (id<=x.id)=true:=rT K7;clear HS K7;go_wp2_with (first|(at_builtin;refine hI.push ⟨e1,e2,e3,e4,e5,e6⟩ Q rfl _ _ rfl rfl rfl ?_)|fail);clear hI c0 f0 f1 f2 f3 f4 f5 hd;intro g c W hI;have⟨c0,c1,c2,c3,c4,c5⟩:=HR.out _ _ _ _ _ hI;clear HR;by_cases hq:x.id=id
    case pos=>
     have hq1:(x.id != id)=false:=by simp[hq]
     have HQ:=ZE hq;clear hq c1 c2 c3 c4 c5;go_wp2;go_roundw
     .exact⟨i+1,m+1,g,c,_,true,Q,Q,RP,rfl,rfl,jM.out.trans (if_pos HQ.out),hI⟩
     .simp[intOf];omega
    case neg=>
     have hq1:(x.id != id)=true:=by simp[hq]
     have HQ:=ZE hq;clear hq;go_wp2_with (first|(at_builtin;refine hI.push x Q rfl _ _ rfl rfl rfl ?_)|fail);clear hI c0 c1 c2 c3 c4 c5;intro g c W hI;go_wp2;go_roundw
     .exact⟨i+1,m+1+1,g,c,_,true,Q,Q,RP,rfl,rfl,jM.out.trans (if_neg HQ.out),hI⟩
     .simp[intOf];omega
   case neg=>
    have jM:Hid (vbS has id ⟨e1,e2,e3,e4,e5,e6⟩ vMM (i+1)=if x.id=id then(L,pb)else(L++[x],pb)):=by
     simp only[Hid];rw[HS.out];unfold vbp;rw[if_neg hA]
    have⟨c0,c1,c2,c3,c4,c5⟩:=HR.out _ _ _ _ _ hI;clear HS HR f0 f1 f2 f3 f4 f5;have hd:has=true->pb=false->decide (id<=x.id)=false:=λh1 h2=>by
     subst h1 h2
     simpa using hA
    clear hA;cases has<;>cases pb
    case' true.false=>replace hd:=hd rfl rfl
    case' false.false=>clear hd
    case' false.true=>clear hd
    case' true.true=>clear hd
    all_goals
     by_cases hq:x.id=id
     case pos=>
      have hq1:(x.id != id)=false:=by simp[hq]
      have HQ:=ZE hq;clear hq c1 c2 c3 c4 c5;go_wp2;go_roundw
      .exact⟨i+1,m,g,c,_,_,Q,Q,RP,rfl,rfl,jM.out.trans (if_pos HQ.out),hI⟩
      .simp[intOf];omega
     case neg=>
      have hq1:(x.id != id)=true:=by simp[hq]
      have HQ:=ZE hq;clear hq;go_wp2_with (first|(at_builtin;refine hI.push x Q rfl _ _ rfl rfl rfl ?_)|fail);clear hI c0 c1 c2 c3 c4 c5;intro g c W hI;go_wp2;go_roundw
      .exact⟨i+1,m+1,g,c,_,_,Q,Q,RP,rfl,rfl,jM.out.trans (if_neg HQ.out),hI⟩
      .simp[intOf];omega
end
section
open Go.RowKit Go.Lib Go.Sort
theorem vfD(s t:ZP)(v1 v2:Value)(w:World)(hE:Zx w)(h1:Jd w v1 s)(h2:Jd w v2 t)(TD:Zr s)(kS:Zr t)(h0:0<=s.tx)(h9:s.tx<=900000)(hp:∀x,0<=x->x<=s.tx->aoL t x=aoL s x):
  C 11 #[v1,v2] w λe w'=>e=V (.bool true)/\Bw w w':=by
 have k1:=h1;have k2:=h2;obtain⟨a1,a2,a3,a4,a5,a6,a8,a9,c1,c2,c3,c4,c5,c6,c8,c9,rfl,_,_,_,_,_,_⟩:=h1.form;obtain⟨b1,b2,b3,b4,b5,b6,b8,b9,d1,d2,d3,d4,d5,d6,d8,d9,rfl,_,_,_,_,_,_⟩:=h2.form;have⟨w0,KR,B0,A0,T0,_⟩:=vb3 w (stA s a1 a2 a3 a4 a5 a6 a8 a9 c1 c2 c3 c4 c5 c6 c8 c9) (stA t b1 b2 b3 b4 b5 b6 b8 b9 d1 d2 d3 d4 d5 d6 d8 d9) 31 31;have⟨hf,Vm⟩:=ZL (s.tx / 2);have q1:s.tx.tdiv 2=hf:=by rw[Int.tdiv_eq_ediv_of_nonneg h0];exact Vm
 have q2:IntKind.i64.wrap hf=hf:=by rw[IntKind.wrap_i64];omega
 have Ut:=ZE (λW (h:Bw w0 W)=>vfm j29 t _ hf W (hE.of_below (Zp B0 h)) (k2.below (Zp B0 h)) kS);have Uu:=ZE (λW (h:Bw w0 W)=>vfm j29 t _ s.tx W (hE.of_below (Zp B0 h)) (k2.below (Zp B0 h)) kS);have uK:=ZE (λW (h:Bw w0 W)=>vf8 s _ hf W (k1.below (Zp B0 h)) λW h=>vcq s _ W h TD);have jM:=ZE (λW (h:Bw w0 W)=>vf8 s _ s.tx W (k1.below (Zp B0 h)) λW h=>vcq s _ W h TD);rw[hp hf Q Q]at Ut;rw[hp s.tx h0 (Int.le_refl _)]at Uu;have g1:=veR s hf;have g2:=veR s s.tx;have g3:=TD.vl;generalize aoL s hf=L1 at *;generalize aoL s s.tx=L2 at *;have⟨n1,iO⟩:=ZL L1.length;have⟨n2,gF⟩:=ZL L2.length;have vd:n1<=1048576:=Q;have fG:n2<=1048576:=Q;have qA:∀(x c:Value) (W:World),(Instr.field 78 (.agg #[x,c]) 0).run Tryz.prog W=.ok x W:=λ_ _ _=>RG
 unfold AsP at Ut Uu uK jM;have⟨x0,x1,x2,x3,x4,x5,x6,x7,x8,x9⟩:=A0.ZS;clear h1 h2 k1 k2 TD kS hp g1 g2 g3 Vm;unfold C;go_in;go_wp2_with fail;clear KR x0 x1 x2 x3 x4 x5 x6 x7 x8 x9;have BD:=rW w0;have⟨x0,x1,x2,x3,x4,x5,x6,x7,x8,x9⟩:=(A0.below BD).ZS;have⟨t0,t1,t2,t3,t4,t5,t6,t7,t8,t9⟩:=(T0.below BD).ZS
 go_region_held3 (λw'=>w'.cell? (O w.heap.size 0)=some (J s.tx)/\w'.cell? (O w.heap.size 1)=some (U a1 s.YT.Vv.length c1)/\w'.cell? (O w.heap.size 2)=some (U a2 s.YT.YU.length c2)/\w'.cell? (O w.heap.size 3)=some (U a3 s.YT.YW.length c3)/\w'.cell? (O w.heap.size 4)=some (U a4 s.YS.Vv.length c4)/\w'.cell? (O w.heap.size 5)=some (U a5 s.YS.YU.length c5)/\w'.cell? (O w.heap.size 6)=some (U a6 s.YS.YW.length c6)/\w'.cell? (O w.heap.size 7)=some (J s.cur)/\w'.cell? (O w.heap.size 8)=some (U a8 s.vs.length c8)/\w'.cell? (O w.heap.size 9)=some (U a9 s.ix.length c9)/\w'.cell? (O (w.heap.size+1) 0)=some (J t.tx)/\w'.cell? (O (w.heap.size+1) 1)=some (U b1 t.YT.Vv.length d1)/\w'.cell? (O (w.heap.size+1) 2)=some (U b2 t.YT.YU.length d2)/\w'.cell? (O (w.heap.size+1) 3)=some (U b3 t.YT.YW.length d3)/\w'.cell? (O (w.heap.size+1) 4)=some (U b4 t.YS.Vv.length d4)/\w'.cell? (O (w.heap.size+1) 5)=some (U b5 t.YS.YU.length d5)/\w'.cell? (O (w.heap.size+1) 6)=some (U b6 t.YS.YW.length d6)/\w'.cell? (O (w.heap.size+1) 7)=some (J t.cur)/\w'.cell? (O (w.heap.size+1) 8)=some (U b8 t.vs.length d8)/\w'.cell? (O (w.heap.size+1) 9)=some (U b9 t.ix.length d9)) (go_keep) ((first|(go_at_call 7;refine(vdw L2 p4 p5 n2 j4 j5 _ (R4.below Ma) R5 gF fG).mono ?_;rintro q w6 ⟨rfl,C7⟩;have B6:Bw w0 w6:=Zp B5 C7;have⟨TE,TF,TG,TH,TI,TJ,TK,TL,TM,TO⟩:=(A0.below B6).ZS;have⟨UM,UN,UO,UP,UQ,UR,Yg,Yh,Yi,Yj⟩:=(T0.below B6).ZS)|(go_at_call 36;refine(jM.out _ B4).mono ?_;rintro q w5 ⟨x5,rfl,fe,Ma⟩;obtain⟨p5,j5,rfl,R5⟩:=vb9 fe;rw[gF];have B5:Bw w0 w5:=Zp B4 Ma;have⟨WN,WO,WP,WQ,WR,WS,WT,WU,WV,WW⟩:=(A0.below B5).ZS;have⟨Y5,Y7,Y8,Y9,Ya,Yb,Yc,Yd,Ye,Yf⟩:=(T0.below B5).ZS)|(go_at_call 35;refine(Uu.out _ B3).mono ?_;rintro q w4 ⟨x4,rfl,dX,M5⟩;obtain⟨p4,j4,rfl,R4⟩:=vb9 dX;rw[gF];have B4:Bw w0 w4:=Zp B3 M5;have⟨WB,WC,WE,WF,WG,WH,WI,WJ,WK,WM⟩:=(A0.below B4).ZS;have⟨XS,XT,XU,XW,XX,XY,XZ,Y0,Y1,Y2⟩:=(T0.below B4).ZS)|(go_at_call 7;refine(vdw L1 p1 p2 n1 j1 j2 _ (R1.below Va) R2 iO vd).mono ?_;rintro q w3 ⟨rfl,yf⟩;have B3:Bw w0 w3:=Zp B2 yf;have⟨Wq,Wr,Ws,Wt,Wu,Wv,Ww,Wx,Wy,Wz⟩:=(A0.below B3).ZS;have⟨XI,XJ,XK,XL,XM,XN,XO,XP,XQ,XR⟩:=(T0.below B3).ZS)|(go_at_call 36;refine(uK.out _ B1).mono ?_;rintro q w2 ⟨x2,rfl,aW,Va⟩;obtain⟨p2,j2,rfl,R2⟩:=vb9 aW;rw[iO];have B2:Bw w0 w2:=Zp B1 Va;have⟨Wg,Wh,Wi,Wj,Wk,Wl,Wm,Wn,Wo,Wp⟩:=(A0.below B2).ZS;have⟨Xy,Xz,XA,XB,XC,XD,XE,XF,XG,XH⟩:=(T0.below B2).ZS)|(go_at_call 35;refine(Ut.out _ BD).mono ?_;rintro q w1 ⟨x1,rfl,dW,VH⟩;obtain⟨p1,j1,rfl,R1⟩:=vb9 dW;rw[iO];have B1:Bw w0 w1:=Zp BD VH;have⟨VZ,W9,Wa,DN,No,Wb,Wc,Wd,We,Wf⟩:=(A0.below B1).ZS;have⟨Xq,rM,Xr,Xs,Xt,Xu,Xv,DR,Xw,Xx⟩:=(T0.below B1).ZS)|fail))
 all_goals
  have HB:=ZE (Zp B0 B6);go_wp2;go_ret;exact⟨rfl,HB.out⟩
end
section
open Go.RowKit Go.Lib Go.Sort
theorem vib(s:ZP)(v:Value)(e:Ze)(w:World)(hv:Jd w v s)(ok:Zr s)(m1:e.name.size<=maxLen)(m2:e.YZ.size<=maxLen):
  C 6 #[v,e.v] w (vcv (vaU s e).1 0 (vaU s e).2 w):=by
 rw[<- vfT];refine vgb s v e w hv ok m1 m2 (λh=>?_) (λh he=>⟨⟨m1,m2⟩,λx hx=>?_⟩)
 .have R:=vag h
  exact⟨R.YT,R.YS,R.vl,R.tx,R.ll⟩
 .rcases vdB hx with rfl|hx
  .exact jhs he
  .exact(vag h).ev hx
theorem vhc(s:ZP)(v:Value)(id:Int)(w:World)(hv:Jd w v s)(ok:Zr s):
  C 16 #[v,J id] w (vcv (vaB s id).1 0 (vaB s id).2 w):=by
 rw[<- vhb];refine vf9 s v id w hv ok (λh=>?_) (λh e he=>⟨?_,λx hx=>(vag h).ev (vc5 hx)⟩)
 .have R:=vag h
  exact⟨R.YT,R.YS,R.vl,R.tx,R.ll⟩
 .obtain⟨u,hu,rfl⟩:=jl5 he
  exact ok.vs u hu
theorem vfl{n:Int}(h0:0<=n)(h1:n<=1000001):(Lit.int .i64 n).wf=true:=by
 have a:IntKind.min .i64<=n:=Int.le_trans RN h0;have b:n<=IntKind.max .i64:=Int.le_trans h1 RN
 show(decide _&&decide _)=true
 rw[rT a,rT b];rfl
structure veK(s t:ZP)(id:Int)(has:Bool)(e:Ze):Prop where
 ok:Zr t
 rs:wZ s=true
 rt:wZ t=true
 t0:0<=s.tx
 t9:s.tx<=900000
 past:∀x,0<=x->x<=s.tx->aoL t x=aoL s x
 l1:(ZJ s.vs).length<=30
 l2:(ZJ t.vs).length<=30
 live:ZJ t.vs=vdq has e (vaK (ZJ s.vs) id)
 his:(va7 t.vs id).length=(va7 s.vs id).length+1
theorem vh8{e:Ze}(ok:Zr s)(m1:e.name.size<=maxLen)(m2:e.YZ.size<=maxLen)(h:(vaU s e).2=0):veK s (vaU s e).1 e.id true e:=by
 have⟨hs,ht,hr⟩:=vh9 h;have R:=vag ((jkt s).trans hs);have R2:=vag ((jkt (Ou s e false)).trans hr);rw[ht];exact⟨(vdn ok R.vl ⟨m1,m2⟩).1,hs,hr,R.tx.1,R.tx.2,λx h0 h1=>vfO hs hr h0 h1,R.ll,R2.ll,vfH _ _ _,vfk s e false⟩
theorem vg9{id:Int}(ok:Zr s)(h:(vaB s id).2=0)(e0:Ze):veK s (vaB s id).1 id false e0:=by
 obtain⟨e,rfl,hs,ht,hr⟩:=vha h;have R:=vag ((jkt s).trans hs);have R2:=vag ((jkt (Ou s e true)).trans hr);rw[ht];have hv:(Gu (s.tx+1) true e).ok:=by
  have hm:e∈ZJ s.vs:=by
   have h2:=h;unfold vaB at h2 ht;rw[if_pos hs]at h2 ht;cases hf:AY s.vs e.id with
   |none=>rw[hf]at h2;cases h2
   |some y=>
    rw[hf]at h2 ht;simp only at h2 ht;split at h2
    .cases h2
    .rename_i hx
     rw[if_neg hx]at ht;have VT:=congrArg ZP.vs ht;have VO:Gu (s.tx+1) true y=Gu (s.tx+1) true e:=by
      have:s.vs++[Gu (s.tx+1) true y]=s.vs++[Gu (s.tx+1) true e]:=VT
      simpa using this
     have hy:y=e:=by
      have:=congrArg ZN.ev VO;exact this
     subst hy;exact va8.mpr hf
  obtain⟨u,hu,rfl⟩:=jl5 hm;exact ok.vs u hu
 exact⟨(vdn ok R.vl hv).1,hs,hr,R.tx.1,R.tx.2,λx h0 h1=>vfO hs hr h0 h1,R.ll,R2.ll,vfF _ _ _,vfk s e true⟩
end
section
open Go.RowKit Go.Lib Go.Sort
theorem vcE{b:ByteArray}(h:b.size<=100):b.size<=maxLen:=Nat.le_trans h (by unfold maxLen;omega)
theorem vic(a0:Option Addr)(gQ Iu:Nat)(a1:Option Addr)(gV aC:Nat)(w:World)(h0:gQ<=1048576)(h1:gV<=1048576)(r0:vbn w a0 gQ)(r1:vbn w a1 gV)(cg:Zx w):
  C 3 #[U a0 gQ Iu,U a1 gV aC] w λe w'=>e=V (.bool true)/\Bw w w':=by
 have g0:¬(1048576:Int)<(gQ:Int):=Q;have g1:¬(1048576:Int)<(gV:Int):=Q;have hD:=vg8 a0 gQ Iu w r0 h0;have qA:∀(u0 u1 u2 u3 u4 u5 u6 u7 u8 u9 Ln Vx:Value) (W:World),(Instr.field 37 (.agg #[u0,u1,u2,u3,u4,u5,u6,u7,u8,u9,Ln,Vx]) 2).run Tryz.prog W=.ok Vx W:=λ_ _ _ _ _ _ _ _ _ _ _ _ _=>RG
 clear r0;unfold C;go_in;go_wp2_with fail;refine hD.mono ?_;rintro q w1 Du;obtain⟨D,b1,b2,b3,b4,b5,b6,b8,b9,d1,d2,d3,d4,d5,d6,d8,d9,⟨e1,e2,e3,e4,e5,e6⟩,rfl,Fq,cG,m1,m2,i0,i1⟩:=Du.ex;have B1:=Du.ZB;dsimp only at m1 m2 i0 i1;simp only[Ze.v];have⟨w2,gH,y2,A2,V2,_⟩:=vb3 w1 (stA D b1 b2 b3 b4 b5 b6 b8 b9 d1 d2 d3 d4 d5 d6 d8 d9) [J e1,I e2,I e3,J e4,J e5,J e6] 31 33;have B2:=Zp B1 y2;have S2:=Fq.below y2;have⟨g5,xX⟩:=ZL w1.heap.size;rw[xX]at A2 V2;have yb:=vhA D _ ⟨e1,e2,e3,e4,e5,e6⟩ w2 (cg.of_below B2) S2 cG (vfl i0 i1) (vcE m1) (vcE m2);have TV:=ZE (λh=>vh8 (e:=⟨e1,e2,e3,e4,e5,e6⟩) cG (vcE m1) (vcE m2) h);have TR:=ZE (λW (h:Bw w2 W)=>vib D _ ⟨e1,e2,e3,e4,e5,e6⟩ W (S2.below h) cG (vcE m1) (vcE m2));have⟨X,hX⟩:=ZL ((vaU D ⟨e1,e2,e3,e4,e5,e6⟩).1);have⟨cd,tW⟩:=ZL ((vaU D ⟨e1,e2,e3,e4,e5,e6⟩).2);rw[hX,tW]at yb;simp only[hX,tW]at TV TR;simp only[Ze.v]at yb TR;have⟨x0,x1,x2,x3,x4,x5,x6,x7,x8,x9⟩:=A2.ZS;have⟨v0,v1,v2,v3,v4,v5⟩:=V2.six;clear hD Du B1 y2 Fq hX tW;go_wp2_with fail;clear gH xX;refine yb.mono ?_;rintro q w3 mw;obtain⟨o1,o2,o3,o4,o5,o6,o8,o9,k1,k2,k3,k4,k5,k6,k8,k9,rfl,F7⟩:=mw.ex;have yf:=mw.ZB;have UX:=F7.st;have y4:=ZA w3 (G (Ky X o1 o2 o3 o4 o5 o6 o8 o9 k1 k2 k3 k4 k5 k6 k8 k9 0 cd).toArray 37);have X4:=Zh.new w3 (Ky X o1 o2 o3 o4 o5 o6 o8 o9 k1 k2 k3 k4 k5 k6 k8 k9 0 cd) 37;have M5:=Zp yf y4;have A4:=A2.below M5;have V4:=V2.below M5;have S4:=S2.below M5;have Uz:=UX.below y4;have B4:=Zp B2 M5;have⟨w4,yj⟩:=ZL (w3.alloc (G (Ky X o1 o2 o3 o4 o5 o6 o8 o9 k1 k2 k3 k4 k5 k6 k8 k9 0 cd).toArray 37));have⟨gx,Ej⟩:=ZL w3.heap.size;rw[yj]at A4 V4 S4 Uz B4 X4 M5;rw[Ej]at X4;replace TR:=ZE (λW (h:Bw w4 W)=>TR.out W (Zp M5 h));clear yb mw F7 yf UX y4 M5 A2 V2 S2 B2 x0 x1 x2 x3 x4 x5 x6 x7 x8 x9 v0 v1 v2 v3 v4 v5
 -- the first question
 have Uv:=ZE (λW (h:Bw w4 W)=>vfo j29 D _ W (cg.of_below (Zp B4 h)) (S4.below h) cG);have Ux:=ZE (λW (h:Bw w4 W)=>vga D _ W (S4.below h) λW h=>vcq D _ W h cG);have FU:(if wZ D=true then ZJ D.vs else []).length<=D.vs.length:=by
  split
  .exact jwf _ _
  .exact Nat.zero_le _
 generalize (if wZ D=true then ZJ D.vs else [])=LL at Uv Ux FU;have⟨nL,Uq⟩:=ZL LL.length;have Vo:nL<=1048576:=by have:=cG.vl;omega
 have BD:=rW w4;have⟨x0,x1,x2,x3,x4,x5,x6,x7,x8,x9⟩:=(A4.below BD).ZS;have⟨v0,v1,v2,v3,v4,v5⟩:=(V4.below BD).six;have l7:=(X4.below BD).c 11 rfl;go_upto_region 5 with fail
 clear yj Ej;go_cut [42]from 28 to 42 (λVV wx=>VV=.bool false/\Hid (Bw w4 wx))
 case first=>
  go_wp2_with fail;go_region_held3 (λw'=>w'.cell? (O g5 0)=some (J D.tx)/\w'.cell? (O g5 1)=some (U b1 D.YT.Vv.length d1)/\w'.cell? (O g5 2)=some (U b2 D.YT.YU.length d2)/\w'.cell? (O g5 3)=some (U b3 D.YT.YW.length d3)/\w'.cell? (O g5 4)=some (U b4 D.YS.Vv.length d4)/\w'.cell? (O g5 5)=some (U b5 D.YS.YU.length d5)/\w'.cell? (O g5 6)=some (U b6 D.YS.YW.length d6)/\w'.cell? (O g5 7)=some (J D.cur)/\w'.cell? (O g5 8)=some (U b8 D.vs.length d8)/\w'.cell? (O g5 9)=some (U b9 D.ix.length d9)/\w'.cell? (O (g5+1) 0)=some (J e1)/\w'.cell? (O (g5+1) 1)=some (I e2)/\w'.cell? (O (g5+1) 2)=some (I e3)/\w'.cell? (O (g5+1) 3)=some (J e4)/\w'.cell? (O (g5+1) 4)=some (J e5)/\w'.cell? (O (g5+1) 5)=some (J e6)/\w'.cell? (O gx 11)=some (J cd)) (go_keep) ((first|(go_at_call 7;refine(vdw LL p7 p8 nL j7 j8 _ (R7.below vh) R8 Uq Vo).mono ?_;rintro q w9 ⟨rfl,qS⟩;have B9:Bw w4 w9:=Zp B8 qS;have⟨Xg,Xh,Xi,Xj,Xk,Xl,Xm,Xn,Xo,Xp⟩:=(A4.below B9).ZS;have⟨Yw,Yx,Yy,Yz,YA,YB⟩:=(V4.below B9).six;have YI:=(X4.below B9).c 11 rfl)|(go_at_call 9;refine(Ux.out _ B7).mono ?_;rintro q w8 ⟨x8,rfl,dF,vh⟩;obtain⟨p8,j8,rfl,R8⟩:=vb9 dF;rw[Uq];have B8:Bw w4 w8:=Zp B7 vh;have⟨WX,WY,WZ,X9,Xa,Xb,Xc,Xd,Xe,Xf⟩:=(A4.below B8).ZS;have⟨Yq,Yr,Ys,Yt,Yu,Yv⟩:=(V4.below B8).six;have YH:=(X4.below B8).c 11 rfl)|(go_at_call 8;refine(Uv.out _ B6).mono ?_;rintro q w7 ⟨x7,rfl,cj,Cf⟩;obtain⟨p7,j7,rfl,R7⟩:=vb9 cj;rw[Uq];have B7:Bw w4 w7:=Zp B6 Cf;have⟨U9,Ua,Ub,Uc,Ud,Ue,Uf,Ug,Uh,Ui⟩:=(A4.below B7).ZS;have⟨Yk,Yl,Ym,Yn,Yo,Yp⟩:=(V4.below B7).six;have Vc:=(X4.below B7).c 11 rfl)|(go_at_call 6;refine(TR.out _ BD).mono ?_;rintro q w6 yy;obtain⟨u1,u2,u3,u4,u5,u6,u8,u9,m1,m2,m3,m4,m5,m6,m8,m9,rfl,_⟩:=yy.ex;have B6:Bw w4 w6:=BD.trans (yy.ZB.mono BD.size);dsimp only[Ky];have⟨TE,TF,TG,TH,TI,TJ,TK,TL,TM,TO⟩:=(A4.below B6).ZS;have⟨UM,UN,UO,UP,UQ,UR⟩:=(V4.below B6).six;have Vb:=(X4.below B6).c 11 rfl)|fail))
  all_goals
   have HB:=ZE B9;go_wp2;go_meet;exact⟨M,HB⟩
 case rest=>
 obtain⟨rfl,lM⟩:=hcut;have⟨w5,oK⟩:=wL wc;subst oK;have A5:=A4.below lM.out;have V5:=V4.below lM.out;have X5:=X4.below lM.out;have S5:=S4.below lM.out;have To:=Uz.below lM.out;have B5:=B4.trans (lM.out.mono B4.size);clear A4 V4 X4 S4 Uz B4 lM TR Uv Ux BD x0 x1 x2 x3 x4 x5 x6 x7 x8 x9 v0 v1 v2 v3 v4 v5 l7 FU Vo Uq
 -- what is told of a store that an event has Pa put into
 go_upto_region 7 with fail
 go_cut [68]from 43 to 68 (λVW wx=>VW=.bool false/\Hid (Bw w5 wx))
 case first=>
  have l7:=X5.c 11 rfl;by_cases hc:cd=0
  case neg=>
   have aX:(cd==0)=false:=by simpa using hc
   clear TV hc;go_wp2;go_meet;exact⟨M,ZU _ _⟩
  case pos=>
   subst hc;have F:=TV.out rfl;have q1:=vcq X _ w5 To F.ok;rw[F.rt]at q1;have⟨y0,y1,y2,y3,y4,y5,y6,y7,y8,y9⟩:=X5.ZS;clear TV;go_wp2_with fail;refine q1.mono ?_;rintro q w6 ⟨rfl,b6⟩;clear q1 l7 y0 y1 y2 y3 y4 y5 y6 y7 y8 y9;have q2:=vfD D X _ _ w6 (cg.of_below (Zp B5 b6)) (S5.below b6) (To.below b6) cG F.ok F.t0 F.t9 F.past;have⟨x0,x1,x2,x3,x4,x5,x6,x7,x8,x9⟩:=(A5.below b6).ZS;have⟨y0,y1,y2,y3,y4,y5,y6,y7,y8,y9⟩:=(X5.below b6).ZS;go_wp2_with fail;refine q2.mono ?_;rintro q w7 ⟨rfl,b7⟩;have qj:=Zp b6 b7;clear q2 x0 x1 x2 x3 x4 x5 x6 x7 x8 x9 y0 y1 y2 y3 y4 y5 y6 y7 y8 y9;have q3:=vfC D X _ _ e1 true ⟨e1,e2,e3,e4,e5,e6⟩ w7 (cg.of_below (Zp B5 qj)) (S5.below qj) (To.below qj) cG F.ok F.rs F.rt F.l1 F.l2 (λ_=>rfl) F.live;simp only[Ze.v]at q3;have⟨x0,x1,x2,x3,x4,x5,x6,x7,x8,x9⟩:=(A5.below qj).ZS;have⟨y0,y1,y2,y3,y4,y5,y6,y7,y8,y9⟩:=(X5.below qj).ZS;have⟨v0,v1,v2,v3,v4,v5⟩:=(V5.below qj).six;go_wp2_with fail;refine q3.mono ?_;rintro q w8 ⟨rfl,b8⟩;have HB:=ZE (Zp qj b8);clear q3 b6 b7 b8 qj x0 x1 x2 x3 x4 x5 x6 x7 x8 x9 y0 y1 y2 y3 y4 y5 y6 y7 y8 y9 v0 v1 v2 v3 v4 v5;go_wp2;go_meet;exact⟨M,HB⟩
 case rest=>
 obtain⟨rfl,Gl⟩:=hcut;have⟨w7,yk⟩:=wL wc;subst yk;have BW:=B5.trans (Gl.out.mono B5.size);have Ve:=vg7 a1 gV aC w7 (r1.grown BW) h1;clear A5 V5 X5 S5 To B5 Gl TV r1;go_wp2_with fail;refine Ve.mono ?_;rintro q w1 Du;obtain⟨E,p1,p2,p3,p4,p5,p6,p8,p9,q1,q2,q3,q4,q5,q6,q8,q9,id,rfl,Fq,Tn,i0,i1⟩:=Du.ex;have B1:=BW.trans (Du.ZB.mono BW.size);have y2:=ZA w1 (G (stA E p1 p2 p3 p4 p5 p6 p8 p9 q1 q2 q3 q4 q5 q6 q8 q9).toArray 31);have T2:=Zh.new w1 (stA E p1 p2 p3 p4 p5 p6 p8 p9 q1 q2 q3 q4 q5 q6 q8 q9) 31;have B2:=Zp B1 y2;have S2:=Fq.below y2;have⟨w2,gH⟩:=ZL (w1.alloc (G (stA E p1 p2 p3 p4 p5 p6 p8 p9 q1 q2 q3 q4 q5 q6 q8 q9).toArray 31));have⟨g8,Vk⟩:=ZL w1.heap.size;rw[gH]at T2 B2 S2;rw[Vk]at T2;have Tu:=vhz E _ id w2 (cg.of_below B2) S2 Tn (vfl i0 Q);have Uj:=ZE (λh=>vg9 (id:=id) Tn h ⟨0,⟨#[]⟩,⟨#[]⟩,0,0,0⟩);have TP:=ZE (λW (h:Bw w2 W)=>vhc E _ id W (S2.below h) Tn);have⟨Y,hY⟩:=ZL ((vaB E id).1);have⟨cy,qy⟩:=ZL ((vaB E id).2);rw[hY,qy]at Tu;simp only[hY,qy]at Uj TP;have⟨x0,x1,x2,x3,x4,x5,x6,x7,x8,x9⟩:=T2.ZS;clear Ve Du B1 y2 Fq hY qy BW i0 i1;go_wp2_with fail;clear gH Vk;refine Tu.mono ?_;rintro q w3 mw;obtain⟨r1,r2,r3,r4,r5,r6,r8,r9,l1,l2,l3,l4,l5,l6,l8,l9,rfl,F7⟩:=mw.ex;have yf:=mw.ZB;have TY:=F7.st;have y4:=ZA w3 (G (Ky Y r1 r2 r3 r4 r5 r6 r8 r9 l1 l2 l3 l4 l5 l6 l8 l9 0 cy).toArray 37);have Y3:=Zh.new w3 (Ky Y r1 r2 r3 r4 r5 r6 r8 r9 l1 l2 l3 l4 l5 l6 l8 l9 0 cy) 37;have M5:=Zp yf y4;have T3:=T2.below M5;have S3:=S2.below M5;have TY:=TY.below y4;have B3:=Zp B2 M5;have⟨wh,Vt⟩:=ZL (w3.alloc (G (Ky Y r1 r2 r3 r4 r5 r6 r8 r9 l1 l2 l3 l4 l5 l6 l8 l9 0 cy).toArray 37));have⟨gy,Vl⟩:=ZL w3.heap.size;rw[Vt]at T3 S3 TY B3 Y3 M5;rw[Vl]at Y3;have hH:=vfn E _ id (wZ E) wh (cg.of_below B3) S3 Tn.vl (λW hE h=>jwv E _ W hE h Tn);have Gv:Hid (wZ E=true->(if wZ E=true then va7 E.vs id else [])=va7 E.vs id):=λh=>if_pos h
 have FU:(if wZ E=true then va7 E.vs id else []).length<=E.vs.length:=by
  split
  .exact List.length_filter_le _ _
  .exact Nat.zero_le _
 have TQ:=ZE (λW (h:Bw wh W)=>viV E _ id (wZ E) W (S3.below h) Tn.vl λW h=>vcq E _ W h Tn);generalize (if wZ E=true then va7 E.vs id else [])=LH at hH Gv FU TQ;have⟨nH,Up⟩:=ZL LH.length;have YM:nH<=1048576:=by have:=Tn.vl;omega
 have⟨z0,z1,z2,z3,z4,z5,z6,z7,z8,z9⟩:=T3.ZS;clear Tu mw F7 yf y4 T2 S2 B2 x0 x1 x2 x3 x4 x5 x6 x7 x8 x9;go_wp2_with fail;clear Vt Vl;refine hH.mono ?_;rintro q w4 ⟨xh,rfl,Vg,Tt⟩;obtain⟨ph,jh,rfl⟩:=vao Vg;rw[Up];have T4:=T3.below Tt;have S4:=S3.below Tt;have UY:=TY.below Tt;have Y4:=Y3.below Tt;have B4:=Zp B3 Tt;have Ma:=Zp M5 Tt;replace TP:=ZE (λW (h:Bw w4 W)=>TP.out W (Zp Ma h));replace TQ:=ZE (λW (h:Bw w4 W)=>TQ.out W (Zp Tt h));clear hH Vg Tt T3 S3 TY Y3 B3 M5 Ma z0 z1 z2 z3 z4 z5 z6 z7 z8 z9
 -- the second question
 have BD:=rW w4;have⟨x0,x1,x2,x3,x4,x5,x6,x7,x8,x9⟩:=(T4.below BD).ZS;have l7:=(Y4.below BD).c 11 rfl;go_upto_region 12 with fail
 go_cut [100]from 80 to 100 (λUL wx=>UL=.bool (cy != 0)/\Hid (Bw w4 wx))
 case first=>
  go_wp2_with fail;go_region_held3 (λw'=>w'.cell? (O g8 0)=some (J E.tx)/\w'.cell? (O g8 1)=some (U p1 E.YT.Vv.length q1)/\w'.cell? (O g8 2)=some (U p2 E.YT.YU.length q2)/\w'.cell? (O g8 3)=some (U p3 E.YT.YW.length q3)/\w'.cell? (O g8 4)=some (U p4 E.YS.Vv.length q4)/\w'.cell? (O g8 5)=some (U p5 E.YS.YU.length q5)/\w'.cell? (O g8 6)=some (U p6 E.YS.YW.length q6)/\w'.cell? (O g8 7)=some (J E.cur)/\w'.cell? (O g8 8)=some (U p8 E.vs.length q8)/\w'.cell? (O g8 9)=some (U p9 E.ix.length q9)/\w'.cell? (O gy 11)=some (J cy)) (go_keep) ((first|(go_at_call 17;refine(TQ.out _ B6).mono ?_;rintro q w7 ⟨x7,rfl,cj,Cf⟩;obtain⟨p7,j7,rfl⟩:=vao cj;rw[Up];have B7:Bw w4 w7:=Zp B6 Cf;have⟨U9,Ua,Ub,Uc,Ud,Ue,Uf,Ug,Uh,Ui⟩:=(T4.below B7).ZS;have Vc:=(Y4.below B7).c 11 rfl)|(go_at_call 16;refine(TP.out _ BD).mono ?_;rintro q w6 yy;obtain⟨u1,u2,u3,u4,u5,u6,u8,u9,m1,m2,m3,m4,m5,m6,m8,m9,rfl,_⟩:=yy.ex;have B6:Bw w4 w6:=BD.trans (yy.ZB.mono BD.size);dsimp only[Ky];have⟨TE,TF,TG,TH,TI,TJ,TK,TL,TM,TO⟩:=(T4.below B6).ZS;have Vb:=(Y4.below B6).c 11 rfl)|fail))
  all_goals
   have HB:=ZE B7;go_wp2;go_meet;exact⟨M,HB⟩
 case rest=>
 obtain⟨rfl,lM⟩:=hcut;have⟨w5,oK⟩:=wL wc;subst oK;by_cases hc:cy=0
 case neg=>
  have aX:(cy != 0)=true:=by simpa using hc
  have BE:=lM.out.trans ((rW w5).mono lM.out.size);have⟨z0,z1,z2,z3,z4,z5,z6,z7,z8,z9⟩:=(T4.below BE).ZS;have YG:=(Y4.below BE).c 11 rfl;clear x0 x1 x2 x3 x4 x5 x6 x7 x8 x9 l7 hc lM Uj BD;rw[aX];go_wp2_with fail;go_region_held3 (λw'=>w'.cell? (O g8 0)=some (J E.tx)/\w'.cell? (O g8 1)=some (U p1 E.YT.Vv.length q1)/\w'.cell? (O g8 2)=some (U p2 E.YT.YU.length q2)/\w'.cell? (O g8 3)=some (U p3 E.YT.YW.length q3)/\w'.cell? (O g8 4)=some (U p4 E.YS.Vv.length q4)/\w'.cell? (O g8 5)=some (U p5 E.YS.YU.length q5)/\w'.cell? (O g8 6)=some (U p6 E.YS.YW.length q6)/\w'.cell? (O g8 7)=some (J E.cur)/\w'.cell? (O g8 8)=some (U p8 E.vs.length q8)/\w'.cell? (O g8 9)=some (U p9 E.ix.length q9)/\w'.cell? (O gy 11)=some (J cy)) (go_keep) ((first|(go_at_call 17;refine(TQ.out _ B6).mono ?_;rintro q w7 ⟨x7,rfl,cj,Cf⟩;obtain⟨p7,j7,rfl⟩:=vao cj;rw[Up];have B7:Bw w4 w7:=Zp B6 Cf;have⟨U9,Ua,Ub,Uc,Ud,Ue,Uf,Ug,Uh,Ui⟩:=(T4.below B7).ZS;have Vc:=(Y4.below B7).c 11 rfl)|(go_at_call 16;refine(TP.out _ BE).mono ?_;rintro q w6 yy;obtain⟨u1,u2,u3,u4,u5,u6,u8,u9,m1,m2,m3,m4,m5,m6,m8,m9,rfl,_⟩:=yy.ex;have B6:Bw w4 w6:=BE.trans (yy.ZB.mono BE.size);dsimp only[Ky];have⟨TE,TF,TG,TH,TI,TJ,TK,TL,TM,TO⟩:=(T4.below B6).ZS;have Vb:=(Y4.below B6).c 11 rfl)|fail))
  all_goals
   have HB:=ZE (Zp B4 B7);go_wp2;go_ret;exact⟨M,HB.out⟩
 case pos=>
  subst hc;have F:=Uj.out rfl;have P5:=Gv.out F.rs;have A5:=T4.below lM.out;have X5:=Y4.below lM.out;have S5:=S4.below lM.out;have To:=UY.below lM.out;have B5:=B4.trans (lM.out.mono B4.size);clear Uj Gv TP TQ T4 Y4 S4 UY B4 lM BD x0 x1 x2 x3 x4 x5 x6 x7 x8 x9 l7;have q1:=vcq Y _ w5 To F.ok;rw[F.rt]at q1;have⟨y0,y1,y2,y3,y4,y5,y6,y7,y8,y9⟩:=X5.ZS;go_wp2_with fail;refine q1.mono ?_;rintro q w6 ⟨rfl,b6⟩;clear q1 y0 y1 y2 y3 y4 y5 y6 y7 y8 y9;have q2:=vfD E Y _ _ w6 (cg.of_below (Zp B5 b6)) (S5.below b6) (To.below b6) Tn F.ok F.t0 F.t9 F.past;have⟨x0,x1,x2,x3,x4,x5,x6,x7,x8,x9⟩:=(A5.below b6).ZS;have⟨y0,y1,y2,y3,y4,y5,y6,y7,y8,y9⟩:=(X5.below b6).ZS;go_wp2_with fail;refine q2.mono ?_;rintro q w7 ⟨rfl,b7⟩;have qj:=Zp b6 b7;clear q2 x0 x1 x2 x3 x4 x5 x6 x7 x8 x9 y0 y1 y2 y3 y4 y5 y6 y7 y8 y9;have q3:=vfC E Y _ _ id false ⟨0,⟨#[]⟩,⟨#[]⟩,0,0,0⟩ w7 (cg.of_below (Zp B5 qj)) (S5.below qj) (To.below qj) Tn F.ok F.rs F.rt F.l1 F.l2 (λh=>by cases h) F.live;simp only[Ze.v]at q3;have⟨x0,x1,x2,x3,x4,x5,x6,x7,x8,x9⟩:=(A5.below qj).ZS;have⟨y0,y1,y2,y3,y4,y5,y6,y7,y8,y9⟩:=(X5.below qj).ZS;go_wp2_with fail;refine q3.mono ?_;rintro q w8 ⟨rfl,b8⟩;have TZ:=Zp qj b8;clear q3 x0 x1 x2 x3 x4 x5 x6 x7 x8 x9 y0 y1 y2 y3 y4 y5 y6 y7 y8 y9;have q4:=vfn Y _ id (wZ Y) w8 (cg.of_below (Zp B5 TZ)) (To.below TZ) F.ok.vl (λW hE h=>jwv Y _ W hE h F.ok);rw[F.rt]at q4;have Vq:(va7 Y.vs id).length=nH+1:=by rw[F.his, <- P5,Up]
  have⟨y0,y1,y2,y3,y4,y5,y6,y7,y8,y9⟩:=(X5.below TZ).ZS;go_wp2_with fail;refine q4.mono ?_;rintro q w9 ⟨xh,rfl,eB,b9⟩;rw[if_pos trivial]at eB;obtain⟨p9,j9,rfl⟩:=vao eB;rw[Vq];have UZ:=Zp TZ b9;have HB:=ZE (Zp B5 UZ);have qw:IntKind.i64.wrap ((nH:Int)+1)=(nH:Int)+1:=by rw[IntKind.wrap_i64];omega
  clear q4 eB b6 b7 b8 b9 qj TZ UZ y0 y1 y2 y3 y4 y5 y6 y7 y8 y9 Vq P5;go_wp2;go_ret;exact⟨M,HB.out⟩
end
end Go.Proofs.YtbbgeelamjmgaaaGreatDoor
namespace Go.Proofs.YtbbgeelamjmgaaaGreatDoor.putL
open Go.RowKit
theorem walk(a0:Option Addr)(gQ Iu:Nat)(a1:Option Addr)(gV aC:Nat)(w:World)(r0:vbn w a0 gQ)(r1:vbn w a1 gV)(hT:Bz w)(gw:Mx w):
  C 3 #[U a0 gQ Iu,U a1 gV aC] w λe w'=>e=V (.bool true)/\Bw w w':=by
 by_cases h0:1048576<gQ
 .have g0:(1048576:Int)<(gQ:Int):=Q
  clear h0 r0 r1;unfold C;go_in;go_wp2;go_ret;exact⟨rfl,ZU _ _⟩
 by_cases h1:1048576<gV
 .have g0:¬(1048576:Int)<(gQ:Int):=Q
  have g1:(1048576:Int)<(gV:Int):=Q;clear h0 h1 r0 r1;unfold C;go_in;go_wp2;go_ret;exact⟨rfl,ZU _ _⟩
 exact vic a0 gQ Iu a1 gV aC w Q Q r0 r1 ⟨hT,gw⟩
