import Derived.Test.YtmkjofknhdikpaaGreatDoorRdCd
import Derived.Test.YtmkjofknhdikpaaGreatDoorQAd
set_option maxRecDepth 20000
set_option maxHeartbeats 0
set_option linter.unusedSimpArgs false
open Go.RowKit Go.Sort
namespace Go.Proofs.YtmkjofknhdikpaaGreatDoor
variable{W w:World}{B K base p r:Nat}{lv rv v zv:Value}{cd ln:Int}{more:Bool}{R:Un}{bP:List Value}
theorem vdX{α:Type}{l:List α}(h:1<=l.length):∃a x,l=a++[x]:=by
 rcases List.eq_nil_or_concat l with rfl|⟨a,x,rfl⟩
 .simp at h
 .exact⟨a,x,M⟩
theorem vgP(B p K b n cap:Nat)(rv zv lv:Value)(R:Un)(bP:List Value)(w:World)(h:U0 w B p rv zv lv true R bP K)(hB:B<=w.heap.size)(hK:K<=8001)(gF:n<=8001)(eh:n<=cap)(hW:WU w b 0 n):
  C 108 #[.pointer (some (O p 0)),so b n cap] w λe w'=>XA B p K w e w':=by
 have⟨i0,hi,aG,aH,aF⟩:=jqj;obtain⟨Rs,TC,Ls⟩:=R;obtain⟨Zs,z,rfl⟩:=vdX (h.mo rfl);obtain⟨Es,ev,rfl⟩:=vdX (l:=bP) (by rw[h.el];simp);have uS:Es.length=Zs.length:=by have:=h.el;simpa using this
 have c3:=h.c3;delta C;go_in;go_wp2_with fail;refine(vcY b 0 n cap _ gF eh hW).mono ?_;rintro e w1 hP;obtain⟨⟨e0,e1,e2,e3,e4,e5⟩,m2,kx,rfl,rX,hb1⟩:=hP.ex;unfold TX.v;have h1:=h.below hb1;clear hP c3;go_upto_region 3 with fail
 obtain⟨wv,cO⟩:∃x:World,(w1.alloc (G #[J e0,I e1,J e2,I e3,J e4,I e5] 159))=x:=⟨_,rfl⟩;have jo:Bw w1 wv:=by rw[<- cO];exact TK _ _
 have k0:wv.cell? (O w1.heap.size 0)=some (J e0):=by rw[<- cO];simp[go_sem]
 have k1:wv.cell? (O w1.heap.size 1)=some (I e1):=by rw[<- cO];simp[go_sem]
 have k2:wv.cell? (O w1.heap.size 2)=some (J e2):=by rw[<- cO];simp[go_sem]
 have k3:wv.cell? (O w1.heap.size 3)=some (I e3):=by rw[<- cO];simp[go_sem]
 have k4:wv.cell? (O w1.heap.size 4)=some (J e4):=by rw[<- cO];simp[go_sem]
 have k5:wv.cell? (O w1.heap.size 5)=some (I e5):=by rw[<- cO];simp[go_sem]
 have h2:=h1.below jo;have AW:B<=wv.heap.size:=Nat.le_trans hB (Nat.le_trans hb1.size jo.size);have BR:Below B w wv:=(hb1.mono hB).trans (jo.mono (Nat.le_trans hB hb1.size));rw[cO];clear cO;have⟨L,hL⟩:=TY Zs.length;have⟨lH,hM⟩:=TY z.TR.length;have lz:wv.ownsRow B 121 2 zv (L+1) (Wu (Zs++[z]) (Es++[ev])).flatten:=by have:=h2.zz;rw[<- hL];simpa using this
 have⟨gz,cz,Fe,_,_⟩:=lz.form Q;subst Fe;have⟨jb,gR,MC⟩:=h2.ee Zs.length z ev M (by rw[<- uS];simp);rw[hM]at jb gR MC;have⟨ge,ce,jH,_,_⟩:=jb.form Q;subst jH;have Ru:L<=8001:=by have:=h2.sz.2.1;simp at this;omega
 have q0:wv.cell? (O p 1)=some (so gz (L+1) cz):=h2.c1;have qz:wv.cell? (O gz (L*2+1))=some (so ge lH ce):=by
  rw[lz.cellAt (L*2+1) Q,vct uS,List.flatten_append,List.getElem?_append_right (by rw[vcs _ _ uS];omega),vcs _ _ uS,hL];rw[show L*2+1-L*2=1 by omega];rfl
 have zf:wv.frozen? (O gz (L*2+1))=false:=lz.frozenAt _;have az:some p≠(so ge lH ce).ownBlock:=WB jb h2.tp vaT;have Ek:∃cur,wv.heap[gz]? =some (G cur 121 (0,0)):=vch lz rfl;have Cq:some gz≠(so ge lH ce).ownBlock:=WB jb Ek (Ne.symm vbt);have RJ:p≠gz:=vbS h2.tp Ek (Ne.symm vaF);have HD:Hid (U0 wv B p rv (so gz (Zs.length+1) cz) lv true ⟨Rs,Zs++[z],Ls⟩ (Es++[so ge lH ce]) K):=by have:=h2;rw[<- hL]at this;exact this
 have HL:=hid hL;have HM:=hid hM;have LX:=hid uS;have ba:∀o,Bw wv (wv.drew.alloc o):=λo=>(show Bw wv wv.drew from UF wv).alloc (TP _) o
 have dV:B<=gz:=(World.ownsRow.lt lz gz rfl).1;have Fb:gz<wv.heap.size:=TV qz;clear h2 h1 h hb1 jo hL hM uS Ek;have Rv:(0:Int)<=(L:Int):=Q;have un:(L:Int)<(L:Int)+1:=Q;have L9:(wv.alloc (G #[J e0,I e1,J e2,I e3,J e4,I e5] 159)).cell? (O p 1)=some (so gz (L+1) cz):=Ut (w1:=wv) q0 (TK _ _);have Sl:(wv.alloc (G #[J e0,I e1,J e2,I e3,J e4,I e5] 159)).cell? (O gz (L*2+1))=some (so ge lH ce):=Ut (w1:=wv) qz (TK _ _);go_upto_region 4 with fail
 go_region_law (refine step_append_lies _ Z9 (.tmp 45) (.tmp 47) 119 Z9 B 159 i0 (.agg #[J 0,ZV,J 0,ZV,J 0,ZV]) 6 72 Tryz.underlying119 hi aG aH aF rfl Q (so ge lH ce) lH (z.TR.map TX.cs).flatten Z9 (UC (w:=wv.drew) jb _) (O wv.heap.size 0) 1 1 [J e0,I e1,J e2,I e3,J e4,I e5] Z9 rfl (Vy _ _ _) (by intro u hu;simp at hu;rcases hu with rfl|rfl|rfl|rfl|rfl|rfl<;>rfl) Q (by unfold maxLen;omega) Q Z6 _ rfl ?_;intro g1 aC w2 av af bE hlt1;have r3:=af.cell (a:=(O p 1)) (Ut (w1:=wv) q0 (ba _)) az;have r1:=af.cell (a:=(O gz (L*2+1))) (Ut (w1:=wv) qz (ba _)) Cq;have r2:=(af.frozen_far (O gz (L*2+1)) Z6 Cq).trans (((Uq (ba _)).2 _ _ Fb).trans zf))
 all_goals
  have h3:=(HD.out.below (ba (G #[J e0,I e1,J e2,I e3,J e4,I e5] 159))).ve0 (m2:=m2) (E:=⟨e0,e1,e2,e3,e4,e5⟩) LX.out af (by rw[HM.out];exact av) bE rfl rX;rw[HL.out,HM.out]at h3;have ac:=(j3y (BR.trans ((ba (G #[J e0,I e1,J e2,I e3,J e4,I e5] 159)).mono AW)) af (UC (w:=wv.drew) jb _) (TP _) Z6).setCell (p:=(O gz (L*2+1))) dV (so g1 (lH+1) aC);have ar:=ac.setCell (p:=(O p 3)) HD.out.hp (Z m2);have⟨d0,d1,d2,d3,dt⟩:=(HD.out.below (ba (G #[J e0,I e1,J e2,I e3,J e4,I e5] 159))).cells af az;have x3:(w2.setCell (O gz (L*2+1)) (so g1 (lH+1) aC)).cell? (O p 3)=some (Z true):=by rw[Uh _ _ _ _ vQj];exact d3
  have f3:(w2.setCell (O gz (L*2+1)) (so g1 (lH+1) aC)).frozen? (O p 3)=false:=by rw[World.frozen?_setCell];exact va1 dt 3
  have HP:Hid (∀k,XA B p K w (V (Z k)) ((w2.setCell (O gz (L*2+1)) (so g1 (lH+1) aC)).setCell (O p 3) (Z m2))):=λk=>⟨⟨k,_,_,_,_,_,_,rfl,h3,ar⟩⟩
  clear h3 ac ar af bE hlt1 r1 r2 r3 av d0 d1 d2 d3 dt;generalize w2.setCell (O gz (L*2+1)) (so g1 (lH+1) aC)=w3 at *;go_wp2;go_ret;exact HP.out _
theorem vgM(B p K b n cap:Nat)(rv zv lv:Value)(more:Bool)(R:Un)(bP:List Value)(w:World)(h:U0 w B p rv zv lv more R bP K)(hB:B<=w.heap.size)(hK:K<=8001)(tb:∃cs,w.heap[b]? =some (G cs 9 (0,0)))(hn:1<=n)(gF:n<=8001)(eh:n<=cap)(hW:WU w b 0 n):
  C 108 #[.pointer (some (O p 0)),so b n cap] w λe w'=>XA B p K w e w':=by
 cases more with
 |true=>exact vgP B p K b n cap rv zv lv R bP w h hB hK gF eh hW
 |false=>
  have⟨s0,c0,z0⟩:=hW.ex 0 Q;rw[Nat.zero_add]at c0;cases h0:(s0.toList==[82,117,108,101])with
  |true=>exact vgR B p K b n cap rv zv lv R bP w h hB hK hW hn s0 c0 h0
  |false=>
   cases h1:(s0.toList==[90,111,110,101])with
   | true=>
    by_cases iO:n=1
    .subst iO;exact vgT B p K b cap rv zv lv R bP w h s0 c0 h0 h1
    .have⟨s1,c1,z1⟩:=hW.ex 1 Q
     rw[Nat.zero_add]at c1;exact vgS B p K b n cap rv zv lv R bP w h hB hK tb Q gF eh hW s0 s1 c0 c1 z1 h0 h1
   |false=>
    cases h2:(s0.toList==[76,105,110,107])with
    | true=>
     by_cases vk:n=3
     .subst vk
      have⟨s1,c1,z1⟩:=hW.ex 1 Q;have⟨s2,c2,z2⟩:=hW.ex 2 Q;rw[Nat.zero_add]at c1 c2;exact vgN B p K b cap rv zv lv R bP w h hB hK tb s0 s1 s2 c0 c1 c2 z1 z2 h0 h1 h2
     .exact vgO B p K b n cap rv zv lv R bP w h s0 hn gF vk c0 h0 h1 h2
    |false=>exact vgQ B p K b n cap rv zv lv R bP w h s0 hn c0 h0 h1 h2
structure vcB:Prop where
 go:∀(B p K b n cap:Nat) (rv zv lv:Value) (more:Bool) (R:Un) (bP:List Value) (w:World),U0 w B p rv zv lv more R bP K->B<=w.heap.size->K<=8001->(∃cs,w.heap[b]? =some (G cs 9 (0,0)))->1<=n->n<=8001->n<=cap->WU w b 0 n->
  C 108 #[.pointer (some (O p 0)),so b n cap] w λe w'=>XA B p K w e w'
theorem vgW(w:World):U0 (w.alloc (G #[nS,nS,nS,Z false] 168)) w.heap.size w.heap.size nS nS nS false ⟨[],[],[]⟩ [] 0 where
 c0:=Z8
 c1:=Z8
 c2:=Z8
 c3:=Z8
 tp:=⟨_,heap_alloc_new w _⟩
 hp:=TP _
 rr:=World.ownsRow_nil _ _ _ _
 ll:=World.ownsRow_nil _ _ _ _
 zz:=World.ownsRow_nil _ _ _ _
 el:=rfl
 ee:=λi z ev h1 h2=>by simp at h1
 nd:=λi j ev Cn h1 h2 _=>by simp at h1
 mo:=λh=>by cases h
 sz:=⟨TP _,TP _,TP _⟩
 sm:=⟨λx hx=>by simp at hx,λx hx=>by simp at hx,λx hx=>by simp at hx⟩
structure vam(w:World)(e:Ending)(w':World):Prop where
 ex:∃(rv zv lv:Value) (ln cd:Int),e=V (.agg #[rv,zv,lv,J ln,J cd])/\Bw w w'/\((rv=nS/\zv=nS/\lv=nS)\/∃B p more R bP K,w.heap.size<=B/\U0 w' B p rv zv lv more R bP K/\Um R=true/\K<=8001)
def XK(W:World)(r:Nat)(rv zv lv:Value)(ln cd:Int):World:=(((((W.setCell (O r 0) (rv)).setCell (O r 1) (zv)).setCell (O r 2) (lv)).setCell (O r 3) (J ln)).setCell (O r 4) (J cd))
theorem vbI(rv zv lv:Value)(ln cd:Int)(h:∀j,j<5->∃x,W.cell? (O r j)=some x):(XK W r rv zv lv ln cd).cell? (O r 0)=some (rv)/\(XK W r rv zv lv ln cd).cell? (O r 1)=some (zv)/\(XK W r rv zv lv ln cd).cell? (O r 2)=some (lv)/\(XK W r rv zv lv ln cd).cell? (O r 3)=some (J ln)/\(XK W r rv zv lv ln cd).cell? (O r 4)=some (J cd):=by
 have o:∀(W:World) (i j:Nat) (v x:Value),i≠j->W.cell? (O r j)=some x->(W.setCell (O r i) v).cell? (O r j)=some x:=λW i j v x eF hx=>by
  rw[Uh _ _ _ _ vQj];exact hx
 have s:∀(W:World) (i:Nat) (v:Value),(∃x,W.cell? (O r i)=some x)->(W.setCell (O r i) v).cell? (O r i)=some v:=λW i v ⟨x,hx⟩=>U8 _ _ _ hx
 have⟨x0,h0⟩:=h 0 Q;have⟨x1,h1⟩:=h 1 Q;have⟨x2,h2⟩:=h 2 Q;have⟨x3,h3⟩:=h 3 Q;have⟨x4,h4⟩:=h 4 Q;unfold XK;exact⟨o _ 4 0 _ _ Q (o _ 3 0 _ _ Q (o _ 2 0 _ _ Q (o _ 1 0 _ _ Q (s _ 0 _ ⟨_,h0⟩)))),o _ 4 1 _ _ Q (o _ 3 1 _ _ Q (o _ 2 1 _ _ Q (s _ 1 _ ⟨_,o _ 0 1 _ _ Q (h1)⟩))),o _ 4 2 _ _ Q (o _ 3 2 _ _ Q (s _ 2 _ ⟨_,o _ 1 2 _ _ Q (o _ 0 2 _ _ Q (h2))⟩)),o _ 4 3 _ _ Q (s _ 3 _ ⟨_,o _ 2 3 _ _ Q (o _ 1 3 _ _ Q (o _ 0 3 _ _ Q (h3)))⟩),s _ 4 _ ⟨_,o _ 3 4 _ _ Q (o _ 2 4 _ _ Q (o _ 1 4 _ _ Q (o _ 0 4 _ _ Q (h4))))⟩⟩
theorem vbJ(h:Bw w W)(hr:w.heap.size<=r):Bw w (XK W r rv zv lv ln cd):=
 ((((h.setCell hr _).setCell hr _).setCell hr _).setCell hr _).setCell hr _
theorem U0.vbQ{j:Nat}{u:Value}(h:U0 w B p rv zv lv more R bP K)(hr:r<B):U0 (w.setCell (O r j) u) B p rv zv lv more R bP K:=by
 have hp:=h.hp;have hc:∀i x,w.cell? (O p i)=some x->(w.setCell (O r j) u).cell? (O p i)=some x:=λi x hx=>by
  rw[Uh _ _ _ _ vQj];exact hx
 have hk:∀{e:TypeId} {size:Nat} {v:Value} {n:Nat} {xs:List Value},w.ownsRow B e size v n xs->(w.setCell (O r j) u).ownsRow B e size v n xs:=λhh=>YR hh (λe=>by have:=(World.ownsRow.lt hh r e.symm).1;omega)
 exact {
  c0:=hc 0 _ h.c0
  c1:=hc 1 _ h.c1
  c2:=hc 2 _ h.c2
  c3:=hc 3 _ h.c3
  tp:=by have⟨cs,hh⟩:=h.tp;exact⟨cs,(heap_setCell_other _ _ p _ Z6).trans hh⟩
  hp:=hp
  rr:=hk h.rr
  ll:=hk h.ll
  zz:=hk h.zz
  el:=h.el
  ee:=λi z ev h1 h2=>by have⟨a,b⟩:=h.ee i z ev h1 h2;exact⟨hk a,b⟩
  nd:=h.nd
  mo:=h.mo
  sz:=h.sz
  sm:=h.sm }
theorem U0.lay{a b c:Value}(h:U0 w B p rv zv lv more R bP K)(hr:r<B):U0 (XK w r a b c ln cd) B p rv zv lv more R bP K:=by
 unfold XK;exact((((h.vbQ hr).vbQ hr).vbQ hr).vbQ hr).vbQ hr
theorem veJ{n:Nat}(h:Strs w base v n K)(hn:1<=n)(hK:K<=8000):∃b cap,v=so b n cap/\n<=cap/\(∃cs,w.heap[b]? =some (G cs 9 (0,0)))/\WU w b 0 n:=by
 obtain⟨L,rfl,ai,hs⟩:=h.ex;have ao:=ai;rcases ao.2 with⟨_,h0⟩|⟨b,cap,cur,rfl,_,hc,eh,_⟩
 .omega
 .refine⟨b,cap,rfl,eh,⟨cur,hc⟩,⟨λk hk=>?_⟩⟩
  refine⟨L[k],?_,Nat.le_trans (hs _ (List.getElem_mem hk)) hK⟩;rw[Nat.zero_add,ai.cellAt k Q,Uv,Ug hk];rfl
theorem vhB(h:Strs w base v 0 K):∃a c,v=U a 0 c:=by
 have⟨L,hl,ai,_⟩:=h.ex;have⟨a,c,hv⟩:=vaP ai;rw[hl]at hv;exact⟨a,c,hv⟩
theorem vgB(s:ByteArray)(w:World)(hs:8000<s.size)(_hs2:s.size<=1000000):C 68 #[I s] w λe w'=>vam w e w':=by
 have hB:=λo=>TK w o
 delta C;go_in;go_wp2;exact Ue (v:=.agg #[nS,nS,nS,J 0,J 2]) (by simp[results,Tryz.results68,go_sem]) rfl ⟨⟨_,_,_,_,_,rfl,hB _,.inl ⟨rfl,rfl,rfl⟩⟩⟩
theorem vgC(Dm:vcB)(s:ByteArray)(w:World)(hs:s.size<=8000):C 68 #[I s] w λe w'=>vam w e w':=by
 have ag:=λo=>TK w o
 delta C;go_in;go_wp2_with fail;refine(vc7 10 s _ hs).mono ?_;rintro e w1 ⟨v,n,rfl,n1,n2,ei,hb1⟩;replace ei:=ei.mono hs;obtain⟨gl,cl,rfl,_,_,uM⟩:=veJ ei n1 (TP _);have BR:Bw w w1:=(ag _).trans (hb1.mono M);have hr:∀j,j<5->∃x,w1.cell? (O w.heap.size j)=some x:=λj hj=>by
  obtain rfl|rfl|rfl|rfl|rfl:j=0\/j=1\/j=2\/j=3\/j=4:=Q
  all_goals exact⟨_,Ut (w1:=w.alloc (G #[nS,nS,nS,J 0,J 0] 135)) (by simp[go_sem];rfl) hb1⟩
 have hf:∀j,w1.frozen? (O w.heap.size j)=false:=λj=>((Uq hb1).2 _ _ M).trans Z8
 have hlt:w.heap.size<w1.heap.size:=by have⟨x,hx⟩:=hr 0 Q;exact TV hx
 have lQ:=vgW w1;obtain⟨m,rfl⟩:∃m,n=m+1:=⟨n-1,Q⟩;clear ei hb1 ag;have HX:Hid (∀wx,Bw w1 wx->(∀j,j<5->∃x,wx.cell? (O w.heap.size j)=some x)/\∀j,wx.frozen? (O w.heap.size j)=false):=λwx hx=>⟨λj hj=>by have⟨x,h⟩:=hr j hj;exact⟨x,Ut h hx⟩,λj=>((Uq hx).2 _ _ hlt).trans (hf j)⟩
 clear hr hf;go_wp2;go_loopw [6,7] (λi x7 wr=>∃(k:Nat) (rv zv lv:Value) (more:Bool) (R:Un) (bP:List Value),k<=m/\i=J k/\Hid (U0 wr w1.heap.size w1.heap.size rv zv lv more R bP k)/\Bw w1 wr) (λi _ _=>m-(intOf i).toNat)
 .exact⟨0,_,_,_,_,_,_,Q,rfl,lQ,TK _ _⟩
 ·
  obtain⟨k,rv,zv,lv,more,R,bP,hk,rfl,HR,aK⟩:=hrel;have⟨wq,qQ⟩:=UL wr;subst qQ;have hsz:=aK.size;by_cases je:k<m
  .have⟨t,ht,zt⟩:=(uM.below aK).ex k Q
   rw[Nat.zero_add]at ht;have Kg:(k:Int)<(m:Int):=Q;go_wp2_with fail;refine(vhP t _ zt).mono ?_;rintro e w3 hP;obtain⟨v3,n3,rfl,vk,pX,ar⟩:=hP.ex;have uq:Hid (U0 w3 w1.heap.size w1.heap.size rv zv lv more R bP k):=HR.out.below ar;have ax:Bw w1 w3:=aK.trans (ar.mono hsz);clear hP HR ht aK;by_cases lm:n3=0
   .subst lm
    obtain⟨a3,c3,rfl⟩:=vhB pX;clear pX;go_wp2;go_roundw
    .exact⟨k+1,_,_,_,_,_,_,Q,Z7,uq.out.more,ax⟩
    .simp[intOf];omega
   .obtain⟨b3,Cj,rfl,DZ,Lm,qo⟩:=veJ pX Q (TP _)
    have nK:(0:Int)<(n3:Int):=Q;clear pX;go_wp2_with fail;refine(Dm.go w1.heap.size w1.heap.size k b3 n3 Cj rv zv lv more R bP _ uq.out ax.size Q Lm Q vk DZ qo).mono ?_;rintro e w4 hP;obtain⟨ok,Sm,ST,Se,L8,R4,Mu,rfl,pT,aD⟩:=hP.ex;have cR:Bw w1 w4:=ax.trans aD;have GA:=hid pT;clear hP pT aD ax uq qo Lm;cases ok with
    |true=>
     go_wp2;go_roundw
     .exact⟨k+1,_,_,_,_,_,_,Q,Z7,GA,cR⟩
     .simp[intOf];omega
    |false=>
     clear GA;have⟨cP,dT⟩:=HX.out w4 cR;obtain⟨g0,g1,g2,g3,g4⟩:w4.frozen? (O w.heap.size 0)=false/\w4.frozen? (O w.heap.size 1)=false/\w4.frozen? (O w.heap.size 2)=false/\w4.frozen? (O w.heap.size 3)=false/\w4.frozen? (O w.heap.size 4)=false:=⟨dT 0,dT 1,dT 2,dT 3,dT 4⟩;have⟨y0,d0⟩:=cP 0 Q;have⟨y1,d1⟩:=cP 1 Q;have⟨y2,d2⟩:=cP 2 Q;have⟨y3,d3⟩:=cP 3 Q;have⟨y4,d4⟩:=cP 4 Q;have ht:=vbI (W:=w4) (r:=w.heap.size) nS nS nS ((k:Int)) (3) cP;have mt:=vbJ (W:=w4) (r:=w.heap.size) (rv:=nS) (zv:=nS) (lv:=nS) (ln:=(k:Int)) (cd:=3) (WV BR (cR.mono (TP _))) (TP _);have HQ:Hid (vam w (V (.agg #[nS,nS,nS,J (k:Int),J 3])) (XK w4 w.heap.size nS nS nS (k:Int) 3)):=⟨⟨_,_,_,_,_,rfl,mt,.inl ⟨rfl,rfl,rfl⟩⟩⟩;unfold XK at ht HQ;have⟨t0,t1,t2,t3,t4⟩:=ht;clear cP dT mt;go_wp2;exact Ue (v:=.agg #[nS,nS,nS,J (k:Int),J 3]) (by simp[results,Tryz.results68,go_sem,t0,t1,t2,t3,t4]) rfl HQ.out
  .obtain rfl:k=m:=Q
   have⟨t,ht,zt⟩:=(uM.below aK).ex k Q;rw[Nat.zero_add]at ht;have Kg:¬(k:Int)<(k:Int):=Q;have cR:=aK;cases hx:t.toList.isEmpty with
   |false=>
    clear HR;have⟨cP,dT⟩:=HX.out wq cR;obtain⟨g0,g1,g2,g3,g4⟩:wq.frozen? (O w.heap.size 0)=false/\wq.frozen? (O w.heap.size 1)=false/\wq.frozen? (O w.heap.size 2)=false/\wq.frozen? (O w.heap.size 3)=false/\wq.frozen? (O w.heap.size 4)=false:=⟨dT 0,dT 1,dT 2,dT 3,dT 4⟩;have⟨y0,d0⟩:=cP 0 Q;have⟨y1,d1⟩:=cP 1 Q;have⟨y2,d2⟩:=cP 2 Q;have⟨y3,d3⟩:=cP 3 Q;have⟨y4,d4⟩:=cP 4 Q;have ht:=vbI (W:=wq) (r:=w.heap.size) nS nS nS ((k:Int)) (3) cP;have mt:=vbJ (W:=wq) (r:=w.heap.size) (rv:=nS) (zv:=nS) (lv:=nS) (ln:=(k:Int)) (cd:=3) (WV BR (cR.mono (TP _))) (TP _);have HQ:Hid (vam w (V (.agg #[nS,nS,nS,J (k:Int),J 3])) (XK wq w.heap.size nS nS nS (k:Int) 3)):=⟨⟨_,_,_,_,_,rfl,mt,.inl ⟨rfl,rfl,rfl⟩⟩⟩;unfold XK at ht HQ;have⟨t0,t1,t2,t3,t4⟩:=ht;clear cP dT mt;go_wp2;exact Ue (v:=.agg #[nS,nS,nS,J (k:Int),J 3]) (by simp[results,Tryz.results68,go_sem,t0,t1,t2,t3,t4]) rfl HQ.out
   |true=>
    have c3:=HR.out.c3;cases more with
    |true=>
     clear HR;have⟨cP,dT⟩:=HX.out wq cR;obtain⟨g0,g1,g2,g3,g4⟩:wq.frozen? (O w.heap.size 0)=false/\wq.frozen? (O w.heap.size 1)=false/\wq.frozen? (O w.heap.size 2)=false/\wq.frozen? (O w.heap.size 3)=false/\wq.frozen? (O w.heap.size 4)=false:=⟨dT 0,dT 1,dT 2,dT 3,dT 4⟩;have⟨y0,d0⟩:=cP 0 Q;have⟨y1,d1⟩:=cP 1 Q;have⟨y2,d2⟩:=cP 2 Q;have⟨y3,d3⟩:=cP 3 Q;have⟨y4,d4⟩:=cP 4 Q;have ht:=vbI (W:=wq) (r:=w.heap.size) nS nS nS ((k:Int)) (3) cP;have mt:=vbJ (W:=wq) (r:=w.heap.size) (rv:=nS) (zv:=nS) (lv:=nS) (ln:=(k:Int)) (cd:=3) (WV BR (cR.mono (TP _))) (TP _);have HQ:Hid (vam w (V (.agg #[nS,nS,nS,J (k:Int),J 3])) (XK wq w.heap.size nS nS nS (k:Int) 3)):=⟨⟨_,_,_,_,_,rfl,mt,.inl ⟨rfl,rfl,rfl⟩⟩⟩;unfold XK at ht HQ;have⟨t0,t1,t2,t3,t4⟩:=ht;clear cP dT mt;go_wp2;exact Ue (v:=.agg #[nS,nS,nS,J (k:Int),J 3]) (by simp[results,Tryz.results68,go_sem,t0,t1,t2,t3,t4]) rfl HQ.out
    | false=>
     have⟨ra,ca,pV⟩:=vaP HR.out.rr;have⟨za,cz,Fe⟩:=vaP HR.out.zz;have⟨la,rK,Sq⟩:=vaP HR.out.ll;subst pV Fe Sq;have⟨na,Kh⟩:=TY R.Tw.length;have⟨nz,Cq⟩:=TY R.TC.length;have⟨nl,fH⟩:=TY R.TG.length;rw[Kh,Cq,fH]at HR;have c0:=HR.out.c0;have c1:=HR.out.c1;have c2:=HR.out.c2;have io:=fun(w:World) (h:Zd w (.agg #[U ra na ca,U za nz cz,U la nl rK]) R)=>jc7 R _ w h (HR.out.okR Q) (HR.out.vem Q) (λx hx=>by have:=(HR.out.sm.1 x hx).2.1;omega)
     have rN:=HR.out.rel;clear Kh Cq fH;cases hrb:Um R with
     |false=>
      rw[hrb]at io;clear hrb;go_wp2_with fail;refine(io _ rN).mono ?_;rintro e w5 ⟨rfl,aV⟩;clear cR;have cR:Bw w1 w5:=aK.trans (aV.mono hsz);clear HR io rN aV;have⟨cP,dT⟩:=HX.out w5 cR;obtain⟨g0,g1,g2,g3,g4⟩:w5.frozen? (O w.heap.size 0)=false/\w5.frozen? (O w.heap.size 1)=false/\w5.frozen? (O w.heap.size 2)=false/\w5.frozen? (O w.heap.size 3)=false/\w5.frozen? (O w.heap.size 4)=false:=⟨dT 0,dT 1,dT 2,dT 3,dT 4⟩;have⟨y0,d0⟩:=cP 0 Q;have⟨y1,d1⟩:=cP 1 Q;have⟨y2,d2⟩:=cP 2 Q;have⟨y3,d3⟩:=cP 3 Q;have⟨y4,d4⟩:=cP 4 Q;have ht:=vbI (W:=w5) (r:=w.heap.size) nS nS nS ((k:Int)) (1) cP;have mt:=vbJ (W:=w5) (r:=w.heap.size) (rv:=nS) (zv:=nS) (lv:=nS) (ln:=(k:Int)) (cd:=1) (WV BR (cR.mono (TP _))) (TP _);have HQ:Hid (vam w (V (.agg #[nS,nS,nS,J (k:Int),J 1])) (XK w5 w.heap.size nS nS nS (k:Int) 1)):=⟨⟨_,_,_,_,_,rfl,mt,.inl ⟨rfl,rfl,rfl⟩⟩⟩;unfold XK at ht HQ;have⟨t0,t1,t2,t3,t4⟩:=ht;clear cP dT mt;go_wp2;exact Ue (v:=.agg #[nS,nS,nS,J (k:Int),J 1]) (by simp[results,Tryz.results68,go_sem,t0,t1,t2,t3,t4]) rfl HQ.out
     |true=>
      have LY:=hid hrb;rw[hrb]at io;clear hrb;go_wp2_with fail;refine(io _ rN).mono ?_;rintro e w5 ⟨rfl,aV⟩;clear cR;have cR:Bw w1 w5:=aK.trans (aV.mono hsz);have gr:Hid (U0 w5 w1.heap.size w1.heap.size (U ra na ca) (U za nz cz) (U la nl rK) false R bP k):=HR.out.below aV;have c0:=gr.out.c0;have c1:=gr.out.c1;have c2:=gr.out.c2;have hrb:=LY.out;clear HR io rN aV;have⟨cP,dT⟩:=HX.out w5 cR;obtain⟨g0,g1,g2,g3,g4⟩:w5.frozen? (O w.heap.size 0)=false/\w5.frozen? (O w.heap.size 1)=false/\w5.frozen? (O w.heap.size 2)=false/\w5.frozen? (O w.heap.size 3)=false/\w5.frozen? (O w.heap.size 4)=false:=⟨dT 0,dT 1,dT 2,dT 3,dT 4⟩;have⟨y0,d0⟩:=cP 0 Q;have⟨y1,d1⟩:=cP 1 Q;have⟨y2,d2⟩:=cP 2 Q;have⟨y3,d3⟩:=cP 3 Q;have⟨y4,d4⟩:=cP 4 Q;have ht:=vbI (W:=w5) (r:=w.heap.size) (U ra na ca) (U za nz cz) (U la nl rK) (0) (0) cP;have mt:=vbJ (W:=w5) (r:=w.heap.size) (rv:=U ra na ca) (zv:=U za nz cz) (lv:=U la nl rK) (ln:=0) (cd:=0) (WV BR (cR.mono (TP _))) (TP _);have HQ:Hid (vam w (V (.agg #[U ra na ca,U za nz cz,U la nl rK,J 0,J 0])) (XK w5 w.heap.size (U ra na ca) (U za nz cz) (U la nl rK) 0 0)):=⟨⟨_,_,_,_,_,rfl,mt,.inr ⟨_,_,_,_,_,_,Nat.le_of_lt hlt,gr.out.lay hlt,hrb,Q⟩⟩⟩;clear hrb;unfold XK at ht HQ;have⟨t0,t1,t2,t3,t4⟩:=ht;clear cP dT mt;go_wp2;exact Ue (v:=.agg #[U ra na ca,U za nz cz,U la nl rK,J 0,J 0]) (by simp[results,Tryz.results68,go_sem,t0,t1,t2,t3,t4]) rfl HQ.out
theorem vgA(Dm:vcB)(s:ByteArray)(w:World)(hs:s.size<=1000000):C 68 #[I s] w λe w'=>vam w e w':=by
 by_cases h:s.size<=8000
 .exact vgC Dm s w h
 .exact vgB s w Q hs
theorem vgb:vcB:=⟨λB p K b n cap rv zv lv more R bP w h hB hK tb hn gF eh hW=>vgM B p K b n cap rv zv lv more R bP w h hB hK tb hn gF eh hW⟩
theorem vgD(s:ByteArray)(w:World)(hs:s.size<=1000000):C 68 #[I s] w λe w'=>vam w e w':=vgA vgb s w hs
theorem vgY{w':World}{e:Ending}(h:vam w e w'):∃a b c ca cb cc R ln cd,e=V (.agg #[U a R.Tw.length ca,U b R.TC.length cb,U c R.TG.length cc,J ln,J cd])/\Vl w.heap.size w' (.agg #[U a R.Tw.length ca,U b R.TC.length cb,U c R.TG.length cc]) R/\Jk R/\Bw w w':=by
 obtain⟨rv,zv,lv,ln,cd,rfl,hb,⟨rfl,rfl,rfl⟩|⟨B,p,more,R,bP,K,hB,hV,_,hK⟩⟩:=h.ex
 .exact⟨none,none,none,0,0,0,⟨[],[],[]⟩,ln,cd,rfl,λW' _=>⟨none,none,none,0,0,0,rfl,.inl rfl,.inl rfl,.inl rfl⟩,⟨⟨⟨Nat.zero_le _,λx hx=>by simp at hx⟩,⟨Nat.zero_le _,λx hx=>by simp at hx⟩,⟨Nat.zero_le _,λx hx=>by simp at hx⟩⟩,⟨Nat.zero_le _,Nat.zero_le _,Nat.zero_le _,λx hx=>by simp at hx⟩,λx hx=>by simp at hx⟩,hb⟩
 .obtain⟨a,ca,rfl⟩:=YW hV.rr
  obtain⟨b,cb,rfl⟩:=YW hV.zz;obtain⟨c,cc,rfl⟩:=YW hV.ll;refine⟨a,b,c,ca,cb,cc,R,ln,cd,rfl,λW' hW=>?_,⟨hV.okR hK,hV.vem hK,λx hx=>by have:=(hV.sm.1 x hx).2.1;omega⟩,hb⟩;exact vef (B:=B) (YV hV.rr λk cs h1 h2=>hW k cs _ (.inl rfl) Q h2) (YV hV.ll λk cs h1 h2=>hW k cs _ (.inr (.inr (.inr rfl))) Q h2) (YV hV.zz λk cs h1 h2=>hW k cs _ (.inr (.inl rfl)) Q h2) hV.el λi z ev h1 h2=>YV (hV.ee i z ev h1 h2).1 λk cs h1 h2=>hW k cs _ (.inr (.inr (.inl rfl))) Q h2
