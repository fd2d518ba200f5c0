import Derived.Test.YtbbgeelamjmgaaaGreatDoorRdCd
import Derived.Test.YtbbgeelamjmgaaaGreatDoorQAd
set_option maxRecDepth 20000
set_option maxHeartbeats 0
set_option linter.unusedSimpArgs false
open Go.RowKit Go.Sort
namespace Go.Proofs.YtbbgeelamjmgaaaGreatDoor
variable{W w:World}{B K base p r:Nat}{lv rv v zv:Value}{cd ln:Int}{more:Bool}{R:ZW}{bP:List Value}
theorem vfB{α:Type}{l:List α}(h:1<=l.length):∃a x,l=a++[x]:=by
 rcases List.eq_nil_or_concat l with rfl|⟨a,x,rfl⟩
 .simp at h
 .exact⟨a,x,M⟩
theorem viy(B p K b n cap:Nat)(rv zv lv:Value)(R:ZW)(bP:List Value)(w:World)(h:zX w B p rv zv lv true R bP K)(hB:B<=w.heap.size)(hK:K<=8001)(gF:n<=8001)(eh:n<=cap)(hW:vas w b 0 n):
  C 114 #[.pointer (some (O p 0)),so b n cap] w λe w'=>vaJ B p K w e w':=by
 have⟨i0,hi,aG,aH,aF⟩:=jqj;obtain⟨Rs,YU,Ls⟩:=R;obtain⟨Zs,z,rfl⟩:=vfB (h.mo rfl);obtain⟨Es,ev,rfl⟩:=vfB (l:=bP) (by rw[h.el];simp);have uS:Es.length=Zs.length:=by have:=h.el;simpa using this
 have c3:=h.c3;unfold C;go_in;go_wp2_with fail;refine(veo b 0 n cap _ gF eh hW).mono ?_;rintro e w1 hP;obtain⟨⟨e0,e1,e2,e3,e4,e5⟩,m2,kx,rfl,rX,hb1⟩:=hP.ex;unfold ZH.v;have h1:=h.below hb1;clear hP c3;go_upto_region 3 with fail
 obtain⟨wv,cO⟩:∃x:World,(w1.alloc (G #[J e0,I e1,J e2,I e3,J e4,I e5] 154))=x:=⟨_,rfl⟩;have jo:Bw w1 wv:=by rw[<- cO];exact ZA _ _
 have k0:wv.cell? (O w1.heap.size 0)=some (J e0):=by rw[<- cO];simp[go_sem]
 have k1:wv.cell? (O w1.heap.size 1)=some (I e1):=by rw[<- cO];simp[go_sem]
 have k2:wv.cell? (O w1.heap.size 2)=some (J e2):=by rw[<- cO];simp[go_sem]
 have k3:wv.cell? (O w1.heap.size 3)=some (I e3):=by rw[<- cO];simp[go_sem]
 have k4:wv.cell? (O w1.heap.size 4)=some (J e4):=by rw[<- cO];simp[go_sem]
 have k5:wv.cell? (O w1.heap.size 5)=some (I e5):=by rw[<- cO];simp[go_sem]
 have h2:=h1.below jo;have AW:B<=wv.heap.size:=Nat.le_trans hB (Nat.le_trans hb1.size jo.size);have BR:Below B w wv:=(hb1.mono hB).trans (jo.mono (Nat.le_trans hB hb1.size));rw[cO];clear cO;have⟨L,hL⟩:=ZL Zs.length;have⟨vMM,hM⟩:=ZL z.ZC.length;have lz:wv.ownsRow B 120 2 zv (L+1) (vae (Zs++[z]) (Es++[ev])).flatten:=by have:=h2.zz;rw[<- hL];simpa using this
 have⟨gz,cz,Fe,_,_⟩:=lz.form Q;subst Fe;have⟨jb,gR,MC⟩:=h2.ee Zs.length z ev M (by rw[<- uS];simp);rw[hM]at jb gR MC;have⟨ge,ce,jH,_,_⟩:=jb.form Q;subst jH;have Ru:L<=8001:=by have:=h2.sz.2.1;simp at this;omega
 have q0:wv.cell? (O p 1)=some (so gz (L+1) cz):=h2.c1;have qz:wv.cell? (O gz (L*2+1))=some (so ge vMM ce):=by
  rw[lz.cellAt (L*2+1) Q,vdM uS,List.flatten_append,List.getElem?_append_right (by rw[vdL _ _ uS];omega),vdL _ _ uS,hL];rw[show L*2+1-L*2=1 by omega];rfl
 have zf:wv.frozen? (O gz (L*2+1))=false:=lz.frozenAt _;have az:some p≠(so ge vMM ce).ownBlock:=vah jb h2.tp vcc;have Ek:∃cur,wv.heap[gz]? =some (G cur 120 (0,0)):=vdD lz rfl;have Cq:some gz≠(so ge vMM ce).ownBlock:=vah jb Ek (Ne.symm vcQ);have RJ:p≠gz:=vdf h2.tp Ek (Ne.symm vb2);have HD:Hid (zX wv B p rv (so gz (Zs.length+1) cz) lv true ⟨Rs,Zs++[z],Ls⟩ (Es++[so ge vMM ce]) K):=by have:=h2;rw[<- hL]at this;exact this
 have HL:=hid hL;have HM:=hid hM;have LX:=hid uS;have ba:∀o,Bw wv (wv.drew.alloc o):=λo=>(show Bw wv wv.drew from rW wv).alloc (ZD _) o
 have dV:B<=gz:=(World.ownsRow.lt lz gz rfl).1;have Fb:gz<wv.heap.size:=ZI qz;clear h2 h1 h hb1 jo hL hM uS Ek;have Rv:(0:Int)<=(L:Int):=Q;have un:(L:Int)<(L:Int)+1:=Q;have L9:(wv.alloc (G #[J e0,I e1,J e2,I e3,J e4,I e5] 154)).cell? (O p 1)=some (so gz (L+1) cz):=Z6 (w1:=wv) q0 (ZA _ _);have Sl:(wv.alloc (G #[J e0,I e1,J e2,I e3,J e4,I e5] 154)).cell? (O gz (L*2+1))=some (so ge vMM ce):=Z6 (w1:=wv) qz (ZA _ _);go_upto_region 4 with fail
 go_region_law (refine step_append_lies _ Si (.tmp 45) (.tmp 47) 118 Si B 154 i0 (.agg #[J 0,Rn,J 0,Rn,J 0,Rn]) 6 72 Tryz.underlying118 hi aG aH aF rfl Q (so ge vMM ce) vMM (z.ZC.map ZH.cs).flatten Si (nO (w:=wv.drew) jb _) (O wv.heap.size 0) 1 1 [J e0,I e1,J e2,I e3,J e4,I e5] Si rfl (Ka _ _ _) (by intro u hu;simp at hu;rcases hu with rfl|rfl|rfl|rfl|rfl|rfl<;>rfl) Q (by unfold maxLen;omega) Q RO _ rfl ?_;intro g1 aC w2 av af bE hlt1;have r3:=af.cell (a:=(O p 1)) (Z6 (w1:=wv) q0 (ba _)) az;have r1:=af.cell (a:=(O gz (L*2+1))) (Z6 (w1:=wv) qz (ba _)) Cq;have r2:=(af.frozen_far (O gz (L*2+1)) RO Cq).trans (((Z4 (ba _)).2 _ _ Fb).trans zf))
 all_goals
  have h3:=(HD.out.below (ba (G #[J e0,I e1,J e2,I e3,J e4,I e5] 154))).vgP (m2:=m2) (E:=⟨e0,e1,e2,e3,e4,e5⟩) LX.out af (by rw[HM.out];exact av) bE rfl rX;rw[HL.out,HM.out]at h3;have ac:=(j3y (BR.trans ((ba (G #[J e0,I e1,J e2,I e3,J e4,I e5] 154)).mono AW)) af (nO (w:=wv.drew) jb _) (ZD _) RO).setCell (p:=(O gz (L*2+1))) dV (so g1 (vMM+1) aC);have ar:=ac.setCell (p:=(O p 3)) HD.out.hp (.bool m2);have⟨d0,d1,d2,d3,dt⟩:=(HD.out.below (ba (G #[J e0,I e1,J e2,I e3,J e4,I e5] 154))).cells af az;have x3:(w2.setCell (O gz (L*2+1)) (so g1 (vMM+1) aC)).cell? (O p 3)=some (.bool true):=by rw[ZT _ _ _ _ vQj];exact d3
  have f3:(w2.setCell (O gz (L*2+1)) (so g1 (vMM+1) aC)).frozen? (O p 3)=false:=by rw[World.frozen?_setCell];exact vcm dt 3
  have HP:Hid (∀k,vaJ B p K w (V (.bool k)) ((w2.setCell (O gz (L*2+1)) (so g1 (vMM+1) aC)).setCell (O p 3) (.bool m2))):=λk=>⟨⟨k,_,_,_,_,_,_,rfl,h3,ar⟩⟩
  clear h3 ac ar af bE hlt1 r1 r2 r3 av d0 d1 d2 d3 dt;generalize w2.setCell (O gz (L*2+1)) (so g1 (vMM+1) aC)=w3 at *;go_wp2;go_ret;exact HP.out _
theorem viv(B p K b n cap:Nat)(rv zv lv:Value)(more:Bool)(R:ZW)(bP:List Value)(w:World)(h:zX w B p rv zv lv more R bP K)(hB:B<=w.heap.size)(hK:K<=8001)(tb:∃cs,w.heap[b]? =some (G cs 9 (0,0)))(hn:1<=n)(gF:n<=8001)(eh:n<=cap)(hW:vas w b 0 n):
  C 114 #[.pointer (some (O p 0)),so b n cap] w λe w'=>vaJ B p K w e w':=by
 cases more with
 |true=>exact viy B p K b n cap rv zv lv R bP w h hB hK gF eh hW
 |false=>
  have⟨s0,c0,z0⟩:=hW.ex 0 Q;rw[Nat.zero_add]at c0;cases h0:(s0.toList==[82,117,108,101])with
  |true=>exact viA B p K b n cap rv zv lv R bP w h hB hK hW hn s0 c0 h0
  |false=>
   cases h1:(s0.toList==[90,111,110,101])with
   | true=>
    by_cases iO:n=1
    .subst iO;exact viC B p K b cap rv zv lv R bP w h s0 c0 h0 h1
    .have⟨s1,c1,z1⟩:=hW.ex 1 Q
     rw[Nat.zero_add]at c1;exact viB B p K b n cap rv zv lv R bP w h hB hK tb Q gF eh hW s0 s1 c0 c1 z1 h0 h1
   |false=>
    cases h2:(s0.toList==[76,105,110,107])with
    | true=>
     by_cases vk:n=3
     .subst vk
      have⟨s1,c1,z1⟩:=hW.ex 1 Q;have⟨s2,c2,z2⟩:=hW.ex 2 Q;rw[Nat.zero_add]at c1 c2;exact viw B p K b cap rv zv lv R bP w h hB hK tb s0 s1 s2 c0 c1 c2 z1 z2 h0 h1 h2
     .exact vix B p K b n cap rv zv lv R bP w h s0 hn gF vk c0 h0 h1 h2
    |false=>exact viz B p K b n cap rv zv lv R bP w h s0 hn c0 h0 h1 h2
structure vdU:Prop where
 go:∀(B p K b n cap:Nat) (rv zv lv:Value) (more:Bool) (R:ZW) (bP:List Value) (w:World),zX w B p rv zv lv more R bP K->B<=w.heap.size->K<=8001->(∃cs,w.heap[b]? =some (G cs 9 (0,0)))->1<=n->n<=8001->n<=cap->vas w b 0 n->
  C 114 #[.pointer (some (O p 0)),so b n cap] w λe w'=>vaJ B p K w e w'
theorem viF(w:World):zX (w.alloc (G #[nS,nS,nS,.bool false] 168)) w.heap.size w.heap.size nS nS nS false ⟨[],[],[]⟩ [] 0 where
 c0:=RQ
 c1:=RQ
 c2:=RQ
 c3:=RQ
 tp:=⟨_,heap_alloc_new w _⟩
 hp:=ZD _
 rr:=World.ownsRow_nil _ _ _ _
 ll:=World.ownsRow_nil _ _ _ _
 zz:=World.ownsRow_nil _ _ _ _
 el:=rfl
 ee:=λi z ev h1 h2=>by simp at h1
 nd:=λi j ev Cn h1 h2 _=>by simp at h1
 mo:=λh=>by cases h
 sz:=⟨ZD _,ZD _,ZD _⟩
 sm:=⟨λx hx=>by simp at hx,λx hx=>by simp at hx,λx hx=>by simp at hx⟩
structure vbG(w:World)(e:Ending)(w':World):Prop where
 ex:∃(rv zv lv:Value) (ln cd:Int),e=V (.agg #[rv,zv,lv,J ln,J cd])/\Bw w w'/\((rv=nS/\zv=nS/\lv=nS)\/∃B p more R bP K,w.heap.size<=B/\zX w' B p rv zv lv more R bP K/\ZZ R=true/\K<=8001)
def vaO(W:World)(r:Nat)(rv zv lv:Value)(ln cd:Int):World:=(((((W.setCell (O r 0) (rv)).setCell (O r 1) (zv)).setCell (O r 2) (lv)).setCell (O r 3) (J ln)).setCell (O r 4) (J cd))
theorem vc3(rv zv lv:Value)(ln cd:Int)(h:∀j,j<5->∃x,W.cell? (O r j)=some x):(vaO W r rv zv lv ln cd).cell? (O r 0)=some (rv)/\(vaO W r rv zv lv ln cd).cell? (O r 1)=some (zv)/\(vaO W r rv zv lv ln cd).cell? (O r 2)=some (lv)/\(vaO W r rv zv lv ln cd).cell? (O r 3)=some (J ln)/\(vaO W r rv zv lv ln cd).cell? (O r 4)=some (J cd):=by
 have o:∀(W:World) (i j:Nat) (v x:Value),i≠j->W.cell? (O r j)=some x->(W.setCell (O r i) v).cell? (O r j)=some x:=λW i j v x eF hx=>by
  rw[ZT _ _ _ _ vQj];exact hx
 have s:∀(W:World) (i:Nat) (v:Value),(∃x,W.cell? (O r i)=some x)->(W.setCell (O r i) v).cell? (O r i)=some v:=λW i v ⟨x,hx⟩=>Bf _ _ _ hx
 have⟨x0,h0⟩:=h 0 Q;have⟨x1,h1⟩:=h 1 Q;have⟨x2,h2⟩:=h 2 Q;have⟨x3,h3⟩:=h 3 Q;have⟨x4,h4⟩:=h 4 Q;unfold vaO;exact⟨o _ 4 0 _ _ Q (o _ 3 0 _ _ Q (o _ 2 0 _ _ Q (o _ 1 0 _ _ Q (s _ 0 _ ⟨_,h0⟩)))),o _ 4 1 _ _ Q (o _ 3 1 _ _ Q (o _ 2 1 _ _ Q (s _ 1 _ ⟨_,o _ 0 1 _ _ Q (h1)⟩))),o _ 4 2 _ _ Q (o _ 3 2 _ _ Q (s _ 2 _ ⟨_,o _ 1 2 _ _ Q (o _ 0 2 _ _ Q (h2))⟩)),o _ 4 3 _ _ Q (s _ 3 _ ⟨_,o _ 2 3 _ _ Q (o _ 1 3 _ _ Q (o _ 0 3 _ _ Q (h3)))⟩),s _ 4 _ ⟨_,o _ 3 4 _ _ Q (o _ 2 4 _ _ Q (o _ 1 4 _ _ Q (o _ 0 4 _ _ Q (h4))))⟩⟩
theorem vc4(h:Bw w W)(hr:w.heap.size<=r):Bw w (vaO W r rv zv lv ln cd):=
 ((((h.setCell hr _).setCell hr _).setCell hr _).setCell hr _).setCell hr _
theorem zX.vdb{j:Nat}{u:Value}(h:zX w B p rv zv lv more R bP K)(hr:r<B):zX (w.setCell (O r j) u) B p rv zv lv more R bP K:=by
 have hp:=h.hp;have hc:∀i x,w.cell? (O p i)=some x->(w.setCell (O r j) u).cell? (O p i)=some x:=λi x hx=>by
  rw[ZT _ _ _ _ vQj];exact hx
 have hk:∀{e:TypeId} {size:Nat} {v:Value} {n:Nat} {xs:List Value},w.ownsRow B e size v n xs->(w.setCell (O r j) u).ownsRow B e size v n xs:=λhh=>vbl hh (λe=>by have:=(World.ownsRow.lt hh r e.symm).1;omega)
 exact {
  c0:=hc 0 _ h.c0
  c1:=hc 1 _ h.c1
  c2:=hc 2 _ h.c2
  c3:=hc 3 _ h.c3
  tp:=by have⟨cs,hh⟩:=h.tp;exact⟨cs,(heap_setCell_other _ _ p _ RO).trans hh⟩
  hp:=hp
  rr:=hk h.rr
  ll:=hk h.ll
  zz:=hk h.zz
  el:=h.el
  ee:=λi z ev h1 h2=>by have⟨a,b⟩:=h.ee i z ev h1 h2;exact⟨hk a,b⟩
  nd:=h.nd
  mo:=h.mo
  sz:=h.sz
  sm:=h.sm }
theorem zX.lay{a b c:Value}(h:zX w B p rv zv lv more R bP K)(hr:r<B):zX (vaO w r a b c ln cd) B p rv zv lv more R bP K:=by
 unfold vaO;exact((((h.vdb hr).vdb hr).vdb hr).vdb hr).vdb hr
theorem vgy{n:Nat}(h:Strs w base v n K)(hn:1<=n)(hK:K<=8000):∃b cap,v=so b n cap/\n<=cap/\(∃cs,w.heap[b]? =some (G cs 9 (0,0)))/\vas w b 0 n:=by
 obtain⟨L,rfl,ai,hs⟩:=h.ex;have ao:=ai;rcases ao.2 with⟨_,h0⟩|⟨b,cap,cur,rfl,_,hc,eh,_⟩
 .omega
 .refine⟨b,cap,rfl,eh,⟨cur,hc⟩,⟨λk hk=>?_⟩⟩
  refine⟨L[k],?_,Nat.le_trans (hs _ (List.getElem_mem hk)) hK⟩;rw[Nat.zero_add,ai.cellAt k Q,Z8,ZV hk];rfl
theorem vjb(h:Strs w base v 0 K):∃a c,v=U a 0 c:=by
 have⟨L,hl,ai,_⟩:=h.ex;have⟨a,c,hv⟩:=vca ai;rw[hl]at hv;exact⟨a,c,hv⟩
theorem vik(s:ByteArray)(w:World)(hs:8000<s.size)(_hs2:s.size<=1000000):C 75 #[I s] w λe w'=>vbG w e w':=by
 have hB:=λo=>ZA w o
 unfold C;go_in;go_wp2;exact ZM (v:=.agg #[nS,nS,nS,J 0,J 2]) (by simp[results,Tryz.results75,go_sem]) rfl ⟨⟨_,_,_,_,_,rfl,hB _,.inl ⟨rfl,rfl,rfl⟩⟩⟩
theorem vil(Dm:vdU)(s:ByteArray)(w:World)(hs:s.size<=8000):C 75 #[I s] w λe w'=>vbG w e w':=by
 have ag:=λo=>ZA w o
 unfold C;go_in;go_wp2_with fail;refine(vex 10 s _ hs).mono ?_;rintro e w1 ⟨v,n,rfl,n1,n2,ei,hb1⟩;replace ei:=ei.mono hs;obtain⟨gl,cl,rfl,_,_,uM⟩:=vgy ei n1 (ZD _);have BR:Bw w w1:=(ag _).trans (hb1.mono M);have hr:∀j,j<5->∃x,w1.cell? (O w.heap.size j)=some x:=λj hj=>by
  obtain rfl|rfl|rfl|rfl|rfl:j=0\/j=1\/j=2\/j=3\/j=4:=Q
  all_goals exact⟨_,Z6 (w1:=w.alloc (G #[nS,nS,nS,J 0,J 0] 134)) (by simp[go_sem];rfl) hb1⟩
 have hf:∀j,w1.frozen? (O w.heap.size j)=false:=λj=>((Z4 hb1).2 _ _ M).trans RQ
 have hlt:w.heap.size<w1.heap.size:=by have⟨x,hx⟩:=hr 0 Q;exact ZI hx
 have lQ:=viF w1;obtain⟨m,rfl⟩:∃m,n=m+1:=⟨n-1,Q⟩;clear ei hb1 ag;have HX:Hid (∀wx,Bw w1 wx->(∀j,j<5->∃x,wx.cell? (O w.heap.size j)=some x)/\∀j,wx.frozen? (O w.heap.size j)=false):=λwx hx=>⟨λj hj=>by have⟨x,h⟩:=hr j hj;exact⟨x,Z6 h hx⟩,λj=>((Z4 hx).2 _ _ hlt).trans (hf j)⟩
 clear hr hf;go_wp2;go_loopw [6,7] (λi x7 wr=>∃(k:Nat) (rv zv lv:Value) (more:Bool) (R:ZW) (bP:List Value),k<=m/\i=J k/\Hid (zX wr w1.heap.size w1.heap.size rv zv lv more R bP k)/\Bw w1 wr) (λi _ _=>m-(intOf i).toNat)
 .exact⟨0,_,_,_,_,_,_,Q,rfl,lQ,ZA _ _⟩
 ·
  obtain⟨k,rv,zv,lv,more,R,bP,hk,rfl,HR,aK⟩:=hrel;have⟨wq,qQ⟩:=wL wr;subst qQ;have hsz:=aK.size;by_cases je:k<m
  .have⟨t,ht,zt⟩:=(uM.below aK).ex k Q
   rw[Nat.zero_add]at ht;have Kg:(k:Int)<(m:Int):=Q;go_wp2_with fail;refine(vjn t _ zt).mono ?_;rintro e w3 hP;obtain⟨v3,n3,rfl,vk,pX,ar⟩:=hP.ex;have uq:Hid (zX w3 w1.heap.size w1.heap.size rv zv lv more R bP k):=HR.out.below ar;have ax:Bw w1 w3:=aK.trans (ar.mono hsz);clear hP HR ht aK;by_cases lm:n3=0
   .subst lm
    obtain⟨a3,c3,rfl⟩:=vjb pX;clear pX;go_wp2;go_roundw
    .exact⟨k+1,_,_,_,_,_,_,Q,RP,uq.out.more,ax⟩
    .simp[intOf];omega
   .obtain⟨b3,Cj,rfl,DZ,Lm,qo⟩:=vgy pX Q (ZD _)
    have nK:(0:Int)<(n3:Int):=Q;clear pX;go_wp2_with fail;refine(Dm.go w1.heap.size w1.heap.size k b3 n3 Cj rv zv lv more R bP _ uq.out ax.size Q Lm Q vk DZ qo).mono ?_;rintro e w4 hP;obtain⟨ok,Sm,ST,Se,L8,R4,Mu,rfl,pT,aD⟩:=hP.ex;have cR:Bw w1 w4:=ax.trans aD;have GA:=hid pT;clear hP pT aD ax uq qo Lm;cases ok with
    |true=>
     go_wp2;go_roundw
     .exact⟨k+1,_,_,_,_,_,_,Q,RP,GA,cR⟩
     .simp[intOf];omega
    |false=>
     clear GA;have⟨cP,dT⟩:=HX.out w4 cR;obtain⟨g0,g1,g2,g3,g4⟩:w4.frozen? (O w.heap.size 0)=false/\w4.frozen? (O w.heap.size 1)=false/\w4.frozen? (O w.heap.size 2)=false/\w4.frozen? (O w.heap.size 3)=false/\w4.frozen? (O w.heap.size 4)=false:=⟨dT 0,dT 1,dT 2,dT 3,dT 4⟩;have⟨y0,d0⟩:=cP 0 Q;have⟨y1,d1⟩:=cP 1 Q;have⟨y2,d2⟩:=cP 2 Q;have⟨y3,d3⟩:=cP 3 Q;have⟨y4,d4⟩:=cP 4 Q;have ht:=vc3 (W:=w4) (r:=w.heap.size) nS nS nS ((k:Int)) (3) cP;have mt:=vc4 (W:=w4) (r:=w.heap.size) (rv:=nS) (zv:=nS) (lv:=nS) (ln:=(k:Int)) (cd:=3) (vat BR (cR.mono (ZD _))) (ZD _);have HQ:Hid (vbG w (V (.agg #[nS,nS,nS,J (k:Int),J 3])) (vaO w4 w.heap.size nS nS nS (k:Int) 3)):=⟨⟨_,_,_,_,_,rfl,mt,.inl ⟨rfl,rfl,rfl⟩⟩⟩;unfold vaO at ht HQ;have⟨t0,t1,t2,t3,t4⟩:=ht;clear cP dT mt;go_wp2;exact ZM (v:=.agg #[nS,nS,nS,J (k:Int),J 3]) (by simp[results,Tryz.results75,go_sem,t0,t1,t2,t3,t4]) rfl HQ.out
  .obtain rfl:k=m:=Q
   have⟨t,ht,zt⟩:=(uM.below aK).ex k Q;rw[Nat.zero_add]at ht;have Kg:¬(k:Int)<(k:Int):=Q;have cR:=aK;cases hx:t.toList.isEmpty with
   |false=>
    clear HR;have⟨cP,dT⟩:=HX.out wq cR;obtain⟨g0,g1,g2,g3,g4⟩:wq.frozen? (O w.heap.size 0)=false/\wq.frozen? (O w.heap.size 1)=false/\wq.frozen? (O w.heap.size 2)=false/\wq.frozen? (O w.heap.size 3)=false/\wq.frozen? (O w.heap.size 4)=false:=⟨dT 0,dT 1,dT 2,dT 3,dT 4⟩;have⟨y0,d0⟩:=cP 0 Q;have⟨y1,d1⟩:=cP 1 Q;have⟨y2,d2⟩:=cP 2 Q;have⟨y3,d3⟩:=cP 3 Q;have⟨y4,d4⟩:=cP 4 Q;have ht:=vc3 (W:=wq) (r:=w.heap.size) nS nS nS ((k:Int)) (3) cP;have mt:=vc4 (W:=wq) (r:=w.heap.size) (rv:=nS) (zv:=nS) (lv:=nS) (ln:=(k:Int)) (cd:=3) (vat BR (cR.mono (ZD _))) (ZD _);have HQ:Hid (vbG w (V (.agg #[nS,nS,nS,J (k:Int),J 3])) (vaO wq w.heap.size nS nS nS (k:Int) 3)):=⟨⟨_,_,_,_,_,rfl,mt,.inl ⟨rfl,rfl,rfl⟩⟩⟩;unfold vaO at ht HQ;have⟨t0,t1,t2,t3,t4⟩:=ht;clear cP dT mt;go_wp2;exact ZM (v:=.agg #[nS,nS,nS,J (k:Int),J 3]) (by simp[results,Tryz.results75,go_sem,t0,t1,t2,t3,t4]) rfl HQ.out
   |true=>
    have c3:=HR.out.c3;cases more with
    |true=>
     clear HR;have⟨cP,dT⟩:=HX.out wq cR;obtain⟨g0,g1,g2,g3,g4⟩:wq.frozen? (O w.heap.size 0)=false/\wq.frozen? (O w.heap.size 1)=false/\wq.frozen? (O w.heap.size 2)=false/\wq.frozen? (O w.heap.size 3)=false/\wq.frozen? (O w.heap.size 4)=false:=⟨dT 0,dT 1,dT 2,dT 3,dT 4⟩;have⟨y0,d0⟩:=cP 0 Q;have⟨y1,d1⟩:=cP 1 Q;have⟨y2,d2⟩:=cP 2 Q;have⟨y3,d3⟩:=cP 3 Q;have⟨y4,d4⟩:=cP 4 Q;have ht:=vc3 (W:=wq) (r:=w.heap.size) nS nS nS ((k:Int)) (3) cP;have mt:=vc4 (W:=wq) (r:=w.heap.size) (rv:=nS) (zv:=nS) (lv:=nS) (ln:=(k:Int)) (cd:=3) (vat BR (cR.mono (ZD _))) (ZD _);have HQ:Hid (vbG w (V (.agg #[nS,nS,nS,J (k:Int),J 3])) (vaO wq w.heap.size nS nS nS (k:Int) 3)):=⟨⟨_,_,_,_,_,rfl,mt,.inl ⟨rfl,rfl,rfl⟩⟩⟩;unfold vaO at ht HQ;have⟨t0,t1,t2,t3,t4⟩:=ht;clear cP dT mt;go_wp2;exact ZM (v:=.agg #[nS,nS,nS,J (k:Int),J 3]) (by simp[results,Tryz.results75,go_sem,t0,t1,t2,t3,t4]) rfl HQ.out
    | false=>
     have⟨ra,ca,pV⟩:=vca HR.out.rr;have⟨za,cz,Fe⟩:=vca HR.out.zz;have⟨la,rK,Sq⟩:=vca HR.out.ll;subst pV Fe Sq;have⟨na,Kh⟩:=ZL R.Vv.length;have⟨nz,Cq⟩:=ZL R.YU.length;have⟨nl,fH⟩:=ZL R.YW.length;rw[Kh,Cq,fH]at HR;have c0:=HR.out.c0;have c1:=HR.out.c1;have c2:=HR.out.c2;have io:=fun(w:World) (h:Zd w (.agg #[U ra na ca,U za nz cz,U la nl rK]) R)=>jc7 R _ w h (HR.out.okR Q) (HR.out.vf7 Q) (λx hx=>by have:=(HR.out.sm.1 x hx).2.1;omega)
     have rN:=HR.out.rel;clear Kh Cq fH;cases hrb:ZZ R with
     |false=>
      rw[hrb]at io;clear hrb;go_wp2_with fail;refine(io _ rN).mono ?_;rintro e w5 ⟨rfl,aV⟩;clear cR;have cR:Bw w1 w5:=aK.trans (aV.mono hsz);clear HR io rN aV;have⟨cP,dT⟩:=HX.out w5 cR;obtain⟨g0,g1,g2,g3,g4⟩:w5.frozen? (O w.heap.size 0)=false/\w5.frozen? (O w.heap.size 1)=false/\w5.frozen? (O w.heap.size 2)=false/\w5.frozen? (O w.heap.size 3)=false/\w5.frozen? (O w.heap.size 4)=false:=⟨dT 0,dT 1,dT 2,dT 3,dT 4⟩;have⟨y0,d0⟩:=cP 0 Q;have⟨y1,d1⟩:=cP 1 Q;have⟨y2,d2⟩:=cP 2 Q;have⟨y3,d3⟩:=cP 3 Q;have⟨y4,d4⟩:=cP 4 Q;have ht:=vc3 (W:=w5) (r:=w.heap.size) nS nS nS ((k:Int)) (1) cP;have mt:=vc4 (W:=w5) (r:=w.heap.size) (rv:=nS) (zv:=nS) (lv:=nS) (ln:=(k:Int)) (cd:=1) (vat BR (cR.mono (ZD _))) (ZD _);have HQ:Hid (vbG w (V (.agg #[nS,nS,nS,J (k:Int),J 1])) (vaO w5 w.heap.size nS nS nS (k:Int) 1)):=⟨⟨_,_,_,_,_,rfl,mt,.inl ⟨rfl,rfl,rfl⟩⟩⟩;unfold vaO at ht HQ;have⟨t0,t1,t2,t3,t4⟩:=ht;clear cP dT mt;go_wp2;exact ZM (v:=.agg #[nS,nS,nS,J (k:Int),J 1]) (by simp[results,Tryz.results75,go_sem,t0,t1,t2,t3,t4]) rfl HQ.out
     |true=>
      have LY:=hid hrb;rw[hrb]at io;clear hrb;go_wp2_with fail;refine(io _ rN).mono ?_;rintro e w5 ⟨rfl,aV⟩;clear cR;have cR:Bw w1 w5:=aK.trans (aV.mono hsz);have gr:Hid (zX w5 w1.heap.size w1.heap.size (U ra na ca) (U za nz cz) (U la nl rK) false R bP k):=HR.out.below aV;have c0:=gr.out.c0;have c1:=gr.out.c1;have c2:=gr.out.c2;have hrb:=LY.out;clear HR io rN aV;have⟨cP,dT⟩:=HX.out w5 cR;obtain⟨g0,g1,g2,g3,g4⟩:w5.frozen? (O w.heap.size 0)=false/\w5.frozen? (O w.heap.size 1)=false/\w5.frozen? (O w.heap.size 2)=false/\w5.frozen? (O w.heap.size 3)=false/\w5.frozen? (O w.heap.size 4)=false:=⟨dT 0,dT 1,dT 2,dT 3,dT 4⟩;have⟨y0,d0⟩:=cP 0 Q;have⟨y1,d1⟩:=cP 1 Q;have⟨y2,d2⟩:=cP 2 Q;have⟨y3,d3⟩:=cP 3 Q;have⟨y4,d4⟩:=cP 4 Q;have ht:=vc3 (W:=w5) (r:=w.heap.size) (U ra na ca) (U za nz cz) (U la nl rK) (0) (0) cP;have mt:=vc4 (W:=w5) (r:=w.heap.size) (rv:=U ra na ca) (zv:=U za nz cz) (lv:=U la nl rK) (ln:=0) (cd:=0) (vat BR (cR.mono (ZD _))) (ZD _);have HQ:Hid (vbG w (V (.agg #[U ra na ca,U za nz cz,U la nl rK,J 0,J 0])) (vaO w5 w.heap.size (U ra na ca) (U za nz cz) (U la nl rK) 0 0)):=⟨⟨_,_,_,_,_,rfl,mt,.inr ⟨_,_,_,_,_,_,Nat.le_of_lt hlt,gr.out.lay hlt,hrb,Q⟩⟩⟩;clear hrb;unfold vaO at ht HQ;have⟨t0,t1,t2,t3,t4⟩:=ht;clear cP dT mt;go_wp2;exact ZM (v:=.agg #[U ra na ca,U za nz cz,U la nl rK,J 0,J 0]) (by simp[results,Tryz.results75,go_sem,t0,t1,t2,t3,t4]) rfl HQ.out
theorem vij(Dm:vdU)(s:ByteArray)(w:World)(hs:s.size<=1000000):C 75 #[I s] w λe w'=>vbG w e w':=by
 by_cases h:s.size<=8000
 .exact vil Dm s w h
 .exact vik s w Q hs
theorem vhP:vdU:=⟨λB p K b n cap rv zv lv more R bP w h hB hK tb hn gF eh hW=>viv B p K b n cap rv zv lv more R bP w h hB hK tb hn gF eh hW⟩
theorem vim(s:ByteArray)(w:World)(hs:s.size<=1000000):C 75 #[I s] w λe w'=>vbG w e w':=vij vhP s w hs
theorem viI{w':World}{e:Ending}(h:vbG w e w'):∃a b c ca cb cc R ln cd,e=V (.agg #[U a R.Vv.length ca,U b R.YU.length cb,U c R.YW.length cc,J ln,J cd])/\Gz w.heap.size w' (.agg #[U a R.Vv.length ca,U b R.YU.length cb,U c R.YW.length cc]) R/\Jk R/\Bw w w':=by
 obtain⟨rv,zv,lv,ln,cd,rfl,hb,⟨rfl,rfl,rfl⟩|⟨B,p,more,R,bP,K,hB,hV,_,hK⟩⟩:=h.ex
 .exact⟨none,none,none,0,0,0,⟨[],[],[]⟩,ln,cd,rfl,λW' _=>⟨none,none,none,0,0,0,rfl,.inl rfl,.inl rfl,.inl rfl⟩,⟨⟨⟨Nat.zero_le _,λx hx=>by simp at hx⟩,⟨Nat.zero_le _,λx hx=>by simp at hx⟩,⟨Nat.zero_le _,λx hx=>by simp at hx⟩⟩,⟨Nat.zero_le _,Nat.zero_le _,Nat.zero_le _,λx hx=>by simp at hx⟩,λx hx=>by simp at hx⟩,hb⟩
 .obtain⟨a,ca,rfl⟩:=vao hV.rr
  obtain⟨b,cb,rfl⟩:=vao hV.zz;obtain⟨c,cc,rfl⟩:=vao hV.ll;refine⟨a,b,c,ca,cb,cc,R,ln,cd,rfl,λW' hW=>?_,⟨hV.okR hK,hV.vf7 hK,λx hx=>by have:=(hV.sm.1 x hx).2.1;omega⟩,hb⟩;exact vfX (B:=B) (vbm hV.rr λk cs h1 h2=>hW k cs _ (.inl rfl) Q h2) (vbm hV.ll λk cs h1 h2=>hW k cs _ (.inr (.inr (.inr rfl))) Q h2) (vbm hV.zz λk cs h1 h2=>hW k cs _ (.inr (.inl rfl)) Q h2) hV.el λi z ev h1 h2=>vbm (hV.ee i z ev h1 h2).1 λk cs h1 h2=>hW k cs _ (.inr (.inr (.inl rfl))) Q h2
