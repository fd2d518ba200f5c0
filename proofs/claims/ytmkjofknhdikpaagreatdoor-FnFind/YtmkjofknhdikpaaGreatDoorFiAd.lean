import Derived.Test.YtmkjofknhdikpaaGreatDoorSId
import Derived.Test.YtmkjofknhdikpaaGreatDoorFXd
set_option maxRecDepth 20000
set_option maxHeartbeats 0
set_option linter.unusedSimpArgs false
open Go.RowKit Go.Sort
namespace Go.Proofs.YtmkjofknhdikpaaGreatDoor
variable{hi lo:Int}{W W':World}{pf pt:Nat}
section
open Go.RowKit Go.ChangeMaps Go.MapKept Go.WideMaps
structure veS(X:List (Nat × Nat × Value))(w0 w:World)(r:Un)(nm nn:Nat):Prop where
 TQ:Bw w0 w
 cn:Zi w nm nn r
 bn:w0.heap.size<=nm
 more:∀p∈X,w.cell? (O p.1 p.2.1)=some p.2.2
theorem j1y(X:List (Nat × Nat × Value))(w0:World)(r:Un)(lb nm B N k0:Nat)(a b c:Option Addr)(ca cb cc:Nat)(hE:Zx w0)(hN:Zd w0 (.agg #[U a r.Tw.length ca,U b r.TC.length cb,U c r.TG.length cc]) r)(ok:Jk r)(hr:Um r=true)(hB:w0.heap.size<=B)(h2:nm<B)(h4:nm≠lb)(MD:N+k0<=1000)(hX:∀p∈X,p.1≠nm/\p.1<B):
  MoK 50 #[.agg #[U a r.Tw.length ca,U b r.TC.length cb,U c r.TG.length cc,.map (some nm)]] (Ws r) (λk W=>veS X w0 W r nm (k0+k)) lb B N where
 enter:=λ_ _=>Z4
 call:=λk ev W hk hI=>(jfd r a b c ca cb cc nm (k0+k) ev W (hE.of_below hI.TQ) (hN.below hI.TQ) ok hr hI.cn Q).mono λq W' hP=>⟨hP.ex,⟨vbD hI.TQ hP.grown hI.bn,hP.cache,hI.bn,λp hp=>hP.grown.cell (hI.more p hp) (λe=>by injection e with e;exact(hX p hp).1 e)⟩,_,h4,jjr hI.cn,hP.grown⟩
 below:=λk W W' hI hb=>⟨hI.TQ.trans (hb.mono hI.TQ.size),hI.cn.below hb,hI.bn,λp hp=>Tx hb (hI.more p hp)⟩
 row:=λk W W' x hI hg hx ht=>⟨vbD hI.TQ hg Q,hI.cn.grown hg Q ht,hI.bn,λp hp=>hg.cell (hI.more p hp) (λe=>by injection e with e;have h:=(hX p hp).2;have e2:p.1=x:=e;omega)⟩
theorem jpy(hS:vaI)(s:Uo)(w w':World)(bb lb n:Nat)(a8:Option Addr)(c8:Nat)(ok:Zr s)(hM:Zm w' lb n (Wy s.vs))(lm:(Uf s.vs).length<=30)(hB:vcw s w w' bb lb a8 c8):∃a b c ca cb cc nm,(w'.cell? (O bb 11)=some (U a s.Tz.Tw.length ca)/\w'.cell? (O bb 12)=some (U b s.Tz.TC.length cb)/\w'.cell? (O bb 13)=some (U c s.Tz.TG.length cc)/\w'.cell? (O bb 14)=some (.map (some nm)))/\Bw w w'/\
  ∀W (X:List (Nat × Nat × Value)),Bw w' W->(∀p∈X,W.cell? (O p.1 p.2.1)=some p.2.2/\(w'.heap.size<=p.1\/p.1=bb))->C 49 #[.map (some lb),.func (.func 50) #[.agg #[U a s.Tz.Tw.length ca,U b s.Tz.TC.length cb,U c s.Tz.TG.length cc,.map (some nm)]] #[]] W λq W'=>∃v,q=V v/\Zb W' W.heap.size v (UK (Ws s.Tz) (Uf s.vs))/\Bw w W'/\(∀p∈X,W'.cell? (O p.1 p.2.1)=some p.2.2)/\W.heap.size<=W'.heap.size:=by
 have⟨nm,wm,k,w0,a,b,c,d,e,f,ca,cb,cc,cd,ce,cf,hb,hk,h0,hE,hN,_,h4,_,hr,_⟩:=hB.ex;refine⟨a,b,c,ca,cb,cc,nm,⟨hb.n0,hb.n1,hb.n2,hb.n3⟩,h0.trans (hb.TQ.mono h0.size),λW X hW hX=>?_⟩;have iE:=hb.below hW;have Co:=hb.cn.lt;have hK:=j1y X w0 s.Tz lb nm W.heap.size (Uf s.vs).length k a b c ca cb cc hE hN ok.Tz hr iE.TQ.size iE.cn.lt h4 Q (λp hp=>⟨by have:=hb.vcT;rcases(hX p hp).2 with h|h<;>omega,TV (hX p hp).1⟩);have hC:=jg2 hS (Wy s.vs) (Uf s.vs) W hK (hM.below hW) (jga s.vs) (jhr s.vs.length) Q ⟨iE.TQ,iE.cn,iE.bn,λp hp=>(hX p hp).1⟩;refine hC.mono λq W' hP=>?_
 have⟨v,hq,hO⟩:=hP.ex;have⟨k2,_,hI⟩:=hP.inv;exact⟨v,hq,hO,h0.trans (hI.TQ.mono h0.size),hI.more,hP.size⟩
end
def VZ(g:TD->Int × Bool)(lo hi:Int)(e:TD):Int × Bool:=((g e).1,(g e).2&&WJ lo hi (g e).1)
theorem jt4{g:TD->Int × Bool}{L:List TD}(hL:L.Pairwise λx y=>x.id<y.id):((UK g L).filter λx=>WJ lo hi x.at_)=UK (VZ g lo hi) L:=by
 refine jus (List.Pairwise.filter _ (jq2 hL)) (jq2 hL) λx=>?_
 rw[List.mem_filter,vb8,vb8];constructor
 .rintro⟨⟨e,he,hg,rfl⟩,hr⟩
  exact⟨e,he,by simp only[VZ,hg,Bool.true_and];exact hr,rfl⟩
 .rintro⟨e,he,hg,rfl⟩
  simp only[VZ,UM]at hg ⊢;exact⟨⟨e,he,hg.1,rfl⟩,hg.2⟩
structure vak(W:World)(pf pt:Nat)(lo hi:Int):Prop where
 lo_:W.cell? (O pf 0)=some (J lo)
 hi_:W.cell? (O pt 0)=some (J hi)
theorem vak.below(h:vak W pf pt lo hi)(hb:Bw W W'):vak W' pf pt lo hi:=⟨Tx hb h.lo_,Tx hb h.hi_⟩
theorem vak.ve9{base:Nat}(h:vak W pf pt lo hi)(hb:Below base W W')(h1:pf<base)(h2:pt<base):vak W' pf pt lo hi:=⟨(hb.cell (p:=(O pf 0)) h1).trans h.lo_,(hb.cell (p:=(O pt 0)) h2).trans h.hi_⟩
theorem jk6(x:TZ)(pf pt:Nat)(lo hi:Int)(W:World)(hC:vak W pf pt lo hi):
  C 51 #[x.v,.pointer (some (O pf 0)),.pointer (some (O pt 0))] W λe W'=>e=V (Z (!WJ lo hi x.at_))/\Bw W W':=by
 obtain⟨a,d⟩:=x;simp only[TZ.v];have hb:=TK W (G #[J a,J d] 56);have c1:=(hC.below hb).lo_;have c2:=(hC.below hb).hi_;have e0:(W.alloc (G #[J a,J d] 56)).cell? (O W.heap.size 0)=some (J a):=Z8;by_cases h1:a<lo
 .rw[j1t (.inl h1)]
  delta C;go_in;go_wp2;go_ret;exact⟨rfl,hb⟩
 .by_cases h2:hi<a
  .rw[j1t (.inr h2)]
   delta C;go_in;go_wp2;go_ret;exact⟨rfl,hb⟩
  .rw[j3b Q Q]
   delta C;go_in;go_wp2;go_ret;exact⟨rfl,hb⟩
def vcg(lo hi:Int)(P:List TZ)(k:Nat):Prop:=(∀j x,j<k->P[j]? =some x->WJ lo hi x.at_=true)
theorem jqx(P:List TZ)(a:Option Addr)(cap pf pt:Nat)(lo hi:Int)(W:World)(hA:Za W a 2 (P.map TZ.cs))(hC:vak W pf pt lo hi)(hl:P.length<=1000):
  C 84 #[U a P.length cap,.func (.func 51) #[] #[.pointer (some (O pf 0)),.pointer (some (O pt 0))]] W λe W'=>Bw W W'/\((e=V (J (-1))/\vcg lo hi P P.length)\/∃k x,e=V (J ((k:Nat):Int))/\P[k]? =some x/\WJ lo hi x.at_=false/\vcg lo hi P k):=by
 have⟨n,hn⟩:=TY P.length;have HN:=hid hn;rw[hn]at hl ⊢;clear hn;delta C;go_in;go_wp2;go_loopw [5,8] (λ_ t wr=>∃k:Nat,t=J k/\k<=n/\Hid (vcg lo hi P k)/\Bw W wr) (λ_ t _=>n-(intOf t).toNat)
 .exact⟨0,rfl,Q,λj x hj=>Q,Ui _ _⟩
 ·
  obtain⟨k,rfl,hk,HK,hB⟩:=hrel;by_cases hlt:k<n
  .obtain⟨x,hx⟩:∃x,P[k]? =some x:=⟨_,Ug (by rw[HN.out];exact hlt)⟩
   obtain⟨b,o,rfl,hc⟩:=(hA.below hB).at (i:=k) (r:=x.cs) (by rw[Uv,hx];rfl);have c0:wr.cell? (O b (o+k*2))=some (J x.at_):=hc 0 _ rfl;have c1:wr.cell? (O b (o+k*2+1))=some (J x.id):=hc 1 _ rfl;have hP:=jk6 x pf pt lo hi wr (hC.below hB);simp only[TZ.v]at hP;have HX:=hid hx;clear hc hx hA;cases hr:WJ lo hi x.at_
   .rw[hr]at hP
    have HR:=hid hr;clear hr;go_wp2_with fail;refine hP.mono ?_;rintro e w1 ⟨rfl,hb1⟩;have aj:=TJ hB hb1;go_wp2;go_ret;exact⟨aj,.inr ⟨k,x,rfl,HX.out,HR.out,HK.out⟩⟩
   .rw[hr]at hP
    have ed:Hid (vcg lo hi P (k+1)):=λj y hj hy=>by
     by_cases e:j=k
     .subst e;rw[HX.out]at hy;obtain rfl:=Uw hy;exact hr
     .exact HK.out j y Q hy
    clear hr;go_wp2_with fail;refine hP.mono ?_;rintro e w1 ⟨rfl,hb1⟩;have aj:=TJ hB hb1;go_wp2;go_roundw
    .exact⟨k+1,Z7,Q,ed,aj⟩
    .simp[intOf];omega
  .obtain rfl:k=n:=Q
   go_wp2;go_ret;exact⟨hB,.inl ⟨rfl,HK.out⟩⟩
theorem jox(P:List TZ)(base:Nat)(v:Value)(pf pt:Nat)(lo hi:Int)(W:World)(hO:Zb W base v P)(hC:vak W pf pt lo hi)(h1:pf<base)(h2:pt<base)(hb:base<=W.heap.size)(hl:P.length<=1000):
  C 48 #[v,.func (.func 51) #[] #[.pointer (some (O pf 0)),.pointer (some (O pt 0))]] W λe W'=>∃x,e=V x/\Zb W' base x (P.filter λx=>WJ lo hi x.at_)/\Below base W W':=by
 obtain⟨a,cap,rfl,hs⟩:=hO.seq;have hI:=jqx P a cap pf pt lo hi W hs hC hl;have⟨n,hn⟩:=TY P.length;have HN:=hid hn;rw[hn]at hI hO hl ⊢;clear hn hs;delta C;go_in;go_wp2_with fail;refine hI.mono ?_;rintro e w1 ⟨hb1,hr⟩;have aj:Below base W w1:=hb1.mono hb;have dW:=hO.below hb1;have tT:=hC.below hb1;have bU:=hb1.size;have HC:=hid hC;clear hI hO hC hb1;rcases hr with⟨rfl,ak⟩|⟨k,x,rfl,hx,hr,hk⟩
 .have HF:Hid ((P.filter λx=>WJ lo hi x.at_)=P):=List.filter_eq_self.mpr λy hy=>by
   have⟨j,hj⟩:=Wq hy;exact ak j y (by have:=(Ux hj).1;have:=HN.out;omega) hj
  clear ak;go_wp2;go_ret;exact⟨_,rfl,by rw[HF.out];exact dW,aj⟩
 have MY:k<n:=by have:=(Ux hx).1;have:=HN.out;omega
 obtain⟨g,hg⟩:∃g,a=some (O g 0):=by
  rcases dW.2 with⟨_,h0⟩|⟨g,_,_,h0,_⟩
  .have:=HN.out;omega
  .injection h0 with h0 _ _;exact⟨g,h0⟩
 subst hg;have jG:=(World.ownsRow.lt dW g rfl).1;have HS:Hid (Jq lo hi P P k (k+1)):=jqh hx hr hk;have az:((k:Int)== -1)=false:=M;clear hx hr hk;go_wp2;go_loopw [5,6,7] (λs5 s6 _ wr=>∃(i j:Nat) (Tv:List TZ),s5=J i/\s6=J j/\j<=n/\i<j/\Hid (Jq lo hi P Tv i j)/\Hid (Zb wr base (so g n cap) Tv)/\Below base W wr) (λ_ s6 _ _=>n-(intOf s6).toNat)
 .exact⟨k,k+1,P,rfl,Z7,Q,Q,HS,dW,aj⟩
 ·
  have⟨wa,dS⟩:=UL wr;subst dS;obtain⟨i,j,Tv,rfl,rfl,Vv,eF,HK,HO,hB⟩:=hrel;have pO:Tv.length=n:=by rw[HK.out.len];exact HN.out
  have hsz:=hB.size;clear HS dW aj tT bU;by_cases hlt:j<n
  .have j1:(j:Int)<(n:Int):=Q
   obtain⟨y,hy⟩:∃y,P[j]? =some y:=⟨_,Ug (by rw[HN.out];exact hlt)⟩;have EK:Tv[j]? =some y:=by rw[HK.out.high j (TP _)];exact hy
   obtain⟨yi,ue⟩:∃z,Tv[i]? =some z:=⟨_,Ug Q⟩;have hO:=HO.out;have c0:wa.cell? (O g (j*2))=some (J y.at_):=hO.cell (WY (Y7 (L:=Tv)) (i:=j) (j:=0) (by rw[Uv,EK];rfl) rfl);have c1:wa.cell? (O g (j*2+1))=some (J y.id):=hO.cell (WY (Y7 (L:=Tv)) (i:=j) (j:=1) (by rw[Uv,EK];rfl) rfl);have b1:=TK wa (G #[J y.at_,J y.id] 56);have dW:=hO.below b1;have i0:(wa.alloc (G #[J y.at_,J y.id] 56)).cell? (O g (i*2))=some (J yi.at_):=Tx b1 (hO.cell (WY (Y7 (L:=Tv)) (i:=i) (j:=0) (c:=J yi.at_) (by rw[Uv,ue];rfl) rfl));have i1:(wa.alloc (G #[J y.at_,J y.id] 56)).cell? (O g (i*2+1))=some (J yi.id):=Tx b1 (hO.cell (WY (Y7 (L:=Tv)) (i:=i) (j:=1) (c:=J yi.id) (by rw[Uv,ue];rfl) rfl));have E:=Zh.new wa [J y.at_,J y.id] 56;have e0:=E.c 0 rfl;have e1:=E.c 1 rfl;have hP:=jk6 y pf pt lo hi (wa.alloc (G #[J y.at_,J y.id] 56)) ((vak.ve9 (W:=W) HC.out hB h1 h2).below b1);simp only[TZ.v]at hP;have ck:Below base W (wa.alloc (G #[J y.at_,J y.id] 56)):=hB.trans (b1.mono Q);have pE:=hid dW;clear hO dW b1 EK ue HO;cases hr:WJ lo hi y.at_
   .rw[hr]at hP
    have ed:Hid (Jq lo hi P Tv i (j+1)):=HK.out.skip hy hr;clear hy hr i0 i1 HK;go_wp2_with fail;refine hP.mono ?_;rintro e w2 ⟨rfl,ac⟩;have pF:Hid (Zb w2 base (so g n cap) Tv):=pE.out.below ac;have an:=ck.trans (ac.mono (by have:=ck.size;omega));clear ac pE hP e0 e1 E;go_wp2;go_roundw
    .exact⟨i,j+1,Tv,rfl,Z7,Q,Q,ed,pF,an⟩
    .simp[intOf];omega
   .rw[hr]at hP
    have ed:Hid (Jq lo hi P (Tv.set i y) (i+1) (j+1)):=HK.out.keep hy hr eF;clear hy hr HK;go_wp2_with fail;refine hP.mono ?_;rintro e w2 ⟨rfl,ac⟩;have aW:=pE.out.below ac;have pF:Hid (Zb ((w2.setCell (O g (i*2)) (J y.at_)).setCell (O g (i*2+1)) (J y.id)) base (so g n cap) (Tv.set i y)):=aW.put pO.symm i y;have an:=ck.trans (ac.mono (by have:=ck.size;omega));have ax:Below base W ((w2.setCell (O g (i*2)) (J y.at_)).setCell (O g (i*2+1)) (J y.id)):=(an.setCell (p:=(O g (i*2))) jG _).setCell (p:=(O g (i*2+1))) jG _;have E2:=E.below ac;have f0:=E2.c 0 rfl;have f1:=E2.c 1 rfl;have k0:=Tx ac i0;have k1:=Tx ac i1;have dE:w2.ownsRow base 56 2 (so g n cap) n (Tv.map TZ.cs).flatten:=by rw[<- pO];rw[pO];unfold Zb at aW;rw[pO]at aW;exact aW
    have z0:=dE.frozenAt (i*2);have z1:=(World.ownsRow.stored dE (i*2) (J y.at_)).1.frozenAt (i*2+1);have z2:(w2.setCell (O g (i*2)) (J y.at_)).cell? (O g (i*2+1))=some (J yi.id):=by rw[Uh _ _ _ _ M];exact k1
    have i2:(0:Int)<=(i:Int):=Q;have i3:(i:Int)<(n:Int):=Q;clear ac pE hP e0 e1 E E2 i0 i1 aW dE an;go_wp2;go_roundw
    .exact⟨i+1,j+1,Tv.set i y,Z7,Z7,Q,Q,ed,pF,ax⟩
    .simp[intOf];omega
  .obtain rfl:j=n:=Q
   have dE:wa.ownsRow base 56 2 (so g j cap) j (Tv.map TZ.cs).flatten:=by have h:=HO.out;unfold Zb at h;rw[pO]at h;exact h
   have⟨L,uQ⟩:=jxs wa dE eF;have eh:j<=cap:=by
    rcases dE.2 with⟨h0,_⟩|⟨_,_,_,h0,_,_,h5,_⟩
    .cases h0
    .injection h0 with _ _ h0;omega
   have HF:Hid (Zb (wa.setCells g (i*2) L) base (so g i cap) (P.filter λx=>WJ lo hi x.at_)):=by
    have⟨ys,k1,k2,k3⟩:=jky L (i*2) wa _ dE;have k4:=jvo k1 (Nat.le_of_lt eF);have e1:Tv.take i=P.filter λx=>WJ lo hi x.at_:=by rw[HK.out.low,List.take_of_length_le (by rw[HN.out];exact TP _)]
    have e2:(P.filter λx=>WJ lo hi x.at_).length=i:=by rw[<- e1,List.length_take];omega
    rw[k2,vdz,e1]at k4
    show World.ownsRow _ _ _ _ _ _ _
    rw[e2];exact k4
   have pJ:Below base W (wa.setCells g (i*2) L):=jev jG L _ W wa hB;have i2:(0:Int)<=(i:Int):=Q;have i3:(i:Int)<=(j:Int):=Q;have i4:(i:Int)<=(cap:Int):=Q;clear dE HO HK;go_wp2;go_ret;exact⟨_,rfl,HF.out,pJ⟩
theorem jtu(hS:vaI)(s:Uo)(w w':World)(bb lb n:Nat)(a8:Option Addr)(c8:Nat)(lo hi:Int)(ok:Zr s)(hM:Zm w' lb n (Wy s.vs))(lm:(Uf s.vs).length<=30)(hB:vcw s w w' bb lb a8 c8)(yh:w'.cell? (O bb 10)=some (.map (some lb))):
  C 20 #[.pointer (some (O bb 0)),J lo,J hi] w' λe W'=>∃x,e=V x/\Zb W' w'.heap.size x (UK (VZ (Ws s.Tz) lo hi) (Uf s.vs))/\Bw w W':=by
 have⟨a,b,c,ca,cb,cc,nm,⟨n0,n1,n2,n3⟩,hw,jy⟩:=jpy hS s w w' bb lb n a8 c8 ok hM lm hB;have b1:Bw w' ((w'.alloc (G #[J lo] 2)).alloc (G #[J hi] 2)):=(TK _ _).alloc M _;have dI:(((w'.alloc (G #[J lo] 2)).alloc (G #[J hi] 2))).heap.size=w'.heap.size+1+1:=M;obtain⟨e0,e1⟩:(λz:World=>z.cell? (O w'.heap.size 0)=some (J lo)/\z.cell? (O (w'.heap.size+1) 0)=some (J hi)) (((w'.alloc (G #[J lo] 2)).alloc (G #[J hi] 2))):=Z8;have⟨W,hW⟩:=TY (((w'.alloc (G #[J lo] 2)).alloc (G #[J hi] 2)));rw[hW]at b1 dI e0 e1;have bD:=UF W;have b2:=TJ b1 bD;have y10:W.drew.cell? (O bb 10)=some (.map (some lb)):=Tx b2 yh;have y11:W.drew.cell? (O bb 11)=some (U a s.Tz.Tw.length ca):=Tx b2 n0;have y12:W.drew.cell? (O bb 12)=some (U b s.Tz.TC.length cb):=Tx b2 n1;have y13:W.drew.cell? (O bb 13)=some (U c s.Tz.TG.length cc):=Tx b2 n2;have y14:W.drew.cell? (O bb 14)=some (.map (some nm)):=Tx b2 n3
 have hE:=jy W.drew [(w'.heap.size,0,J lo),(w'.heap.size+1,0,J hi),(bb,10,.map (some lb)),(bb,11,U a s.Tz.Tw.length ca),(bb,12,U b s.Tz.TC.length cb),(bb,13,U c s.Tz.TG.length cc),(bb,14,.map (some nm))] b2 (λp hp=>by
  simp only[List.mem_cons,List.not_mem_nil,or_false]at hp;rcases hp with rfl|rfl|rfl|rfl|rfl|rfl|rfl
  .exact⟨Tx bD e0,.inl (TP _)⟩
  .exact⟨Tx bD e1,.inl (Nat.le_succ _)⟩
  .exact⟨y10,.inr rfl⟩
  .exact⟨y11,.inr rfl⟩
  .exact⟨y12,.inr rfl⟩
  .exact⟨y13,.inr rfl⟩
  .exact⟨y14,.inr rfl⟩)
 have Nn:W.drew.heap.size=w'.heap.size+1+1:=dI;rw[Nn]at hE;have HL:Hid ((UK (Ws s.Tz) (Uf s.vs)).length<=1000):=Nat.le_trans (jep _ _) Q;have HF:Hid (((UK (Ws s.Tz) (Uf s.vs)).filter λx=>WJ lo hi x.at_)=UK (VZ (Ws s.Tz) lo hi) (Uf s.vs)):=jt4 (jhr s.vs.length);generalize UK (Ws s.Tz) (Uf s.vs)=E at *;generalize UK (VZ (Ws s.Tz) lo hi) (Uf s.vs)=E2 at *;have iF:bb<w'.heap.size+1+1:=by have:=TV n0;simp at this;omega
 clear jy n0 n1 n2 n3 yh hB hM b1 e0 e1 bD;delta C;go_in;go_wp2_with fail;clear hW;go_region_held3 (λwz=>wz.cell? (O bb 10)=some (.map (some lb))/\wz.cell? (O bb 11)=some (U a s.Tz.Tw.length ca)/\wz.cell? (O bb 12)=some (U b s.Tz.TC.length cb)/\wz.cell? (O bb 13)=some (U c s.Tz.TG.length cc)/\wz.cell? (O bb 14)=some (.map (some nm))) (go_keep) (first|(go_at_call 49;refine hE.mono ?_;rintro q w2 ⟨v2,rfl,aW,an,n8,dR⟩;obtain⟨p2,m2,k2,rfl⟩:=UY aW;have hD:=jox E _ _ w'.heap.size (w'.heap.size+1) lo hi w2 aW ⟨n8 (w'.heap.size,0,J lo) M,n8 (w'.heap.size+1,0,J hi) M⟩ Q Q dR HL.out;have jI:Hid (Bw w w2):=an;have xG:w2.cell? (O bb 10)=some (.map (some lb)):=n8 (bb,10,.map (some lb)) M;have Oc:w2.cell? (O bb 11)=some (U a s.Tz.Tw.length ca):=n8 (bb,11,U a s.Tz.Tw.length ca) M;have k12:w2.cell? (O bb 12)=some (U b s.Tz.TC.length cb):=n8 (bb,12,U b s.Tz.TC.length cb) M;have Od:w2.cell? (O bb 13)=some (U c s.Tz.TG.length cc):=n8 (bb,13,U c s.Tz.TG.length cc) M;have xJ:w2.cell? (O bb 14)=some (.map (some nm)):=n8 (bb,14,.map (some nm)) M;clear n8 aW an)|(go_at_call 48;refine hD.mono ?_;rintro q w3 ⟨v3,rfl,dE,ax⟩;obtain⟨p3,m3,k3,rfl⟩:=UY dE;have RN:=(ax.cell (p:=(O bb 10)) iF).trans xG;have RO:=(ax.cell (p:=(O bb 11)) iF).trans Oc;have RP:=(ax.cell (p:=(O bb 12)) iF).trans k12;have RQ:=(ax.cell (p:=(O bb 13)) iF).trans Od;have RR:=(ax.cell (p:=(O bb 14)) iF).trans xJ))
 all_goals
  have pJ:Bw w w3:=jI.out.trans (ax.mono (by have:=hw.size;omega));have BC:Hid (Zb w3 w'.heap.size (U p3 m3 k3) E2):=by rw[HF.out]at dE;exact U4 dE Q
  clear dE ax hD hE;go_wp2;go_ret;exact⟨_,rfl,BC.out,pJ⟩
def Wn(s:Uo)(lo hi:Int):List TZ:=if VI s=true then UK (VZ (Ws s.Tz) lo hi) (Uf s.vs)else []
theorem j2p(s:Uo)(lo hi:Int):(Wn s lo hi).length<=s.vs.length:=by
 unfold Wn;split
 .exact Nat.le_trans (jep _ _) (jwf _ _)
 .simp
theorem j2n{s:Uo}(h:VI s=true):(Uf s.vs).length<=30:=by
 unfold VI jov jnr at h;simp only[UM,decide_eq_true_eq]at h;exact h.1.2.2.2.1
theorem jww(hS:vaI)(s:Uo)(v:Value)(lo hi:Int)(w:World)(hE:Zx w)(hv:Jd w v s)(ok:Zr s):
  C 5 #[v,J lo,J hi] w λe w'=>∃x,e=V x/\Zb w' w.heap.size x (Wn s lo hi)/\Bw w w':=by
 have dQ:=hv;obtain⟨a,b,c,d,e,f,va,ia,ca,cb,cc,cd,ce,cf,cv,ci,rfl,_,_,_,_,_,_⟩:=hv.form;have ag:=TK w (G (stA s a b c d e f va ia ca cb cc cd ce cf cv ci).toArray 31);have A0:=Zh.new w (stA s a b c d e f va ia ca cb cc cd ce cf cv ci) 31;have hO:=ji8 hS s _ _ (hE.of_below ag) (dQ.below ag) ok;have⟨x0,x1,x2,x3,x4,x5,x6,x7,x8,x9⟩:=A0.UA;have⟨tb,jj⟩:=TY (VI s);have HT:=hid jj;clear hv dQ jj;delta C;go_in;go_wp2_with fail;refine hO.mono ?_;rintro e1 w1 hP;have⟨x,mD,hx⟩:=hP.ex;rw[HT.out]at mD hx;subst mD;have aj:=ag.trans (hP.TQ.mono ag.size);clear hP x0 x1 x2 x3 x4 x5 x6 x7 x8 x9 A0 hO;cases tb
 .clear hx
  have HF:Hid (Wn s lo hi=[]):=by simp only[Hid,Wn,HT.out];rfl
  go_wp2;go_ret;exact⟨_,rfl,by rw[HF.out];exact World.ownsRow_nil _ _ _ _,aj⟩
 .obtain⟨bb,lb,n,a8,c8,rfl,hl,hM,_,_,_,_,hK⟩:=hx rfl
  have hC:=jtu hS s _ w1 bb lb n a8 c8 lo hi ok hM (j2n HT.out) hK hl;have HF:Hid (Wn s lo hi=UK (VZ (Ws s.Tz) lo hi) (Uf s.vs)):=by simp only[Hid,Wn,HT.out];rfl
  generalize UK (VZ (Ws s.Tz) lo hi) (Uf s.vs)=E at *;clear hx hK hM hl;go_wp2_with fail;refine hC.mono ?_;rintro e2 w2 ⟨v2,rfl,aW,ac⟩;obtain⟨p,m,c2,rfl⟩:=UY aW;have an:=TJ ag ac;go_wp2;go_ret;exact⟨_,rfl,by rw[HF.out];exact U4 aW aj.size,an⟩
