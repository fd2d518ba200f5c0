import Derived.Test.YtbbgeelamjmgaaaGreatDoorHpPd
set_option maxRecDepth 20000
set_option maxHeartbeats 0
set_option linter.unusedSimpArgs false
open Go.RowKit Go.Sort
namespace Go.Proofs.YtbbgeelamjmgaaaGreatDoor
variable{l:List ZQ}{b hp k n:Nat}{x:ZQ}{off y:Int}{m:ZF}{w w':World}{rb:Option Nat}{D X:List ZF}{ix:List Nat}
def Nf(l:List ZQ):Nat->List ZF
 |0=>[]
 |k+1=>Nf l k++(match l[k]? with|some x=>jcf k x|none=>[])
theorem jhw(hx:l[k]? =some x):Nf l (k+1)=Nf l k++jcf k x:=by rw[Nf,hx]
theorem jkp(l:List ZQ):∀k,(Nf l k).length<=78*k:=by
 intro k
 induction k with
 |zero=>simp[Nf]
 |succ k ih=>
  rw[Nf,FB];have AN:∀x,(jcf k x).length<=78:=λx=>Nat.le_trans (jeg _ _ _ _) (jra x)
  split
  .rename_i x _;have:=AN x;omega
  .simp;omega
theorem j1k{m:Int}(hy:Ng y m=true)(s:ByteArray):Nn y m s=M0 y m s:=by unfold Nn;rw[hy,if_pos rfl,jig hy]
theorem jwy(h:Zt w hp rb X)(hb:b=hp\/rb=some b):hp<=b:=by
 rcases hb with e|e
 .omega
 .have⟨a,c,_,_,h3,_,h5⟩:=h
  exact(h3.lt b (h5.trans e)).1
theorem jr9(h:Zt w hp rb X)(hb:rb=some b):b<w.heap.size:=by
 have⟨a,c,_,_,h3,_,h5⟩:=h;exact(h3.lt b (h5.trans hb)).2
theorem jjb(l:List ZQ)(a:Option Addr)(ca:Nat)(w:World)(hA:Za w a 9 (l.map ZQ.cs))(hT:Bz w)(gw:Mx w)(hr:∀x∈l,Jo x)(hl:l.length<=40)(di:∀x∈l,x.on.size<=8000):
  C 280 #[U a l.length ca] w λe W'=>∃rb X,e=V (.pointer (some (O w.heap.size 0)))/\Zt W' w.heap.size rb X/\jc1 X/\X.Perm (Nf l l.length)/\Bw w W':=by
 have jv:=hid hr;have sY:=hid di;clear hr di;have H0:Zt (w.alloc (G #[nS] 315)) w.heap.size none []:=⟨none,0,RQ,RQ,World.ownsRow_nil _ _ _ _,by simp[Value.ownBlock],rfl⟩;have X0:Hid (jc1 []):=λi p c _ hp=>by simp at hp
 unfold C;go_in;go_wp2;go_loopw [12] (λrg wr=>∃(k:Nat) (rb:Option Nat) (X:List ZF),k<=l.length/\rg=J k/\Zt wr w.heap.size rb X/\Hid (jc1 X)/\Hid (X.Perm (Nf l k))/\Bw w wr) (λrg _=>l.length-(intOf rg).toNat)
 .exact⟨0,none,[],Q,rfl,H0,X0,List.Perm.refl _,ZA _ _⟩
 ·
  clear H0 X0;obtain⟨k,rb,X,hk,rfl,hH,HX,HP,aK⟩:=hrel;have dI:=aK.size;have au:=jkp l k;by_cases hlt:k<l.length
  .have⟨x,hx⟩:=DV hlt
   have mg:=jv.out x (ui hx);have Cs:=sY.out x (ui hx);obtain⟨b9,o9,rfl,hc⟩:=(hA.below aK).at (i:=k) (r:=x.cs) (by rw[Z8,hx];rfl);have c0:wr.cell? (O b9 (o9+k*9))=some (I x.name):=hc 0 _ rfl;have c1:=hc 1 _ rfl;have c2:=hc 2 _ rfl;have c3:=hc 3 _ rfl;have c4:=hc 4 _ rfl;have c5:=hc 5 _ rfl;have c6:=hc 6 _ rfl;have c7:=hc 7 _ rfl;have c8:=hc 8 _ rfl;clear hc;have HT:Hid (Nf l (k+1)=Nf l k++jcf k x):=jhw hx;have⟨L,hL⟩:=ZL (Nf l k);rw[hL]at HT HP au;clear hL hx;have⟨ya,vO⟩:=ZL (max x.lo 1960);have⟨ye,vP⟩:=ZL (min x.hi 2037);have Nq:1960<=ya:=Q;have Nr:ye<=2037:=Q;have Ih:Hid (∀n:Nat,¬ya+n<=ye->ya+n<=ye+1\/n=0->jcf k x=EK k x ya n):=λn h1 h2=>by
    unfold jcf yrs;rw[vO,vP]
    congr 1
    omega
   have j9:=ZA wr (G #[I x.name,J x.lo,J x.hi,J x.pU,I x.on,J x.at_,I x.of,J x.YX,I x.ZR] 116);have aS:=hH.below j9;have B1:Bw w (wr.alloc (G #[I x.name,J x.lo,J x.hi,J x.pU,I x.on,J x.at_,I x.of,J x.YX,I x.ZR] 116)):=aK.alloc dI _;have qV:rb≠some wr.heap.size:=λe=>by have:=jr9 hH e;omega
   have qK:w.heap.size<wr.heap.size:=by have⟨_,_,h1,_⟩:=hH;exact ZI h1
   have kO:(wr.alloc (G #[I x.name,J x.lo,J x.hi,J x.pU,I x.on,J x.at_,I x.of,J x.YX,I x.ZR] 116)).heap.size=wr.heap.size+1:=M;obtain⟨e1,e2,e3,e4,e5⟩:(λz:World=>z.cell? (O wr.heap.size 1)=some (J x.lo)/\z.cell? (O wr.heap.size 2)=some (J x.hi)/\z.cell? (O wr.heap.size 3)=some (J x.pU)/\z.cell? (O wr.heap.size 4)=some (I x.on)/\z.cell? (O wr.heap.size 5)=some (J x.at_)) (wr.alloc (G #[I x.name,J x.lo,J x.hi,J x.pU,I x.on,J x.at_,I x.of,J x.YX,I x.ZR] 116)):=RQ;have nH:Hid (X.Perm (L++EK k x ya 0)):=by rw[show L++EK k x ya 0=L from List.append_nil _];exact HP
   go_wp2;have⟨wB,gn⟩:=ZL ((wr.alloc (G #[I x.name,J x.lo,J x.hi,J x.pU,I x.on,J x.at_,I x.of,J x.YX,I x.ZR] 116)));have⟨bx,ja⟩:=ZL wr.heap.size;rw[gn]at aS B1 kO e1 e2 e3 e4 e5 ⊢;rw[ja]at kO e1 e2 e3 e4 e5 qV qK ⊢;clear gn ja hH aK dI j9 c0 c1 c2 c3 c4 c5 c6 c7 c8 HP;go_loopw [6] (λs6 wq=>∃(n:Nat) (rq:Option Nat) (Y:List ZF),s6=J (ya+n)/\(ya+n<=ye+1\/n=0)/\Zt wq w.heap.size rq Y/\Hid (jc1 Y)/\Hid (Y.Perm (L++EK k x ya n))/\rq≠some bx/\bx<wq.heap.size/\(wq.cell? (O bx 2)=some (J x.hi)/\wq.cell? (O bx 3)=some (J x.pU)/\wq.cell? (O bx 4)=some (I x.on)/\wq.cell? (O bx 5)=some (J x.at_))/\Bw w wq) (λs6 _=>(ye+1-intOf s6).toNat)
   .exact⟨0,rb,X,M,.inr rfl,aS,HX,nH,qV,Q,⟨e2,e3,e4,e5⟩,B1⟩
   ·
    obtain⟨n,rq,Y,rfl,sO,uk,xy,xn,nq,aY,⟨q2,q3,q4,q5⟩,Bq⟩:=hrel;clear aS qV B1 kO e1 e2 e3 e4 e5 nH HX;have iQ:=Bq.size;have vK:=jeg k x ya n;have kt:Y.length<=4000:=by rw[xn.out.length_eq,FB];have:=jra x;rcases sO with e|e<;>omega
    by_cases hy:ya+n<=ye
    .have mR:Ng (ya+n) x.pU=true:=jx9 Q Q mg.pU.1 mg.pU.2
     have hO:=λw (h1:Bz w) (h2:Mx w)=>jtv (ya+n) x.pU x.on w h1 h2 Cs
     rw[j1k mR]at hO;have ou:=j15 (s:=x.on) mR;have JS:=mg.at_.1;have gZ:=mg.at_.2;by_cases hd:M0 (ya+n) x.pU x.on= -1000000
     .have HW:Hid (EK k x ya (n+1)=EK k x ya n):=by simp only[Hid];rw[EK,jmy hd,List.append_nil]
      rw[hd]at hO;clear hd ou mR;go_wp2_with fail;refine(hO _ (hT.of_below Bq) (gw.of_below Bq)).mono ?_;rintro e w3 ⟨rfl,ar⟩;have Q2:=YR ar q2;have Q3:=YR ar q3;have Q4:=YR ar q4;have Q5:=YR ar q5;have kN:=ar.size;have el:=uk.below ar;have B3:=Bq.trans (ar.mono iQ);clear ar q2 q3 q4 q5 uk;go_wp2;go_roundw
      .exact⟨n+1,rq,Y,by congr 1;omega,.inl Q,el,xy,by rw[HW.out];exact xn,nq,Q,⟨Q2,Q3,Q4,Q5⟩,B3⟩
      .simp[intOf];omega
     .have HW:Hid (EK k x ya (n+1)=EK k x ya n++[⟨M0 (ya+n) x.pU x.on*86400+x.at_,k⟩]):=by simp only[Hid];rw[EK,jkl hd,Int.mul_comm]
      have BO:=ou.resolve_left hd;have gd:(M0 (ya+n) x.pU x.on != -1000000)=true:=by simpa using hd
      generalize M0 (ya+n) x.pU x.on=dy at *;have Et:Hid (∀vZZ:List ZF,vZZ.Perm (Y++[⟨dy*86400+x.at_,k⟩])->vZZ.Perm (L++EK k x ya (n+1))):=λvZZ hZ=>by
       rw[HW.out, <- List.append_assoc];exact hZ.trans (xn.out.append_right _)
      have JI:=λw h=>jok Y ⟨dy*86400+x.at_,k⟩ w.heap.size rq w h xy.out kt
      have uD:=fun(w4:World) h=>jok Y ⟨dy*86400+x.at_,k⟩ w.heap.size rq w4 h xy.out kt
      simp only[ZF.v]at uD;clear hd ou mR HW JI;go_wp2_with fail;refine(hO _ (hT.of_below Bq) (gw.of_below Bq)).mono ?_;rintro e w3 ⟨rfl,ar⟩;have Q2:=YR ar q2;have Q3:=YR ar q3;have Q4:=YR ar q4;have Q5:=YR ar q5;have kN:=ar.size;have el:=uk.below ar;have B3:=Bq.trans (ar.mono iQ);clear ar q2 q3 q4 q5 uk;go_wp2_with fail;refine(uD _ el).mono ?_;rintro e w4 ⟨rfl,⟨vZZ,rz,hZ,FJ,FI,KB⟩,fr⟩;have nS:¬(bx=w.heap.size\/rq=some bx):=λe=>by
       rcases e with e|e
       .omega
       .exact nq e
      have R2:=fr.cell (b:=bx) (o:=2) nS Q2;have R3:=fr.cell (b:=bx) (o:=3) nS Q3;have R4:=fr.cell (b:=bx) (o:=4) nS Q4;have R5:=fr.cell (b:=bx) (o:=5) nS Q5;have mN:=fr.size;have B4:Bw w w4:=B3.trans (fr.below (λb hb=>jwy el hb) Q);have nz:rz≠some bx:=λe=>by
       rcases KB with e2|⟨k2,fy,e2⟩
       .exact nq (e2 ▸ e)
       .rw[e2]at e;injection e with e;omega
      have Im:=hid FJ;have Il:Hid (vZZ.Perm (L++EK k x ya (n+1))):=Et.out vZZ FI;clear fr el Q2 Q3 Q4 Q5 FJ FI Et;go_wp2;go_roundw
      .exact⟨n+1,rz,vZZ,by congr 1;omega,.inl Q,hZ,Im,Il,nz,Q,⟨R2,R3,R4,R5⟩,B4⟩
      .simp[intOf];omega
    .have HE:Hid (Y.Perm (Nf l (k+1))):=by simp only[Hid];rw[HT.out,Ih.out n Q sO];exact xn.out
     go_wp2;go_roundw
     .exact⟨k+1,rq,Y,Q,RP,uk,xy,HE,Bq⟩
     .simp[intOf];omega
  .obtain rfl:k=l.length:=Q
   go_wp2;go_ret;exact⟨rb,X,rfl,hH,HX.out,HP.out,aK⟩
theorem jcm{S:Nat->Prop}{base:Nat}{e:TypeId}{size:Nat}{v:Value}{xs:List Value}(h:w.ownsRow base e size v n xs)(hf:Fr S w w')(hs:∀b,v.ownBlock=some b->¬S b):w'.ownsRow base e size v n xs:=by
 refine⟨h.1,?_⟩;rcases h.2 with h|⟨g,cap,cur,rfl,e2,e3,e4⟩
 .exact .inl h
 .exact .inr ⟨g,cap,cur,rfl,e2,(hf.block g (Array.getElem?_eq_some_iff.1 e3).1 (hs g rfl)).trans e3,e4⟩
theorem jmh{S:Nat->Prop}(h:Zt w hp rb X)(hf:Fr S w w')(h1:¬S hp)(h2:∀b,rb=some b->¬S b):Zt w' hp rb X:=by
 have⟨a,c,c1,c2,c3,c4,c5⟩:=h;exact⟨a,c,hf.cell h1 c1,(hf.frozen (ZI c1) h1).trans c2,jcm c3 hf (λb hb=>h2 b (c5.symm.trans hb)),c4,c5⟩
theorem Zt.veg{g:Nat}(h:Zt w hp (some g) X):g<w.heap.size:=jr9 h rfl
theorem jtw(h:Zt w hp rb X)(hn:X.length=n+1):∃g cap,w.cell? (O hp 0)=some (so g (n+1) cap)/\w.frozen? (O hp 0)=false/\Zj w hp (so g (n+1) cap) X/\hp≠g/\rb=some g/\n+1<=cap:=by
 have⟨a,c,c1,c2,c3,c4,c5⟩:=h;have xD:=c3;unfold Zj at xD;rw[hn]at c1 c3 c4 c5 xD;rcases xD.2 with⟨_,h0⟩|⟨g,cap,cur,e,_,_,hc,_⟩
 .omega
 .injection e with e1 e2 e3
  subst e1 e3;exact⟨g,c,c1,c2,c3,λe=>c4 (by rw[e];rfl),c5.symm,hc⟩
theorem jt1(hx:l[m.place]? =some x):PP l off (D++[m])=((PP l off D).1++[jeb x m.YV off (PP l off D).2],x.YX):=by
 unfold PP;rw[List.foldl_append]
 show jdh l off _ m=_
 unfold jdh;rw[hx]
theorem jf4(hl:∀x∈l,Jo x){m:ZF}:∀{k:Nat},m∈Nf l k->m.place<k/\ -100000000000<=m.YV/\m.YV<=300000000000:=by
 intro k
 induction k with
 |zero=>intro h;simp[Nf]at h
 |succ k ih=>
  intro h;rw[Nf,List.mem_append]at h;rcases h with h|h
  .have⟨h2,h3⟩:=ih h
   exact⟨Q,h3⟩
  .split at h
   .rename_i x hx
    by_cases hy:yrs x=0
    .unfold jcf at h;rw[hy]at h;simp[EK]at h
    .have⟨p1,p2⟩:=jko (hl x (ui hx)) Q (by unfold yrs at *;omega) h
     exact⟨Q,p2⟩
   .simp at h
def jx0(l:List ZQ)(off:Int)(H:List Z5)(b:Bool):Prop:=((Nf l l.length).length<=2000/\b=true/\∃P:List ZF,P.Pairwise MU/\P.Perm (Nf l l.length)/\H=(PP l off P).1)\/(¬(Nf l l.length).length<=2000/\b=false/\H=[])
structure vcU(l:List ZQ)(D X:List ZF):Prop where
 up:D.Pairwise MU
 all:∀d∈D,∀y∈X,MU d y
 perm:(D++X).Perm (Nf l l.length)
theorem jy2{Y:List ZF}(h:vcU l D X)(hP:X.Perm (m::Y))(hm:∀y∈Y,MU m y):vcU l (D++[m]) Y:=by
 refine⟨List.pairwise_append.mpr ⟨h.up,M,λd hd y hy=>?_⟩,λd hd y hy=>?_,?_⟩
 .simp at hy;subst hy
  exact h.all d hd y (hP.mem_iff.mpr M)
 .rcases List.mem_append.mp hd with e|e
  .exact h.all d e y (hP.mem_iff.mpr (lmc _ hy))
  .simp at e;subst e;exact hm y hy
 .rw[List.append_assoc]
  exact(List.Perm.append_left D hP.symm).trans h.perm
theorem jqo(l:List ZQ)(a:Option Addr)(ca:Nat)(off:Int)(w:World)(hA:Za w a 9 (l.map ZQ.cs))(hT:Bz w)(gw:Mx w)(hr:∀x∈l,Jo x)(hl:l.length<=40)(di:∀x∈l,x.on.size<=8000)(f1: -86400<=off)(f2:off<=86400):
  C 264 #[.slice a l.length ca,J off] w λe W'=>∃v' H b,e=.returned (.tuple #[v',.bool b])/\Zw W' w.heap.size v' H/\jx0 l off H b/\Bw w W':=by
 obtain⟨i0,hi,aG,aH,aF⟩:=info_parts jr5;have jv:=hid hr;have hH:=jjb l a ca w hA hT gw hr hl di;have uM:=jkp l l.length;clear hr di hT gw;unfold C;go_in;go_wp2_with fail;refine hH.mono ?_;rintro e w1 ⟨rb,X,rfl,hB,hX,xR,hb1⟩;have iD:=xR.length_eq;have aE:∃a c,w1.cell? (O w.heap.size 0)=some (.slice a X.length c):=by obtain⟨a,c,h,_⟩:=hB;exact⟨a,c,h⟩
 obtain⟨a1,c1,aX⟩:=aE;by_cases h2:(Nf l l.length).length<=2000
 .have xq:Hid (vcU l [] X):=⟨List.Pairwise.nil,λd hd=>by simp at hd,xR⟩
  have EC:=hid hX;have rZ:X.length<=2000:=(by omega);have HW:=hid h2;have EU:¬(2000:Int)<(X.length:Int):=(by omega);clear hX xR iD uM hH h2;go_wp2;go_loopw [7,8] (λs7 s8 wr=>∃(rb:Option Nat) (D X:List ZF) (a7:Option Addr) (n7 c7:Nat),s7=.slice a7 n7 c7/\s8=J (PP l off D).2/\Zt wr w.heap.size rb X/\Hid (jc1 X)/\Hid (vcU l D X)/\X.length<=2000/\D.length+X.length<=2000/\Zw wr w.heap.size (.slice a7 n7 c7) (PP l off D).1/\(∀b,(Value.slice a7 n7 c7).ownBlock=some b->b≠w.heap.size/\rb≠some b)/\Bw w wr) (λ_ _ wr=>match wr.cell? (O w.heap.size 0)with|some (.slice _ n _)=>n|_=>0)
  .exact⟨rb,[],X,none,0,0,rfl,rfl,hB,EC,xq,rZ,by simpa using rZ,World.ownsRow_nil _ _ _ _,λb hb=>by simp[Value.ownBlock]at hb,hb1⟩
  ·
   clear hB xq EC rZ hb1 aX EU;obtain⟨rb,D,X,a7,n7,c7,rfl,rfl,hB,HX,HS,BJ,OP,ai,hnb,aK⟩:=hrel;have dI:=aK.size;have hsv: -7200<=(PP l off D).2/\(PP l off D).2<=7200:=by
    have:=jk7 (off:=off) (s:=D) (l:=l) (λm hm=>(jf4 jv.out (HS.out.perm.mem_iff.mp (List.mem_append_left _ hm))).1) (λx hx=>(jv.out x hx).YX) D.length (ZD _);rw[List.take_length]at this;exact this
   have hfl:(PP l off D).1.length=D.length:=by
    have:=joy (off:=off) (s:=D) (l:=l) (λm hm=>(jf4 jv.out (HS.out.perm.mem_iff.mp (List.mem_append_left _ hm))).1) D.length (ZD _);rw[List.take_length]at this;exact this
   by_cases mK:X.length=0
   .have qq:X=[]:=List.length_eq_zero_iff.mp mK
    subst qq;obtain⟨a2,c2,cU,_⟩:=hB;have HR:Hid (jx0 l off (PP l off D).1 true):=.inl ⟨HW.out,rfl,D,HS.out.up,by have:=HS.out.perm;rw[List.append_nil]at this;exact this,rfl⟩;clear HS HX hsv hfl;generalize PP l off D=F at *;go_wp2;exact ZM (v:=.tuple #[.slice a7 n7 c7,.bool true]) (by simp[results,Tryz.results264,go_sem]) rfl ⟨_,_,true,rfl,ai,HR.out,aK⟩
   .obtain⟨n,hn⟩:∃n,X.length=n+1:=⟨X.length-1,(by omega)⟩
    obtain⟨g,cap,c2,c3,c4,az,hrb,eh⟩:=jtw hB hn;have Fp:=jzw X n w.heap.size g cap wr c2 c3 c4 hn az HX.out (by omega) eh;have Gh:(0:Int)<(n:Int)+1:=(by omega);have HN:=hid hn;clear hn hB mK;simp only[ZF.v]at Fp;go_wp2_with fail;refine Fp.mono ?_;rintro e w2 ⟨m,Y,rfl,FE,BK,FF,kt,d1,d2,d3,fr⟩;have FU:=(c4.lt g rfl);have KG:=ZI c2;have jM:Hid (vcU l (D++[m]) Y):=jy2 HS.out BK FF;have yY:=hid FE;obtain⟨eG,Q1,Q6⟩:=jf4 jv.out (HS.out.perm.mem_iff.mp (List.mem_append_right _ (BK.mem_iff.mpr (by simp:m∈m::Y))));obtain⟨x,hx⟩:∃x,l[m.place]? =some x:=⟨_,ZV eG⟩;have an:Bw w w2:=aK.trans (fr.below (λb hb=>by rcases hb with e|e<;>omega) (by omega))
    have aw:Zw w2 w.heap.size (.slice a7 n7 c7) (PP l off D).1:=jcm ai fr (λb hb hs=>by
     obtain⟨q1,q2⟩:=hnb b hb;rcases hs with e|e
     .exact q1 e
     .exact q2 (by rw[e];exact hrb))
    have jI:Zt w2 w.heap.size (some g) Y:=jmg (cap:=cap) (by rw[kt];exact d1) d2 (by rw[kt];exact d3) az;have i6:∀b,(Value.slice a7 n7 c7).ownBlock=some b->b≠w.heap.size/\b≠g:=λb hb=>⟨(hnb b hb).1,λe=>(hnb b hb).2 (by rw[e];exact hrb)⟩
    have hF:=jt1 (off:=off) (D:=D) hx;have HF:=hid hF;obtain⟨b9,o9,rfl,hc⟩:=(hA.below an).at (i:=m.place) (r:=x.cs) (by rw[Z8,hx];rfl);have i5:=ZA w2 (.cells #[J m.YV,J m.place] 317);have NP:(w2.alloc (.cells #[J m.YV,J m.place] 317)).cell? (O b9 (o9+m.place*9))=some (.string x.name):=YR i5 (hc 0 _ rfl);have NQ:(w2.alloc (.cells #[J m.YV,J m.place] 317)).cell? (O b9 (o9+m.place*9+1))=some (J x.lo):=YR i5 (hc 1 _ rfl);have Ir:(w2.alloc (.cells #[J m.YV,J m.place] 317)).cell? (O b9 (o9+m.place*9+2))=some (J x.hi):=YR i5 (hc 2 _ rfl);have xD:(w2.alloc (.cells #[J m.YV,J m.place] 317)).cell? (O b9 (o9+m.place*9+3))=some (J x.pU):=YR i5 (hc 3 _ rfl);have NS:(w2.alloc (.cells #[J m.YV,J m.place] 317)).cell? (O b9 (o9+m.place*9+4))=some (.string x.on):=YR i5 (hc 4 _ rfl);have NT:(w2.alloc (.cells #[J m.YV,J m.place] 317)).cell? (O b9 (o9+m.place*9+5))=some (J x.at_):=YR i5 (hc 5 _ rfl);have NU:(w2.alloc (.cells #[J m.YV,J m.place] 317)).cell? (O b9 (o9+m.place*9+6))=some (.string x.of):=YR i5 (hc 6 _ rfl);have NV:(w2.alloc (.cells #[J m.YV,J m.place] 317)).cell? (O b9 (o9+m.place*9+7))=some (J x.YX):=YR i5 (hc 7 _ rfl);have NW:(w2.alloc (.cells #[J m.YV,J m.place] 317)).cell? (O b9 (o9+m.place*9+8))=some (.string x.ZR):=YR i5 (hc 8 _ rfl);obtain⟨⟨F,sv⟩,Bg⟩:=ZL (PP l off D);rw[Bg]at HF aw hsv hfl;rw[Bg];simp only at aw hsv hfl;have Jz:F.length<=2000:=(by omega);clear hfl;have JO:D.length+1+Y.length<=2000:=by have:=HN.out;omega
    have G5:(0:Int)<=(m.place:Int):=(by omega);have P6:(m.place:Int)<(l.length:Int):=(by omega);obtain⟨rC,rD⟩:=hsv;clear hF Bg hc hx ai fr hnb HS HX FE BK FF c3 c4 d2 d3;cases hs:(x.of.toList==[115])
    .cases hw:(x.of.toList==[119])
     .have HP:Hid (jeb x m.YV off sv=⟨m.YV,x.YX,x.ZR⟩):=j2k hs hw
      go_wp2_with (first
       |(at_builtin;refine wpList_append_lies _ rfl _ _ 218 rfl w.heap.size 223 i0 (.agg #[J 0,J 0,.string ⟨#[]⟩]) 3 32 Tryz.underlying218 hi aG aH aF rfl (by decide) _ _ _ rfl (nO (nO (nO aw _) _) _) ⟨w2.heap.size+1+1,0,none⟩ 1 1 [J (m.YV),J x.YX,.string x.ZR] rfl rfl ?c1a ?c2a (by omega) ?c3a ?c4a ?c5a _ rfl ?_)
       |fail)
      case c1a=>simpa using Ka ((w2.alloc (.cells #[J m.YV,J m.place] 317)).alloc (.cells #[.string x.name,J x.lo,J x.hi,J x.pU,.string x.on,J x.at_,.string x.of,J x.YX,.string x.ZR] 116)) [J (m.YV),J x.YX,.string x.ZR] 223
      case c2a=>intro u hu;simp at hu;rcases hu with rfl|rfl|rfl<;>rfl
      case c3a=>unfold maxLen;omega
      case c4a=>omega
      case c5a=>simp;have:=an.size;omega
      intro g5 eg w5 dO af bE hlt5;have dB:=((i5.alloc (by simp) (.cells #[.string x.name,J x.lo,J x.hi,J x.pU,.string x.on,J x.at_,.string x.of,J x.YX,.string x.ZR] 116)).alloc (by simp;omega) (.cells #[J (m.YV),J x.YX,.string x.ZR] 223));have bG:Bw w w5:=(Zp an dB).grown af (by have:=an.size;have:=dB.size;omega) (λk hk=>(aw.lt k hk).1);have HO:Hid (Zw w5 w.heap.size (so g5 (F.length+1) eg) (F++[⟨m.YV,x.YX,x.ZR⟩])):=Zw.add (p:=⟨m.YV,x.YX,x.ZR⟩) dO;have lM:Zt w5 w.heap.size (some g) Y:=jmh (jI.below dB) (Fr.vaT af) (λe=>(i6 _ e).1 rfl) (λb hb e=>by injection hb with hb;subst hb;exact(i6 _ e).2 rfl);have fL:w5.cell? (O w.heap.size 0)=some (so g n cap):=af.cell (YR dB d1) (λe=>(i6 _ e.symm).1 rfl);have r7:w5.cell? (O (w2.heap.size+1) 7)=some (J x.YX):=af.cell (by simp[go_sem]) (λe=>absurd (show w2.heap.size+1<w2.heap.size from(aw.lt _ e.symm).2) (by omega));have vU:∀b,(so g5 (F.length+1) eg).ownBlock=some b->b≠w.heap.size/\some g≠some b:=λb hb=>by
       have e:g5=b:=by simpa [Value.ownBlock]using hb
       subst e;rcases bE with hh|hh
       .exact⟨(i6 _ hh).1,λe=>by injection e with e;exact(i6 _ hh).2 e.symm⟩
       .have hz:=dB.size
        have hd:=ZI d1;have bR:g<w2.heap.size:=(jI.veg);exact⟨(by omega),λe=>by injection e with e;omega⟩
      clear af dO aw bE hlt5 dB jI i5;go_wp2;go_roundw
      .exact⟨some g,D++[m],Y,some (O g5 0),F.length+1,eg,rfl,by rw[HF.out],lM,yY,jM,(by omega),(by simp;omega),by rw[HF.out];simp only;rw[HP.out];exact HO.out,vU,bG⟩
      .rw[fL,c2];simp
     .have HP:Hid (jeb x m.YV off sv=⟨m.YV-(off+sv),x.YX,x.ZR⟩):=by simp only[Hid];rw[j2j hs hw,show m.YV-off-sv=m.YV-(off+sv) by omega]
      go_wp2_with (first
       |(at_builtin;refine wpList_append_lies _ rfl _ _ 218 rfl w.heap.size 223 i0 (.agg #[J 0,J 0,.string ⟨#[]⟩]) 3 32 Tryz.underlying218 hi aG aH aF rfl (by decide) _ _ _ rfl (nO (nO (nO aw _) _) _) ⟨w2.heap.size+1+1,0,none⟩ 1 1 [J (m.YV-(off+sv)),J x.YX,.string x.ZR] rfl rfl ?c1b ?c2b (by omega) ?c3b ?c4b ?c5b _ rfl ?_)
       |fail)
      case c1b=>simpa using Ka ((w2.alloc (.cells #[J m.YV,J m.place] 317)).alloc (.cells #[.string x.name,J x.lo,J x.hi,J x.pU,.string x.on,J x.at_,.string x.of,J x.YX,.string x.ZR] 116)) [J (m.YV-(off+sv)),J x.YX,.string x.ZR] 223
      case c2b=>intro u hu;simp at hu;rcases hu with rfl|rfl|rfl<;>rfl
      case c3b=>unfold maxLen;omega
      case c4b=>omega
      case c5b=>simp;have:=an.size;omega
      intro g5 eg w5 dO af bE hlt5;have dB:=((i5.alloc (by simp) (.cells #[.string x.name,J x.lo,J x.hi,J x.pU,.string x.on,J x.at_,.string x.of,J x.YX,.string x.ZR] 116)).alloc (by simp;omega) (.cells #[J (m.YV-(off+sv)),J x.YX,.string x.ZR] 223));have bG:Bw w w5:=(Zp an dB).grown af (by have:=an.size;have:=dB.size;omega) (λk hk=>(aw.lt k hk).1);have HO:Hid (Zw w5 w.heap.size (so g5 (F.length+1) eg) (F++[⟨m.YV-(off+sv),x.YX,x.ZR⟩])):=Zw.add (p:=⟨m.YV-(off+sv),x.YX,x.ZR⟩) dO;have lM:Zt w5 w.heap.size (some g) Y:=jmh (jI.below dB) (Fr.vaT af) (λe=>(i6 _ e).1 rfl) (λb hb e=>by injection hb with hb;subst hb;exact(i6 _ e).2 rfl);have fL:w5.cell? (O w.heap.size 0)=some (so g n cap):=af.cell (YR dB d1) (λe=>(i6 _ e.symm).1 rfl);have r7:w5.cell? (O (w2.heap.size+1) 7)=some (J x.YX):=af.cell (by simp[go_sem]) (λe=>absurd (show w2.heap.size+1<w2.heap.size from(aw.lt _ e.symm).2) (by omega));have vU:∀b,(so g5 (F.length+1) eg).ownBlock=some b->b≠w.heap.size/\some g≠some b:=λb hb=>by
       have e:g5=b:=by simpa [Value.ownBlock]using hb
       subst e;rcases bE with hh|hh
       .exact⟨(i6 _ hh).1,λe=>by injection e with e;exact(i6 _ hh).2 e.symm⟩
       .have hz:=dB.size
        have hd:=ZI d1;have bR:g<w2.heap.size:=(jI.veg);exact⟨(by omega),λe=>by injection e with e;omega⟩
      clear af dO aw bE hlt5 dB jI i5;go_wp2;go_roundw
      .exact⟨some g,D++[m],Y,some (O g5 0),F.length+1,eg,rfl,by rw[HF.out],lM,yY,jM,(by omega),(by simp;omega),by rw[HF.out];simp only;rw[HP.out];exact HO.out,vU,bG⟩
      .rw[fL,c2];simp
    .have HP:Hid (jeb x m.YV off sv=⟨m.YV-off,x.YX,x.ZR⟩):=j2l hs
     go_wp2_with (first
      |(at_builtin;refine wpList_append_lies _ rfl _ _ 218 rfl w.heap.size 223 i0 (.agg #[J 0,J 0,.string ⟨#[]⟩]) 3 32 Tryz.underlying218 hi aG aH aF rfl (by decide) _ _ _ rfl (nO (nO (nO aw _) _) _) ⟨w2.heap.size+1+1,0,none⟩ 1 1 [J (m.YV-off),J x.YX,.string x.ZR] rfl rfl ?c1c ?c2c (by omega) ?c3c ?c4c ?c5c _ rfl ?_)
      |fail)
     case c1c=>simpa using Ka ((w2.alloc (.cells #[J m.YV,J m.place] 317)).alloc (.cells #[.string x.name,J x.lo,J x.hi,J x.pU,.string x.on,J x.at_,.string x.of,J x.YX,.string x.ZR] 116)) [J (m.YV-off),J x.YX,.string x.ZR] 223
     case c2c=>intro u hu;simp at hu;rcases hu with rfl|rfl|rfl<;>rfl
     case c3c=>unfold maxLen;omega
     case c4c=>omega
     case c5c=>simp;have:=an.size;omega
     intro g5 eg w5 dO af bE hlt5;have dB:=((i5.alloc (by simp) (.cells #[.string x.name,J x.lo,J x.hi,J x.pU,.string x.on,J x.at_,.string x.of,J x.YX,.string x.ZR] 116)).alloc (by simp;omega) (.cells #[J (m.YV-off),J x.YX,.string x.ZR] 223));have bG:Bw w w5:=(Zp an dB).grown af (by have:=an.size;have:=dB.size;omega) (λk hk=>(aw.lt k hk).1);have HO:Hid (Zw w5 w.heap.size (so g5 (F.length+1) eg) (F++[⟨m.YV-off,x.YX,x.ZR⟩])):=Zw.add (p:=⟨m.YV-off,x.YX,x.ZR⟩) dO;have lM:Zt w5 w.heap.size (some g) Y:=jmh (jI.below dB) (Fr.vaT af) (λe=>(i6 _ e).1 rfl) (λb hb e=>by injection hb with hb;subst hb;exact(i6 _ e).2 rfl);have fL:w5.cell? (O w.heap.size 0)=some (so g n cap):=af.cell (YR dB d1) (λe=>(i6 _ e.symm).1 rfl);have r7:w5.cell? (O (w2.heap.size+1) 7)=some (J x.YX):=af.cell (by simp[go_sem]) (λe=>absurd (show w2.heap.size+1<w2.heap.size from(aw.lt _ e.symm).2) (by omega));have vU:∀b,(so g5 (F.length+1) eg).ownBlock=some b->b≠w.heap.size/\some g≠some b:=λb hb=>by
      have e:g5=b:=by simpa [Value.ownBlock]using hb
      subst e;rcases bE with hh|hh
      .exact⟨(i6 _ hh).1,λe=>by injection e with e;exact(i6 _ hh).2 e.symm⟩
      .have hz:=dB.size
       have hd:=ZI d1;have bR:g<w2.heap.size:=(jI.veg);exact⟨(by omega),λe=>by injection e with e;omega⟩
     clear af dO aw bE hlt5 dB jI i5;go_wp2;go_roundw
     .exact⟨some g,D++[m],Y,some (O g5 0),F.length+1,eg,rfl,by rw[HF.out],lM,yY,jM,(by omega),(by simp;omega),by rw[HF.out];simp only;rw[HP.out];exact HO.out,vU,bG⟩
     .rw[fL,c2];simp
 .have EU:(2000:Int)<(X.length:Int):=(by omega)
  have HR:Hid (jx0 l off [] false):=.inr ⟨h2,rfl,rfl⟩;clear hX xR iD uM hH h2;go_wp2;exact ZM (v:=.tuple #[nS,.bool false]) (by simp[results,Tryz.results264,go_sem]) rfl ⟨_,[],false,rfl,World.ownsRow_nil _ _ _ _,HR.out,hb1⟩
theorem jpv:∀{a b:List ZF},(∀x∈a,∀y∈a,x.place=y.place->x=y)->a.Pairwise (λx y=>x.place<=y.place)->b.Pairwise (λx y=>x.place<=y.place)->a.Perm b->a=b:=by
 intro a
 induction a with
 |nil=>intro b _ _ _ h;exact(List.nil_perm.mp h).symm
 |cons x a ih=>
  intro b hu ha hb h;cases b with
  |nil=>exact absurd h.length_eq M
  |cons y b=>
   have jF:=List.pairwise_cons.mp ha;have sy:=List.pairwise_cons.mp hb;have gI:x.place=y.place:=by
    have h1:x∈y::b:=h.mem_iff.mp M;have h2:y∈x::a:=h.mem_iff.mpr M;have e1:y.place<=x.place:=by
     rcases List.mem_cons.mp h1 with e|e
     .rw[e];exact ZD _
     .exact sy.1 x e
    have e2:x.place<=y.place:=by
     rcases List.mem_cons.mp h2 with e|e
     .rw[e];exact ZD _
     .exact jF.1 y e
    omega
   have hE:x=y:=hu x M y (h.mem_iff.mpr M) gI;subst hE;rw[ih (λp hp q hq=>hu p (lmc _ hp) q (lmc _ hq)) jF.2 sy.2 ((List.perm_cons x).mp h)]
theorem jdz{i:Nat}:∀{n:Nat} {m:ZF},m∈EK i x y n->m.place=i:=by
 intro n
 induction n with
 |zero=>intro m h;simp[EK]at h
 | succ n ih=>
  intro m h;rw[EK,List.mem_append]at h;rcases h with h|h
  .exact ih h
  .unfold jdy at h
   split at h
   .simp at h
   .simp at h;rw[h]
theorem jhx:∀{k:Nat} {m:ZF},m∈Nf l k->m.place<k:=by
 intro k
 induction k with
 |zero=>intro m h;simp[Nf]at h
 | succ k ih=>
  intro m h;rw[Nf,List.mem_append]at h;rcases h with h|h
  .have:=ih h;omega
  .split at h
   .have:=jdz h;omega
   .simp at h
theorem juk(l:List ZQ):∀k,(Nf l k).Pairwise λx y=>x.place<=y.place:=by
 intro k
 induction k with
 |zero=>exact List.Pairwise.nil
 |succ k ih=>
  rw[Nf,List.pairwise_append];refine⟨ih,?_,λa ha b hb=>?_⟩
  .split
   .rename_i x _
    have h:∀m∈jcf k x,m.place=k:=λm hm=>jdz hm
    exact List.pairwise_iff_forall_sublist.mpr λ{a b} hs=>by
     have:=h a (hs.subset M);have:=h b (hs.subset M);omega
   .exact List.Pairwise.nil
  .have h1:=jhx ha
   split at hb
   .have:=jdz hb;omega
   .simp at hb
theorem jvm{P:List ZF}(hP:P.Pairwise MU)(hp:P.Perm (Nf l l.length))(t:Int):atW t P=atW t (Nf l l.length):=by
 refine jpv (λx hx y hy e=>?_) ?_ ?_ (hp.filter _)
 .have h1:=Nb (List.mem_filter.mp hx).2
  have h2:=Nb (List.mem_filter.mp hy).2;obtain⟨xw,xp⟩:=x;obtain⟨yw,yp⟩:=y;simp at h1 h2 e;rw[h1,h2,e]
 .refine List.Pairwise.imp_of_mem (λ{a b} ha hb fZ=>?_) (hP.filter _)
  have h1:=Nb (List.mem_filter.mp ha).2;have h2:=Nb (List.mem_filter.mp hb).2;unfold MU at fZ;omega
 .exact(juk l _).filter _
def jjx(ix:List Nat)(m:ZF):ZF:=⟨m.YV,ix[m.place]?.getD 0⟩
theorem jpj(h:ix[n]? =some k):∀c,(EK n x y c).map (jjx ix)=EK k x y c:=by
 intro c
 induction c with
 |zero=>rfl
 |succ c ih=>
  rw[EK,EK,MZ,ih]
  congr 1
  unfold jdy;split
  .rfl
  .simp[jjx,h]
theorem jlg(F:List ZQ)(x:ZQ):∀k,k<=F.length->Nf (F++[x]) k=Nf F k:=by
 intro k
 induction k with
 |zero=>intro _;rfl
 |succ k ih=>
  intro hk;rw[Nf,Nf,ih Q,N9 Q]
structure Link(l:List ZQ)(nm:ByteArray)(k:Nat)(F:List ZQ)(ix:List Nat):Prop where
 len:F.length=ix.length
 at_:∀(j i:Nat),ix[j]? =some i->l[i]? =F[j]?
 walls:LZ nm l k=(Nf F F.length).map (jjx ix)
theorem jzm(l:List ZQ)(nm:ByteArray):∀k,k<=l.length->∃ix,Link l nm k ((l.take k).filter λx=>x.name.toList==nm.toList) ix:=by
 intro k
 induction k with
 |zero=>intro _;exact⟨[],M,λj i h=>by simp at h,by simp[LZ,Nf]⟩
 |succ k ih=>
  intro hk;have⟨ix,hL⟩:=ih Q;obtain⟨x,hx⟩:∃x,l[k]? =some x:=⟨_,ZV Q⟩;rw[List.take_add_one,hx];cases hn:(x.name.toList==nm.toList)
  .refine⟨ix,?_⟩
   have e:((l.take k++(some x).toList).filter λx=>x.name.toList==nm.toList)=(l.take k).filter λx=>x.name.toList==nm.toList:=by
    rw[List.filter_append];simp[hn]
   rw[e];exact⟨hL.len,hL.at_,by rw[jmz hx hn];exact hL.walls⟩
  .obtain⟨F,hF⟩:∃F,((l.take k).filter λx=>x.name.toList==nm.toList)=F:=⟨_,rfl⟩
   rw[hF]at hL;have e:((l.take k++(some x).toList).filter λx=>x.name.toList==nm.toList)=F++[x]:=by
    rw[List.filter_append,hF];simp[hn]
   rw[e];refine⟨ix++[k],by simp[hL.len],λj i hj=>?_,?_⟩
   .have eP:=(pO hj).1
    rw[FB]at eP;simp at eP;by_cases jd:j=ix.length
    .subst jd
     rw[List.getElem?_append_right (ZD _)]at hj;simp at hj;subst hj;rw[hx, <- hL.len,List.getElem?_append_right (ZD _)];simp
    .rw[N9 Q]at hj
     rw[hL.at_ j i hj,N9 (by rw[hL.len];omega)]
   .rw[jkm hx hn,hL.walls,FB]
    show _=(Nf (F++[x]) (F.length+1)).map _
    rw[jhw (x:=x) M,jlg F x _ (ZD _),MZ]
    congr 1
    .apply List.map_congr_left
     intro m hm;have hlt:=jhx hm;unfold jjx;rw[N9 (by rw[<- hL.len];exact hlt)]
    .unfold jcf
     rw[jpj (k:=k)];rw[hL.len];simp
theorem jw7{F:List ZQ}(au:F.length=ix.length)(h:∀(j i:Nat),ix[j]? =some i->l[i]? =F[j]?):∀(P:List ZF) (st:List Z5 × Int),(∀m∈P,m.place<F.length)->(P.map (jjx ix)).foldl (jdh l off) st=P.foldl (jdh F off) st:=by
 intro P
 induction P with
 |nil=>intro st _;rfl
 | cons m P ih=>
  intro st hP;have hm:=hP m M;obtain⟨i,hi⟩:∃i,ix[m.place]? =some i:=⟨_,ZV Q⟩;rw[List.map_cons,List.foldl_cons,List.foldl_cons];have e:jdh l off st (jjx ix m)=jdh F off st m:=by
   unfold jdh jjx;simp only[hi,Option.getD_some];rw[h _ _ hi]
  rw[e];exact ih _ λq hq=>hP q (lmc _ hq)
theorem jw1{r:ZW}{nm:ByteArray}{H1 H2:List Z5}{b1 b2:Bool}(h1:jx0 (r.Vv.filter λx=>x.name.toList==nm.toList) off H1 b1)(h2:jxz r nm off H2 b2):H1=H2/\b1=b2:=by
 have⟨ix,hL⟩:=jzm r.Vv nm r.Vv.length (ZD _);rw[List.take_length]at hL;obtain⟨F,hF⟩:∃F,(r.Vv.filter λx=>x.name.toList==nm.toList)=F:=⟨_,rfl⟩;rw[hF]at hL h1;have au:(LZ nm r.Vv r.Vv.length).length=(Nf F F.length).length:=by rw[hL.walls,BX]
 obtain⟨s,hs,rfl⟩:=h2;rcases h1 with⟨g1,rfl,P,hP,hp,rfl⟩|⟨g1,rfl,rfl⟩
 .rcases hs with⟨_,rfl,hS⟩|⟨g2,_,_⟩
  .refine⟨?_,rfl⟩
   have KD:s=P.map (jjx ix):=by
    refine jvc hS.up ?_ λt=>?_
    .exact List.pairwise_map.mpr (hP.imp λ{a b} fZ=>by unfold MU at fZ;show a.YV<=b.YV;omega)
    .have e:∀X:List ZF,atW t (X.map (jjx ix))=(atW t X).map (jjx ix):=λX=>by unfold atW;rw[List.filter_map];rfl
     rw[hS.at_,hL.walls,e,e,jvm hP hp]
   rw[KD];unfold PP;rw[jw7 hL.len hL.at_ P _ λm hm=>jhx (hp.mem_iff.mp hm)]
  .omega
 .rcases hs with⟨g2,_,_⟩|⟨_,rfl,rfl⟩
  .omega
  .exact⟨rfl,rfl⟩
