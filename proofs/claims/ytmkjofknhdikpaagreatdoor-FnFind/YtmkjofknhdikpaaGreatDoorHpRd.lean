import Derived.Test.YtmkjofknhdikpaaGreatDoorHpPd
import Derived.Lib.MinMax
set_option maxRecDepth 20000
set_option maxHeartbeats 0
set_option linter.unusedSimpArgs false
open Go.RowKit Go.Sort
namespace Go.Proofs.YtmkjofknhdikpaaGreatDoor
variable{l:List Ud}{b hp k n:Nat}{x:Ud}{off y:Int}{m:TU}{w w':World}{rb:Option Nat}{D X:List TU}{ix:List Nat}
def VJ(l:List Ud):Nat->List TU
 |0=>[]
 |k+1=>VJ l k++(match l[k]? with|some x=>Yd k x|none=>[])
theorem jhw(hx:l[k]? =some x):VJ l (k+1)=VJ l k++Yd k x:=by rw[VJ,hx]
theorem jkp(l:List Ud):∀k,(VJ l k).length<=78*k:=by
 intro k
 induction k with
 |zero=>simp[VJ]
 |succ k ih=>
  rw[VJ,Vq];have AN:∀x,(Yd k x).length<=78:=λx=>Nat.le_trans (jeg _ _ _ _) (jra x)
  split
  .rename_i x _;have:=AN x;omega
  .simp;omega
theorem j1k{m:Int}(hy:VK y m=true)(s:ByteArray):VM y m s=VF y m s:=by unfold VM;rw[hy,if_pos rfl,jig hy]
theorem jwy(h:Zt w hp rb X)(hb:b=hp\/rb=some b):hp<=b:=by
 rcases hb with e|e
 .omega
 .have⟨a,c,_,_,h3,_,h5⟩:=h
  exact(h3.lt b (h5.trans e)).1
theorem jr9(h:Zt w hp rb X)(hb:rb=some b):b<w.heap.size:=by
 have⟨a,c,_,_,h3,_,h5⟩:=h;exact(h3.lt b (h5.trans hb)).2
theorem jjb(l:List Ud)(a:Option Addr)(ca:Nat)(w:World)(hA:Za w a 9 (l.map Ud.cs))(hT:U3 w)(gw:Mx w)(hr:∀x∈l,Jo x)(hl:l.length<=40)(di:∀x∈l,x.on.size<=8000):
  C 257 #[U a l.length ca] w λe W'=>∃rb X,e=V (.pointer (some (O w.heap.size 0)))/\Zt W' w.heap.size rb X/\Xc X/\X.Perm (VJ l l.length)/\Bw w W':=by
 have jv:=hid hr;have sY:=hid di;clear hr di;have H0:Zt (w.alloc (G #[nS] 300)) w.heap.size none []:=⟨none,0,Z8,Z8,World.ownsRow_nil _ _ _ _,by simp[Value.ownBlock],rfl⟩;have X0:Hid (Xc []):=λi p c _ hp=>by simp at hp
 delta C;go_in;go_wp2;go_loopw [12] (λrg wr=>∃(k:Nat) (rb:Option Nat) (X:List TU),k<=l.length/\rg=J k/\Zt wr w.heap.size rb X/\Hid (Xc X)/\Hid (X.Perm (VJ l k))/\Bw w wr) (λrg _=>l.length-(intOf rg).toNat)
 .exact⟨0,none,[],Q,rfl,H0,X0,List.Perm.refl _,TK _ _⟩
 ·
  clear H0 X0;obtain⟨k,rb,X,hk,rfl,hH,HX,HP,aK⟩:=hrel;have dI:=aK.size;have au:=jkp l k;by_cases hlt:k<l.length
  .have⟨x,hx⟩:=Vb hlt
   have mg:=jv.out x (UH hx);have Cs:=sY.out x (UH hx);obtain⟨b9,o9,rfl,hc⟩:=(hA.below aK).at (i:=k) (r:=x.cs) (by rw[Uv,hx];rfl);have c0:wr.cell? (O b9 (o9+k*9))=some (I x.name):=hc 0 _ rfl;have c1:=hc 1 _ rfl;have c2:=hc 2 _ rfl;have c3:=hc 3 _ rfl;have c4:=hc 4 _ rfl;have c5:=hc 5 _ rfl;have c6:=hc 6 _ rfl;have c7:=hc 7 _ rfl;have c8:=hc 8 _ rfl;clear hc;have HT:Hid (VJ l (k+1)=VJ l k++Yd k x):=jhw hx;have⟨L,hL⟩:=TY (VJ l k);rw[hL]at HT HP au;clear hL hx;have⟨ya,vO⟩:=TY (max x.lo 1960);have⟨ye,vP⟩:=TY (min x.hi 2037);have Nq:1960<=ya:=Q;have Nr:ye<=2037:=Q;have Ih:Hid (∀n:Nat,¬ya+n<=ye->ya+n<=ye+1\/n=0->Yd k x=Ve k x ya n):=λn h1 h2=>by
    unfold Yd yrs;rw[vO,vP]
    congr 1
    omega
   have j9:=TK wr (G #[I x.name,J x.lo,J x.hi,J x.UB,I x.on,J x.at_,I x.of,J x.TF,I x.Uc] 117);have aS:=hH.below j9;have B1:Bw w (wr.alloc (G #[I x.name,J x.lo,J x.hi,J x.UB,I x.on,J x.at_,I x.of,J x.TF,I x.Uc] 117)):=aK.alloc dI _;have qV:rb≠some wr.heap.size:=λe=>by have:=jr9 hH e;omega
   have qK:w.heap.size<wr.heap.size:=by have⟨_,_,h1,_⟩:=hH;exact TV h1
   have kO:(wr.alloc (G #[I x.name,J x.lo,J x.hi,J x.UB,I x.on,J x.at_,I x.of,J x.TF,I x.Uc] 117)).heap.size=wr.heap.size+1:=M;obtain⟨e1,e2,e3,e4,e5⟩:(λz:World=>z.cell? (O wr.heap.size 1)=some (J x.lo)/\z.cell? (O wr.heap.size 2)=some (J x.hi)/\z.cell? (O wr.heap.size 3)=some (J x.UB)/\z.cell? (O wr.heap.size 4)=some (I x.on)/\z.cell? (O wr.heap.size 5)=some (J x.at_)) (wr.alloc (G #[I x.name,J x.lo,J x.hi,J x.UB,I x.on,J x.at_,I x.of,J x.TF,I x.Uc] 117)):=Z8;have nH:Hid (X.Perm (L++Ve k x ya 0)):=by rw[show L++Ve k x ya 0=L from List.append_nil _];exact HP
   go_wp2;have⟨wB,gn⟩:=TY ((wr.alloc (G #[I x.name,J x.lo,J x.hi,J x.UB,I x.on,J x.at_,I x.of,J x.TF,I x.Uc] 117)));have⟨bx,ja⟩:=TY wr.heap.size;rw[gn]at aS B1 kO e1 e2 e3 e4 e5 ⊢;rw[ja]at kO e1 e2 e3 e4 e5 qV qK ⊢;clear gn ja hH aK dI j9 c0 c1 c2 c3 c4 c5 c6 c7 c8 HP;go_loopw [6] (λs6 wq=>∃(n:Nat) (rq:Option Nat) (Y:List TU),s6=J (ya+n)/\(ya+n<=ye+1\/n=0)/\Zt wq w.heap.size rq Y/\Hid (Xc Y)/\Hid (Y.Perm (L++Ve k x ya n))/\rq≠some bx/\bx<wq.heap.size/\(wq.cell? (O bx 2)=some (J x.hi)/\wq.cell? (O bx 3)=some (J x.UB)/\wq.cell? (O bx 4)=some (I x.on)/\wq.cell? (O bx 5)=some (J x.at_))/\Bw w wq) (λs6 _=>(ye+1-intOf s6).toNat)
   .exact⟨0,rb,X,M,.inr rfl,aS,HX,nH,qV,Q,⟨e2,e3,e4,e5⟩,B1⟩
   ·
    obtain⟨n,rq,Y,rfl,sO,uk,xy,xn,nq,aY,⟨q2,q3,q4,q5⟩,Bq⟩:=hrel;clear aS qV B1 kO e1 e2 e3 e4 e5 nH HX;have iQ:=Bq.size;have vK:=jeg k x ya n;have kt:Y.length<=4000:=by rw[xn.out.length_eq,Vq];have:=jra x;rcases sO with e|e<;>omega
    by_cases hy:ya+n<=ye
    .have mR:VK (ya+n) x.UB=true:=jx9 Q Q mg.UB.1 mg.UB.2
     have hO:=λw (h1:U3 w) (h2:Mx w)=>jtv (ya+n) x.UB x.on w h1 h2 Cs
     rw[j1k mR]at hO;have ou:=j15 (s:=x.on) mR;have JS:=mg.at_.1;have gZ:=mg.at_.2;by_cases hd:VF (ya+n) x.UB x.on= -1000000
     .have HW:Hid (Ve k x ya (n+1)=Ve k x ya n):=by simp only[Hid];rw[Ve,jmy hd,List.append_nil]
      rw[hd]at hO;clear hd ou mR;go_wp2_with fail;refine(hO _ (hT.of_below Bq) (gw.of_below Bq)).mono ?_;rintro e w3 ⟨rfl,ar⟩;have Q2:=Tx ar q2;have Q3:=Tx ar q3;have Q4:=Tx ar q4;have Q5:=Tx ar q5;have kN:=ar.size;have el:=uk.below ar;have B3:=Bq.trans (ar.mono iQ);clear ar q2 q3 q4 q5 uk;go_wp2;go_roundw
      .exact⟨n+1,rq,Y,by congr 1;omega,.inl Q,el,xy,by rw[HW.out];exact xn,nq,Q,⟨Q2,Q3,Q4,Q5⟩,B3⟩
      .simp[intOf];omega
     .have HW:Hid (Ve k x ya (n+1)=Ve k x ya n++[⟨VF (ya+n) x.UB x.on*86400+x.at_,k⟩]):=by simp only[Hid];rw[Ve,jkl hd,Int.mul_comm]
      have BO:=ou.resolve_left hd;have gd:(VF (ya+n) x.UB x.on != -1000000)=true:=by simpa using hd
      generalize VF (ya+n) x.UB x.on=dy at *;have Et:Hid (∀Tt:List TU,Tt.Perm (Y++[⟨dy*86400+x.at_,k⟩])->Tt.Perm (L++Ve k x ya (n+1))):=λTt hZ=>by
       rw[HW.out, <- List.append_assoc];exact hZ.trans (xn.out.append_right _)
      have JI:=λw h=>jok Y ⟨dy*86400+x.at_,k⟩ w.heap.size rq w h xy.out kt
      have uD:=fun(w4:World) h=>jok Y ⟨dy*86400+x.at_,k⟩ w.heap.size rq w4 h xy.out kt
      simp only[TU.v]at uD;clear hd ou mR HW JI;go_wp2_with fail;refine(hO _ (hT.of_below Bq) (gw.of_below Bq)).mono ?_;rintro e w3 ⟨rfl,ar⟩;have Q2:=Tx ar q2;have Q3:=Tx ar q3;have Q4:=Tx ar q4;have Q5:=Tx ar q5;have kN:=ar.size;have el:=uk.below ar;have B3:=Bq.trans (ar.mono iQ);clear ar q2 q3 q4 q5 uk;go_wp2_with fail;refine(uD _ el).mono ?_;rintro e w4 ⟨rfl,⟨Tt,rz,hZ,FJ,FI,KB⟩,fr⟩;have nS:¬(bx=w.heap.size\/rq=some bx):=λe=>by
       rcases e with e|e
       .omega
       .exact nq e
      have R2:=fr.cell (b:=bx) (o:=2) nS Q2;have R3:=fr.cell (b:=bx) (o:=3) nS Q3;have R4:=fr.cell (b:=bx) (o:=4) nS Q4;have R5:=fr.cell (b:=bx) (o:=5) nS Q5;have mN:=fr.size;have B4:Bw w w4:=B3.trans (fr.below (λb hb=>jwy el hb) Q);have nz:rz≠some bx:=λe=>by
       rcases KB with e2|⟨k2,fy,e2⟩
       .exact nq (e2 ▸ e)
       .rw[e2]at e;injection e with e;omega
      have Im:=hid FJ;have Il:Hid (Tt.Perm (L++Ve k x ya (n+1))):=Et.out Tt FI;clear fr el Q2 Q3 Q4 Q5 FJ FI Et;go_wp2;go_roundw
      .exact⟨n+1,rz,Tt,by congr 1;omega,.inl Q,hZ,Im,Il,nz,Q,⟨R2,R3,R4,R5⟩,B4⟩
      .simp[intOf];omega
    .have HE:Hid (Y.Perm (VJ l (k+1))):=by simp only[Hid];rw[HT.out,Ih.out n Q sO];exact xn.out
     go_wp2;go_roundw
     .exact⟨k+1,rq,Y,Q,Z7,uk,xy,HE,Bq⟩
     .simp[intOf];omega
  .obtain rfl:k=l.length:=Q
   go_wp2;go_ret;exact⟨rb,X,rfl,hH,HX.out,HP.out,aK⟩
theorem ZL{S:Nat->Prop}{base:Nat}{e:TypeId}{size:Nat}{v:Value}{xs:List Value}(h:w.ownsRow base e size v n xs)(hf:Fr S w w')(hs:∀b,v.ownBlock=some b->¬S b):w'.ownsRow base e size v n xs:=by
 refine⟨h.1,?_⟩;rcases h.2 with h|⟨g,cap,cur,rfl,e2,e3,e4⟩
 .exact .inl h
 .exact .inr ⟨g,cap,cur,rfl,e2,(hf.block g (Array.getElem?_eq_some_iff.1 e3).1 (hs g rfl)).trans e3,e4⟩
theorem jmh{S:Nat->Prop}(h:Zt w hp rb X)(hf:Fr S w w')(h1:¬S hp)(h2:∀b,rb=some b->¬S b):Zt w' hp rb X:=by
 have⟨a,c,c1,c2,c3,c4,c5⟩:=h;exact⟨a,c,hf.cell h1 c1,(hf.frozen (TV c1) h1).trans c2,ZL c3 hf (λb hb=>h2 b (c5.symm.trans hb)),c4,c5⟩
theorem Zt.vcS{g:Nat}(h:Zt w hp (some g) X):g<w.heap.size:=jr9 h rfl
theorem jtw(h:Zt w hp rb X)(hn:X.length=n+1):∃g cap,w.cell? (O hp 0)=some (so g (n+1) cap)/\w.frozen? (O hp 0)=false/\Zj w hp (so g (n+1) cap) X/\hp≠g/\rb=some g/\n+1<=cap:=by
 have⟨a,c,c1,c2,c3,c4,c5⟩:=h;have xD:=c3;unfold Zj at xD;rw[hn]at c1 c3 c4 c5 xD;rcases xD.2 with⟨_,h0⟩|⟨g,cap,cur,e,_,_,hc,_⟩
 .omega
 .injection e with e1 e2 e3
  subst e1 e3;exact⟨g,c,c1,c2,c3,λe=>c4 (by rw[e];rfl),c5.symm,hc⟩
theorem jt1(hx:l[m.place]? =some x):VU l off (D++[m])=((VU l off D).1++[Yg x m.Ty off (VU l off D).2],x.TF):=by
 unfold VU;rw[List.foldl_append]
 show XE l off _ m=_
 unfold XE;rw[hx]
theorem jf4(hl:∀x∈l,Jo x){m:TU}:∀{k:Nat},m∈VJ l k->m.place<k/\ -100000000000<=m.Ty/\m.Ty<=300000000000:=by
 intro k
 induction k with
 |zero=>intro h;simp[VJ]at h
 |succ k ih=>
  intro h;rw[VJ,List.mem_append]at h;rcases h with h|h
  .have⟨h2,h3⟩:=ih h
   exact⟨Q,h3⟩
  .split at h
   .rename_i x hx
    by_cases hy:yrs x=0
    .unfold Yd at h;rw[hy]at h;simp[Ve]at h
    .have⟨p1,p2⟩:=jko (hl x (UH hx)) Q (by unfold yrs at *;omega) h
     exact⟨Q,p2⟩
   .simp at h
def jx0(l:List Ud)(off:Int)(H:List Ur)(b:Bool):Prop:=((VJ l l.length).length<=2000/\b=true/\∃P:List TU,P.Pairwise VC/\P.Perm (VJ l l.length)/\H=(VU l off P).1)\/(¬(VJ l l.length).length<=2000/\b=false/\H=[])
structure vbx(l:List Ud)(D X:List TU):Prop where
 up:D.Pairwise VC
 all:∀d∈D,∀y∈X,VC d y
 perm:(D++X).Perm (VJ l l.length)
theorem jy2{Y:List TU}(h:vbx l D X)(hP:X.Perm (m::Y))(hm:∀y∈Y,VC m y):vbx l (D++[m]) Y:=by
 refine⟨List.pairwise_append.mpr ⟨h.up,M,λd hd y hy=>?_⟩,λd hd y hy=>?_,?_⟩
 .simp at hy;subst hy
  exact h.all d hd y (hP.mem_iff.mpr M)
 .rcases List.mem_append.mp hd with e|e
  .exact h.all d e y (hP.mem_iff.mpr (VW _ hy))
  .simp at e;subst e;exact hm y hy
 .rw[List.append_assoc]
  exact(List.Perm.append_left D hP.symm).trans h.perm
theorem jqo(l:List Ud)(a:Option Addr)(ca:Nat)(off:Int)(w:World)(hA:Za w a 9 (l.map Ud.cs))(hT:U3 w)(gw:Mx w)(hr:∀x∈l,Jo x)(hl:l.length<=40)(di:∀x∈l,x.on.size<=8000)(f1: -86400<=off)(f2:off<=86400):
  C 226 #[.slice a l.length ca,J off] w λe W'=>∃v' H b,e=.returned (.tuple #[v',.bool b])/\Zw W' w.heap.size v' H/\jx0 l off H b/\Bw w W':=by
 obtain⟨i0,hi,aG,aH,aF⟩:=info_parts jr5;have jv:=hid hr;have hH:=jjb l a ca w hA hT gw hr hl di;have uM:=jkp l l.length;clear hr di hT gw;delta C;go_in;go_wp2_with fail;refine hH.mono ?_;rintro e w1 ⟨rb,X,rfl,hB,hX,xR,hb1⟩;have iD:=xR.length_eq;have aE:∃a c,w1.cell? (O w.heap.size 0)=some (.slice a X.length c):=by obtain⟨a,c,h,_⟩:=hB;exact⟨a,c,h⟩
 obtain⟨a1,c1,aX⟩:=aE;by_cases h2:(VJ l l.length).length<=2000
 .have xq:Hid (vbx l [] X):=⟨List.Pairwise.nil,λd hd=>by simp at hd,xR⟩
  have EC:=hid hX;have rZ:X.length<=2000:=(by omega);have HW:=hid h2;have EU:¬(2000:Int)<(X.length:Int):=(by omega);clear hX xR iD uM hH h2;go_wp2;go_loopw [7,8] (λs7 s8 wr=>∃(rb:Option Nat) (D X:List TU) (a7:Option Addr) (n7 c7:Nat),s7=.slice a7 n7 c7/\s8=J (VU l off D).2/\Zt wr w.heap.size rb X/\Hid (Xc X)/\Hid (vbx l D X)/\X.length<=2000/\D.length+X.length<=2000/\Zw wr w.heap.size (.slice a7 n7 c7) (VU l off D).1/\(∀b,(Value.slice a7 n7 c7).ownBlock=some b->b≠w.heap.size/\rb≠some b)/\Bw w wr) (λ_ _ wr=>match wr.cell? (O w.heap.size 0)with|some (.slice _ n _)=>n|_=>0)
  .exact⟨rb,[],X,none,0,0,rfl,rfl,hB,EC,xq,rZ,by simpa using rZ,World.ownsRow_nil _ _ _ _,λb hb=>by simp[Value.ownBlock]at hb,hb1⟩
  ·
   clear hB xq EC rZ hb1 aX EU;obtain⟨rb,D,X,a7,n7,c7,rfl,rfl,hB,HX,HS,BJ,OP,ai,hnb,aK⟩:=hrel;have dI:=aK.size;have hsv: -7200<=(VU l off D).2/\(VU l off D).2<=7200:=by
    have:=jk7 (off:=off) (s:=D) (l:=l) (λm hm=>(jf4 jv.out (HS.out.perm.mem_iff.mp (List.mem_append_left _ hm))).1) (λx hx=>(jv.out x hx).TF) D.length (TP _);rw[List.take_length]at this;exact this
   have D4:(VU l off D).1.length=D.length:=by
    have:=joy (off:=off) (s:=D) (l:=l) (λm hm=>(jf4 jv.out (HS.out.perm.mem_iff.mp (List.mem_append_left _ hm))).1) D.length (TP _);rw[List.take_length]at this;exact this
   by_cases mK:X.length=0
   .have qq:X=[]:=List.length_eq_zero_iff.mp mK
    subst qq;obtain⟨a2,c2,cU,_⟩:=hB;have HR:Hid (jx0 l off (VU l off D).1 true):=.inl ⟨HW.out,rfl,D,HS.out.up,by have:=HS.out.perm;rw[List.append_nil]at this;exact this,rfl⟩;clear HS HX hsv D4;generalize VU l off D=F at *;go_wp2;exact Ue (v:=.tuple #[.slice a7 n7 c7,.bool true]) (by simp[results,Tryz.results226,go_sem]) rfl ⟨_,_,true,rfl,ai,HR.out,aK⟩
   .obtain⟨n,hn⟩:∃n,X.length=n+1:=⟨X.length-1,(by omega)⟩
    obtain⟨g,cap,c2,c3,c4,az,hrb,eh⟩:=jtw hB hn;have Fp:=jzw X n w.heap.size g cap wr c2 c3 c4 hn az HX.out (by omega) eh;have Gh:(0:Int)<(n:Int)+1:=(by omega);have HN:=hid hn;clear hn hB mK;simp only[TU.v]at Fp;go_wp2_with fail;refine Fp.mono ?_;rintro e w2 ⟨m,Y,rfl,FE,BK,FF,kt,d1,d2,d3,fr⟩;have FU:=(c4.lt g rfl);have KG:=TV c2;have jM:Hid (vbx l (D++[m]) Y):=jy2 HS.out BK FF;have yY:=hid FE;obtain⟨eG,Q1,Q6⟩:=jf4 jv.out (HS.out.perm.mem_iff.mp (List.mem_append_right _ (BK.mem_iff.mpr (by simp:m∈m::Y))));obtain⟨x,hx⟩:∃x,l[m.place]? =some x:=⟨_,Ug eG⟩;have an:Bw w w2:=aK.trans (fr.below (λb hb=>by rcases hb with e|e<;>omega) (by omega))
    have aw:Zw w2 w.heap.size (.slice a7 n7 c7) (VU l off D).1:=ZL ai fr (λb hb hs=>by
     obtain⟨q1,q2⟩:=hnb b hb;rcases hs with e|e
     .exact q1 e
     .exact q2 (by rw[e];exact hrb))
    have jI:Zt w2 w.heap.size (some g) Y:=jmg (cap:=cap) (by rw[kt];exact d1) d2 (by rw[kt];exact d3) az;have i6:∀b,(Value.slice a7 n7 c7).ownBlock=some b->b≠w.heap.size/\b≠g:=λb hb=>⟨(hnb b hb).1,λe=>(hnb b hb).2 (by rw[e];exact hrb)⟩
    have hF:=jt1 (off:=off) (D:=D) hx;have HF:=hid hF;obtain⟨b9,o9,rfl,hc⟩:=(hA.below an).at (i:=m.place) (r:=x.cs) (by rw[Uv,hx];rfl);have i5:=TK w2 (.cells #[J m.Ty,J m.place] 302);have NP:(w2.alloc (.cells #[J m.Ty,J m.place] 302)).cell? (O b9 (o9+m.place*9))=some (.string x.name):=Tx i5 (hc 0 _ rfl);have NQ:(w2.alloc (.cells #[J m.Ty,J m.place] 302)).cell? (O b9 (o9+m.place*9+1))=some (J x.lo):=Tx i5 (hc 1 _ rfl);have Ir:(w2.alloc (.cells #[J m.Ty,J m.place] 302)).cell? (O b9 (o9+m.place*9+2))=some (J x.hi):=Tx i5 (hc 2 _ rfl);have xD:(w2.alloc (.cells #[J m.Ty,J m.place] 302)).cell? (O b9 (o9+m.place*9+3))=some (J x.UB):=Tx i5 (hc 3 _ rfl);have NS:(w2.alloc (.cells #[J m.Ty,J m.place] 302)).cell? (O b9 (o9+m.place*9+4))=some (.string x.on):=Tx i5 (hc 4 _ rfl);have NT:(w2.alloc (.cells #[J m.Ty,J m.place] 302)).cell? (O b9 (o9+m.place*9+5))=some (J x.at_):=Tx i5 (hc 5 _ rfl);have NU:(w2.alloc (.cells #[J m.Ty,J m.place] 302)).cell? (O b9 (o9+m.place*9+6))=some (.string x.of):=Tx i5 (hc 6 _ rfl);have NV:(w2.alloc (.cells #[J m.Ty,J m.place] 302)).cell? (O b9 (o9+m.place*9+7))=some (J x.TF):=Tx i5 (hc 7 _ rfl);have NW:(w2.alloc (.cells #[J m.Ty,J m.place] 302)).cell? (O b9 (o9+m.place*9+8))=some (.string x.Uc):=Tx i5 (hc 8 _ rfl);obtain⟨⟨F,sv⟩,Bg⟩:=TY (VU l off D);rw[Bg]at HF aw hsv D4;rw[Bg];simp only at aw hsv D4;have Jz:F.length<=2000:=(by omega);clear D4;have JO:D.length+1+Y.length<=2000:=by have:=HN.out;omega
    have G5:(0:Int)<=(m.place:Int):=(by omega);have P6:(m.place:Int)<(l.length:Int):=(by omega);obtain⟨rC,rD⟩:=hsv;clear hF Bg hc hx ai fr hnb HS HX FE BK FF c3 c4 d2 d3;cases hs:(x.of.toList==[115])
    .cases hw:(x.of.toList==[119])
     .have HP:Hid (Yg x m.Ty off sv=⟨m.Ty,x.TF,x.Uc⟩):=j2k hs hw
      go_wp2_with (first
       |(at_builtin;refine wpList_append_lies _ rfl _ _ 196 rfl w.heap.size 201 i0 (.agg #[J 0,J 0,.string ⟨#[]⟩]) 3 32 Tryz.underlying196 hi aG aH aF rfl (by decide) _ _ _ rfl (UC (UC (UC aw _) _) _) ⟨w2.heap.size+1+1,0,none⟩ 1 1 [J (m.Ty),J x.TF,.string x.Uc] rfl rfl ?c1a ?c2a (by omega) ?c3a ?c4a ?c5a _ rfl ?_)
       |fail)
      case c1a=>simpa using Vy ((w2.alloc (.cells #[J m.Ty,J m.place] 302)).alloc (.cells #[.string x.name,J x.lo,J x.hi,J x.UB,.string x.on,J x.at_,.string x.of,J x.TF,.string x.Uc] 117)) [J (m.Ty),J x.TF,.string x.Uc] 201
      case c2a=>intro u hu;simp at hu;rcases hu with rfl|rfl|rfl<;>rfl
      case c3a=>unfold maxLen;omega
      case c4a=>omega
      case c5a=>simp;have:=an.size;omega
      intro g5 eg w5 dO af bE hlt5;have dB:=((i5.alloc (by simp) (.cells #[.string x.name,J x.lo,J x.hi,J x.UB,.string x.on,J x.at_,.string x.of,J x.TF,.string x.Uc] 117)).alloc (by simp;omega) (.cells #[J (m.Ty),J x.TF,.string x.Uc] 201));have bG:Bw w w5:=(TJ an dB).grown af (by have:=an.size;have:=dB.size;omega) (λk hk=>(aw.lt k hk).1);have HO:Hid (Zw w5 w.heap.size (so g5 (F.length+1) eg) (F++[⟨m.Ty,x.TF,x.Uc⟩])):=Zw.add (p:=⟨m.Ty,x.TF,x.Uc⟩) dO;have lM:Zt w5 w.heap.size (some g) Y:=jmh (jI.below dB) (Fr.XY af) (λe=>(i6 _ e).1 rfl) (λb hb e=>by injection hb with hb;subst hb;exact(i6 _ e).2 rfl);have fL:w5.cell? (O w.heap.size 0)=some (so g n cap):=af.cell (Tx dB d1) (λe=>(i6 _ e.symm).1 rfl);have r7:w5.cell? (O (w2.heap.size+1) 7)=some (J x.TF):=af.cell (by simp[go_sem]) (λe=>absurd (show w2.heap.size+1<w2.heap.size from(aw.lt _ e.symm).2) (by omega));have vU:∀b,(so g5 (F.length+1) eg).ownBlock=some b->b≠w.heap.size/\some g≠some b:=λb hb=>by
       have e:g5=b:=by simpa [Value.ownBlock]using hb
       subst e;rcases bE with hh|hh
       .exact⟨(i6 _ hh).1,λe=>by injection e with e;exact(i6 _ hh).2 e.symm⟩
       .have hz:=dB.size
        have hd:=TV d1;have bR:g<w2.heap.size:=(jI.vcS);exact⟨(by omega),λe=>by injection e with e;omega⟩
      clear af dO aw bE hlt5 dB jI i5;go_wp2;go_roundw
      .exact⟨some g,D++[m],Y,some (O g5 0),F.length+1,eg,rfl,by rw[HF.out],lM,yY,jM,(by omega),(by simp;omega),by rw[HF.out];simp only;rw[HP.out];exact HO.out,vU,bG⟩
      .rw[fL,c2];simp
     .have HP:Hid (Yg x m.Ty off sv=⟨m.Ty-(off+sv),x.TF,x.Uc⟩):=by simp only[Hid];rw[j2j hs hw,show m.Ty-off-sv=m.Ty-(off+sv) by omega]
      go_wp2_with (first
       |(at_builtin;refine wpList_append_lies _ rfl _ _ 196 rfl w.heap.size 201 i0 (.agg #[J 0,J 0,.string ⟨#[]⟩]) 3 32 Tryz.underlying196 hi aG aH aF rfl (by decide) _ _ _ rfl (UC (UC (UC aw _) _) _) ⟨w2.heap.size+1+1,0,none⟩ 1 1 [J (m.Ty-(off+sv)),J x.TF,.string x.Uc] rfl rfl ?c1b ?c2b (by omega) ?c3b ?c4b ?c5b _ rfl ?_)
       |fail)
      case c1b=>simpa using Vy ((w2.alloc (.cells #[J m.Ty,J m.place] 302)).alloc (.cells #[.string x.name,J x.lo,J x.hi,J x.UB,.string x.on,J x.at_,.string x.of,J x.TF,.string x.Uc] 117)) [J (m.Ty-(off+sv)),J x.TF,.string x.Uc] 201
      case c2b=>intro u hu;simp at hu;rcases hu with rfl|rfl|rfl<;>rfl
      case c3b=>unfold maxLen;omega
      case c4b=>omega
      case c5b=>simp;have:=an.size;omega
      intro g5 eg w5 dO af bE hlt5;have dB:=((i5.alloc (by simp) (.cells #[.string x.name,J x.lo,J x.hi,J x.UB,.string x.on,J x.at_,.string x.of,J x.TF,.string x.Uc] 117)).alloc (by simp;omega) (.cells #[J (m.Ty-(off+sv)),J x.TF,.string x.Uc] 201));have bG:Bw w w5:=(TJ an dB).grown af (by have:=an.size;have:=dB.size;omega) (λk hk=>(aw.lt k hk).1);have HO:Hid (Zw w5 w.heap.size (so g5 (F.length+1) eg) (F++[⟨m.Ty-(off+sv),x.TF,x.Uc⟩])):=Zw.add (p:=⟨m.Ty-(off+sv),x.TF,x.Uc⟩) dO;have lM:Zt w5 w.heap.size (some g) Y:=jmh (jI.below dB) (Fr.XY af) (λe=>(i6 _ e).1 rfl) (λb hb e=>by injection hb with hb;subst hb;exact(i6 _ e).2 rfl);have fL:w5.cell? (O w.heap.size 0)=some (so g n cap):=af.cell (Tx dB d1) (λe=>(i6 _ e.symm).1 rfl);have r7:w5.cell? (O (w2.heap.size+1) 7)=some (J x.TF):=af.cell (by simp[go_sem]) (λe=>absurd (show w2.heap.size+1<w2.heap.size from(aw.lt _ e.symm).2) (by omega));have vU:∀b,(so g5 (F.length+1) eg).ownBlock=some b->b≠w.heap.size/\some g≠some b:=λb hb=>by
       have e:g5=b:=by simpa [Value.ownBlock]using hb
       subst e;rcases bE with hh|hh
       .exact⟨(i6 _ hh).1,λe=>by injection e with e;exact(i6 _ hh).2 e.symm⟩
       .have hz:=dB.size
        have hd:=TV d1;have bR:g<w2.heap.size:=(jI.vcS);exact⟨(by omega),λe=>by injection e with e;omega⟩
      clear af dO aw bE hlt5 dB jI i5;go_wp2;go_roundw
      .exact⟨some g,D++[m],Y,some (O g5 0),F.length+1,eg,rfl,by rw[HF.out],lM,yY,jM,(by omega),(by simp;omega),by rw[HF.out];simp only;rw[HP.out];exact HO.out,vU,bG⟩
      .rw[fL,c2];simp
    .have HP:Hid (Yg x m.Ty off sv=⟨m.Ty-off,x.TF,x.Uc⟩):=j2l hs
     go_wp2_with (first
      |(at_builtin;refine wpList_append_lies _ rfl _ _ 196 rfl w.heap.size 201 i0 (.agg #[J 0,J 0,.string ⟨#[]⟩]) 3 32 Tryz.underlying196 hi aG aH aF rfl (by decide) _ _ _ rfl (UC (UC (UC aw _) _) _) ⟨w2.heap.size+1+1,0,none⟩ 1 1 [J (m.Ty-off),J x.TF,.string x.Uc] rfl rfl ?c1c ?c2c (by omega) ?c3c ?c4c ?c5c _ rfl ?_)
      |fail)
     case c1c=>simpa using Vy ((w2.alloc (.cells #[J m.Ty,J m.place] 302)).alloc (.cells #[.string x.name,J x.lo,J x.hi,J x.UB,.string x.on,J x.at_,.string x.of,J x.TF,.string x.Uc] 117)) [J (m.Ty-off),J x.TF,.string x.Uc] 201
     case c2c=>intro u hu;simp at hu;rcases hu with rfl|rfl|rfl<;>rfl
     case c3c=>unfold maxLen;omega
     case c4c=>omega
     case c5c=>simp;have:=an.size;omega
     intro g5 eg w5 dO af bE hlt5;have dB:=((i5.alloc (by simp) (.cells #[.string x.name,J x.lo,J x.hi,J x.UB,.string x.on,J x.at_,.string x.of,J x.TF,.string x.Uc] 117)).alloc (by simp;omega) (.cells #[J (m.Ty-off),J x.TF,.string x.Uc] 201));have bG:Bw w w5:=(TJ an dB).grown af (by have:=an.size;have:=dB.size;omega) (λk hk=>(aw.lt k hk).1);have HO:Hid (Zw w5 w.heap.size (so g5 (F.length+1) eg) (F++[⟨m.Ty-off,x.TF,x.Uc⟩])):=Zw.add (p:=⟨m.Ty-off,x.TF,x.Uc⟩) dO;have lM:Zt w5 w.heap.size (some g) Y:=jmh (jI.below dB) (Fr.XY af) (λe=>(i6 _ e).1 rfl) (λb hb e=>by injection hb with hb;subst hb;exact(i6 _ e).2 rfl);have fL:w5.cell? (O w.heap.size 0)=some (so g n cap):=af.cell (Tx dB d1) (λe=>(i6 _ e.symm).1 rfl);have r7:w5.cell? (O (w2.heap.size+1) 7)=some (J x.TF):=af.cell (by simp[go_sem]) (λe=>absurd (show w2.heap.size+1<w2.heap.size from(aw.lt _ e.symm).2) (by omega));have vU:∀b,(so g5 (F.length+1) eg).ownBlock=some b->b≠w.heap.size/\some g≠some b:=λb hb=>by
      have e:g5=b:=by simpa [Value.ownBlock]using hb
      subst e;rcases bE with hh|hh
      .exact⟨(i6 _ hh).1,λe=>by injection e with e;exact(i6 _ hh).2 e.symm⟩
      .have hz:=dB.size
       have hd:=TV d1;have bR:g<w2.heap.size:=(jI.vcS);exact⟨(by omega),λe=>by injection e with e;omega⟩
     clear af dO aw bE hlt5 dB jI i5;go_wp2;go_roundw
     .exact⟨some g,D++[m],Y,some (O g5 0),F.length+1,eg,rfl,by rw[HF.out],lM,yY,jM,(by omega),(by simp;omega),by rw[HF.out];simp only;rw[HP.out];exact HO.out,vU,bG⟩
     .rw[fL,c2];simp
 .have EU:(2000:Int)<(X.length:Int):=(by omega)
  have HR:Hid (jx0 l off [] false):=.inr ⟨h2,rfl,rfl⟩;clear hX xR iD uM hH h2;go_wp2;exact Ue (v:=.tuple #[nS,.bool false]) (by simp[results,Tryz.results226,go_sem]) rfl ⟨_,[],false,rfl,World.ownsRow_nil _ _ _ _,HR.out,hb1⟩
theorem jpv:∀{a b:List TU},(∀x∈a,∀y∈a,x.place=y.place->x=y)->a.Pairwise (λx y=>x.place<=y.place)->b.Pairwise (λx y=>x.place<=y.place)->a.Perm b->a=b:=by
 intro a
 induction a with
 |nil=>intro b _ _ _ h;exact(List.nil_perm.mp h).symm
 |cons x a ih=>
  intro b hu ha hb h;cases b with
  |nil=>exact absurd h.length_eq M
  |cons y b=>
   have jF:=List.pairwise_cons.mp ha;have sy:=List.pairwise_cons.mp hb;have gI:x.place=y.place:=by
    have h1:x∈y::b:=h.mem_iff.mp M;have h2:y∈x::a:=h.mem_iff.mpr M;have e1:y.place<=x.place:=by
     rcases List.mem_cons.mp h1 with e|e
     .rw[e];exact TP _
     .exact sy.1 x e
    have e2:x.place<=y.place:=by
     rcases List.mem_cons.mp h2 with e|e
     .rw[e];exact TP _
     .exact jF.1 y e
    omega
   have hE:x=y:=hu x M y (h.mem_iff.mpr M) gI;subst hE;rw[ih (λp hp q hq=>hu p (VW _ hp) q (VW _ hq)) jF.2 sy.2 ((List.perm_cons x).mp h)]
theorem jdz{i:Nat}:∀{n:Nat} {m:TU},m∈Ve i x y n->m.place=i:=by
 intro n
 induction n with
 |zero=>intro m h;simp[Ve]at h
 | succ n ih=>
  intro m h;rw[Ve,List.mem_append]at h;rcases h with h|h
  .exact ih h
  .unfold jdy at h
   split at h
   .simp at h
   .simp at h;rw[h]
theorem jhx:∀{k:Nat} {m:TU},m∈VJ l k->m.place<k:=by
 intro k
 induction k with
 |zero=>intro m h;simp[VJ]at h
 | succ k ih=>
  intro m h;rw[VJ,List.mem_append]at h;rcases h with h|h
  .have:=ih h;omega
  .split at h
   .have:=jdz h;omega
   .simp at h
theorem juk(l:List Ud):∀k,(VJ l k).Pairwise λx y=>x.place<=y.place:=by
 intro k
 induction k with
 |zero=>exact List.Pairwise.nil
 |succ k ih=>
  rw[VJ,List.pairwise_append];refine⟨ih,?_,λa ha b hb=>?_⟩
  .split
   .rename_i x _
    have h:∀m∈Yd k x,m.place=k:=λm hm=>jdz hm
    exact List.pairwise_iff_forall_sublist.mpr λ{a b} hs=>by
     have:=h a (hs.subset M);have:=h b (hs.subset M);omega
   .exact List.Pairwise.nil
  .have h1:=jhx ha
   split at hb
   .have:=jdz hb;omega
   .simp at hb
theorem jvm{P:List TU}(hP:P.Pairwise VC)(hp:P.Perm (VJ l l.length))(t:Int):Xh t P=Xh t (VJ l l.length):=by
 refine jpv (λx hx y hy e=>?_) ?_ ?_ (hp.filter _)
 .have h1:=VH (List.mem_filter.mp hx).2
  have h2:=VH (List.mem_filter.mp hy).2;obtain⟨xw,xp⟩:=x;obtain⟨yw,yp⟩:=y;simp at h1 h2 e;rw[h1,h2,e]
 .refine List.Pairwise.imp_of_mem (λ{a b} ha hb fZ=>?_) (hP.filter _)
  have h1:=VH (List.mem_filter.mp ha).2;have h2:=VH (List.mem_filter.mp hb).2;unfold VC at fZ;omega
 .exact(juk l _).filter _
def jjx(ix:List Nat)(m:TU):TU:=⟨m.Ty,ix[m.place]?.getD 0⟩
theorem jpj(h:ix[n]? =some k):∀c,(Ve n x y c).map (jjx ix)=Ve k x y c:=by
 intro c
 induction c with
 |zero=>rfl
 |succ c ih=>
  rw[Ve,Ve,Vr,ih]
  congr 1
  unfold jdy;split
  .rfl
  .simp[jjx,h]
theorem jlg(F:List Ud)(x:Ud):∀k,k<=F.length->VJ (F++[x]) k=VJ F k:=by
 intro k
 induction k with
 |zero=>intro _;rfl
 |succ k ih=>
  intro hk;rw[VJ,VJ,ih Q,VS Q]
structure Link(l:List Ud)(nm:ByteArray)(k:Nat)(F:List Ud)(ix:List Nat):Prop where
 len:F.length=ix.length
 at_:∀(j i:Nat),ix[j]? =some i->l[i]? =F[j]?
 walls:Vw nm l k=(VJ F F.length).map (jjx ix)
theorem jzm(l:List Ud)(nm:ByteArray):∀k,k<=l.length->∃ix,Link l nm k ((l.take k).filter λx=>x.name.toList==nm.toList) ix:=by
 intro k
 induction k with
 |zero=>intro _;exact⟨[],M,λj i h=>by simp at h,by simp[Vw,VJ]⟩
 |succ k ih=>
  intro hk;have⟨ix,hL⟩:=ih Q;obtain⟨x,hx⟩:∃x,l[k]? =some x:=⟨_,Ug Q⟩;rw[List.take_add_one,hx];cases hn:(x.name.toList==nm.toList)
  .refine⟨ix,?_⟩
   have e:((l.take k++(some x).toList).filter λx=>x.name.toList==nm.toList)=(l.take k).filter λx=>x.name.toList==nm.toList:=by
    rw[List.filter_append];simp[hn]
   rw[e];exact⟨hL.len,hL.at_,by rw[jmz hx hn];exact hL.walls⟩
  .obtain⟨F,hF⟩:∃F,((l.take k).filter λx=>x.name.toList==nm.toList)=F:=⟨_,rfl⟩
   rw[hF]at hL;have e:((l.take k++(some x).toList).filter λx=>x.name.toList==nm.toList)=F++[x]:=by
    rw[List.filter_append,hF];simp[hn]
   rw[e];refine⟨ix++[k],by simp[hL.len],λj i hj=>?_,?_⟩
   .have eP:=(Ux hj).1
    rw[Vq]at eP;simp at eP;by_cases jd:j=ix.length
    .subst jd
     rw[List.getElem?_append_right (TP _)]at hj;simp at hj;subst hj;rw[hx, <- hL.len,List.getElem?_append_right (TP _)];simp
    .rw[VS Q]at hj
     rw[hL.at_ j i hj,VS (by rw[hL.len];omega)]
   .rw[jkm hx hn,hL.walls,Vq]
    show _=(VJ (F++[x]) (F.length+1)).map _
    rw[jhw (x:=x) M,jlg F x _ (TP _),Vr]
    congr 1
    .apply List.map_congr_left
     intro m hm;have hlt:=jhx hm;unfold jjx;rw[VS (by rw[<- hL.len];exact hlt)]
    .unfold Yd
     rw[jpj (k:=k)];rw[hL.len];simp
theorem jw7{F:List Ud}(au:F.length=ix.length)(h:∀(j i:Nat),ix[j]? =some i->l[i]? =F[j]?):∀(P:List TU) (st:List Ur × Int),(∀m∈P,m.place<F.length)->(P.map (jjx ix)).foldl (XE l off) st=P.foldl (XE F off) st:=by
 intro P
 induction P with
 |nil=>intro st _;rfl
 | cons m P ih=>
  intro st hP;have hm:=hP m M;obtain⟨i,hi⟩:∃i,ix[m.place]? =some i:=⟨_,Ug Q⟩;rw[List.map_cons,List.foldl_cons,List.foldl_cons];have e:XE l off st (jjx ix m)=XE F off st m:=by
   unfold XE jjx;simp only[hi,Option.getD_some];rw[h _ _ hi]
  rw[e];exact ih _ λq hq=>hP q (VW _ hq)
theorem jw1{r:Un}{nm:ByteArray}{H1 H2:List Ur}{b1 b2:Bool}(h1:jx0 (r.Tw.filter λx=>x.name.toList==nm.toList) off H1 b1)(h2:jxz r nm off H2 b2):H1=H2/\b1=b2:=by
 have⟨ix,hL⟩:=jzm r.Tw nm r.Tw.length (TP _);rw[List.take_length]at hL;obtain⟨F,hF⟩:∃F,(r.Tw.filter λx=>x.name.toList==nm.toList)=F:=⟨_,rfl⟩;rw[hF]at hL h1;have au:(Vw nm r.Tw r.Tw.length).length=(VJ F F.length).length:=by rw[hL.walls,U7]
 obtain⟨s,hs,rfl⟩:=h2;rcases h1 with⟨g1,rfl,P,hP,hp,rfl⟩|⟨g1,rfl,rfl⟩
 .rcases hs with⟨_,rfl,hS⟩|⟨g2,_,_⟩
  .refine⟨?_,rfl⟩
   have KD:s=P.map (jjx ix):=by
    refine jvc hS.up ?_ λt=>?_
    .exact List.pairwise_map.mpr (hP.imp λ{a b} fZ=>by unfold VC at fZ;show a.Ty<=b.Ty;omega)
    .have e:∀X:List TU,Xh t (X.map (jjx ix))=(Xh t X).map (jjx ix):=λX=>by unfold Xh;rw[List.filter_map];rfl
     rw[hS.at_,hL.walls,e,e,jvm hP hp]
   rw[KD];unfold VU;rw[jw7 hL.len hL.at_ P _ λm hm=>jhx (hp.mem_iff.mp hm)]
  .omega
 .rcases hs with⟨g2,_,_⟩|⟨_,rfl,rfl⟩
  .omega
  .exact⟨rfl,rfl⟩
