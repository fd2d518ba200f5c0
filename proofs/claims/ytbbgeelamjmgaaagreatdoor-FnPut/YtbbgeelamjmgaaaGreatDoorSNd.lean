import Derived.Test.YtbbgeelamjmgaaaGreatDoorSMd
import Derived.Test.YtbbgeelamjmgaaaGreatDoorSId
set_option maxHeartbeats 0
set_option linter.unusedSimpArgs false
open Go.RowKit
namespace Go.Proofs.YtbbgeelamjmgaaaGreatDoor
variable{l:List ZN}{e:Ze}{t:Int}
theorem jvp{w:World}{base:Nat}{v:Value}{L:List ZY}(h:Zb w base v L):w.ownsRow base 76 2 v (L.map ZY.cs).length (L.map ZY.cs).flatten:=by rw[BX];exact h
def BQ(s:ZP):Bool:=ZZ s.YT&&(ZZ s.YS&&(ZX s.tx 0 900000&&(va2 s.vs s.tx&&(ZX s.cur 0 1000001&&((!decide (s.cur=0) || jl1 s.YS)&&(decide ((ZJ s.vs).length<=30)&&((ZJ s.vs).all (λx=>jdv s x.YZ)&&eqX (BS (My s) (ZJ s.vs)) s.ix)))))))
theorem jl5(h:e∈ZJ l):∃v∈l,e=v.ev:=by
 have h:=va8.mp h;unfold AY at h;cases hk:jci l e.id with
 |none=>rw[hk]at h;cases h
 |some k=>
  have⟨_,⟨v,hv,_⟩,_⟩:=jdc hk;rw[hk]at h;simp only[hv]at h;split at h
  .cases h
  .cases h;exact⟨v,ui hv,rfl⟩
theorem jfk(h:va2 l t=true):∀v∈l,Lr v.ev=true:=λv hv=>by
 rw[jlh,vB]at h;have h:=h.1;have⟨k,hk⟩:=lgo hv;unfold txB at h;rw[vB]at h;cases hx:txI l t k v
 .have:=juu hk hx (n:=l.length) (List.getElem?_eq_some_iff.1 hk).1
  rw[h.2]at this;cases this
 .unfold txI at hx
  simp only[vB]at hx;exact hx.2.2
theorem jhs(h:Lr e=true):EvR e:=by
 unfold Lr at h;simp only[vB]at h;have⟨_,_,h3,h4,h5,h6⟩:=h;have n:=(jf8 h3).2.1;have a:=jax h4;have b:=jax h5;have c:=jax h6;exact⟨Q,a.1,a.2,b.1,b.2,c.1,c.2⟩
theorem jun(h:va2 l t=true):l.length<=60:=by
 rw[jlh,vB]at h;have h:=h.1;unfold txB at h;rw[vB]at h;exact Nb h.1
set_option maxRecDepth 20000 in
theorem jh8(s:ZP)(v:Value)(w:World)(hv:Jd w v s)(ok:Zr s):
  C 10 #[v] w λq w'=>q=V (.bool (BQ s))/\Bw w w':=by
 have dQ:=hv;obtain⟨a,b,c,d,e,f,va,ia,ca,cb,cc,cd,ce,cf,cv,ci,rfl,hN,hW,hV,hX,FR,_⟩:=hv.form;have ag:=ZA w (G (stA s a b c d e f va ia ca cb cc cd ce cf cv ci).toArray 31);have A0:=Zh.new w (stA s a b c d e f va ia ca cb cc cd ce cf cv ci) 31;have q1:=λw (h:Zd w (.agg #[U a s.YT.Vv.length ca,U b s.YT.YU.length cb,U c s.YT.YW.length cc]) s.YT)=>jc7 s.YT _ w h ok.YT.ok ok.YT.sm ok.YT.on
 have q2:=λw (h:Zd w (.agg #[U d s.YS.Vv.length cd,U e s.YS.YU.length ce,U f s.YS.YW.length cf]) s.YS)=>jc7 s.YS _ w h ok.YS.ok ok.YS.sm ok.YS.on
 have q3:=λw=>jau s.tx 0 900000 w
 have q4:=λw h=>jg7 s.vs s.tx s.cur a b c d e f va ia s.YT.Vv.length ca s.YT.YU.length cb s.YT.YW.length cc s.YS.Vv.length cd s.YS.YU.length ce s.YS.YW.length cf s.vs.length cv s.ix.length ci w h ok.vs rfl ok.vl FR
 have q5:=λw=>jau s.cur 0 1000001 w
 have q6:=λw (h:Zd w (.agg #[U d s.YS.Vv.length cd,U e s.YS.YU.length ce,U f s.YS.YW.length cf]) s.YS)=>jh4 s.YS _ w h ok.YS.sm
 have HV:=hid hV;have HX:=hid hX;have HN:=hid hN;have HW:=hid hW;have GM:=hid dQ;clear hV hX hN hW hv dQ;have x1:=A0.c 1 rfl;have x2:=A0.c 2 rfl;have x3:=A0.c 3 rfl;unfold C;go_in;go_upto_region 1 with fail
 go_cut [44]from 7 to 43 (λPE wx=>∃uW:Bool,PE=.bool uW/\Hid (Zh wx w.heap.size (stL s a b c d e f va ia ca cb cc cd ce cf cv ci))/\Hid (Bw w wx)/\Hid (uW=true->BQ s=false)/\Hid (uW=false->BQ s=(decide ((ZJ s.vs).length<=30)&&((ZJ s.vs).all (λx=>jdv s x.YZ)&&eqX (BS (My s) (ZJ s.vs)) s.ix))/\ZZ s.YT=true/\ZZ s.YS=true/\va2 s.vs s.tx=true))
 case first=>
  go_wp2_with fail;refine(q1 _ (HN.out.below ag)).mono ?_;rintro e1 w1 ⟨rfl,hb1⟩;have aj:=Zp ag hb1;have A1:=A0.below hb1;clear x1 x2 x3 hb1 A0 ag q1;cases h1:ZZ s.YT
  .have HR:Hid (BQ s=false):=by simp only[Hid,BQ,h1,Bool.false_and,Bool.and_false]
   clear h1;go_wp2;go_meet;exact⟨true,rfl,A1,aj,λ_=>HR.out,λh=>by cases h⟩
  have x4:=A1.c 4 rfl;have x5:=A1.c 5 rfl;have x6:=A1.c 6 rfl;go_wp2_with fail;refine(q2 _ (HW.out.below aj)).mono ?_;rintro e2 w2 ⟨rfl,ac⟩;have an:=Zp aj ac;have A2:=A1.below ac;clear x4 x5 x6 ac A1 aj q2;cases h2:ZZ s.YS
  .have HR:Hid (BQ s=false):=by simp only[Hid,BQ,h1,h2,Bool.false_and,Bool.and_false]
   clear h1 h2;go_wp2;go_meet;exact⟨true,rfl,A2,an,λ_=>HR.out,λh=>by cases h⟩
  have x0:=A2.c 0 rfl;go_wp2_with fail;refine(q3 _).mono ?_;rintro e3 w3 ⟨rfl,gm⟩;have ar:Bw w2 w3:=by rw[gm];exact ZU _ _
  clear gm;have ax:=Zp an ar;have A3:=A2.below ar;clear x0 ar A2 an q3;cases h3:ZX s.tx 0 900000
  .have HR:Hid (BQ s=false):=by simp only[Hid,BQ,h1,h2,h3,Bool.false_and,Bool.and_false]
   clear h1 h2 h3;go_wp2;go_meet;exact⟨true,rfl,A3,ax,λ_=>HR.out,λh=>by cases h⟩
  have⟨x0,x1,x2,x3,x4,x5,x6,x7,x8,x9⟩:=A3.ZS;go_wp2_with fail;refine(q4 _ (HV.out.below ax)).mono ?_;rintro e4 w4 ⟨rfl,aD⟩;have aR:=Zp ax aD;have A4:=A3.below aD;clear x0 x1 x2 x3 x4 x5 x6 x7 x8 x9 aD A3 ax q4;cases h4:va2 s.vs s.tx
  .have HR:Hid (BQ s=false):=by simp only[Hid,BQ,h1,h2,h3,h4,Bool.false_and,Bool.and_false]
   clear h1 h2 h3 h4;go_wp2;go_meet;exact⟨true,rfl,A4,aR,λ_=>HR.out,λh=>by cases h⟩
  have x7:=A4.c 7 rfl;go_wp2_with fail;refine(q5 _).mono ?_;rintro e5 w5 ⟨rfl,oK⟩;have aV:Bw w4 w5:=by rw[oK];exact ZU _ _
  clear oK;have bG:=Zp aR aV;have A5:=A4.below aV;clear x7 aV A4 aR q5;cases h5:ZX s.cur 0 1000001
  .have HR:Hid (BQ s=false):=by simp only[Hid,BQ,h1,h2,h3,h4,h5,Bool.false_and,Bool.and_false]
   clear h1 h2 h3 h4 h5;go_wp2;go_meet;exact⟨true,rfl,A5,bG,λ_=>HR.out,λh=>by cases h⟩
  have x7:=A5.c 7 rfl;have x4:=A5.c 4 rfl;have x5:=A5.c 5 rfl;have x6:=A5.c 6 rfl;by_cases h6:s.cur=0
  .have Mz:(s.cur==0)=true:=by simp[h6]
   have H6:=hid h6;clear h6;go_wp2_with fail;refine(q6 _ (HW.out.below bG)).mono ?_;rintro e6 w6 ⟨rfl,hb6⟩;have cp:=Zp bG hb6;have A6:=A5.below hb6;clear x7 x4 x5 x6 hb6 A5 bG q6;cases h7:jl1 s.YS
   .have HR:Hid (BQ s=false):=by simp only[Hid,BQ,h1,h2,h3,h4,h5,rT H6.out,h7,Bool.not_true,Bool.or_false,Bool.false_and,Bool.and_false]
    clear h1 h2 h3 h4 h5 h7;go_wp2;go_meet;exact⟨true,rfl,A6,cp,λ_=>HR.out,λh=>by cases h⟩
   have H7:Hid (BQ s=(decide ((ZJ s.vs).length<=30)&&((ZJ s.vs).all (λx=>jdv s x.YZ)&&eqX (BS (My s) (ZJ s.vs)) s.ix))):=by simp only[Hid,BQ,h1,h2,h3,h4,h5,rT H6.out,h7,Bool.not_true,Bool.or_true,Bool.true_and]
   go_wp2;go_meet;exact⟨false,rfl,A6,cp,λh=>by(cases h),λ_=>⟨H7.out,h1,h2,h4⟩⟩
  .have Mz:(s.cur==0)=false:=by simp[h6]
   have H7:Hid (BQ s=(decide ((ZJ s.vs).length<=30)&&((ZJ s.vs).all (λx=>jdv s x.YZ)&&eqX (BS (My s) (ZJ s.vs)) s.ix))):=by simp only[Hid,BQ,h1,h2,h3,h4,h5,dfe h6,Bool.not_false,Bool.true_or,Bool.true_and]
   go_wp2;go_meet;exact⟨false,rfl,A5,bG,λh=>by(cases h),λ_=>⟨H7.out,h1,h2,h4⟩⟩
 case rest=>
  obtain⟨uW,rfl,FH,Gk,HT,HF⟩:=hcut;have⟨w6,qO⟩:=wL wc;subst qO;have A6:=FH.out;have cp:=Gk.out;clear FH Gk q1 q2 q3 q4 q5 q6 x1 x2 x3;cases uW
  case true=>
   have HR:Hid (BQ s=false):=HT.out rfl;go_wp2;go_ret;exact⟨by rw[HR.out];rfl,cp⟩
  have⟨h7,h1,h2,h4⟩:=HF.out rfl;have H7:=hid h7;clear h7 HT HF;have x8:=A6.c 8 rfl;have CG:=jun h4;have nV:∀x∈ZJ s.vs,EvR x:=λx hx=>by
   obtain⟨v,hv,rfl⟩:=jl5 hx;exact jhs (jfk h4 v hv)
  have q7:=jd1 s.vs va s.vs.length cv w6 (HV.out.below cp) rfl Q;go_wp2_with fail;refine q7.mono ?_;rintro q w7 ⟨lv,rfl,cj,ay⟩;have dz:=Zp cp ay;have A7:=A6.below ay;obtain⟨pl,cl,rfl,eG⟩:=jkx cj;clear x8 ay q7 A6;have Kf:w.heap.size<=w6.heap.size:=cp.size;have dF:Jb w7 w.heap.size (U pl (ZJ s.vs).length cl) (ZJ s.vs):=Ez cj Kf;clear cj cp Kf;have⟨L,j4⟩:=ZL (ZJ s.vs);have nE:=hid j4;rw[j4]at H7 nV dF eG ⊢;have⟨nl,fH⟩:=ZL L.length;have jL:=hid fH;rw[fH]at eG H7 dF ⊢;clear j4 fH;have sZ:=hid eG;clear eG;by_cases hl:nl<=30
  case neg=>
   have HR:Hid (BQ s=false):=by rw[H7.out,dfe hl];rfl
   have fG:(30:Int)<(nl:Int):=Q;clear nV dF;go_wp2;go_ret;exact⟨by rw[HR.out];rfl,dz⟩
  have fG:¬(30:Int)<(nl:Int):=Q;rw[rT hl,Bool.true_and]at H7;go_wp2;go_loopw [4] (λs4 wr=>∃i:Nat,i<=nl/\s4=J i/\Hid (∀(j:Nat) x,j<i->L[j]? =some x->jdv s x.YZ=true)/\Bw w7 wr) (λs4 _=>nl-(intOf s4).toNat)
  .exact⟨0,Q,rfl,λj x hj=>Q,ZU _ _⟩
  ·
   have⟨wa,dS⟩:=wL wr;subst dS;obtain⟨i,hi,rfl,HK,aK⟩:=hrel;have Ba:=Zp dz aK;by_cases hlt:i<nl
   .have i1:(i:Int)<(nl:Int):=Q
    have i0:(0:Int)<=(i:Int):=Q;obtain⟨gl,rfl⟩:=sZ.out Q;obtain⟨x,hx⟩:∃x,L[i]? =some x:=⟨_,ZV (by have:=jL.out;omega)⟩;have bD:Bw w7 wa.drew:=aK.trans ((rW wa).mono aK.size);have BD:=Zp dz bD;have AD:=A7.below bD;have zc:wa.drew.cell? (O gl (i*6+2))=some (I x.YZ):=(jf0 (uZ dF bD) hx).2.2.1;have⟨d0,d1,d2,d3,d4,d5,d6,d7,d8,d9⟩:=AD.ZS;have qz:=jm4 s _ x.YZ wa.drew (GM.out.below BD) ok;have qs:=hid bD;have Lt:=hid BD;have Hn:=hid hx;clear bD BD AD hx aK Ba;have⟨zt,Fd⟩:=ZL (jdv s x.YZ);have Hp:=hid Fd;rw[Fd]at qz;clear Fd;generalize x.YZ=xz at zc qz;cases zt
    .have HR:Hid (BQ s=false):=by
      rw[H7.out,List.all_eq_false.mpr ⟨x,ui Hn.out,by rw[Hp.out];simp⟩];rfl
     go_wp2_with fail;go_region_held3 (λw'=>w'.cell? (O w.heap.size 0)=some (J s.tx)/\w'.cell? (O w.heap.size 1)=some (U a s.YT.Vv.length ca)/\w'.cell? (O w.heap.size 2)=some (U b s.YT.YU.length cb)/\w'.cell? (O w.heap.size 3)=some (U c s.YT.YW.length cc)/\w'.cell? (O w.heap.size 4)=some (U d s.YS.Vv.length cd)/\w'.cell? (O w.heap.size 5)=some (U e s.YS.YU.length ce)/\w'.cell? (O w.heap.size 6)=some (U f s.YS.YW.length cf)/\w'.cell? (O w.heap.size 7)=some (J s.cur)/\w'.cell? (O w.heap.size 8)=some (U va s.vs.length cv)/\w'.cell? (O w.heap.size 9)=some (U ia s.ix.length ci)/\w'.cell? (O gl (i*6+2))=some (I xz)) (go_keep) ((go_at_call 25;refine qz.mono ?_;rintro q w9 ⟨rfl,bZ⟩;have Cv:=YR bZ d0;have Cz:=YR bZ d1;have CC:=YR bZ d2;have CD:=YR bZ d3;have CJ:=YR bZ d4;have CK:=YR bZ d5;have CL:=YR bZ d6;have CN:=YR bZ d7;have CP:=YR bZ d8;have CR:=YR bZ d9;have D3:=YR bZ zc))
     all_goals
      clear Cv Cz CC CD CJ CK CL CN CP CR D3;have fS:=Zp Lt.out bZ;go_wp2;go_ret;exact⟨by rw[HR.out];rfl,fS⟩
    .have ed:Hid (∀(j:Nat) x,j<i+1->L[j]? =some x->jdv s x.YZ=true):=λj y hj hy=>by
      by_cases e:j=i
      .subst e;rw[Hn.out]at hy;obtain rfl:=Z9 hy;exact Hp.out
      .exact HK.out j y Q hy
     go_wp2_with fail;go_region_held3 (λw'=>w'.cell? (O w.heap.size 0)=some (J s.tx)/\w'.cell? (O w.heap.size 1)=some (U a s.YT.Vv.length ca)/\w'.cell? (O w.heap.size 2)=some (U b s.YT.YU.length cb)/\w'.cell? (O w.heap.size 3)=some (U c s.YT.YW.length cc)/\w'.cell? (O w.heap.size 4)=some (U d s.YS.Vv.length cd)/\w'.cell? (O w.heap.size 5)=some (U e s.YS.YU.length ce)/\w'.cell? (O w.heap.size 6)=some (U f s.YS.YW.length cf)/\w'.cell? (O w.heap.size 7)=some (J s.cur)/\w'.cell? (O w.heap.size 8)=some (U va s.vs.length cv)/\w'.cell? (O w.heap.size 9)=some (U ia s.ix.length ci)/\w'.cell? (O gl (i*6+2))=some (I xz)) (go_keep) ((go_at_call 25;refine qz.mono ?_;rintro q w9 ⟨rfl,bZ⟩;have Cv:=YR bZ d0;have Cz:=YR bZ d1;have CC:=YR bZ d2;have CD:=YR bZ d3;have CJ:=YR bZ d4;have CK:=YR bZ d5;have CL:=YR bZ d6;have CN:=YR bZ d7;have CP:=YR bZ d8;have CR:=YR bZ d9;have D3:=YR bZ zc))
     all_goals
      clear Cv Cz CC CD CJ CK CL CN CP CR D3;have fS:=Zp qs.out bZ;have l9:=hid fS;clear fS bZ;go_wp2;go_roundw
      .exact⟨i+1,Q,RP,ed,l9.out⟩
      .simp[intOf];omega
   .obtain rfl:i=nl:=Q
    have JK:L.all (λx=>jdv s x.YZ)=true:=List.all_eq_true.mpr λx hx=>by
     have⟨j,hj⟩:=lgo hx;have h1:=(List.getElem?_eq_some_iff.1 hj).1;have h2:=jL.out;exact HK.out j x Q hj
    rw[JK,Bool.true_and]at H7;have Aa:=A7.below aK;have⟨d0,d1,d2,d3,d4,d5,d6,d7,d8,d9⟩:=Aa.ZS;have qe:=jh5 s _ wa (GM.out.below Ba) ok h1 h2 Q (by rw[nE.out,jL.out];omega) (by rw[nE.out];exact nV);rw[nE.out]at qe;have Gd:=hid Aa;clear JK HK dF A7 Aa aK nV;go_wp2_with fail;refine qe.mono ?_;rintro q w9 ⟨xv,rfl,eB,bZ⟩;have⟨X,lC⟩:=ZL (BS (My s) L);rw[lC]at eB H7;obtain⟨px,cx,rfl,Ni⟩:=jkx eB;have B9:=Zp Ba bZ;have A9:=Gd.out.below bZ;have x9:=A9.c 9 rfl;have iD:X.length<=30:=by rw[<- lC];exact Nat.le_trans (jep _ _) (by rw[jL.out];exact hl)
    clear lC qe d0 d1 d2 d3 d4 d5 d6 d7 d8 d9 bZ Ba Gd;have AC:=jvp eB;have⟨Sj,Ri,KP,AC,_⟩:=jbe AC jak;rw[BX]at KP;injection KP with h1x _ h3x
    subst h1x h3x;clear eB Ni;have⟨nx,EH⟩:=ZL X.length;have lO:=hid EH;rw[EH]at iD ⊢;clear EH;have⟨ni,vX⟩:=ZL s.ix.length;have By:=hid vX;have i7:=ok.xl;rw[vX]at x9 i7;clear vX;have LV:Hid (Za w9 ia 2 (s.ix.map ZY.cs)):=HX.out.below B9;have LO:=hid AC;have l9:=hid B9;clear AC B9 A9;by_cases mI:nx=ni
    case neg=>
     have HR:Hid (BQ s=false):=by rw[H7.out];exact jla λh=>mI (by rw[<- lO.out, <- By.out,h])
     have gF:¬(nx:Int)=(ni:Int):=Q;go_wp2;go_ret;exact⟨by rw[HR.out];rfl,l9.out⟩
    subst mI;have⟨zq,wX⟩:=ZL (eqX X s.ix);have HZ:=hid wX;have HR:Hid (BQ s=zq):=by simp only[Hid];rw[H7.out];exact wX
    clear wX;go_wp2;go_loopw [6] (λs6 wr=>∃i:Nat,i<=nx/\s6=J i/\Hid (∀j,j<i->X[j]? =s.ix[j]?)/\Bw w9 wr) (λs6 _=>nx-(intOf s6).toNat)
    .exact⟨0,Q,rfl,λj hj=>Q,ZU _ _⟩
    ·
     have⟨wb,mQ⟩:=wL wr;subst mQ;obtain⟨k,hk,rfl,HK,aK⟩:=hrel;have pJ:=Zp l9.out aK;by_cases hlt:k<nx
     .have a1:(k:Int)<(nx:Int):=Q
      obtain⟨x,hx⟩:∃v,X[k]? =some v:=⟨_,ZV (by have:=lO.out;omega)⟩;obtain⟨y,hy⟩:∃v,s.ix[k]? =some v:=⟨_,ZV (by have:=By.out;omega)⟩;obtain⟨p1,o1,rfl,hc⟩:=(LO.out.below aK).at (i:=k) (r:=x.cs) (by rw[Z8,hx];rfl);obtain⟨p2,o2,rfl,hd⟩:=(LV.out.below aK).at (i:=k) (r:=y.cs) (by rw[Z8,hy];rfl);have c0:wb.cell? (O p1 (o1+k*2))=some (J x.at_):=hc 0 _ rfl;have c1:wb.cell? (O p1 (o1+k*2+1))=some (J x.id):=hc 1 _ rfl;have d0:wb.cell? (O p2 (o2+k*2))=some (J y.at_):=hd 0 _ rfl;have d1:wb.cell? (O p2 (o2+k*2+1))=some (J y.id):=hd 1 _ rfl;have DL:=YR aK x9;have lD:Hid (X[k]? =some x/\s.ix[k]? =some y):=⟨hx,hy⟩;clear hc hd hx hy;obtain⟨xa,xi⟩:=x;obtain⟨ya,yi⟩:=y;dsimp only at *;by_cases e1:xa=ya
      .subst e1
       by_cases e2:xi=yi
       .subst e2
        have ed:Hid (∀j,j<k+1->X[j]? =s.ix[j]?):=λj hj=>by
         by_cases e:j=k
         .subst e;rw[lD.out.1,lD.out.2]
         .exact HK.out j Q
        clear lD HK;go_wp2_with fail;go_quiet (fail);go_wp2;go_roundw
        .exact⟨k+1,Q,RP,ed,below_drewN aK _⟩
        .simp[intOf];omega
       .obtain rfl:zq=false:=by
         rw[<- HZ.out];refine jla λh=>?_
         have h1:=lD.out.1;rw[h,lD.out.2]at h1;injection h1 with h1;injection h1 with _ h1;exact e2 h1.symm
        clear lD HK;go_wp2_with fail;go_quiet (fail);go_wp2;go_ret;exact⟨by rw[HR.out];rfl,below_drewN pJ _⟩
      .obtain rfl:zq=false:=by
        rw[<- HZ.out];refine jla λh=>?_
        have h1:=lD.out.1;rw[h,lD.out.2]at h1;injection h1 with h1;injection h1 with h1 _;exact e1 h1.symm
       clear lD HK;go_wp2_with fail;go_quiet (fail);go_wp2;go_ret;exact⟨by rw[HR.out];rfl,below_drewN pJ _⟩
     .obtain rfl:k=nx:=Q
      obtain rfl:zq=true:=by
       rw[<- HZ.out,vcZ];refine List.ext_getElem? λj=>?_
       by_cases hj:j<k
       .exact HK.out j hj
       .rw[List.getElem?_eq_none (by rw[lO.out];omega),List.getElem?_eq_none (by rw[By.out];omega)]
      go_wp2;go_ret;exact⟨by rw[HR.out];rfl,pJ⟩
theorem jzf{s:ZP}(h1:ZZ s.YT=true)(h2:ZZ s.YS=true)(hz:jdv s e.YZ=true)(hs:e.YZ.size<=8000):My s e=vak s e:=by
 unfold jdv at hz;simp only[vB,Bool.or_eq_true,decide_eq_true_eq]at hz;unfold vak My;split
 .unfold vbd vai
  rw[jlk h1 hz.1 hs]
 .rename_i hc
  have hn:s.cur≠0:=λh=>hc (.inl h)
  unfold vbd vai;rw[jlk h2 (hz.2.resolve_left hn) hs]
theorem vhe{s:ZP}(h1:ZZ s.YT=true)(h2:ZZ s.YS=true)(hv:va2 s.vs s.tx=true)(hz:(ZJ s.vs).all (λx=>jdv s x.YZ)=true):BS (My s) (ZJ s.vs)=BS (vak s) (ZJ s.vs):=jo6 λe he=>by
 obtain⟨v,hm,rfl⟩:=jl5 he;exact jzf h1 h2 (List.all_eq_true.mp hz _ he) (jhs (jfk hv v hm)).YZ
theorem jkt(s:ZP):BQ s=wZ s:=by
 rw[Bool.eq_iff_iff];have E:=@vhe s;rw[jlh]at E;unfold BQ wZ jov jk5 vav ZX;rw[jlh,jtg];simp only[vB,decide_eq_true_eq,vcZ]at E ⊢;constructor
 .rintro⟨a,b,⟨c1,c2⟩,⟨d1,d2⟩,⟨e1,e2⟩,f,g,h,i⟩
  exact⟨⟨⟨⟨c1,c2,e1,e2,f⟩,a,b⟩,d1,d2,g,h⟩,by rw[<- E a b ⟨d1,d2⟩ h];exact i.symm⟩
 .rintro⟨⟨⟨⟨c1,c2,e1,e2,f⟩,a,b⟩,d1,d2,g,h⟩,i⟩
  exact⟨a,b,⟨c1,c2⟩,⟨d1,d2⟩,⟨e1,e2⟩,f,g,h,by rw[E a b ⟨d1,d2⟩ h];exact i.symm⟩
