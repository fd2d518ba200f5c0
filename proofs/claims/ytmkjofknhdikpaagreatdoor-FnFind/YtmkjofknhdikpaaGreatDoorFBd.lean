import Derived.Test.YtmkjofknhdikpaaGreatDoorFAd
set_option maxRecDepth 20000
set_option maxHeartbeats 0
set_option linter.unusedSimpArgs false
open Go.RowKit Go.Sort
namespace Go.Proofs.YtmkjofknhdikpaaGreatDoor
variable{n:Nat}
theorem vfu(hF:va7)(base g cap n:Nat)(hn:n<=1000):∀(N:Nat) (f:Nat->TD) (a m b:Nat) (w:World),b-a<=N->Vj w base g cap n f->base<=w.heap.size->a<m->m<b->b<=n->VL f a m->VL f m b->Y1 f a m b->
  C 105 #[so g n cap,J a,J m,J b,.func (.func 35) #[] #[]] w (vbW base g cap n a b f w):=by
 intro N
 induction N with
 |zero=>intro f a m b w h0 _ _ h1 h2;omega
 |succ N ih=>
 intro f a m b w h0 h hb h1 h2 h3 s1 s2 hid;by_cases P6:m=a+1
 .exact vhG hF f base g cap n a m b w h hb h1 h2 h3 hn s2 hid P6
 by_cases N9:b=m+1
 .exact vhH hF f base g cap n a m b w h hb h2 h3 hn s1 hid Q N9
 have hg:=h.ge;have HH:=US h;have e0:((m:Int)-(a:Int)==1)=false:=Z6;have e1:((b:Int)-(m:Int)==1)=false:=Z6;have⟨Uj,wZ⟩:=TY ((a+b) / 2);have em:((a:Int)+(b:Int)) / 2=(Uj:Int):=Q;have Ry:2*Uj<=a+b:=Q;have Aw:a+b<=2*Uj+1:=Q;have⟨q,hq⟩:=TY (Uj+m);have Rn:(Uj:Int)+(m:Int)=(q:Int):=Q;have hq1:Uj+m<=q:=Q;have hq2:q<=Uj+m:=Q;have⟨p,hp⟩:=TY (q-1);have ep:(q:Int)-1=(p:Int):=Q;have sI:p+1<=q:=Q;have Ge:q<=p+1:=Q;clear h wZ hq hp;obtain⟨lo,hi,P5⟩:∃lo hi,(Uj<m/\(lo+b<=q/\q<=lo+b)/\hi=Uj)\/(m<=Uj/\lo=a/\hi=m):=by
  by_cases c:Uj<m
  .exact⟨q-b,Uj,.inl ⟨c,Q,rfl⟩⟩
  .exact⟨a,m,.inr ⟨Q,rfl,rfl⟩⟩
 have Gv:Hid ((Uj<m->hi=Uj)/\(m<=Uj->lo=a/\hi=m)):=by simp only[Hid];omega
 have jg:(a<=lo/\lo<=hi/\hi<=m/\hi<=Uj)/\((lo<=a\/q<=lo+b)/\(m<=hi\/Uj<=hi))/\(q<=lo+b/\lo+b<=q\/(lo<=a/\m<=Uj)):=Q;have zX:(Uj<m/\(q:Int)-(b:Int)=(lo:Int))\/(¬Uj<m):=Q;clear P5;delta C;go_in;rcases zX with⟨zX,eb⟩|zX
 case' inl=>
  have g1:(Uj:Int)<(m:Int):=Q;have hh:=Gv.out.1 zX;have e5:(hi:Int)=(Uj:Int):=Q;clear hh
 case' inr=>
  have g1:¬(Uj:Int)<(m:Int):=Q;have⟨tX,oA⟩:=Gv.out.2 Q;have e5:(hi:Int)=(m:Int):=Q;have e6:(lo:Int)=(a:Int):=Q;clear tX oA
 all_goals
  go_wp2;go_loopw [20,21,23] (λs t _ wr=>∃st r:Nat,s=J st/\t=J r/\(lo<=st/\st<=r/\r<=hi)/\Hid (∀c,lo<=c->c<st->(f c).Ty<=(f (p-c)).Ty)/\Hid (∀c,r<=c->c<hi->(f (p-c)).Ty<(f c).Ty)/\Hid (Vj wr base g cap n f)/\Hid (Below base w wr)) (λs t _ _=>(intOf t).toNat-(intOf s).toNat)
  .exact⟨lo,hi,Z7,Z7,Q,λk p q=>Q,λk p q=>Q,HH,Ui _ _⟩
  ·
   have⟨wa,dS⟩:=UL wr;subst dS;obtain⟨st,r,rfl,rfl,ei,HL,HG,HR,HB⟩:=hrel;clear HH e5;by_cases hlt:st<r
   .have i1:(st:Int)<(r:Int):=Q
    have⟨c,hc⟩:=TY ((st+r) / 2);have ec:((st:Int)+(r:Int)) / 2=(c:Int):=Q;have aX:st<=c:=Q;have cU:c<r:=Q;have⟨d,hd⟩:=TY (p-c);have ed:(p:Int)-(c:Int)=(d:Int):=Q;have JP:m<=d/\d<b:=Q;have c1:(c:Int)<(n:Int):=Q;have c2:(0:Int)<=(c:Int):=Q;have a1:(d:Int)<(n:Int):=Q;have a2:(0:Int)<=(d:Int):=Q;have RK:IntKind.i64.wrap (d:Int)=(d:Int):=by rw[IntKind.wrap_i64];omega
    have HD:=US hd;clear hc hd;have⟨c0,c1,c2,c3,c4,c5⟩:=VO HR.out (WN (show d<n by omega));have⟨d0,d1,d2,d3,d4,d5⟩:=VO HR.out (WN (show c<n by omega));have k0:=cell_regrown c0;have k1:=cell_regrown c1;have k2:=cell_regrown c2;have k3:=cell_regrown c3;have k4:=cell_regrown c4;have k5:=cell_regrown c5;have l0:=cell_regrown d0;have l1:=cell_regrown d1;have l2:=cell_regrown d2;have l3:=cell_regrown d3;have l4:=cell_regrown d4;have l5:=cell_regrown d5;have hA:=λW=>hF.call (f d) (f c) W
    simp only[TD.v]at hA;clear c0 c1 c2 c3 c4 c5 d0 d1 d2 d3 d4 d5;by_cases hw:(f d).Ty<(f c).Ty
    .have jK:Hid (∀k,c<=k->k<hi->(f (p-k)).Ty<(f k).Ty):=λk q1 q2=>by
      have t1:=s1.le (show a<=c by omega) q1 Q;have t2:=s2.le (show m<=p-k by omega) (show p-k<=d by have:=HD.out;omega) JP.2;omega
     rw[vb6 hw]at hA;have cE:∀dd os,C _ _ (grow (redrawn wa dd) os) λe cW=>e=V (J (-1))/\∃p:Regrown,cW=grow (redrawn wa p.d) p.os:=λ_ _=>Calls.regrown_of (hA _)
     go_wp2_with fail;refine wp_region_quiet_below Z4 Z4 ?_
     repeat (quiet_step ((go_at_call 35;exact cE _ _)))
     refine wpQuiet_nil ?_;intro wc gm;have⟨⟨dq,aQ⟩,cJ⟩:=gm;have ww:Bw wa wc:=cJ ▸ below_regrown wa dq aQ;have lh:=US (HR.out.below ww);have jI:=US (vaK HB.out ww hb);clear k0 l0 k1 l1 k2 l2 k3 l3 k4 l4 k5 l5 hA cE ww cJ;go_wp2;go_roundw
     .exact⟨st,c,rfl,rfl,Q,HL,jK,lh,jI⟩
     .simp[intOf];omega
    .have js:Hid (∀k,lo<=k->k<c+1->(f k).Ty<=(f (p-k)).Ty):=λk q1 q2=>by
      have t1:=s1.le (show a<=k by omega) (show k<=c by omega) Q;have t2:=s2.le JP.1 (show d<=p-k by have:=HD.out;omega) (by have:=HD.out;omega);omega
     have FQ:=vb5 hw;generalize vaL (f d) (f c)=z at *;have tW:decide (z<0)=false:=dfe FQ;have cE:∀dd os,C _ _ (grow (redrawn wa dd) os) λe cW=>e=V (J z)/\∃p:Regrown,cW=grow (redrawn wa p.d) p.os:=λ_ _=>Calls.regrown_of (hA _)
     go_wp2_with fail;refine wp_region_quiet_below Z4 Z4 ?_
     repeat (quiet_step ((go_at_call 35;exact cE _ _)))
     refine wpQuiet_nil ?_;intro wc gm;have⟨⟨dq,aQ⟩,cJ⟩:=gm;have ww:Bw wa wc:=cJ ▸ below_regrown wa dq aQ;have lh:=US (HR.out.below ww);have jI:=US (vaK HB.out ww hb);clear k0 l0 k1 l1 k2 l2 k3 l3 k4 l4 k5 l5 hA cE ww cJ;go_wp2;go_roundw
     .exact⟨c+1,r,Z7,rfl,Q,js,HG,lh,jI⟩
     .simp[intOf];omega
   .have wL:¬(st:Int)<(r:Int):=Q
    have⟨en,fi⟩:=TY (q-st);have Rm:(q:Int)-(st:Int)=(en:Int):=Q;have Ea:en+st<=q:=Q;have MU:q<=en+st:=Q;clear fi
    have HP:=US (parted (s:=st) (Uj:=Uj) s1 s2 hid Q Q Q Q (by
     by_cases e:st=lo
     .omega
     .right;right
      have:=HL.out (st-1) Q Q;rw[show p-(st-1)=Uj+m-st by omega]at this;exact this) (by
     by_cases e:st=hi
     .omega
     .right;right
      have:=HG.out st Q Q;rw[show p-st=Uj+m-st-1 by omega]at this
      exact this))
    rw[show Uj+m-st=en by omega]at HP;have LQ:=US ((vg8 (f:=f) (a:=st) (m:=m) (b:=en) Q Q).wide (show a<=st by omega) (show en<=b by omega));clear s1 s2 hid HL HG;by_cases aX:st<m/\m<en
    case' pos=>
     have tT:=vfr (F:=35) f base g cap n st m en wa HR.out aX.1 aX.2 Q hn;have t1:(st:Int)<(m:Int):=Q;have t2:(m:Int)<(en:Int):=Q;clear HR;go_wp2_with fail
     all_goals
      refine tT.mono ?_;rintro e w1 ⟨rfl,dn,aj⟩;have aj:=HB.out.trans aj;clear tT HB
    case' neg=>
     have⟨w1,f9⟩:=UL wa;subst f9;have dn:Vj w1 base g cap n (WO f st m en):=by rw[vg6 Q Q Q];exact HR.out
     have aj:=HB.out;have hX:(st:Int)<(m:Int)->¬(m:Int)<(en:Int):=Q;clear HR HB;by_cases t1:(st:Int)<(m:Int)
     case' pos=>have t2:=hX t1
     all_goals clear hX
    all_goals
     by_cases cU:a<st/\st<Uj
     case' pos=>
      have lx:=ih _ a st Uj w1 Q dn (Nat.le_trans hb aj.size) cU.1 cU.2 Q HP.out.s1 HP.out.s2 HP.out.i1;have y1:(a:Int)<(st:Int):=Q;have y2:(st:Int)<(Uj:Int):=Q;have Lr:=US aj;clear dn aj;go_wp2_with fail
      all_goals
       refine lx.mono ?_;rintro e w2 iB;obtain rfl:=iB.end_;have⟨fa,aM,og,Dz⟩:=iB.ex;have an:=Lr.out.trans iB.TQ;clear lx iB
     case' neg=>
      have⟨w2,gH⟩:=UL w1;subst gH;have Dz:VL (WO f st m en) a Uj:=by
       by_cases e:a=st
       .rw[e];exact HP.out.s2
       .rw[show Uj=st by omega];exact HP.out.s1
      have og:=Same.refl a Uj (WO f st m en);have aM:=dn;have an:=aj;have hX:(a:Int)<(st:Int)->¬(st:Int)<(Uj:Int):=Q;clear dn aj;generalize hfa:WO f st m en=fa at *;clear hfa;by_cases y1:(a:Int)<(st:Int)
      case' pos=>have y2:=hX y1
      all_goals clear hX
     all_goals
      have gR:VL fa Uj en:=HP.out.s3.same og (.inl (TP _));have gS:VL fa en b:=HP.out.s4.same og (.inl Q);have gT:Y1 fa Uj en b:=HP.out.i2.same og Q;by_cases fw:Uj<en/\en<b
      case' pos=>
       have F7:=ih fa Uj en b w2 Q aM (Nat.le_trans hb an.size) fw.1 fw.2 h3 gR gS gT;have x1:(Uj:Int)<(en:Int):=Q;have x2:(en:Int)<(b:Int):=Q;have jI:=US an;clear aM an gR gS gT;go_wp2_with fail
       all_goals
        refine F7.mono ?_;rintro e w3 mw;obtain rfl:=mw.end_;have⟨fb,vJ,oi,DV⟩:=mw.ex;have ax:=jI.out.trans mw.TQ;clear F7 mw
      case' neg=>
       have DV:VL fa Uj b:=by
        by_cases e:Uj=en
        .rw[e];exact gS
        .obtain rfl:en=b:=Q
         exact gR
       have oi:=Same.refl Uj b fa;have vJ:=aM;have ax:=an;have hX:(Uj:Int)<(en:Int)->¬(en:Int)<(b:Int):=Q;clear gR gS gT aM an;by_cases x2:(Uj:Int)<(en:Int)
       case' pos=>have x3:=hX x2
       all_goals clear hX
      all_goals
       have HJ:=US (joined og oi Dz DV HP.out.cross);have LP:=US (((LQ.out).trans (og.wide (TP _) Q)).trans (oi.wide Q (TP _)));have nL:=US vJ;have l9:=US ax;clear vJ ax og oi Dz DV HP;go_wp2<;>exact bodyPost_end (results_none Tryz.results105 _ _ _) rfl ⟨rfl,⟨_,nL.out,LP.out,HJ.out⟩,l9.out⟩
def Asc(f:Nat->TD)(a b:Nat):Prop:=∀i j,a<=i->i<j->j<b->(f i).id<(f j).id
theorem vft(hF:va7)(f:Nat->TD)(base g cap n:Nat)(w:World)(h:Vj w base g cap n f)(hb:base<=w.heap.size)(hn:n<=30)(hid:Asc f 0 n):
  C 66 #[so g n cap,J n,.func (.func 35) #[] #[]] w (vbW base g cap n 0 n f w):=by
 by_cases Rr:n<20
 .have hC:=vcJ hF f base g cap n 0 n w h hb Q Q Q hid
  have x1:¬(20:Int)<=(n:Int):=Q;have x2:¬(20:Int)<(n:Int):=Q;clear h hid;delta C;go_in;go_wp2;refine wp_loop_rounds 1 ?_;rw[rounds_succ];go_wp2_with (go_at_call 104;refine hC.mono ?_;rintro e w1 ⟨rfl,⟨f2,aM,qf,eO⟩,an⟩;have HP:=US (And.intro aM (And.intro qf (And.intro eO an)));clear aM qf eO an);refine wp_loop_rounds 1 ?_;rw[rounds_succ];go_wp2;exact bodyPost_end (results_none Tryz.results66 _ _ _) rfl ⟨rfl,⟨f2,HP.out.1,HP.out.2.1,HP.out.2.2.1⟩,HP.out.2.2.2⟩
 .have hC:=vcJ hF f base g cap n 0 20 w h hb Q Q Q (λi j p q r=>hid i j p q Q)
  have x1:(20:Int)<=(n:Int):=Q;have x3:¬(40:Int)<=(n:Int):=Q;clear h;delta C;go_in;go_wp2;refine wp_loop_rounds 2 ?_;rw[rounds_succ];go_wp2_with fail;refine hC.mono ?_;rintro e w1 ⟨rfl,⟨f1,dn,Fq,dG⟩,aj⟩;have lx:=vcJ hF f1 base g cap n 20 n w1 dn (Nat.le_trans hb aj.size) Q Q Q (λi j p q r=>by rw[Fq.out i (.inr p),Fq.out j (.inr Q)];exact hid i j Q q r);have nH:=US (And.intro Fq (And.intro dG aj));clear hC dn Fq dG aj;go_wp2_with fail;rw[rounds_succ];go_wp2_with fail;refine lx.mono ?_;rintro e w2 ⟨rfl,⟨f2,aM,qf,eO⟩,an⟩;have dG:VL f2 0 20:=nH.out.2.1.same qf (.inr (TP _));have pU:Same 0 n f f2:=(nH.out.1.wide (TP _) Q).trans (qf.wide Q (TP _));have nO:=nH.out.2.2.trans an;have hI:Y1 f2 0 20 n:=by
   have h0:Y1 f 0 20 n:=λi j p q r t=>hid i j p Q t
   exact(h0.same nH.out.1 (.inl ⟨TP _,TP _⟩)).same qf (.inr (.inl ⟨TP _,TP _⟩))
  clear lx nH an qf;by_cases My:n=20
  .subst My
   have HE:=US (And.intro aM (And.intro pU (And.intro dG nO)));clear aM pU dG nO eO hI hid;go_wp2_with fail;refine wp_loop_rounds 1 ?_;rw[rounds_succ];go_wp2;exact bodyPost_end (results_none Tryz.results66 _ _ _) rfl ⟨rfl,⟨f2,HE.out.1,HE.out.2.1,HE.out.2.2.1⟩,HE.out.2.2.2⟩
  .have F7:=vfu hF base g cap n Q n f2 0 20 n w2 Q aM (Nat.le_trans hb nO.size) Q Q (TP _) dG eO hI
   have x2:(20:Int)<(n:Int):=Q;have x4:¬(40:Int)<(n:Int):=Q;have HE:=US (And.intro pU nO);clear aM pU dG nO eO hI hid;go_wp2_with fail;refine wp_loop_rounds 2 ?_;rw[rounds_succ];go_wp2_with fail;refine wp_loop_rounds 1 ?_;rw[rounds_succ];go_wp2_with fail;refine F7.mono ?_;rintro e w3 mw;obtain rfl:=mw.end_;have yT:=US mw;clear F7 mw;go_wp2_with fail;rw[rounds_succ];go_wp2;have⟨f3,vJ,Fs,j5⟩:=yT.out.ex;exact bodyPost_end (results_none Tryz.results66 _ _ _) rfl ⟨rfl,⟨f3,vJ,HE.out.1.trans Fs,j5⟩,HE.out.2.trans yT.out.TQ⟩
theorem vfd:va7:=⟨λx y W=>by
 obtain⟨x0,x1,x2,x3,x4,x5⟩:=x;obtain⟨y0,y1,y2,y3,y4,y5⟩:=y;simp only[TD.v];have h1:=λx y w=>jq5 x y w
 delta C;go_in;go_wp2_with fail;refine(h1 _ _ _).mono ?_;rintro e w3 ⟨rfl,rfl⟩;go_wp2;go_ret
 exact⟨rfl,(TK _ _).alloc M _⟩⟩
theorem vfW(p:Option Addr)(c:Nat)(w:World):C 104 #[U p 0 c,J 0,J 0,.func (.func 35) #[] #[]] w λe w'=>e=V (.tuple #[])/\w'=w:=by
 delta C;go_in;go_wp2;refine wp_loop_rounds 1 ?_;rw[rounds_succ];go_wp2;exact bodyPost_end (results_none Tryz.results104 _ _ _) rfl ⟨rfl,rfl⟩
theorem vhv(p:Option Addr)(c:Nat)(w:World):C 66 #[U p 0 c,J 0,.func (.func 35) #[] #[]] w λe w'=>e=V (.tuple #[])/\w'=w:=by
 have hC:=vfW p c w;delta C;go_in;go_wp2;refine wp_loop_rounds 1 ?_;rw[rounds_succ];go_wp2_with (go_at_call 104;refine hC.mono ?_;rintro e w1 ⟨rfl,rfl⟩);refine wp_loop_rounds 1 ?_;rw[rounds_succ];go_wp2;exact bodyPost_end (results_none Tryz.results66 _ _ _) rfl ⟨rfl,rfl⟩
theorem vf8{f:Nat->TD}(h:VL f 0 n):(lf n f).Pairwise VV:=by
 rw[List.pairwise_iff_getElem];intro i j hi hj eF;rw[vap]at hi hj;have e1:=WN (f:=f) hi;have e2:=WN (f:=f) hj;rw[Ug (by rw[vap];exact hi)]at e1;rw[Ug (by rw[vap];exact hj)]at e2;rw[Uw e1,Uw e2];exact h i j (Nat.zero_le _) eF hj
theorem vdZ{f:Nat->TD}{x:TD}:x∈lf n f↔∃k,k<n/\f k=x:=by simp[lf]
theorem vf9{f g:Nat->TD}(h:Same 0 n f g)(x:TD):x∈lf n g↔x∈lf n f:=by
 rw[vdZ,vdZ];constructor
 .rintro⟨k,hk,rfl⟩
  have⟨i,_,i2,e⟩:=h.sup k (Nat.zero_le _) hk;exact⟨i,i2,e.symm⟩
 .rintro⟨k,hk,rfl⟩
  have⟨i,_,i2,e⟩:=h.sub k (Nat.zero_le _) hk;exact⟨i,i2,e.symm⟩
theorem vfs(P:List TD)(base:Nat)(v:Value)(w:World)(h:Jb w base v P)(hb:base<=w.heap.size)(hn:P.length<=30)(hid:P.Pairwise λx y=>x.id<y.id):
  C 34 #[v,.func (.func 35) #[] #[]] w λe w'=>e=V (.tuple #[])/\(∃OU:List TD,Jb w' base v OU/\OU.Pairwise VV/\∀x,x∈OU↔x∈P)/\Below base w w':=by
 have⟨a,cap,hv,_⟩:=h.seq;subst hv;have hC:C 66 #[U a P.length cap,J P.length,.func (.func 35) #[] #[]] w λe w'=>e=V (.tuple #[])/\(∃OU:List TD,Jb w' base (U a P.length cap) OU/\OU.Pairwise VV/\∀x,x∈OU↔x∈P)/\Below base w w':=by
  by_cases h0:P.length=0
  .obtain rfl:P=[]:=List.length_eq_zero_iff.mp h0
   refine(vhv a cap w).mono ?_;rintro e w' ⟨rfl,rfl⟩;exact⟨rfl,⟨[],h,.nil,λ_=>Iff.rfl⟩,Ui _ _⟩
  .obtain⟨g,hg⟩:∃g,a=some (O g 0):=by
    rcases h.2 with⟨_,h1⟩|⟨g,_,_,h1,_⟩
    .omega
    .injection h1 with h1 _ _;exact⟨g,h1⟩
   subst hg;obtain⟨d,hd⟩:∃d,P[0]? =some d:=⟨_,Ug Q⟩;have hR:Vj w base g cap P.length (λk=>P[k]?.getD d):=by
    unfold Vj;rw[<- vd0];exact h
   refine(vft vfd _ base g cap P.length w hR hb hn (λi j _ q r=>?_)).mono ?_
   .have:=List.pairwise_iff_getElem.mp hid i j Q r q
    simpa [Ug (show i<P.length by omega),Ug r]using this
   .intro e w' hP
    have⟨f2,aM,qf,eO⟩:=hP.ex;refine⟨hP.end_,⟨lf P.length f2,aM,vf8 eO,λx=>?_⟩,hP.TQ⟩;rw[vf9 qf, <- vd0]
 delta C;go_in;go_wp2_with fail;refine hC.mono ?_;rintro e w1 ⟨rfl,hP⟩;go_wp2;exact bodyPost_end (results_none Tryz.results34 _ _ _) rfl ⟨rfl,hP⟩
