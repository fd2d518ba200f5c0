import Derived.Test.YtlmgdfoiejpbcaaGreatDoorFAd
import Derived.Test.YtlmgdfoiejpbcaaGreatDoorSBd
set_option maxRecDepth 20000
set_option maxHeartbeats 0
set_option linter.unusedSimpArgs false
open Go.RowKit Go.Sort
namespace Go.Proofs.YtlmgdfoiejpbcaaGreatDoor
theorem ev_symMerge(hF:CmpK)(base g cap n:Nat)(hn:n<=1000):∀(N:Nat) (f:Nat->EventD) (a m b:Nat) (w:World),b-a<=N->RowF w base g cap n f->base<=w.heap.size->a<m->m<b->b<=n->Srt f a m->Srt f m b->IdB f a m b->
  Cl 103 #[so g n cap,iv a,iv m,iv b,.func (.func 26) #[] #[]] w (MrgP base g cap n a b f w):=by
 intro N
 induction N with
 |zero=>intro f a m b w h0 _ _ h1 h2;omega
 |succ N ih=>
 intro f a m b w h0 h hb h1 h2 h3 s1 s2 hid
 by_cases P6:m=a+1
 ·exact sym_one hF f base g cap n a m b w h hb h1 h2 h3 hn s2 hid P6
 by_cases P7:b=m+1
 ·exact sym_two hF f base g cap n a m b w h hb h2 h3 hn s1 hid (by omega) P7
 have hg:=h.ge
 have HH:=hid0 h
 have e0:((m:Int)-(a:Int)==1)=false:=by simp;omega
 have e1:((b:Int)-(m:Int)==1)=false:=by simp;omega
 obtain⟨mid,QN⟩:=qeb ((a+b) / 2)
 have em:((a:Int)+(b:Int)) / 2=(mid:Int):=by omega
 have T6:2*mid<=a+b:=by omega
 have T8:a+b<=2*mid+1:=by omega
 obtain⟨q,hq⟩:=qeb (mid+m)
 have SY:(mid:Int)+(m:Int)=(q:Int):=by omega
 have Sx:mid+m<=q:=by omega
 have Kx:q<=mid+m:=by omega
 obtain⟨p,hp⟩:=qeb (q-1)
 have ep:(q:Int)-1=(p:Int):=by omega
 have sI:p+1<=q:=by omega
 have Ge:q<=p+1:=by omega
 clear h QN hq hp
 obtain⟨lo,hi,P5⟩:∃lo hi,(mid<m/\(lo+b<=q/\q<=lo+b)/\hi=mid)\/(m<=mid/\lo=a/\hi=m):=by
  by_cases c:mid<m
  ·exact⟨q-b,mid,.inl ⟨c,by omega,rfl⟩⟩
  ·exact⟨a,m,.inr ⟨by omega,rfl,rfl⟩⟩
 have RJ:Hid ((mid<m->hi=mid)/\(m<=mid->lo=a/\hi=m)):=by simp only[Hid];omega
 have jg:(a<=lo/\lo<=hi/\hi<=m/\hi<=mid)/\((lo<=a\/q<=lo+b)/\(m<=hi\/mid<=hi))/\(q<=lo+b/\lo+b<=q\/(lo<=a/\m<=mid)):=by omega
 have PO:(mid<m/\(q:Int)-(b:Int)=(lo:Int))\/(¬mid<m):=by omega
 clear P5
 unfold Cl;go_in
 rcases PO with⟨PO,eb⟩|PO
 case' inl=>
  have g1:(mid:Int)<(m:Int):=by omega
  have hh:=RJ.out.1 PO
  have e5:(hi:Int)=(mid:Int):=by omega
  clear hh
 case' inr=>
  have g1:¬(mid:Int)<(m:Int):=by omega
  obtain⟨yb,oA⟩:=RJ.out.2 (by omega)
  have e5:(hi:Int)=(m:Int):=by omega
  have e6:(lo:Int)=(a:Int):=by omega
  clear yb oA
 all_goals
  go_wp2
  go_loopw [20,21,23] (fun s t _ wr=>∃st r:Nat,s=iv st/\t=iv r/\(lo<=st/\st<=r/\r<=hi)/\Hid (∀c,lo<=c->c<st->(f c).wall<=(f (p-c)).wall)/\Hid (∀c,r<=c->c<hi->(f (p-c)).wall<(f c).wall)/\Hid (RowF wr base g cap n f)/\Hid (Below base w wr)) (fun s t _ _=>(intOf t).toNat-(intOf s).toNat)
  case atStart=>exact⟨lo,hi,by go_num,by go_num,by omega,fun k p q=>by omega,fun k p q=>by omega,HH,brf _ _⟩
  case round=>
   obtain⟨wa,dS⟩:=qea wr
   subst dS
   obtain⟨st,r,rfl,rfl,ei,HL,HG,HR,HB⟩:=hrel
   clear HH e5
   by_cases hlt:st<r
   ·have i1:(st:Int)<(r:Int):=by omega
    obtain⟨c,hc⟩:=qeb ((st+r) / 2)
    have ec:((st:Int)+(r:Int)) / 2=(c:Int):=by omega
    have aX:st<=c:=by omega
    have cU:c<r:=by omega
    obtain⟨d,hd⟩:=qeb (p-c)
    have ed:(p:Int)-(c:Int)=(d:Int):=by omega
    have OU:m<=d/\d<b:=by omega
    have c1:(c:Int)<(n:Int):=by omega
    have c2:(0:Int)<=(c:Int):=by omega
    have a1:(d:Int)<(n:Int):=by omega
    have a2:(0:Int)<=(d:Int):=by omega
    have Ta:IntKind.i64.wrap (d:Int)=(d:Int):=by rw[IntKind.wrap_i64];omega
    have HD:=hid0 hd
    clear hc hd
    obtain⟨c0,c1,c2,c3,c4,c5⟩:=jf0 HR.out (lf_at (show d<n by omega))
    obtain⟨d0,d1,d2,d3,d4,d5⟩:=jf0 HR.out (lf_at (show c<n by omega))
    have k0:=cell_regrown c0
    have k1:=cell_regrown c1
    have k2:=cell_regrown c2
    have k3:=cell_regrown c3
    have k4:=cell_regrown c4
    have k5:=cell_regrown c5
    have l0:=cell_regrown d0
    have l1:=cell_regrown d1
    have l2:=cell_regrown d2
    have l3:=cell_regrown d3
    have l4:=cell_regrown d4
    have l5:=cell_regrown d5
    have hA:=fun W=>hF.call (f d) (f c) W
    simp only[EventD.v]at hA
    clear c0 c1 c2 c3 c4 c5 d0 d1 d2 d3 d4 d5
    by_cases hw:(f d).wall<(f c).wall
    ·have jK:Hid (∀k,c<=k->k<hi->(f (p-k)).wall<(f k).wall):=fun k q1 q2=>by
      have t1:=s1.le (show a<=c by omega) q1 (by omega)
      have t2:=s2.le (show m<=p-k by omega) (show p-k<=d by have:=HD.out;omega) OU.2
      omega
     rw[cmpW_lt hw]at hA
     have cE:∀dd os,Cl _ _ (grow (redrawn wa dd) os) fun e cW=>e=.returned (iv (-1))/\∃p:Regrown,cW=grow (redrawn wa p.d) p.os:=fun _ _=>Calls.regrown_of (hA _)
     go_wp2_with fail
     refine wp_region_quiet_below (by kernel_rfl) (by kernel_rfl) ?_
     repeat (quiet_step ((go_at_call 26;exact cE _ _)))
     refine wpQuiet_nil ?_
     intro wc gm
     obtain⟨⟨dq,aQ⟩,cJ⟩:=gm
     have ww:Bw wa wc:=cJ ▸ below_regrown wa dq aQ
     have lh:=hid0 (HR.out.below ww)
     have jI:=hid0 (bel_mono HB.out ww hb)
     clear k0 l0 k1 l1 k2 l2 k3 l3 k4 l4 k5 l5 hA cE ww cJ
     go_wp2
     go_roundw
     case rel=>exact⟨st,c,rfl,rfl,by omega,HL,jK,lh,jI⟩
     case measure=>simp[intOf];omega
    ·have js:Hid (∀k,lo<=k->k<c+1->(f k).wall<=(f (p-k)).wall):=fun k q1 q2=>by
      have t1:=s1.le (show a<=k by omega) (show k<=c by omega) (by omega)
      have t2:=s2.le OU.1 (show d<=p-k by have:=HD.out;omega) (by have:=HD.out;omega)
      omega
     have FQ:=cmpW_ge hw
     generalize cmpW (f d) (f c)=z at *
     have P3:decide (z<0)=false:=dfe FQ
     have cE:∀dd os,Cl _ _ (grow (redrawn wa dd) os) fun e cW=>e=.returned (iv z)/\∃p:Regrown,cW=grow (redrawn wa p.d) p.os:=fun _ _=>Calls.regrown_of (hA _)
     go_wp2_with fail
     refine wp_region_quiet_below (by kernel_rfl) (by kernel_rfl) ?_
     repeat (quiet_step ((go_at_call 26;exact cE _ _)))
     refine wpQuiet_nil ?_
     intro wc gm
     obtain⟨⟨dq,aQ⟩,cJ⟩:=gm
     have ww:Bw wa wc:=cJ ▸ below_regrown wa dq aQ
     have lh:=hid0 (HR.out.below ww)
     have jI:=hid0 (bel_mono HB.out ww hb)
     clear k0 l0 k1 l1 k2 l2 k3 l3 k4 l4 k5 l5 hA cE ww cJ
     go_wp2
     go_roundw
     case rel=>exact⟨c+1,r,by go_num,rfl,by omega,js,HG,lh,jI⟩
     case measure=>simp[intOf];omega
   ·have Px:¬(st:Int)<(r:Int):=by omega
    obtain⟨en,fi⟩:=qeb (q-st)
    have SX:(q:Int)-(st:Int)=(en:Int):=by omega
    have JZ:en+st<=q:=by omega
    have Sn:q<=en+st:=by omega
    clear fi
    have HP:=hid0 (parted (s:=st) (mid:=mid) s1 s2 hid (by omega) (by omega) (by omega) (by omega) (by
     by_cases e:st=lo
     ·omega
     ·right;right
      have:=HL.out (st-1) (by omega) (by omega)
      rw[show p-(st-1)=mid+m-st by omega]at this
      exact this) (by
     by_cases e:st=hi
     ·omega
     ·right;right
      have:=HG.out st (by omega) (by omega)
      rw[show p-st=mid+m-st-1 by omega]at this
      exact this))
    rw[show mid+m-st=en by omega]at HP
    have Sk:=hid0 ((rot_same (f:=f) (a:=st) (m:=m) (b:=en) (by omega) (by omega)).wide (show a<=st by omega) (show en<=b by omega))
    clear s1 s2 hid HL HG
    by_cases aX:st<m/\m<en
    case' pos=>
     have AY:=ev_rotate (F:=26) f base g cap n st m en wa HR.out aX.1 aX.2 (by omega) hn
     have t1:(st:Int)<(m:Int):=by omega
     have t2:(m:Int)<(en:Int):=by omega
     clear HR
     go_wp2_with fail
     all_goals
      refine AY.mono ?_
      rintro e w1 ⟨rfl,dn,aj⟩
      have aj:=HB.out.trans aj
      clear AY HB
    case' neg=>
     obtain⟨w1,f9⟩:=qea wa
     subst f9
     have dn:RowF w1 base g cap n (rot f st m en):=by rw[rot_none (by omega) (by omega) (by omega)];exact HR.out
     have aj:=HB.out
     have hX:(st:Int)<(m:Int)->¬(m:Int)<(en:Int):=by omega
     clear HR HB
     by_cases t1:(st:Int)<(m:Int)
     case' pos=>have t2:=hX t1
     all_goals clear hX
    all_goals
     by_cases cU:a<st/\st<mid
     case' pos=>
      have nR:=ih _ a st mid w1 (by omega) dn (Nat.le_trans hb aj.size) cU.1 cU.2 (by omega) HP.out.s1 HP.out.s2 HP.out.i1
      have y1:(a:Int)<(st:Int):=by omega
      have y2:(st:Int)<(mid:Int):=by omega
      have TC:=hid0 aj
      clear dn aj
      go_wp2_with fail
      all_goals
       refine nR.mono ?_
       rintro e w2 iB
       obtain rfl:=iB.end_
       obtain⟨fa,aM,og,QJ⟩:=iB.ex
       have an:=TC.out.trans iB.bel
       clear nR iB
     case' neg=>
      obtain⟨w2,gH⟩:=qea w1
      subst gH
      have QJ:Srt (rot f st m en) a mid:=by
       by_cases e:a=st
       ·rw[e];exact HP.out.s2
       ·rw[show mid=st by omega];exact HP.out.s1
      have og:=Same.refl a mid (rot f st m en)
      have aM:=dn
      have an:=aj
      have hX:(a:Int)<(st:Int)->¬(st:Int)<(mid:Int):=by omega
      clear dn aj
      generalize hfa:rot f st m en=fa at *
      clear hfa
      by_cases y1:(a:Int)<(st:Int)
      case' pos=>have y2:=hX y1
      all_goals clear hX
     all_goals
      have gR:Srt fa mid en:=HP.out.s3.same og (.inl (nlr _))
      have gS:Srt fa en b:=HP.out.s4.same og (.inl (by omega))
      have gT:IdB fa mid en b:=HP.out.i2.same og (by omega)
      by_cases fw:mid<en/\en<b
      case' pos=>
       have F7:=ih fa mid en b w2 (by omega) aM (Nat.le_trans hb an.size) fw.1 fw.2 h3 gR gS gT
       have x1:(mid:Int)<(en:Int):=by omega
       have x2:(en:Int)<(b:Int):=by omega
       have jI:=hid0 an
       clear aM an gR gS gT
       go_wp2_with fail
       all_goals
        refine F7.mono ?_
        rintro e w3 jC
        obtain rfl:=jC.end_
        obtain⟨fb,ks,oi,QK⟩:=jC.ex
        have ax:=jI.out.trans jC.bel
        clear F7 jC
      case' neg=>
       have QK:Srt fa mid b:=by
        by_cases e:mid=en
        ·rw[e];exact gS
        ·obtain rfl:en=b:=by omega
         exact gR
       have oi:=Same.refl mid b fa
       have ks:=aM
       have ax:=an
       have hX:(mid:Int)<(en:Int)->¬(en:Int)<(b:Int):=by omega
       clear gR gS gT aM an
       by_cases x2:(mid:Int)<(en:Int)
       case' pos=>have x3:=hX x2
       all_goals clear hX
      all_goals
       have HJ:=hid0 (joined og oi QJ QK HP.out.cross)
       have Sj:=hid0 (((Sk.out).trans (og.wide (nlr _) (by omega))).trans (oi.wide (by omega) (nlr _)))
       have nx:=hid0 ks
       have l9:=hid0 ax
       clear ks ax og oi QJ QK HP
       go_wp2<;>exact bodyPost_end (results_none Tryz.results103 _ _ _) rfl ⟨rfl,⟨_,nx.out,Sj.out,HJ.out⟩,l9.out⟩
def Asc(f:Nat->EventD)(a b:Nat):Prop:=∀i j,a<=i->i<j->j<b->(f i).id<(f j).id
theorem ev_stable(hF:CmpK)(f:Nat->EventD)(base g cap n:Nat)(w:World)(h:RowF w base g cap n f)(hb:base<=w.heap.size)(hn:n<=30)(hid:Asc f 0 n):
  Cl 64 #[so g n cap,iv n,.func (.func 26) #[] #[]] w (MrgP base g cap n 0 n f w):=by
 by_cases T5:n<20
 ·have hC:=ev_insertion hF f base g cap n 0 n w h hb (by omega) (by omega) (by omega) hid
  have x1:¬(20:Int)<=(n:Int):=by omega
  have x2:¬(20:Int)<(n:Int):=by omega
  clear h hid
  unfold Cl;go_in
  go_wp2
  refine wp_loop_rounds 1 ?_
  rw[rounds_succ]
  go_wp2_with (go_at_call 102;refine hC.mono ?_;rintro e w1 ⟨rfl,⟨f2,aM,qf,eO⟩,an⟩;have HP:=hid0 (And.intro aM (And.intro qf (And.intro eO an)));clear aM qf eO an)
  refine wp_loop_rounds 1 ?_
  rw[rounds_succ]
  go_wp2
  exact bodyPost_end (results_none Tryz.results64 _ _ _) rfl ⟨rfl,⟨f2,HP.out.1,HP.out.2.1,HP.out.2.2.1⟩,HP.out.2.2.2⟩
 ·have hC:=ev_insertion hF f base g cap n 0 20 w h hb (by omega) (by omega) (by omega) (fun i j p q r=>hid i j p q (by omega))
  have x1:(20:Int)<=(n:Int):=by omega
  have x3:¬(40:Int)<=(n:Int):=by omega
  clear h
  unfold Cl;go_in
  go_wp2
  refine wp_loop_rounds 2 ?_
  rw[rounds_succ]
  go_wp2_with fail
  refine hC.mono ?_
  rintro e w1 ⟨rfl,⟨f1,dn,Fq,dG⟩,aj⟩
  have nR:=ev_insertion hF f1 base g cap n 20 n w1 dn (Nat.le_trans hb aj.size) (by omega) (by omega) (by omega) (fun i j p q r=>by rw[Fq.out i (.inr p),Fq.out j (.inr (by omega))];exact hid i j (by omega) q r)
  have nH:=hid0 (And.intro Fq (And.intro dG aj))
  clear hC dn Fq dG aj
  go_wp2_with fail
  rw[rounds_succ]
  go_wp2_with fail
  refine nR.mono ?_
  rintro e w2 ⟨rfl,⟨f2,aM,qf,eO⟩,an⟩
  have dG:Srt f2 0 20:=nH.out.2.1.same qf (.inr (nlr _))
  have qz:Same 0 n f f2:=(nH.out.1.wide (nlr _) (by omega)).trans (qf.wide (by omega) (nlr _))
  have tS:=nH.out.2.2.trans an
  have hI:IdB f2 0 20 n:=by
   have h0:IdB f 0 20 n:=fun i j p q r t=>hid i j p (by omega) t
   exact(h0.same nH.out.1 (.inl ⟨nlr _,nlr _⟩)).same qf (.inr (.inl ⟨nlr _,nlr _⟩))
  clear nR nH an qf
  by_cases Sl:n=20
  ·subst Sl
   have HE:=hid0 (And.intro aM (And.intro qz (And.intro dG tS)))
   clear aM qz dG tS eO hI hid
   go_wp2_with fail
   refine wp_loop_rounds 1 ?_
   rw[rounds_succ]
   go_wp2
   exact bodyPost_end (results_none Tryz.results64 _ _ _) rfl ⟨rfl,⟨f2,HE.out.1,HE.out.2.1,HE.out.2.2.1⟩,HE.out.2.2.2⟩
  ·have F7:=ev_symMerge hF base g cap n (by omega) n f2 0 20 n w2 (by omega) aM (Nat.le_trans hb tS.size) (by omega) (by omega) (nlr _) dG eO hI
   have x2:(20:Int)<(n:Int):=by omega
   have x4:¬(40:Int)<(n:Int):=by omega
   have HE:=hid0 (And.intro qz tS)
   clear aM qz dG tS eO hI hid
   go_wp2_with fail
   refine wp_loop_rounds 2 ?_
   rw[rounds_succ]
   go_wp2_with fail
   refine wp_loop_rounds 1 ?_
   rw[rounds_succ]
   go_wp2_with fail
   refine F7.mono ?_
   rintro e w3 jC
   obtain rfl:=jC.end_
   have yT:=hid0 jC
   clear F7 jC
   go_wp2_with fail
   rw[rounds_succ]
   go_wp2
   obtain⟨f3,ks,Fs,j5⟩:=yT.out.ex
   exact bodyPost_end (results_none Tryz.results64 _ _ _) rfl ⟨rfl,⟨f3,ks,HE.out.1.trans Fs,j5⟩,HE.out.2.trans yT.out.bel⟩
theorem cmpK:CmpK:=⟨fun x y W=>by
 obtain⟨x0,x1,x2,x3,x4,x5⟩:=x
 obtain⟨y0,y1,y2,y3,y4,y5⟩:=y
 simp only[EventD.v]
 have h1:=fun x y w=>jq5 x y w
 unfold Cl;go_in
 go_wp2_with fail
 refine(h1 _ _ _).mono ?_
 rintro e w3 ⟨rfl,rfl⟩
 go_wp2
 go_ret
 exact⟨rfl,(qal _ _).alloc (by simp) _⟩⟩
theorem ins_nil(p:Option Addr)(c:Nat)(w:World):Cl 102 #[.slice p 0 c,iv 0,iv 0,.func (.func 26) #[] #[]] w fun e w'=>e=.returned (.tuple #[])/\w'=w:=by
 unfold Cl;go_in
 go_wp2
 refine wp_loop_rounds 1 ?_
 rw[rounds_succ]
 go_wp2
 exact bodyPost_end (results_none Tryz.results102 _ _ _) rfl ⟨rfl,rfl⟩
theorem stable_nil(p:Option Addr)(c:Nat)(w:World):Cl 64 #[.slice p 0 c,iv 0,.func (.func 26) #[] #[]] w fun e w'=>e=.returned (.tuple #[])/\w'=w:=by
 have hC:=ins_nil p c w
 unfold Cl;go_in
 go_wp2
 refine wp_loop_rounds 1 ?_
 rw[rounds_succ]
 go_wp2_with (go_at_call 102;refine hC.mono ?_;rintro e w1 ⟨rfl,rfl⟩)
 refine wp_loop_rounds 1 ?_
 rw[rounds_succ]
 go_wp2
 exact bodyPost_end (results_none Tryz.results64 _ _ _) rfl ⟨rfl,rfl⟩
theorem lf_pair{n:Nat}{f:Nat->EventD}(h:Srt f 0 n):(lf n f).Pairwise kLt:=by
 rw[List.pairwise_iff_getElem]
 intro i j hi hj eF
 rw[lf_len]at hi hj
 have e1:=lf_at (f:=f) hi
 have e2:=lf_at (f:=f) hj
 rw[lgg (by rw[lf_len];exact hi)]at e1
 rw[lgg (by rw[lf_len];exact hj)]at e2
 rw[osi e1,osi e2]
 exact h i j (Nat.zero_le _) eF hj
theorem lf_mem{n:Nat}{f:Nat->EventD}{x:EventD}:x∈lf n f↔∃k,k<n/\f k=x:=by simp[lf]
theorem lf_same{n:Nat}{f g:Nat->EventD}(h:Same 0 n f g)(x:EventD):x∈lf n g↔x∈lf n f:=by
 rw[lf_mem,lf_mem]
 constructor
 ·rintro⟨k,hk,rfl⟩
  obtain⟨i,_,i2,e⟩:=h.sup k (Nat.zero_le _) hk
  exact⟨i,i2,e.symm⟩
 ·rintro⟨k,hk,rfl⟩
  obtain⟨i,_,i2,e⟩:=h.sub k (Nat.zero_le _) hk
  exact⟨i,i2,e.symm⟩
theorem ev_sortStable(P:List EventD)(base:Nat)(v:Value)(w:World)(h:Jb w base v P)(hb:base<=w.heap.size)(hn:P.length<=30)(hid:P.Pairwise fun x y=>x.id<y.id):
  Cl 25 #[v,.func (.func 26) #[] #[]] w fun e w'=>e=.returned (.tuple #[])/\(∃Q:List EventD,Jb w' base v Q/\Q.Pairwise kLt/\∀x,x∈Q↔x∈P)/\Below base w w':=by
 obtain⟨a,cap,hv,_⟩:=h.seq
 subst hv
 have hC:Cl 64 #[.slice a P.length cap,iv P.length,.func (.func 26) #[] #[]] w fun e w'=>e=.returned (.tuple #[])/\(∃Q:List EventD,Jb w' base (.slice a P.length cap) Q/\Q.Pairwise kLt/\∀x,x∈Q↔x∈P)/\Below base w w':=by
  by_cases h0:P.length=0
  ·obtain rfl:P=[]:=List.length_eq_zero_iff.mp h0
   refine(stable_nil a cap w).mono ?_
   rintro e w' ⟨rfl,rfl⟩
   exact⟨rfl,⟨[],h,.nil,fun _=>Iff.rfl⟩,brf _ _⟩
  ·obtain⟨g,hg⟩:∃g,a=some (ad g 0):=by
    rcases h.2 with⟨_,h1⟩|⟨g,_,_,h1,_⟩
    ·omega
    ·injection h1 with h1 _ _;exact⟨g,h1⟩
   subst hg
   obtain⟨d,hd⟩:∃d,P[0]? =some d:=⟨_,lgg (by omega)⟩
   have hR:RowF w base g cap P.length (fun k=>P[k]?.getD d):=by
    unfold RowF
    rw[<- lf_of]
    exact h
   refine(ev_stable cmpK _ base g cap P.length w hR hb hn (fun i j _ q r=>?_)).mono ?_
   ·have:=List.pairwise_iff_getElem.mp hid i j (by omega) r q
    simpa [lgg (show i<P.length by omega),lgg r]using this
   ·intro e w' hP
    obtain⟨f2,aM,qf,eO⟩:=hP.ex
    refine⟨hP.end_,⟨lf P.length f2,aM,lf_pair eO,fun x=>?_⟩,hP.bel⟩
    rw[lf_same qf, <- lf_of]
 unfold Cl;go_in
 go_wp2_with fail
 refine hC.mono ?_
 rintro e w1 ⟨rfl,hP⟩
 go_wp2
 exact bodyPost_end (results_none Tryz.results25 _ _ _) rfl ⟨rfl,hP⟩
