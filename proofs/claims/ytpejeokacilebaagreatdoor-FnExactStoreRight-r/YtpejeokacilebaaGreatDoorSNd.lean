import Derived.Test.YtpejeokacilebaaGreatDoorSMd
import Derived.Test.YtpejeokacilebaaGreatDoorSId
set_option maxHeartbeats 0
set_option linter.unusedSimpArgs false
open Go.RowKit
namespace Go.Proofs.YtpejeokacilebaaGreatDoor
theorem jvp{w:World}{base:Nat}{v:Value}{L:List EntryD}(h:Zb w base v L):w.ownsRow base 57 2 v (L.map EntryD.cs).length (L.map EntryD.cs).flatten:=by rw[llm];exact h
def storeS(s:StoreD):Bool:=relB s.now&&(relB s.was&&(isB s.tx 0 900000&&(verB s.vs s.tx&&(isB s.cur 0 1000001&&((!decide (s.cur=0) || jl1 s.was)&&(decide ((jan s.vs).length<=30)&&((jan s.vs).all (fun x=>jdv s x.zone)&&eqX (entF (momS s) (jan s.vs)) s.ix)))))))
theorem jl5{l:List VersionD}{e:EventD}(h:e∈jan l):∃v∈l,e=v.ev:=by
 have h:=liveL_mem.mp h
 unfold jch at h
 cases hk:jci l e.id with
 |none=>rw[hk]at h;cases h
 |some k=>
  obtain⟨_,⟨v,hv,_⟩,_⟩:=jdc hk
  rw[hk]at h
  simp only[hv]at h
  split at h
  ·cases h
  ·cases h;exact⟨v,lmg hv,rfl⟩
theorem jfk{l:List VersionD}{t:Int}(h:verB l t=true):∀v∈l,jbm v.ev=true:=fun v hv=>by
 rw[jlh,bat]at h
 have h:=h.1
 obtain⟨k,hk⟩:=lgo hv
 unfold txB at h
 rw[bat]at h
 cases hx:txI l t k v
 ·have:=juu hk hx (n:=l.length) (List.getElem?_eq_some_iff.1 hk).1
  rw[h.2]at this
  cases this
 ·unfold txI at hx
  simp only[bat]at hx
  exact hx.2.2
theorem jhs{e:EventD}(h:jbm e=true):EvR e:=by
 unfold jbm at h
 simp only[bat]at h
 obtain⟨_,_,h3,h4,h5,h6⟩:=h
 have n:=(jf8 h3).2.1
 have a:=jax h4
 have b:=jax h5
 have c:=jax h6
 exact⟨by omega,a.1,a.2,b.1,b.2,c.1,c.2⟩
theorem jun{l:List VersionD}{t:Int}(h:verB l t=true):l.length<=60:=by
 rw[jlh,bat]at h
 have h:=h.1
 unfold txB at h
 rw[bat]at h
 exact odt h.1
set_option maxRecDepth 20000 in
theorem jh8(s:StoreD)(v:Value)(w:World)(hv:Jd w v s)(ok:Zr s):
  Cl 5 #[v] w fun q w'=>q=.returned (.bool (storeS s))/\Bw w w':=by
 have dQ:=hv
 obtain⟨a,b,c,d,e,f,va,ia,ca,cb,cc,cd,ce,cf,cv,ci,rfl,hN,hW,hV,hX,FR,_⟩:=hv.form
 have ag:=qal w (.cells (stA s a b c d e f va ia ca cb cc cd ce cf cv ci).toArray 41)
 have A0:=Zh.new w (stA s a b c d e f va ia ca cb cc cd ce cf cv ci) 41
 have q1:=fun w (h:Zd w (.agg #[.slice a s.now.rules.length ca,.slice b s.now.zones.length cb,.slice c s.now.links.length cc]) s.now)=>jc7 s.now _ w h ok.now.ok ok.now.sm ok.now.on
 have q2:=fun w (h:Zd w (.agg #[.slice d s.was.rules.length cd,.slice e s.was.zones.length ce,.slice f s.was.links.length cf]) s.was)=>jc7 s.was _ w h ok.was.ok ok.was.sm ok.was.on
 have q3:=fun w=>jau s.tx 0 900000 w
 have q4:=fun w h=>jg7 s.vs s.tx s.cur a b c d e f va ia s.now.rules.length ca s.now.zones.length cb s.now.links.length cc s.was.rules.length cd s.was.zones.length ce s.was.links.length cf s.vs.length cv s.ix.length ci w h ok.vs rfl ok.vl FR
 have q5:=fun w=>jau s.cur 0 1000001 w
 have q6:=fun w (h:Zd w (.agg #[.slice d s.was.rules.length cd,.slice e s.was.zones.length ce,.slice f s.was.links.length cf]) s.was)=>jh4 s.was _ w h ok.was.sm
 have HV:=hid hV
 have HX:=hid hX
 have HN:=hid hN
 have HW:=hid hW
 have GM:=hid dQ
 clear hV hX hN hW hv dQ
 have x1:=A0.c 1 rfl
 have x2:=A0.c 2 rfl
 have x3:=A0.c 3 rfl
 unfold Cl;go_in
 go_upto_region 1 with fail
 go_cut [44]from 7 to 43 (fun PE wx=>∃uW:Bool,PE=.bool uW/\Hid (Zh wx w.heap.size (stL s a b c d e f va ia ca cb cc cd ce cf cv ci))/\Hid (Bw w wx)/\Hid (uW=true->storeS s=false)/\Hid (uW=false->storeS s=(decide ((jan s.vs).length<=30)&&((jan s.vs).all (fun x=>jdv s x.zone)&&eqX (entF (momS s) (jan s.vs)) s.ix))/\relB s.now=true/\relB s.was=true/\verB s.vs s.tx=true))
 case first=>
  go_wp2_with fail
  refine(q1 _ (HN.out.below ag)).mono ?_
  rintro e1 w1 ⟨rfl,hb1⟩
  have aj:=qtr ag hb1
  have A1:=A0.below hb1
  clear x1 x2 x3 hb1 A0 ag q1
  cases h1:relB s.now
  ·have HR:Hid (storeS s=false):=by simp only[Hid,storeS,h1,Bool.false_and,Bool.and_false]
   clear h1
   go_wp2
   go_meet
   exact⟨true,rfl,A1,aj,fun _=>HR.out,fun h=>by cases h⟩
  have x4:=A1.c 4 rfl
  have x5:=A1.c 5 rfl
  have x6:=A1.c 6 rfl
  go_wp2_with fail
  refine(q2 _ (HW.out.below aj)).mono ?_
  rintro e2 w2 ⟨rfl,ac⟩
  have an:=qtr aj ac
  have A2:=A1.below ac
  clear x4 x5 x6 ac A1 aj q2
  cases h2:relB s.was
  ·have HR:Hid (storeS s=false):=by simp only[Hid,storeS,h1,h2,Bool.false_and,Bool.and_false]
   clear h1 h2
   go_wp2
   go_meet
   exact⟨true,rfl,A2,an,fun _=>HR.out,fun h=>by cases h⟩
  have x0:=A2.c 0 rfl
  go_wp2_with fail
  refine(q3 _).mono ?_
  rintro e3 w3 ⟨rfl,gm⟩
  have ar:Bw w2 w3:=by rw[gm];exact brf _ _
  clear gm
  have ax:=qtr an ar
  have A3:=A2.below ar
  clear x0 ar A2 an q3
  cases h3:isB s.tx 0 900000
  ·have HR:Hid (storeS s=false):=by simp only[Hid,storeS,h1,h2,h3,Bool.false_and,Bool.and_false]
   clear h1 h2 h3
   go_wp2
   go_meet
   exact⟨true,rfl,A3,ax,fun _=>HR.out,fun h=>by cases h⟩
  obtain⟨x0,x1,x2,x3,x4,x5,x6,x7,x8,x9⟩:=A3.ten
  go_wp2_with fail
  refine(q4 _ (HV.out.below ax)).mono ?_
  rintro e4 w4 ⟨rfl,aD⟩
  have aR:=qtr ax aD
  have A4:=A3.below aD
  clear x0 x1 x2 x3 x4 x5 x6 x7 x8 x9 aD A3 ax q4
  cases h4:verB s.vs s.tx
  ·have HR:Hid (storeS s=false):=by simp only[Hid,storeS,h1,h2,h3,h4,Bool.false_and,Bool.and_false]
   clear h1 h2 h3 h4
   go_wp2
   go_meet
   exact⟨true,rfl,A4,aR,fun _=>HR.out,fun h=>by cases h⟩
  have x7:=A4.c 7 rfl
  go_wp2_with fail
  refine(q5 _).mono ?_
  rintro e5 w5 ⟨rfl,oK⟩
  have aV:Bw w4 w5:=by rw[oK];exact brf _ _
  clear oK
  have bG:=qtr aR aV
  have A5:=A4.below aV
  clear x7 aV A4 aR q5
  cases h5:isB s.cur 0 1000001
  ·have HR:Hid (storeS s=false):=by simp only[Hid,storeS,h1,h2,h3,h4,h5,Bool.false_and,Bool.and_false]
   clear h1 h2 h3 h4 h5
   go_wp2
   go_meet
   exact⟨true,rfl,A5,bG,fun _=>HR.out,fun h=>by cases h⟩
  have x7:=A5.c 7 rfl
  have x4:=A5.c 4 rfl
  have x5:=A5.c 5 rfl
  have x6:=A5.c 6 rfl
  by_cases h6:s.cur=0
  ·have Mz:(s.cur==0)=true:=by simp[h6]
   have H6:=hid h6
   clear h6
   go_wp2_with fail
   refine(q6 _ (HW.out.below bG)).mono ?_
   rintro e6 w6 ⟨rfl,hb6⟩
   have cp:=qtr bG hb6
   have A6:=A5.below hb6
   clear x7 x4 x5 x6 hb6 A5 bG q6
   cases h7:jl1 s.was
   ·have HR:Hid (storeS s=false):=by simp only[Hid,storeS,h1,h2,h3,h4,h5,dte H6.out,h7,Bool.not_true,Bool.or_false,Bool.false_and,Bool.and_false]
    clear h1 h2 h3 h4 h5 h7
    go_wp2
    go_meet
    exact⟨true,rfl,A6,cp,fun _=>HR.out,fun h=>by cases h⟩
   have H7:Hid (storeS s=(decide ((jan s.vs).length<=30)&&((jan s.vs).all (fun x=>jdv s x.zone)&&eqX (entF (momS s) (jan s.vs)) s.ix))):=by simp only[Hid,storeS,h1,h2,h3,h4,h5,dte H6.out,h7,Bool.not_true,Bool.or_true,Bool.true_and]
   go_wp2
   go_meet
   exact⟨false,rfl,A6,cp,fun h=>by(cases h),fun _=>⟨H7.out,h1,h2,h4⟩⟩
  ·have Mz:(s.cur==0)=false:=by simp[h6]
   have H7:Hid (storeS s=(decide ((jan s.vs).length<=30)&&((jan s.vs).all (fun x=>jdv s x.zone)&&eqX (entF (momS s) (jan s.vs)) s.ix))):=by simp only[Hid,storeS,h1,h2,h3,h4,h5,dfe h6,Bool.not_false,Bool.true_or,Bool.true_and]
   go_wp2
   go_meet
   exact⟨false,rfl,A5,bG,fun h=>by(cases h),fun _=>⟨H7.out,h1,h2,h4⟩⟩
 case rest=>
  obtain⟨uW,rfl,FH,Gk,HT,HF⟩:=hcut
  obtain⟨w6,qO⟩:=qea wc
  subst qO
  have A6:=FH.out
  have cp:=Gk.out
  clear FH Gk q1 q2 q3 q4 q5 q6 x1 x2 x3
  cases uW
  case true=>
   have HR:Hid (storeS s=false):=HT.out rfl
   go_wp2
   go_ret
   exact⟨by rw[HR.out];rfl,cp⟩
  obtain⟨h7,h1,h2,h4⟩:=HF.out rfl
  have H7:=hid h7
  clear h7 HT HF
  have x8:=A6.c 8 rfl
  have CG:=jun h4
  have nV:∀x∈jan s.vs,EvR x:=fun x hx=>by
   obtain⟨v,hv,rfl⟩:=jl5 hx
   exact jhs (jfk h4 v hv)
  have q7:=jd1 s.vs va s.vs.length cv w6 (HV.out.below cp) rfl (by omega)
  go_wp2_with fail
  refine q7.mono ?_
  rintro q w7 ⟨lv,rfl,cj,ay⟩
  have dz:=qtr cp ay
  have A7:=A6.below ay
  obtain⟨pl,cl,rfl,eG⟩:=jkx cj
  clear x8 ay q7 A6
  have Kf:w.heap.size<=w6.heap.size:=cp.size
  have dF:Jb w7 w.heap.size (.slice pl (jan s.vs).length cl) (jan s.vs):=jaj cj Kf
  clear cj cp Kf
  obtain⟨L,j4⟩:=qeb (jan s.vs)
  have nE:=hid j4
  rw[j4]at H7 nV dF eG ⊢
  obtain⟨nl,fH⟩:=qeb L.length
  have jL:=hid fH
  rw[fH]at eG H7 dF ⊢
  clear j4 fH
  have sZ:=hid eG
  clear eG
  by_cases hl:nl<=30
  case neg=>
   have HR:Hid (storeS s=false):=by rw[H7.out,dfe hl];rfl
   have fG:(30:Int)<(nl:Int):=by omega
   clear nV dF
   go_wp2
   go_ret
   exact⟨by rw[HR.out];rfl,dz⟩
  have fG:¬(30:Int)<(nl:Int):=by omega
  rw[dte hl,Bool.true_and]at H7
  go_wp2
  go_loopw [4] (fun s4 wr=>∃i:Nat,i<=nl/\s4=iv i/\Hid (∀(j:Nat) x,j<i->L[j]? =some x->jdv s x.zone=true)/\Bw w7 wr) (fun s4 _=>nl-(intOf s4).toNat)
  case atStart=>exact⟨0,by omega,rfl,fun j x hj=>by omega,brf _ _⟩
  case round=>
   obtain⟨wa,dS⟩:=qea wr
   subst dS
   obtain⟨i,hi,rfl,HK,aK⟩:=hrel
   have Ba:=qtr dz aK
   by_cases hlt:i<nl
   ·have i1:(i:Int)<(nl:Int):=by omega
    have i0:(0:Int)<=(i:Int):=by omega
    obtain⟨gl,rfl⟩:=sZ.out (by omega)
    obtain⟨x,hx⟩:∃x,L[i]? =some x:=⟨_,lgg (by have:=jL.out;omega)⟩
    have bD:Bw w7 wa.drew:=aK.trans ((jab wa).mono aK.size)
    have BD:=qtr dz bD
    have AD:=A7.below bD
    have zc:wa.drew.cell? (ad gl (i*6+2))=some (.string x.zone):=(jf0 (jac dF bD) hx).2.2.1
    obtain⟨d0,d1,d2,d3,d4,d5,d6,d7,d8,d9⟩:=AD.ten
    have qz:=jm4 s _ x.zone wa.drew (GM.out.below BD) ok
    have qs:=hid bD
    have Lt:=hid BD
    have Hn:=hid hx
    clear bD BD AD hx aK Ba
    obtain⟨zt,Fd⟩:=qeb (jdv s x.zone)
    have Hp:=hid Fd
    rw[Fd]at qz
    clear Fd
    generalize x.zone=xz at zc qz
    cases zt
    ·have HR:Hid (storeS s=false):=by
      rw[H7.out,List.all_eq_false.mpr ⟨x,lmg Hn.out,by rw[Hp.out];simp⟩];rfl
     go_wp2_with fail
     go_region_held3 (fun w'=>w'.cell? (ad w.heap.size 0)=some (iv s.tx)/\w'.cell? (ad w.heap.size 1)=some (.slice a s.now.rules.length ca)/\w'.cell? (ad w.heap.size 2)=some (.slice b s.now.zones.length cb)/\w'.cell? (ad w.heap.size 3)=some (.slice c s.now.links.length cc)/\w'.cell? (ad w.heap.size 4)=some (.slice d s.was.rules.length cd)/\w'.cell? (ad w.heap.size 5)=some (.slice e s.was.zones.length ce)/\w'.cell? (ad w.heap.size 6)=some (.slice f s.was.links.length cf)/\w'.cell? (ad w.heap.size 7)=some (iv s.cur)/\w'.cell? (ad w.heap.size 8)=some (.slice va s.vs.length cv)/\w'.cell? (ad w.heap.size 9)=some (.slice ia s.ix.length ci)/\w'.cell? (ad gl (i*6+2))=some (.string xz)) (go_keep) ((go_at_call 17;refine qz.mono ?_;rintro q w9 ⟨rfl,bZ⟩;have Cv:=jaa bZ d0;have Cz:=jaa bZ d1;have CC:=jaa bZ d2;have CD:=jaa bZ d3;have CJ:=jaa bZ d4;have CK:=jaa bZ d5;have CL:=jaa bZ d6;have CN:=jaa bZ d7;have CP:=jaa bZ d8;have CR:=jaa bZ d9;have D3:=jaa bZ zc))
     all_goals
      clear Cv Cz CC CD CJ CK CL CN CP CR D3
      have fS:=qtr Lt.out bZ
      go_wp2
      go_ret
      exact⟨by rw[HR.out];rfl,fS⟩
    ·have ed:Hid (∀(j:Nat) x,j<i+1->L[j]? =some x->jdv s x.zone=true):=fun j y hj hy=>by
      by_cases e:j=i
      ·subst e;rw[Hn.out]at hy;obtain rfl:=osi hy;exact Hp.out
      ·exact HK.out j y (by omega) hy
     go_wp2_with fail
     go_region_held3 (fun w'=>w'.cell? (ad w.heap.size 0)=some (iv s.tx)/\w'.cell? (ad w.heap.size 1)=some (.slice a s.now.rules.length ca)/\w'.cell? (ad w.heap.size 2)=some (.slice b s.now.zones.length cb)/\w'.cell? (ad w.heap.size 3)=some (.slice c s.now.links.length cc)/\w'.cell? (ad w.heap.size 4)=some (.slice d s.was.rules.length cd)/\w'.cell? (ad w.heap.size 5)=some (.slice e s.was.zones.length ce)/\w'.cell? (ad w.heap.size 6)=some (.slice f s.was.links.length cf)/\w'.cell? (ad w.heap.size 7)=some (iv s.cur)/\w'.cell? (ad w.heap.size 8)=some (.slice va s.vs.length cv)/\w'.cell? (ad w.heap.size 9)=some (.slice ia s.ix.length ci)/\w'.cell? (ad gl (i*6+2))=some (.string xz)) (go_keep) ((go_at_call 17;refine qz.mono ?_;rintro q w9 ⟨rfl,bZ⟩;have Cv:=jaa bZ d0;have Cz:=jaa bZ d1;have CC:=jaa bZ d2;have CD:=jaa bZ d3;have CJ:=jaa bZ d4;have CK:=jaa bZ d5;have CL:=jaa bZ d6;have CN:=jaa bZ d7;have CP:=jaa bZ d8;have CR:=jaa bZ d9;have D3:=jaa bZ zc))
     all_goals
      clear Cv Cz CC CD CJ CK CL CN CP CR D3
      have fS:=qtr qs.out bZ
      have l9:=hid fS
      clear fS bZ
      go_wp2
      go_roundw
      case rel=>exact⟨i+1,by omega,by go_num,ed,l9.out⟩
      case measure=>simp[intOf];omega
   ·obtain rfl:i=nl:=by omega
    have JK:L.all (fun x=>jdv s x.zone)=true:=List.all_eq_true.mpr fun x hx=>by
     obtain⟨j,hj⟩:=lgo hx
     have h1:=(List.getElem?_eq_some_iff.1 hj).1
     have h2:=jL.out
     exact HK.out j x (by omega) hj
    rw[JK,Bool.true_and]at H7
    have Aa:=A7.below aK
    obtain⟨d0,d1,d2,d3,d4,d5,d6,d7,d8,d9⟩:=Aa.ten
    have qe:=jh5 s _ wa (GM.out.below Ba) ok h1 h2 (by omega) (by rw[nE.out,jL.out];omega) (by rw[nE.out];exact nV)
    rw[nE.out]at qe
    have Gd:=hid Aa
    clear JK HK dF A7 Aa aK nV
    go_wp2_with fail
    refine qe.mono ?_
    rintro q w9 ⟨xv,rfl,eB,bZ⟩
    obtain⟨X,lC⟩:=qeb (entF (momS s) L)
    rw[lC]at eB H7
    obtain⟨px,cx,rfl,Ni⟩:=jkx eB
    have B9:=qtr Ba bZ
    have A9:=Gd.out.below bZ
    have x9:=A9.c 9 rfl
    have iD:X.length<=30:=by rw[<- lC];exact Nat.le_trans (jep _ _) (by rw[jL.out];exact hl)
    clear lC qe d0 d1 d2 d3 d4 d5 d6 d7 d8 d9 bZ Ba Gd
    have AC:=jvp eB
    obtain⟨Sj,Ri,KP,AC,_⟩:=jbe AC jak
    rw[llm]at KP
    injection KP with h1x _ h3x
    subst h1x h3x
    clear eB Ni
    obtain⟨nx,EH⟩:=qeb X.length
    have lO:=hid EH
    rw[EH]at iD ⊢
    clear EH
    obtain⟨ni,vX⟩:=qeb s.ix.length
    have By:=hid vX
    have i7:=ok.xl
    rw[vX]at x9 i7
    clear vX
    have LV:Hid (Za w9 ia 2 (s.ix.map EntryD.cs)):=HX.out.below B9
    have LO:=hid AC
    have l9:=hid B9
    clear AC B9 A9
    by_cases mI:nx=ni
    case neg=>
     have HR:Hid (storeS s=false):=by rw[H7.out];exact jla fun h=>mI (by rw[<- lO.out, <- By.out,h])
     have gF:¬(nx:Int)=(ni:Int):=by omega
     go_wp2
     go_ret
     exact⟨by rw[HR.out];rfl,l9.out⟩
    subst mI
    obtain⟨zq,wX⟩:=qeb (eqX X s.ix)
    have HZ:=hid wX
    have HR:Hid (storeS s=zq):=by simp only[Hid];rw[H7.out];exact wX
    clear wX
    go_wp2
    go_loopw [6] (fun s6 wr=>∃i:Nat,i<=nx/\s6=iv i/\Hid (∀j,j<i->X[j]? =s.ix[j]?)/\Bw w9 wr) (fun s6 _=>nx-(intOf s6).toNat)
    case atStart=>exact⟨0,by omega,rfl,fun j hj=>by omega,brf _ _⟩
    case round=>
     obtain⟨wb,mQ⟩:=qea wr
     subst mQ
     obtain⟨k,hk,rfl,HK,aK⟩:=hrel
     have pJ:=qtr l9.out aK
     by_cases hlt:k<nx
     ·have a1:(k:Int)<(nx:Int):=by omega
      obtain⟨x,hx⟩:∃v,X[k]? =some v:=⟨_,lgg (by have:=lO.out;omega)⟩
      obtain⟨y,hy⟩:∃v,s.ix[k]? =some v:=⟨_,lgg (by have:=By.out;omega)⟩
      obtain⟨p1,o1,rfl,hc⟩:=(LO.out.below aK).at (i:=k) (r:=x.cs) (by rw[lgm,hx];rfl)
      obtain⟨p2,o2,rfl,hd⟩:=(LV.out.below aK).at (i:=k) (r:=y.cs) (by rw[lgm,hy];rfl)
      have c0:wb.cell? (ad p1 (o1+k*2))=some (iv x.at_):=hc 0 _ rfl
      have c1:wb.cell? (ad p1 (o1+k*2+1))=some (iv x.id):=hc 1 _ rfl
      have d0:wb.cell? (ad p2 (o2+k*2))=some (iv y.at_):=hd 0 _ rfl
      have d1:wb.cell? (ad p2 (o2+k*2+1))=some (iv y.id):=hd 1 _ rfl
      have DL:=jaa aK x9
      have lD:Hid (X[k]? =some x/\s.ix[k]? =some y):=⟨hx,hy⟩
      clear hc hd hx hy
      obtain⟨xa,xi⟩:=x
      obtain⟨ya,yi⟩:=y
      dsimp only at *
      by_cases e1:xa=ya
      ·subst e1
       by_cases e2:xi=yi
       ·subst e2
        have ed:Hid (∀j,j<k+1->X[j]? =s.ix[j]?):=fun j hj=>by
         by_cases e:j=k
         ·subst e;rw[lD.out.1,lD.out.2]
         ·exact HK.out j (by omega)
        clear lD HK
        go_wp2_with fail
        go_quiet (fail)
        go_wp2
        go_roundw
        case rel=>exact⟨k+1,by omega,by go_num,ed,below_drewN aK _⟩
        case measure=>simp[intOf];omega
       ·obtain rfl:zq=false:=by
         rw[<- HZ.out]
         refine jla fun h=>?_
         have h1:=lD.out.1;rw[h,lD.out.2]at h1
         injection h1 with h1;injection h1 with _ h1;exact e2 h1.symm
        clear lD HK
        go_wp2_with fail
        go_quiet (fail)
        go_wp2
        go_ret
        exact⟨by rw[HR.out];rfl,below_drewN pJ _⟩
      ·obtain rfl:zq=false:=by
        rw[<- HZ.out]
        refine jla fun h=>?_
        have h1:=lD.out.1;rw[h,lD.out.2]at h1
        injection h1 with h1;injection h1 with h1 _;exact e1 h1.symm
       clear lD HK
       go_wp2_with fail
       go_quiet (fail)
       go_wp2
       go_ret
       exact⟨by rw[HR.out];rfl,below_drewN pJ _⟩
     ·obtain rfl:k=nx:=by omega
      obtain rfl:zq=true:=by
       rw[<- HZ.out,eqX_iff]
       refine List.ext_getElem? fun j=>?_
       by_cases hj:j<k
       ·exact HK.out j hj
       ·rw[List.getElem?_eq_none (by rw[lO.out];omega),List.getElem?_eq_none (by rw[By.out];omega)]
      go_wp2
      go_ret
      exact⟨by rw[HR.out];rfl,pJ⟩
theorem jzf{s:StoreD}{e:EventD}(h1:relB s.now=true)(h2:relB s.was=true)(hz:jdv s e.zone=true)(hs:e.zone.size<=8000):momS s e=momB s e:=by
 unfold jdv at hz
 simp only[bat,Bool.or_eq_true,decide_eq_true_eq]at hz
 unfold momB momS
 split
 ·unfold momD momR
  rw[jlk h1 hz.1 hs]
 ·rename_i hc
  have hn:s.cur≠0:=fun h=>hc (.inl h)
  unfold momD momR
  rw[jlk h2 (hz.2.resolve_left hn) hs]
theorem ent_same{s:StoreD}(h1:relB s.now=true)(h2:relB s.was=true)(hv:verB s.vs s.tx=true)(hz:(jan s.vs).all (fun x=>jdv s x.zone)=true):entF (momS s) (jan s.vs)=entF (momB s) (jan s.vs):=jo6 fun e he=>by
 obtain⟨v,hm,rfl⟩:=jl5 he
 exact jzf h1 h2 (List.all_eq_true.mp hz _ he) (jhs (jfk hv v hm)).zone
theorem jkt(s:StoreD):storeS s=storeI s:=by
 rw[Bool.eq_iff_iff]
 have E:=@ent_same s
 rw[jlh]at E
 unfold storeS storeI jov jk5 frmB isB
 rw[jlh,jtg]
 simp only[bat,decide_eq_true_eq,eqX_iff]at E ⊢
 constructor
 ·rintro⟨a,b,⟨c1,c2⟩,⟨d1,d2⟩,⟨e1,e2⟩,f,g,h,i⟩
  exact⟨⟨⟨⟨c1,c2,e1,e2,f⟩,a,b⟩,d1,d2,g,h⟩,by rw[<- E a b ⟨d1,d2⟩ h];exact i.symm⟩
 ·rintro⟨⟨⟨⟨c1,c2,e1,e2,f⟩,a,b⟩,d1,d2,g,h⟩,i⟩
  exact⟨a,b,⟨c1,c2⟩,⟨d1,d2⟩,⟨e1,e2⟩,f,g,h,by rw[E a b ⟨d1,d2⟩ h];exact i.symm⟩
