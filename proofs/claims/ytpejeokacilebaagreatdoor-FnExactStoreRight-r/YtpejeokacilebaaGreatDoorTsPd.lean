import Derived.Test.YtpejeokacilebaaGreatDoorTbPd
set_option maxRecDepth 20000
set_option maxHeartbeats 0
set_option linter.unusedSimpArgs false
open Go.RowKit Go.Sort
namespace Go.Proofs.YtpejeokacilebaaGreatDoor
theorem jlr(H:List HapD)(a:Option Addr)(ca:Nat)(t:Int)(w:World)(hA:Za w a 3 (H.map HapD.cs))(hl:H.length<=2000):
  Cl 161 #[.slice a H.length ca,iv t] w fun e w'=>e=.returned (jdd H (hcnt H t)).v/\Bw w w':=by
 have HA:Hid (∀(k:Nat) (x:HapD),H[k]? =some x->x.save=0->(∀j y,j<k->H[j]? =some y->y.save≠0)->jb4 H=x.letter):=fun k x h1 h2 h3=>jo2 h1 h2 h3
 have HN:Hid ((∀j y,j<H.length->H[j]? =some y->y.save≠0)->jb4 H=⟨#[]⟩):=fun h=>jjp fun x hx=>by
  obtain⟨j,hj⟩:=lgo hx
  exact h j x (lgs hj).1 hj
 have ag:=qal w (.cells #[iv 0,iv 0,.string ⟨#[]⟩] 199)
 have eK:=hA.below ag
 obtain⟨r0,r1,r2,f0,f1,f2⟩:(fun z:World=>z.cell? ⟨w.heap.size,0,none⟩=some (iv 0)/\z.cell? ⟨w.heap.size,1,none⟩=some (iv 0)/\z.cell? ⟨w.heap.size,2,none⟩=some (.string ⟨#[]⟩)/\z.frozen? ⟨w.heap.size,0,none⟩=false/\z.frozen? ⟨w.heap.size,1,none⟩=false/\z.frozen? ⟨w.heap.size,2,none⟩=false) (w.alloc (.cells #[iv 0,iv 0,.string ⟨#[]⟩] 199)):=by simp[go_sem]
 have Hl:Hid (∀k x,jdx H t (k+1)=hcnt H t->H[k]? =some x->x.at_<=t->jdd H (hcnt H t)=x):=fun k x h1 h2 h3=>by
  rw[<- h1,jot h2 h3]
  simp only[jdd]
  rw[h2]
  rfl
 have yG:Hid (jdx H t 0=hcnt H t->jdd H (hcnt H t)=⟨0,0,jb4 H⟩):=fun h=>by rw[<- h];rfl
 have xe:Hid (jdx H t H.length=hcnt H t):=rfl
 generalize hF:jdd H (hcnt H t)=F at *
 clear hF
 generalize hcnt H t=c at *
 unfold Cl;go_in
 go_wp2
 generalize (w.alloc (.cells #[iv 0,iv 0,.string ⟨#[]⟩] 199))=W at *
 go_loopw [5] (fun s5 wr=>∃m:Nat,m<=H.length/\s5=iv ((m:Int)-1)/\Hid (jdx H t m=c)/\wr=W) (fun s5 _=>(intOf s5+1).toNat)
 case atStart=>exact⟨H.length,nlr _,rfl,xe,rfl⟩
 case round=>
  obtain⟨m,hm,gG,hC,hw⟩:=hrel
  subst hw
  cases m with
  |zero=>
   subst gG
   have HF:Hid (F=⟨0,0,jb4 H⟩):=yG.out hC.out
   go_wp2
   go_loopw [6] (fun s6 wq=>∃k:Nat,k<=H.length/\s6=iv k/\Hid (∀j y,j<k->H[j]? =some y->y.save≠0)/\wq=wr) (fun s6 _=>H.length-(intOf s6).toNat)
   case atStart=>exact⟨0,by omega,rfl,fun j y h=>by omega,rfl⟩
   case round=>
    obtain⟨k,hk,rfl,hN,hw⟩:=hrel
    subst hw
    by_cases hlt:k<H.length
    ·obtain⟨x,hx⟩:=qgg hlt
     obtain⟨b,o,rfl,hc⟩:=eK.at (i:=k) (r:=x.cs) (by rw[lgm,hx];rfl)
     have c1:=hc 1 _ rfl
     have c2:=hc 2 _ rfl
     have eY:(k:Int)<(H.length:Int):=by omega
     by_cases h0:x.save=0
     ·have HR:Hid (F=⟨0,0,x.letter⟩):=by simp only[Hid];rw[HF.out,HA.out k x hx h0 hN.out]
      rw[h0]at c1
      clear hc hx hN
      obtain⟨s0,s1,s2⟩:=jc8 (v0:=iv 0) (v1:=iv 0) (v2:=.string x.letter) r0 r1 r2
      go_wp2
      exact bpr (v:=.agg #[iv 0,iv 0,.string x.letter]) (by simp[results,Tryz.results161,go_sem,s0,s1,s2]) rfl ⟨by rw[HR.out];rfl,((ag.setCell (nlr _) _).setCell (nlr _) _).setCell (nlr _) _⟩
     ·have HR:Hid (∀j y,j<k+1->H[j]? =some y->y.save≠0):=fun j y hj hy=>by
       by_cases e:j=k
       ·subst e;rw[hx]at hy;injection hy with hy;subst hy;exact h0
       ·exact hN.out j y (by omega) hy
      clear hc hx hN
      go_wp2
      go_roundw
      case rel=>exact⟨k+1,by omega,by go_num,HR,trivial⟩
      case measure=>simp[intOf];omega
    ·have HR:Hid (F=⟨0,0,⟨#[]⟩⟩):=by simp only[Hid];rw[HF.out,HN.out fun j y hj hy=>hN.out j y (by omega) hy]
     have eY:¬(k:Int)<(H.length:Int):=by omega
     obtain⟨s0,s1,s2⟩:=jc8 (v0:=iv 0) (v1:=iv 0) (v2:=.string ⟨#[]⟩) r0 r1 r2
     clear hN
     go_wp2
     exact bpr (v:=.agg #[iv 0,iv 0,.string ⟨#[]⟩]) (by simp[results,Tryz.results161,go_sem,s0,s1,s2]) rfl ⟨by rw[HR.out];rfl,((ag.setCell (nlr _) _).setCell (nlr _) _).setCell (nlr _) _⟩
  | succ k=>
   rw[show(((k+1:Nat):Int)-1)=(k:Int) by omega]at gG
   subst gG
   obtain⟨x,hx⟩:∃x,H[k]? =some x:=⟨_,lgg (by omega)⟩
   obtain⟨b,o,rfl,hc⟩:=eK.at (i:=k) (r:=x.cs) (by rw[lgm,hx];rfl)
   have c0:wr.cell? ⟨b,o+k*3,none⟩=some (iv x.at_):=hc 0 _ rfl
   have c1:=hc 1 _ rfl
   have c2:=hc 2 _ rfl
   have eY:(k:Int)<(H.length:Int):=by omega
   by_cases ht:x.at_<=t
   ·have HR:Hid (F=x):=Hl.out k x hC.out hx ht
    obtain⟨s0,s1,s2⟩:=jc8 (v0:=iv x.at_) (v1:=iv x.save) (v2:=.string x.letter) r0 r1 r2
    clear hc hx hC
    go_wp2
    exact bpr (v:=.agg #[iv x.at_,iv x.save,.string x.letter]) (by simp[results,Tryz.results161,go_sem,s0,s1,s2]) rfl ⟨by rw[HR.out];rfl,((ag.setCell (nlr _) _).setCell (nlr _) _).setCell (nlr _) _⟩
   ·have HC:Hid (jdx H t k=c):=by simp only[Hid];rw[<- jtx hx (by omega)];exact hC.out
    clear hc hx hC
    go_wp2
    go_roundw
    case rel=>exact⟨k,by omega,rfl,HC,trivial⟩
    case measure=>simp[intOf]
theorem jgp(e:EraD)(F:HapD)(t:Int)(w:World)(hf:e.format.size<=8000)(hl:F.letter.size<=8000)(h3: -86400<=e.offset)(h4:e.offset<=86400)(h5: -7200<=F.save)(h6:F.save<=7200):
  Cl 130 #[e.v,F.v,iv t] w fun r W'=>r=.returned (jdl e F t).v/\Bw w W':=by
 have hA:∀w,Cl 160 #[.string e.format,.string F.letter,iv F.save] w fun r w'=>r=.returned (.string (jki e.format F.letter F.save))/\Bw w w':=fun w=>(jm7 e.format F.letter F.save w hf hl).mono (by
  rintro r w' ⟨rfl,n,rfl⟩
  exact⟨by rw[jjv ⟨hf,hl⟩],below_drewN (brf _ _) _⟩)
 have HR:Hid ((jdl e F t).v=.agg #[iv t,iv (e.offset+F.save),iv F.save,.string (jki e.format F.letter F.save)]):=rfl
 generalize jki e.format F.letter F.save=ab at *
 generalize (jdl e F t).v=RV at *
 have ag:=(((qal w (.cells #[iv e.offset,.string e.rules,iv e.save,.string e.format,iv e.until_,.string e.of] 133)).alloc (by simp) (.cells #[iv F.at_,iv F.save,.string F.letter] 199)).alloc (by simp;omega) (.cells #[iv 0,iv 0,iv 0,.string ⟨#[]⟩] 167))
 obtain⟨W,hW⟩:=qeb ((((w.alloc (.cells #[iv e.offset,.string e.rules,iv e.save,.string e.format,iv e.until_,.string e.of] 133)).alloc (.cells #[iv F.at_,iv F.save,.string F.letter] 199)).alloc (.cells #[iv 0,iv 0,iv 0,.string ⟨#[]⟩] 167)))
 rw[hW]at ag
 have k0:W.cell? ⟨w.heap.size,0,none⟩=some (iv e.offset):=by rw[<- hW];simp[go_sem]
 have k3:W.cell? ⟨w.heap.size,3,none⟩=some (.string e.format):=by rw[<- hW];simp[go_sem]
 have l1:W.cell? ⟨w.heap.size+1,1,none⟩=some (iv F.save):=by rw[<- hW];simp[go_sem]
 have l2:W.cell? ⟨w.heap.size+1,2,none⟩=some (.string F.letter):=by rw[<- hW];simp[go_sem]
 have r0:W.cell? ⟨w.heap.size+1+1,0,none⟩=some (iv 0):=by rw[<- hW];simp[go_sem]
 have r1:W.cell? ⟨w.heap.size+1+1,1,none⟩=some (iv 0):=by rw[<- hW];simp[go_sem]
 have r2:W.cell? ⟨w.heap.size+1+1,2,none⟩=some (iv 0):=by rw[<- hW];simp[go_sem]
 have r3:W.cell? ⟨w.heap.size+1+1,3,none⟩=some (.string ⟨#[]⟩):=by rw[<- hW];simp[go_sem]
 have f0:∀j,j<4->W.frozen? ⟨w.heap.size+1+1,j,none⟩=false:=by rw[<- hW];exact fun j hj=>by simp[go_sem]
 unfold EraD.v HapD.v
 unfold Cl;go_in
 go_wp2_with fail
 (try rw[hW])
 clear hW
 have bY:Bw w W.drew:=ag.trans ((jab W).mono ag.size)
 have gF:¬w.heap.size+1+1=w.heap.size:=by omega
 have vk:¬w.heap.size=w.heap.size+1+1:=by omega
 have KS:IntKind.i64.wrap (e.offset+F.save)=e.offset+F.save:=by rw[IntKind.wrap_i64];omega
 go_region_held3 (fun w'=>w'.cell? ⟨w.heap.size,0,none⟩=some (iv e.offset)/\w'.cell? ⟨w.heap.size,3,none⟩=some (.string e.format)/\w'.cell? ⟨w.heap.size+1,1,none⟩=some (iv F.save)/\w'.cell? ⟨w.heap.size+1,2,none⟩=some (.string F.letter)) (go_keep) ((go_at_call 160;refine(hA _).mono ?_;rintro r w4 ⟨rfl,hb⟩;have q0:=jaa hb k0;have q3:=jaa hb k3;have p1:=jaa hb l1;have p2:=jaa hb l2;have s0:=jaa hb r0;have s1:=jaa hb r1;have s2:=jaa hb r2;have s3:=jaa hb r3;have z0:w4.frozen? ⟨w.heap.size+1+1,0,none⟩=false:=((jaf hb).2 _ _ (qbl r0)).trans (f0 0 (by omega));have z1:w4.frozen? ⟨w.heap.size+1+1,1,none⟩=false:=((jaf hb).2 _ _ (qbl r0)).trans (f0 1 (by omega));have z2:w4.frozen? ⟨w.heap.size+1+1,2,none⟩=false:=((jaf hb).2 _ _ (qbl r0)).trans (f0 2 (by omega));have z3:w4.frozen? ⟨w.heap.size+1+1,3,none⟩=false:=((jaf hb).2 _ _ (qbl r0)).trans (f0 3 (by omega))))
 all_goals
  go_wp2
  have hB:Bw w w4:=qtr bY hb
  obtain⟨u0,u1,u2,u3⟩:=jfo (v0:=iv t) (v1:=iv (e.offset+F.save)) (v2:=iv F.save) (v3:=.string ab) s0 s1 s2 s3
  exact bpr (v:=.agg #[iv t,iv (e.offset+F.save),iv F.save,.string ab]) (by simp[results,Tryz.results130,go_sem,u0,u1,u2,u3]) rfl ⟨by rw[HR.out],(((hB.setCell (show w.heap.size<=w.heap.size+1+1 by omega) _).setCell (show w.heap.size<=w.heap.size+1+1 by omega) _).setCell (show w.heap.size<=w.heap.size+1+1 by omega) _).setCell (show w.heap.size<=w.heap.size+1+1 by omega) _⟩
theorem jgo(e:EraD)(H:List HapD)(a:Option Addr)(ca:Nat)(t:Int)(w:World)(hA:Za w a 3 (H.map HapD.cs))(hn:H.length<=2000)(hf:e.format.size<=8000)(hl:∀t,(jas e H t).letter.size<=8000)(h3: -86400<=e.offset)(h4:e.offset<=86400)(h5:∀t, -7200<=(jas e H t).save/\(jas e H t).save<=7200):
  Cl 131 #[e.v,.slice a H.length ca,iv t] w fun r W'=>r=.returned (turnE e H t).v/\Bw w W':=by
 have ag:=(qal w (.cells #[iv e.offset,.string e.rules,iv e.save,.string e.format,iv e.until_,.string e.of] 133)).alloc (by simp) (.cells #[iv 0,iv 0,iv 0,.string ⟨#[]⟩] 167)
 obtain⟨k0,k1,k2,k3,k4,k5,r0,r1,r2,r3⟩:(fun z:World=>z.cell? ⟨w.heap.size,0,none⟩=some (iv e.offset)/\z.cell? ⟨w.heap.size,1,none⟩=some (.string e.rules)/\z.cell? ⟨w.heap.size,2,none⟩=some (iv e.save)/\z.cell? ⟨w.heap.size,3,none⟩=some (.string e.format)/\z.cell? ⟨w.heap.size,4,none⟩=some (iv e.until_)/\z.cell? ⟨w.heap.size,5,none⟩=some (.string e.of)/\z.cell? ⟨w.heap.size+1,0,none⟩=some (iv 0)/\z.cell? ⟨w.heap.size+1,1,none⟩=some (iv 0)/\z.cell? ⟨w.heap.size+1,2,none⟩=some (iv 0)/\z.cell? ⟨w.heap.size+1,3,none⟩=some (.string ⟨#[]⟩)) ((w.alloc (.cells #[iv e.offset,.string e.rules,iv e.save,.string e.format,iv e.until_,.string e.of] 133)).alloc (.cells #[iv 0,iv 0,iv 0,.string ⟨#[]⟩] 167)):=by simp[go_sem]
 have f0:∀j,j<4->((w.alloc (.cells #[iv e.offset,.string e.rules,iv e.save,.string e.format,iv e.until_,.string e.of] 133)).alloc (.cells #[iv 0,iv 0,iv 0,.string ⟨#[]⟩] 167)).frozen? ⟨w.heap.size+1,j,none⟩=false:=fun j hj=>by simp[go_sem]
 have ko:=fun w=>jgp e (jas e H t) t w hf (hl t) h3 h4 (h5 t).1 (h5 t).2
 have HR:Hid (turnE e H t=jdl e (jas e H t) t):=rfl
 by_cases h0:e.rules.size=0
 ·have hr:e.rules=⟨#[]⟩:=jf1 (l:=[]) (by rw[<- List.length_eq_zero_iff,jag];exact h0)
  rw[jjm h0]at ko HR
  generalize jdl e ⟨0,e.save,⟨#[]⟩⟩ t=X at *
  obtain⟨xa,xo,xs,xb⟩:=X
  simp only[HapD.v,TurnD.v,EraD.v]at ko
  rw[hr]at ko ag k0 k1 k2 k3 k4 k5 r0 r1 r2 r3 f0
  unfold EraD.v
  unfold Cl;go_in
  go_wp2_with fail
  refine(ko _).mono ?_
  rintro q w1 ⟨rfl,hb1⟩
  have s0:=jaa hb1 r0
  have s1:=jaa hb1 r1
  have s2:=jaa hb1 r2
  have s3:=jaa hb1 r3
  have z0:w1.frozen? ⟨w.heap.size+1,0,none⟩=false:=((jaf hb1).2 _ _ (qbl r0)).trans (f0 0 (by omega))
  have z1:w1.frozen? ⟨w.heap.size+1,1,none⟩=false:=((jaf hb1).2 _ _ (qbl r0)).trans (f0 1 (by omega))
  have z2:w1.frozen? ⟨w.heap.size+1,2,none⟩=false:=((jaf hb1).2 _ _ (qbl r0)).trans (f0 2 (by omega))
  have z3:w1.frozen? ⟨w.heap.size+1,3,none⟩=false:=((jaf hb1).2 _ _ (qbl r0)).trans (f0 3 (by omega))
  have aj:=ag.trans (hb1.mono (by simp;omega))
  obtain⟨u0,u1,u2,u3⟩:=jfo (v0:=iv xa) (v1:=iv xo) (v2:=iv xs) (v3:=.string xb) s0 s1 s2 s3
  clear hb1
  go_wp2
  exact bpr (v:=.agg #[iv xa,iv xo,iv xs,.string xb]) (by simp[results,Tryz.results131,go_sem,u0,u1,u2,u3]) rfl ⟨by rw[HR.out];rfl,(((aj.setCell (show w.heap.size<=w.heap.size+1 by omega) _).setCell (show w.heap.size<=w.heap.size+1 by omega) _).setCell (show w.heap.size<=w.heap.size+1 by omega) _).setCell (show w.heap.size<=w.heap.size+1 by omega) _⟩
 ·have az:e.rules.toList.isEmpty=false:=by
   cases h:e.rules.toList with
   |nil=>exact absurd (by rw[toList_dataA]at h;rw[<- jag,h];rfl) h0
   |cons x l=>rfl
  have Bh:=fun w (h:Za w a 3 (H.map HapD.cs))=>jlr H a ca t w h hn
  rw[<- jen (e:=e) h0]at Bh
  generalize jas e H t=F at *
  obtain⟨fa,fs,fl⟩:=F
  generalize jdl e ⟨fa,fs,fl⟩ t=X at *
  obtain⟨xa,xo,xs,xb⟩:=X
  simp only[HapD.v,TurnD.v,EraD.v]at ko Bh
  unfold EraD.v
  unfold Cl;go_in
  go_wp2_with fail
  generalize ((w.alloc (.cells #[iv e.offset,.string e.rules,iv e.save,.string e.format,iv e.until_,.string e.of] 133)).alloc (.cells #[iv 0,iv 0,iv 0,.string ⟨#[]⟩] 167))=W0 at *
  have bY:Bw w W0.drew:=ag.trans ((jab W0).mono ag.size)
  have AQ:=hA.below bY
  have gF:¬w.heap.size+1=w.heap.size:=by omega
  have vk:¬w.heap.size=w.heap.size+1:=by omega
  go_region_held3 (fun w'=>w'.cell? ⟨w.heap.size,0,none⟩=some (iv e.offset)/\w'.cell? ⟨w.heap.size,1,none⟩=some (.string e.rules)/\w'.cell? ⟨w.heap.size,2,none⟩=some (iv e.save)/\w'.cell? ⟨w.heap.size,3,none⟩=some (.string e.format)/\w'.cell? ⟨w.heap.size,4,none⟩=some (iv e.until_)/\w'.cell? ⟨w.heap.size,5,none⟩=some (.string e.of)) (go_keep) (first|(go_at_call 161;refine(Bh _ AQ).mono ?_;rintro q w4 ⟨rfl,hb⟩;have q0:=jaa hb k0;have q1:=jaa hb k1;have q2:=jaa hb k2;have q3:=jaa hb k3;have q4:=jaa hb k4;have q5:=jaa hb k5)|(go_at_call 130;refine(ko _).mono ?_;rintro q w5 ⟨rfl,aV⟩;have p0:=jaa aV q0;have p1:=jaa aV q1;have p2:=jaa aV q2;have p3:=jaa aV q3;have p4:=jaa aV q4;have p5:=jaa aV q5;have s0:=jaa aV (jaa hb r0);have s1:=jaa aV (jaa hb r1);have s2:=jaa aV (jaa hb r2);have s3:=jaa aV (jaa hb r3);have z0:w5.frozen? ⟨w.heap.size+1,0,none⟩=false:=((jaf aV).2 _ _ (qbl (jaa hb r0))).trans (((jaf hb).2 _ _ (qbl r0)).trans (f0 0 (by omega)));have z1:w5.frozen? ⟨w.heap.size+1,1,none⟩=false:=((jaf aV).2 _ _ (qbl (jaa hb r0))).trans (((jaf hb).2 _ _ (qbl r0)).trans (f0 1 (by omega)));have z2:w5.frozen? ⟨w.heap.size+1,2,none⟩=false:=((jaf aV).2 _ _ (qbl (jaa hb r0))).trans (((jaf hb).2 _ _ (qbl r0)).trans (f0 2 (by omega)));have z3:w5.frozen? ⟨w.heap.size+1,3,none⟩=false:=((jaf aV).2 _ _ (qbl (jaa hb r0))).trans (((jaf hb).2 _ _ (qbl r0)).trans (f0 3 (by omega)))))
  all_goals
   go_wp2
   have aR:Bw w w4:=qtr bY hb
   have aj:Bw w w5:=qtr aR aV
   obtain⟨u0,u1,u2,u3⟩:=jfo (v0:=iv xa) (v1:=iv xo) (v2:=iv xs) (v3:=.string xb) s0 s1 s2 s3
   exact bpr (v:=.agg #[iv xa,iv xo,iv xs,.string xb]) (by simp[results,Tryz.results131,go_sem,u0,u1,u2,u3]) rfl ⟨by rw[HR.out];rfl,(((aj.setCell (show w.heap.size<=w.heap.size+1 by omega) _).setCell (show w.heap.size<=w.heap.size+1 by omega) _).setCell (show w.heap.size<=w.heap.size+1 by omega) _).setCell (show w.heap.size<=w.heap.size+1 by omega) _⟩
theorem jgq(H:List HapD)(a:Option Addr)(ca:Nat)(w:World)(hA:Za w a 3 (H.map HapD.cs))(hl:H.length<=2000)(hH:∀h∈H,h.at_<=253402300799):
  Cl 128 #[.slice a H.length ca] w fun e w'=>e=.returned (.slice (some ⟨w.heap.size,0,none⟩) H.length H.length)/\Jc w' w.heap.size (sufM H) 0/\Bw w w':=by
 obtain⟨i0,hi,aG,aH,aF⟩:=jwo
 obtain⟨w1,dk,ai,dp⟩:=run_make_full (P:=Tryz.prog) w w.heap.size 164 2 i0 _ 1 Tryz.underlying164 hi aG aH .i64 .i64 H.length (by rw[aF];omega) (by unfold maxLen;omega) (nlr _)
 have hR:=jd4 ai
 rw[Nat.mul_one]at hR
 have hB:Bw w w1:=(brf _ _).grown dp (nlr _) (fun k hk=>by cases hk)
 have lc:Hid (∀(k:Nat) (h:HapD),H[k]? =some h->(sufM H)[k]? =some (min (ja1 (sufM H) (k+1)) h.at_)):=fun k h hh=>sufM_at hh
 have Hk:Hid (∀k,k<H.length->∃y,(sufM H)[k]? =some y):=fun k hk=>⟨_,lgg (by rw[jcc];exact hk)⟩
 have yD:Hid (∀k,¬k<H.length->ja1 (sufM H) k=253402300799):=fun k hk=>jip (by rw[jcc];omega)
 have HH:=hid hH
 have tL:Jc w1 w.heap.size (sufM H) H.length:=fun i t h1 h2=>by have:=(lgs h2).1;rw[jcc]at this;omega
 clear hH
 generalize sufM H=E at *
 clear hi aG aH aF ai dp
 unfold Cl;go_in
 go_wp2
 go_loopw [4] (fun s4 wr=>∃m:Nat,m<=H.length/\s4=iv ((m:Int)-1)/\Jc wr w.heap.size E m/\Zg wr w.heap.size H.length/\Bw w wr) (fun s4 _=>(intOf s4+1).toNat)
 case atStart=>exact⟨H.length,nlr _,rfl,tL,hR,hB⟩
 case round=>
  clear hR hB dk tL
  obtain⟨m,hm,mN,hL,hR,hB⟩:=hrel
  cases m with
  |zero=>
   subst mN
   go_wp2
   go_ret
   exact⟨rfl,hL,hB⟩
  |succ k=>
   rw[show(((k+1:Nat):Int)-1)=(k:Int) by omega]at mN
   subst mN
   obtain⟨x,hx⟩:∃x,H[k]? =some x:=⟨_,lgg (by omega)⟩
   obtain⟨b,o,rfl,hc⟩:=(hA.below hB).at (i:=k) (r:=x.cs) (by rw[lgm,hx];rfl)
   have c0:wr.cell? ⟨b,o+k*3,none⟩=some (iv x.at_):=hc 0 _ rfl
   have hE:=lc.out k x hx
   have vM:=HH.out x (lmg hx)
   obtain⟨⟨u0,iR⟩,gC⟩:=hR k (by omega)
   have eY:(k:Int)<(H.length:Int):=by omega
   have dn:=hR.set ⟨w.heap.size,k,none⟩ (iv x.at_)
   have aj:Bw w (wr.setCell ⟨w.heap.size,k,none⟩ (iv x.at_)):=hB.setCell (nlr _) _
   have k1:(wr.setCell ⟨w.heap.size,k,none⟩ (iv x.at_)).cell? ⟨w.heap.size,k,none⟩=some (iv x.at_):=wcs _ _ _ iR
   have kf:(wr.setCell ⟨w.heap.size,k,none⟩ (iv x.at_)).frozen? ⟨w.heap.size,k,none⟩=false:=by rw[World.frozen?_setCell];exact gC
   by_cases iL:k+1<H.length
   ·obtain⟨y,hy⟩:=Hk.out (k+1) iL
    rw[jdm hy]at hE
    have cy:(wr.setCell ⟨w.heap.size,k,none⟩ (iv x.at_)).cell? ⟨w.heap.size,k+1,none⟩=some (iv y):=by
     rw[wco _ _ _ _ (by simp)]
     exact hL (k+1) y (by omega) hy
    have oz:decide ((k:Int)+1<(H.length:Int))=true:=dte (by omega)
    have bR:(k:Int)+1<(H.length:Int):=by omega
    by_cases Gq:y<x.at_
    ·have nU:E[k]? =some y:=by rw[hE];congr 1;omega
     have hd:decide (y<x.at_)=true:=dte Gq
     have nY:Jc ((wr.setCell ⟨w.heap.size,k,none⟩ (iv x.at_)).drew.setCell ⟨w.heap.size,k,none⟩ (iv y)) w.heap.size E k:=fun i u hi hu=>by
      by_cases e:i=k
      ·subst e
       rw[nU]at hu;injection hu with hu;subst hu
       exact wcs _ _ _ k1
      ·rw[wco _ _ _ _ (by first|(simp;done)|(simp;omega))]
       show(wr.setCell ⟨w.heap.size,k,none⟩ (iv x.at_)).cell? ⟨w.heap.size,i,none⟩=_
       rw[wco _ _ _ _ (by first|(simp;done)|(simp;omega))]
       exact hL i u (by omega) hu
     have js:=hid nY
     have aM:Zg ((wr.setCell ⟨w.heap.size,k,none⟩ (iv x.at_)).drew.setCell ⟨w.heap.size,k,none⟩ (iv y)) w.heap.size H.length:=Zg.set (w:=(wr.setCell ⟨w.heap.size,k,none⟩ (iv x.at_)).drew) dn _ _
     clear hc hx hE nU nY hL hR hy
     go_wp2_with fail
     go_quiet (fail)
     go_wp2
     go_roundw
     case rel=>exact⟨k,by omega,by rfl,js.out,aM,(below_drewN aj _).setCell (nlr _) _⟩
     case measure=>simp[intOf]
    ·have nU:E[k]? =some x.at_:=by rw[hE];congr 1;omega
     have hd:decide (y<x.at_)=false:=dfe Gq
     have js:Hid (Jc (wr.setCell ⟨w.heap.size,k,none⟩ (iv x.at_)).drew w.heap.size E k):=(hL.set hR (by omega) nU).below (jab _)
     have aM:Zg (wr.setCell ⟨w.heap.size,k,none⟩ (iv x.at_)).drew w.heap.size H.length:=dn
     clear hc hx hE nU hL hR hy
     go_wp2_with fail
     go_quiet (fail)
     go_wp2
     go_roundw
     case rel=>exact⟨k,by omega,by rfl,js.out,aM,below_drewN aj _⟩
     case measure=>simp[intOf]
   ·have nU:E[k]? =some x.at_:=by rw[hE,yD.out (k+1) iL];congr 1;omega
    have oz:decide ((k:Int)+1<(H.length:Int))=false:=dfe (by omega)
    have js:Hid (Jc (wr.setCell ⟨w.heap.size,k,none⟩ (iv x.at_)).drew w.heap.size E k):=(hL.set hR (by omega) nU).below (jab _)
    have aM:Zg (wr.setCell ⟨w.heap.size,k,none⟩ (iv x.at_)).drew w.heap.size H.length:=dn
    clear hc hx hE nU hL hR
    go_wp2_with fail
    go_quiet (fail)
    go_wp2
    go_roundw
    case rel=>exact⟨k,by omega,by rfl,js.out,aM,below_drewN aj _⟩
    case measure=>simp[intOf]
def endS(e:EraD)(H:List HapD)(b:Int):Int:=if e.until_=253402300799 then 253402300799 else endE e H b
theorem jpp(e:EraD)(H:List HapD)(a:Option Addr)(ca:Nat)(b:Int)(w:World)(hA:Za w a 3 (H.map HapD.cs))(hn:H.length<=2000)(hf:e.format.size<=8000)(hl:∀t,(jas e H t).letter.size<=8000)(h1: -62135596800<=e.until_)(h2:e.until_<=253402300799)(h3: -86400<=e.offset)(h4:e.offset<=86400)(h5:∀t, -7200<=(jas e H t).save/\(jas e H t).save<=7200)(hb:b<=253402300799):
  Cl 126 #[e.v,.slice a H.length ca,iv b] w fun r W'=>r=.returned (iv (endS e H b))/\Bw w W':=by
 have ag:=qal w (.cells #[iv e.offset,.string e.rules,iv e.save,.string e.format,iv e.until_,.string e.of] 133)
 have gw:=fun x y w=>jgt x y w
 have Br:=fun x y w=>jgs x y w
 by_cases hu:e.until_=253402300799
 ·have HR:Hid (endS e H b=253402300799):=if_pos hu
  unfold EraD.v
  rw[hu]at ag ⊢
  unfold Cl;go_in
  go_wp2
  go_ret
  exact⟨ret_int HR.out.symm,ag⟩
 have HE:Hid (endS e H b=endE e H b):=if_neg hu
 have Pj:(e.until_==253402300799)=false:=by simpa using hu
 cases hs:(e.of.toList==[115])
 ·cases hw:(e.of.toList==[119])
  ·have HR:Hid (endS e H b=min 253402300799 (max b e.until_)):=by simp only[Hid];rw[HE.out];simp only[endE,endU];rw[hs,hw];simp only[Bool.false_eq_true,if_false];omega
   unfold EraD.v
   unfold Cl;go_in
   go_wp2_with fail
   refine(gw _ _ _).mono ?_
   rintro q w1 ⟨rfl,f9⟩
   have f9:=f9.symm
   subst f9
   go_wp2_with fail
   refine(Br _ _ _).mono ?_
   rintro q w1 ⟨rfl,f9⟩
   have f9:=f9.symm
   subst f9
   go_wp2
   go_ret
   exact⟨ret_int HR.out.symm,ag⟩
  ·have HR:Hid (endS e H b=min 253402300799 (max b (e.until_-(turnE e H (e.until_-e.offset-1)).offset))):=by
    simp only[Hid];rw[HE.out];simp only[endE,endU,turnE,jdl];rw[hs,hw];simp only[Bool.false_eq_true,if_false,if_true];omega
   have fv:=fun w (h:Za w a 3 (H.map HapD.cs))=>jgo e H a ca (e.until_-e.offset-1) w h hn hf hl h3 h4 h5
   have Kr: -100000<=(turnE e H (e.until_-e.offset-1)).offset/\(turnE e H (e.until_-e.offset-1)).offset<=100000:=by
    have:=h5 (e.until_-e.offset-1)
    simp only[turnE,jdl]
    omega
   generalize turnE e H (e.until_-e.offset-1)=X at *
   obtain⟨xa,xo,xs,xb⟩:=X
   simp only[TurnD.v,EraD.v]at fv
   simp only at HR Kr
   have qA:∀w,(Instr.field 167 (.agg #[iv xa,iv xo,iv xs,.string xb]) 1).run Tryz.prog w=.ok (iv xo) w:=fun _=>by kernel_rfl
   obtain⟨k0,k1,k2,k3,k4,k5⟩:(fun z:World=>z.cell? ⟨w.heap.size,0,none⟩=some (iv e.offset)/\z.cell? ⟨w.heap.size,1,none⟩=some (.string e.rules)/\z.cell? ⟨w.heap.size,2,none⟩=some (iv e.save)/\z.cell? ⟨w.heap.size,3,none⟩=some (.string e.format)/\z.cell? ⟨w.heap.size,4,none⟩=some (iv e.until_)/\z.cell? ⟨w.heap.size,5,none⟩=some (.string e.of)) (w.alloc (.cells #[iv e.offset,.string e.rules,iv e.save,.string e.format,iv e.until_,.string e.of] 133)):=by simp[go_sem]
   unfold EraD.v
   unfold Cl;go_in
   go_wp2_with fail
   generalize (w.alloc (.cells #[iv e.offset,.string e.rules,iv e.save,.string e.format,iv e.until_,.string e.of] 133))=W0 at *
   have bY:Bw w W0.drew:=ag.trans ((jab W0).mono ag.size)
   have AQ:=hA.below bY
   have KT:IntKind.i64.wrap (e.until_-e.offset)=e.until_-e.offset:=by rw[IntKind.wrap_i64];omega
   have KU:IntKind.i64.wrap (e.until_-e.offset-1)=e.until_-e.offset-1:=by rw[IntKind.wrap_i64];omega
   have KV:IntKind.i64.wrap (e.until_-xo)=e.until_-xo:=by rw[IntKind.wrap_i64];omega
   go_region_held3 (fun w'=>w'.cell? ⟨w.heap.size,0,none⟩=some (iv e.offset)/\w'.cell? ⟨w.heap.size,1,none⟩=some (.string e.rules)/\w'.cell? ⟨w.heap.size,2,none⟩=some (iv e.save)/\w'.cell? ⟨w.heap.size,3,none⟩=some (.string e.format)/\w'.cell? ⟨w.heap.size,4,none⟩=some (iv e.until_)/\w'.cell? ⟨w.heap.size,5,none⟩=some (.string e.of)) (go_keep) ((go_at_call 131;refine(fv _ AQ).mono ?_;rintro q w4 ⟨rfl,aD⟩;have q0:=jaa aD k0;have q1:=jaa aD k1;have q2:=jaa aD k2;have q3:=jaa aD k3;have q4:=jaa aD k4;have q5:=jaa aD k5))
   all_goals
    have aR:Bw w w4:=qtr bY aD
    go_wp2_with fail
    refine(gw _ _ _).mono ?_
    rintro q w5 ⟨rfl,oK⟩
    have oK:=oK.symm
    subst oK
    go_wp2_with fail
    refine(Br _ _ _).mono ?_
    rintro q w6 ⟨rfl,qO⟩
    have qO:=qO.symm
    subst qO
    go_wp2
    go_ret
    exact⟨ret_int HR.out.symm,aR⟩
 ·have HR:Hid (endS e H b=min 253402300799 (max b (e.until_-e.offset))):=by simp only[Hid];rw[HE.out];simp only[endE,endU];rw[hs];simp only[if_true];omega
  unfold EraD.v
  unfold Cl;go_in
  go_wp2_with fail
  refine(gw _ _ _).mono ?_
  rintro q w1 ⟨rfl,f9⟩
  have f9:=f9.symm
  subst f9
  go_wp2_with fail
  refine(Br _ _ _).mono ?_
  rintro q w1 ⟨rfl,f9⟩
  have f9:=f9.symm
  subst f9
  go_wp2
  go_ret
  exact⟨ret_int HR.out.symm,ag⟩
structure AddP(T:List TurnD)(x:TurnD)(base:Nat)(v:Value)(w:World)(q:Ending)(W':World):Prop where
 ex:∃v',q=.returned (.agg #[v'])/\Zf W' base v' (addT T x)/\Fr (fun b=>v.ownBlock=some b) w W'/\(v'.ownBlock=v.ownBlock\/∃g,v'.ownBlock=some g/\w.heap.size<=g)
theorem Fr.of_below_base{S:Nat->Prop}{w w':World}(h:Bw w w'):Fr S w w':=Fr.of_below h
theorem jcj{w1:World}{base:Nat}{v:Value}{T:List TurnD}{b0 o0:Nat}{u0:Value}(h:Zf w1 base v T)(az:v.ownBlock≠some b0):Zf (w1.setCell ⟨b0,o0,none⟩ u0) base v T:=World.ownsRow.kept h (jck w1 b0 o0 u0) (by cases hv:v.ownBlock with
 |none=>exact .inl rfl
 |some g=>exact .inr (by rw[<- hv];exact az))
theorem j1c{S:Nat->Prop}{w w1:World}{b o:Nat}{u:Value}(h:Fr S w w1)(hb:w.heap.size<=b):Fr S w (w1.setCell ⟨b,o,none⟩ u):=⟨h.os,h.tape,h.output,by simpa using h.size,fun k hk hs=>by
 rw[heap_setCell_other w1 ⟨b,o,none⟩ k u (fun e=>by simp at e;omega)]
 exact h.block k hk hs⟩
theorem jpq(T:List TurnD)(x:TurnD)(v:Value)(base:Nat)(w:World)(hT:Zf w base v T)(hb:base<=w.heap.size)(hl:T.length<=100000):
  Cl 129 #[.agg #[v],x.v] w fun q W'=>AddP T x base v w q W':=by
 obtain⟨i0,hi,aG,aH,aF⟩:=info_parts joe
 obtain⟨A,cap,jH,hS⟩:=hT.seq
 obtain⟨n,hn⟩:=qeb T.length
 rw[hn]at jH hl
 subst jH
 have lB:w.ownsRow base 167 4 (.slice A n cap) n (T.map TurnD.cs).flatten:=by unfold Zf at hT;rw[hn]at hT;exact hT
 have ag:=((qal w (.cells #[.slice A n cap] 138)).alloc (by simp) (.cells #[iv x.at_,iv x.offset,iv x.save,.string x.abbr] 167)).alloc (by simp;omega) (.cells #[nS] 138)
 have hlt:∀g,(Value.slice A n cap).ownBlock=some g->g<w.heap.size:=fun g hg=>(World.ownsRow.lt hT g hg).2
 have dv:Zf (((w.alloc (.cells #[.slice A n cap] 138)).alloc (.cells #[iv x.at_,iv x.offset,iv x.save,.string x.abbr] 167)).alloc (.cells #[nS] 138)) base (.slice A n cap) T:=woa (woa (woa hT _) _) _
 have ew:Fr (fun b=>(Value.slice A n cap).ownBlock=some b) w (((w.alloc (.cells #[.slice A n cap] 138)).alloc (.cells #[iv x.at_,iv x.offset,iv x.save,.string x.abbr] 167)).alloc (.cells #[nS] 138)):=Fr.of_below ag
 obtain⟨r0,b0,p0,p1,p2,p3,Av,Ao⟩:(fun z:World=>z.cell? ⟨w.heap.size+1+1,0,none⟩=some nS/\z.cell? ⟨w.heap.size,0,none⟩=some (.slice A n cap)/\z.cell? ⟨w.heap.size+1,0,none⟩=some (iv x.at_)/\z.cell? ⟨w.heap.size+1,1,none⟩=some (iv x.offset)/\z.cell? ⟨w.heap.size+1,2,none⟩=some (iv x.save)/\z.cell? ⟨w.heap.size+1,3,none⟩=some (.string x.abbr)/\z.frozen? ⟨w.heap.size+1+1,0,none⟩=false/\z.frozen? ⟨w.heap.size,0,none⟩=false) (((w.alloc (.cells #[.slice A n cap] 138)).alloc (.cells #[iv x.at_,iv x.offset,iv x.save,.string x.abbr] 167)).alloc (.cells #[nS] 138)):=by simp[go_sem]
 have dP:(((w.alloc (.cells #[.slice A n cap] 138)).alloc (.cells #[iv x.at_,iv x.offset,iv x.save,.string x.abbr] 167)).alloc (.cells #[nS] 138)).heap.size=w.heap.size+1+1+1:=by simp
 have kj:∀(g1 aC:Nat) (w1 wp:World) (o:Obj),Bw w wp->w.heap.size<=wp.heap.size->(((w.alloc (.cells #[.slice A n cap] 138)).alloc (.cells #[iv x.at_,iv x.offset,iv x.save,.string x.abbr] 167)).alloc (.cells #[nS] 138)).heap.size<=wp.heap.size->(∀bb oo vv,(((w.alloc (.cells #[.slice A n cap] 138)).alloc (.cells #[iv x.at_,iv x.offset,iv x.save,.string x.abbr] 167)).alloc (.cells #[nS] 138)).cell? ⟨bb,oo,none⟩=some vv->wp.cell? ⟨bb,oo,none⟩=some vv)->(∀bb oo,bb<(((w.alloc (.cells #[.slice A n cap] 138)).alloc (.cells #[iv x.at_,iv x.offset,iv x.save,.string x.abbr] 167)).alloc (.cells #[nS] 138)).heap.size->wp.frozen? ⟨bb,oo,none⟩=(((w.alloc (.cells #[.slice A n cap] 138)).alloc (.cells #[iv x.at_,iv x.offset,iv x.save,.string x.abbr] 167)).alloc (.cells #[nS] 138)).frozen? ⟨bb,oo,none⟩)->w1.ownsRow base 167 4 (.slice (some ⟨g1,0,none⟩) (n+1) aC) (n+1) ((T.map TurnD.cs).flatten++[iv x.at_,iv x.offset,iv x.save,.string x.abbr])->(wp.alloc o).grownBy w1 (Value.slice A n cap).ownBlock->((Value.slice A n cap).ownBlock=some g1\/w.heap.size+1+1+1<=g1)->addT T x=T++[x]->
   AddP T x base (.slice A n cap) w (.returned (.agg #[.slice (some ⟨g1,0,none⟩) (n+1) aC])) ((w1.setCell ⟨w.heap.size,0,none⟩ (.slice (some ⟨g1,0,none⟩) (n+1) aC)).setCell ⟨w.heap.size+1+1,0,none⟩ (.slice (some ⟨g1,0,none⟩) (n+1) aC))/\(w1.cell? ⟨w.heap.size,0,none⟩=some (.slice A n cap)/\w1.cell? ⟨w.heap.size+1+1,0,none⟩=some nS)/\(w1.frozen? ⟨w.heap.size,0,none⟩=false/\w1.frozen? ⟨w.heap.size+1+1,0,none⟩=false):=fun g1 aC w1 wp o J9 Ph ji xV qB ai dp bE hadd=>by
  have G9:∀k,w.heap.size<=k->some k≠(Value.slice A n cap).ownBlock:=fun k hk e=>by have:=hlt k e.symm;omega
  have hc:∀(k:Nat) oo vv,w.heap.size<=k->(((w.alloc (.cells #[.slice A n cap] 138)).alloc (.cells #[iv x.at_,iv x.offset,iv x.save,.string x.abbr] 167)).alloc (.cells #[nS] 138)).cell? ⟨k,oo,none⟩=some vv->w1.cell? ⟨k,oo,none⟩=some vv:=fun k oo vv hk h=>dp.cell (jaa (qal wp _) (xV k oo vv h)) (G9 k hk)
  have cQ:g1≠w.heap.size/\g1≠w.heap.size+1+1:=by
   rcases bE with h|h
   ·have:=hlt g1 h;omega
   ·omega
  have C0:∀k,w.heap.size<=k->k<(((w.alloc (.cells #[.slice A n cap] 138)).alloc (.cells #[iv x.at_,iv x.offset,iv x.save,.string x.abbr] 167)).alloc (.cells #[nS] 138)).heap.size->w1.frozen? ⟨k,0,none⟩=(((w.alloc (.cells #[.slice A n cap] 138)).alloc (.cells #[iv x.at_,iv x.offset,iv x.save,.string x.abbr] 167)).alloc (.cells #[nS] 138)).frozen? ⟨k,0,none⟩:=fun k hk fy=>(dp.frozen_far ⟨k,0,none⟩ (by simp;omega) (G9 k hk)).trans (((jaf (qal wp o)).2 _ _ (by omega)).trans (qB k 0 fy))
  have hO:Zf w1 base (.slice (some ⟨g1,0,none⟩) (n+1) aC) (T++[x]):=Zf.add (by rw[hn];exact ai)
  refine⟨⟨_,rfl,?_,?_,?_⟩,⟨hc _ 0 _ (nlr _) b0,hc _ 0 _ (by omega) r0⟩,(C0 _ (nlr _) (by rw[dP];omega)).trans Ao,(C0 _ (by omega) (by rw[dP];omega)).trans Av⟩
  ·rw[hadd]
   exact jcj (jcj hO (by simp[Value.ownBlock];omega)) (by simp[Value.ownBlock];omega)
  ·exact j1c (j1c (((Fr.of_below_base J9).trans (Fr.of_below (qal wp _))).trans (Fr.of_grown dp)) (nlr _)) (by omega)
  ·rcases bE with h|h
   ·exact .inl h.symm
   ·exact .inr ⟨g1,rfl,by omega⟩
 cases hL:T.getLast? with
 | none=>
  have fv:T=[]:=by simpa using hL
  have mE:n=0:=by rw[<- hn,fv];rfl
  have hadd:addT T x=T++[x]:=by rw[fv];rfl
  subst mE
  have dG:((((w.alloc (.cells #[.slice A 0 cap] 138)).alloc (.cells #[iv x.at_,iv x.offset,iv x.save,.string x.abbr] 167)).alloc (.cells #[nS] 138)).alloc (.cells #[iv x.at_,iv x.offset,iv x.save,.string x.abbr] 167)).ownsRow base 167 4 (.slice A 0 cap) 0 (T.map TurnD.cs).flatten:=woa (woa (woa (woa lB _) _) _) _
  have jJ:Hid _:=fun g1 aC w1=>kj g1 aC w1 (((w.alloc (.cells #[.slice A 0 cap] 138)).alloc (.cells #[iv x.at_,iv x.offset,iv x.save,.string x.abbr] 167)).alloc (.cells #[nS] 138)) (.cells #[iv x.at_,iv x.offset,iv x.save,.string x.abbr] 167) ag ag.size (nlr _) (fun _ _ _ h=>h) (fun _ _ _=>rfl)
  clear hL fv kj dv ew lB hS
  unfold TurnD.v
  unfold Cl;go_in
  go_wp2_with (first
   |(at_builtin;refine wpList_append_lies _ rfl _ _ 136 rfl base 167 i0 (.agg #[iv 0,iv 0,iv 0,.string ⟨#[]⟩]) 4 40 Tryz.underlying136 hi aG aH aF rfl (by decide) (.slice A 0 cap) 0 (T.map TurnD.cs).flatten rfl dG ⟨w.heap.size+1+1+1,0,none⟩ 1 1 [iv x.at_,iv x.offset,iv x.save,.string x.abbr] rfl rfl ?c1 ?c2 (by decide) ?c3 ?c4 ?c5 _ rfl ?_)
   |fail)
  case c1=>simpa using jah (((w.alloc (.cells #[.slice A 0 cap] 138)).alloc (.cells #[iv x.at_,iv x.offset,iv x.save,.string x.abbr] 167)).alloc (.cells #[nS] 138)) [iv x.at_,iv x.offset,iv x.save,.string x.abbr] 167
  case c2=>intro u hu;simp at hu;rcases hu with rfl|rfl|rfl|rfl<;>rfl
  case c3=>unfold maxLen;simp
  case c4=>simp
  case c5=>simp;omega
  intro g1 aC w1 av af bE hlt1
  obtain⟨hP,⟨q0,q1⟩,z0,z1⟩:=jJ.out g1 aC w1 av af (bE.imp id fun h=>by rw[h];omega) hadd
  have HP:Hid _:=hP
  have t0:(w1.setCell ⟨w.heap.size,0,none⟩ (.slice (some ⟨g1,0,none⟩) (0+1) aC)).cell? ⟨w.heap.size,0,none⟩=some (.slice (some ⟨g1,0,none⟩) (0+1) aC):=wcs _ _ _ q0
  have t2:(w1.setCell ⟨w.heap.size,0,none⟩ (.slice (some ⟨g1,0,none⟩) (0+1) aC)).cell? ⟨w.heap.size+1+1,0,none⟩=some nS:=by rw[wco _ _ _ _ (by simp)];exact q1
  have t1:((w1.setCell ⟨w.heap.size,0,none⟩ (.slice (some ⟨g1,0,none⟩) (0+1) aC)).setCell ⟨w.heap.size+1+1,0,none⟩ (.slice (some ⟨g1,0,none⟩) (0+1) aC)).cell? ⟨w.heap.size+1+1,0,none⟩=some (.slice (some ⟨g1,0,none⟩) (0+1) aC):=wcs _ _ _ t2
  clear av af bE hlt1 hP jJ dG r0 b0 p0 p1 p2 p3 Av Ao
  go_wp2
  exact bpr (v:=.agg #[.slice (some ⟨g1,0,none⟩) (0+1) aC]) (by simp[results,Tryz.results129,go_sem,t1]) rfl HP.out
 |some y=>
  obtain⟨m,hm⟩:∃m,n=m+1:=by
   cases T with
   |nil=>simp at hL
   |cons z Z=>exact⟨Z.length,by rw[<- hn];rfl⟩
  have hy:T[m]? =some y:=by rw[List.getLast?_eq_getElem?,hn,hm]at hL;exact hL
  subst hm
  obtain⟨b,o,ha,hc⟩:=hS.at (i:=m) (r:=y.cs) (by rw[lgm,hy];rfl)
  subst ha
  have c0:(((w.alloc (.cells #[.slice (some ⟨b,o,none⟩) (m+1) cap] 138)).alloc (.cells #[iv x.at_,iv x.offset,iv x.save,.string x.abbr] 167)).alloc (.cells #[nS] 138)).cell? ⟨b,o+m*4,none⟩=some (iv y.at_):=jaa ag (hc 0 _ rfl)
  have c1:=jaa ag (hc 1 _ rfl)
  have c2:=jaa ag (hc 2 _ rfl)
  have c3:=jaa ag (hc 3 _ rfl)
  have gg:=fun w=>jse x.at_ y.offset y.save x.offset x.save y.abbr x.abbr w
  have C5:=jk3
  have e1:jd6 ⟨x.at_,y.offset,y.save,y.abbr⟩ ⟨x.at_,x.offset,x.save,x.abbr⟩=jd6 y x:=rfl
  rw[e1]at gg
  have lE:(m:Int)<((m+1:Nat):Int):=by omega
  have uO:=(brf _ (((w.alloc (.cells #[.slice (some ⟨b,o,none⟩) (m+1) cap] 138)).alloc (.cells #[iv x.at_,iv x.offset,iv x.save,.string x.abbr] 167)).alloc (.cells #[nS] 138))).alloc (nlr _) (.cells #[iv x.at_,iv y.offset,iv y.save,.string y.abbr] 167)
  clear hc
  cases hl:jd6 y x
  ·have hadd:addT T x=T++[x]:=jms hL hl
   rw[hl]at gg
   have dG:(((((w.alloc (.cells #[.slice (some ⟨b,o,none⟩) (m+1) cap] 138)).alloc (.cells #[iv x.at_,iv x.offset,iv x.save,.string x.abbr] 167)).alloc (.cells #[nS] 138)).alloc (.cells #[iv x.at_,iv y.offset,iv y.save,.string y.abbr] 167)).alloc (.cells #[iv x.at_,iv x.offset,iv x.save,.string x.abbr] 167)).ownsRow base 167 4 (.slice (some ⟨b,o,none⟩) (m+1) cap) (m+1) (T.map TurnD.cs).flatten:=woa (woa (woa (woa (woa lB _) _) _) _) _
   have jJ:Hid _:=fun g1 aC w1=>kj g1 aC w1 ((((w.alloc (.cells #[.slice (some ⟨b,o,none⟩) (m+1) cap] 138)).alloc (.cells #[iv x.at_,iv x.offset,iv x.save,.string x.abbr] 167)).alloc (.cells #[nS] 138)).alloc (.cells #[iv x.at_,iv y.offset,iv y.save,.string y.abbr] 167)) (.cells #[iv x.at_,iv x.offset,iv x.save,.string x.abbr] 167) (qtr ag uO) (Nat.le_trans ag.size uO.size) uO.size (fun _ _ _ h=>jaa uO h) (fun _ _ h=>(jaf uO).2 _ _ h)
   clear hl hL e1 hS hy kj dv ew lB
   unfold TurnD.v
   unfold Cl;go_in
   go_wp2_with (first
    |(at_builtin;refine wpList_append_lies _ rfl _ _ 136 rfl base 167 i0 (.agg #[iv 0,iv 0,iv 0,.string ⟨#[]⟩]) 4 40 Tryz.underlying136 hi aG aH aF rfl (by decide) (.slice (some ⟨b,o,none⟩) (m+1) cap) (m+1) (T.map TurnD.cs).flatten rfl dG ⟨w.heap.size+1+1+1+1,0,none⟩ 1 1 [iv x.at_,iv x.offset,iv x.save,.string x.abbr] rfl rfl ?d1 ?d2 (by decide) ?d3 ?d4 ?d5 _ rfl ?_)
    |fail)
   case d1=>simpa using jah ((((w.alloc (.cells #[.slice (some ⟨b,o,none⟩) (m+1) cap] 138)).alloc (.cells #[iv x.at_,iv x.offset,iv x.save,.string x.abbr] 167)).alloc (.cells #[nS] 138)).alloc (.cells #[iv x.at_,iv y.offset,iv y.save,.string y.abbr] 167)) [iv x.at_,iv x.offset,iv x.save,.string x.abbr] 167
   case d2=>intro u hu;simp at hu;rcases hu with rfl|rfl|rfl|rfl<;>rfl
   case d3=>unfold maxLen;omega
   case d4=>omega
   case d5=>simp;omega
   intro g1 aC w1 av af bE hlt1
   obtain⟨hP,⟨q0,q1⟩,z0,z1⟩:=jJ.out g1 aC w1 av af (bE.imp id fun h=>by rw[h];omega) hadd
   have HP:Hid _:=hP
   have t0:(w1.setCell ⟨w.heap.size,0,none⟩ (.slice (some ⟨g1,0,none⟩) (m+1+1) aC)).cell? ⟨w.heap.size,0,none⟩=some (.slice (some ⟨g1,0,none⟩) (m+1+1) aC):=wcs _ _ _ q0
   have t2:(w1.setCell ⟨w.heap.size,0,none⟩ (.slice (some ⟨g1,0,none⟩) (m+1+1) aC)).cell? ⟨w.heap.size+1+1,0,none⟩=some nS:=by rw[wco _ _ _ _ (by simp)];exact q1
   have t1:((w1.setCell ⟨w.heap.size,0,none⟩ (.slice (some ⟨g1,0,none⟩) (m+1+1) aC)).setCell ⟨w.heap.size+1+1,0,none⟩ (.slice (some ⟨g1,0,none⟩) (m+1+1) aC)).cell? ⟨w.heap.size+1+1,0,none⟩=some (.slice (some ⟨g1,0,none⟩) (m+1+1) aC):=wcs _ _ _ t2
   clear av af bE hlt1 hP jJ dG r0 b0 p0 p1 p2 p3 Av Ao gg c0 c1 c2 c3
   go_wp2
   exact bpr (v:=.agg #[.slice (some ⟨g1,0,none⟩) (m+1+1) aC]) (by simp[results,Tryz.results129,go_sem,t1]) rfl HP.out
  ·have hadd:addT T x=T:=jef hL hl
   rw[hl]at gg
   have eO:Zf ((((w.alloc (.cells #[.slice (some ⟨b,o,none⟩) (m+1) cap] 138)).alloc (.cells #[iv x.at_,iv x.offset,iv x.save,.string x.abbr] 167)).alloc (.cells #[.slice (some ⟨b,o,none⟩) (m+1) cap] 138)).alloc (.cells #[iv x.at_,iv y.offset,iv y.save,.string y.abbr] 167)) base (.slice (some ⟨b,o,none⟩) (m+1) cap) T:=woa (woa (woa (woa hT _) _) _) _
   have ch:Fr (fun tj=>(Value.slice (some ⟨b,o,none⟩) (m+1) cap).ownBlock=some tj) w ((((w.alloc (.cells #[.slice (some ⟨b,o,none⟩) (m+1) cap] 138)).alloc (.cells #[iv x.at_,iv x.offset,iv x.save,.string x.abbr] 167)).alloc (.cells #[.slice (some ⟨b,o,none⟩) (m+1) cap] 138)).alloc (.cells #[iv x.at_,iv y.offset,iv y.save,.string y.abbr] 167)):=Fr.of_below (((((qal w _).alloc (by simp) _).alloc (by simp;omega) _)).alloc (by simp;omega) _)
   have HP:Hid (AddP T x base (.slice (some ⟨b,o,none⟩) (m+1) cap) w (.returned (.agg #[.slice (some ⟨b,o,none⟩) (m+1) cap])) ((((w.alloc (.cells #[.slice (some ⟨b,o,none⟩) (m+1) cap] 138)).alloc (.cells #[iv x.at_,iv x.offset,iv x.save,.string x.abbr] 167)).alloc (.cells #[.slice (some ⟨b,o,none⟩) (m+1) cap] 138)).alloc (.cells #[iv x.at_,iv y.offset,iv y.save,.string y.abbr] 167))):=⟨_,rfl,by rw[hadd];exact eO,ch,.inl rfl⟩
   clear hl hL e1 hS hy kj dv ew lB eO ch
   unfold TurnD.v
   unfold Cl;go_in
   go_wp2
   exact bpr (v:=.agg #[.slice (some ⟨b,o,none⟩) (m+1) cap]) (by simp[results,Tryz.results129,go_sem]) rfl HP.out
