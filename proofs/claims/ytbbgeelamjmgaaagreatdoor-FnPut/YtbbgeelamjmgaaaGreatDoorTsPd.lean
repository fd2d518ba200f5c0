import Derived.Test.YtbbgeelamjmgaaaGreatDoorTbPd
set_option maxRecDepth 20000
set_option maxHeartbeats 0
set_option linter.unusedSimpArgs false
open Go.RowKit Go.Sort
namespace Go.Proofs.YtbbgeelamjmgaaaGreatDoor
variable{w w1:World}
theorem jlr(H:List Z5)(a:Option Addr)(ca:Nat)(t:Int)(w:World)(hA:Za w a 3 (H.map Z5.cs))(hl:H.length<=2000):
  C 216 #[U a H.length ca,J t] w λe w'=>e=V (jdd H (hcnt H t)).v/\Bw w w':=by
 have HA:Hid (∀(k:Nat) (x:Z5),H[k]? =some x->x.YX=0->(∀j y,j<k->H[j]? =some y->y.YX≠0)->jb4 H=x.ZR):=λk x h1 h2 h3=>jo2 h1 h2 h3
 have HN:Hid ((∀j y,j<H.length->H[j]? =some y->y.YX≠0)->jb4 H=⟨#[]⟩):=λh=>jjp λx hx=>by
  have⟨j,hj⟩:=lgo hx;exact h j x (pO hj).1 hj
 have ag:=ZA w (G #[J 0,J 0,Rn] 223);have eK:=hA.below ag;obtain⟨r0,r1,r2,f0,f1,f2⟩:(λz:World=>z.cell? ⟨w.heap.size,0,none⟩=some (J 0)/\z.cell? ⟨w.heap.size,1,none⟩=some (J 0)/\z.cell? ⟨w.heap.size,2,none⟩=some (Rn)/\z.frozen? ⟨w.heap.size,0,none⟩=false/\z.frozen? ⟨w.heap.size,1,none⟩=false/\z.frozen? ⟨w.heap.size,2,none⟩=false) (w.alloc (G #[J 0,J 0,Rn] 223)):=RQ;have Hl:Hid (∀k x,jdx H t (k+1)=hcnt H t->H[k]? =some x->x.at_<=t->jdd H (hcnt H t)=x):=λk x h1 h2 h3=>by
  rw[<- h1,jot h2 h3];simp only[jdd];rw[h2];rfl
 have yG:Hid (jdx H t 0=hcnt H t->jdd H (hcnt H t)=⟨0,0,jb4 H⟩):=λh=>by rw[<- h];rfl
 have xe:Hid (jdx H t H.length=hcnt H t):=rfl;generalize hF:jdd H (hcnt H t)=F at *;clear hF;generalize hcnt H t=c at *;unfold C;go_in;go_wp2;generalize (w.alloc (G #[J 0,J 0,Rn] 223))=W at *;go_loopw [5] (λs5 wr=>∃m:Nat,m<=H.length/\s5=J ((m:Int)-1)/\Hid (jdx H t m=c)/\wr=W) (λs5 _=>(intOf s5+1).toNat)
 .exact⟨H.length,ZD _,rfl,xe,rfl⟩
 ·
  have⟨m,hm,gG,hC,hw⟩:=hrel;subst hw;cases m with
  |zero=>
   subst gG;have HF:Hid (F=⟨0,0,jb4 H⟩):=yG.out hC.out;go_wp2;go_loopw [6] (λs6 wq=>∃k:Nat,k<=H.length/\s6=J k/\Hid (∀j y,j<k->H[j]? =some y->y.YX≠0)/\wq=wr) (λs6 _=>H.length-(intOf s6).toNat)
   .exact⟨0,Q,rfl,λj y h=>Q,rfl⟩
   ·
    obtain⟨k,hk,rfl,hN,hw⟩:=hrel;subst hw;by_cases hlt:k<H.length
    .have⟨x,hx⟩:=DV hlt
     obtain⟨b,o,rfl,hc⟩:=eK.at (i:=k) (r:=x.cs) (by rw[Z8,hx];rfl);have c1:=hc 1 _ rfl;have c2:=hc 2 _ rfl;have eY:(k:Int)<(H.length:Int):=Q;by_cases h0:x.YX=0
     .have HR:Hid (F=⟨0,0,x.ZR⟩):=by simp only[Hid];rw[HF.out,HA.out k x hx h0 hN.out]
      rw[h0]at c1;clear hc hx hN;have⟨s0,s1,s2⟩:=jc8 (v0:=J 0) (v1:=J 0) (v2:=I x.ZR) r0 r1 r2;go_wp2;exact ZM (v:=.agg #[J 0,J 0,I x.ZR]) (by simp[results,Tryz.results216,go_sem,s0,s1,s2]) rfl ⟨by rw[HR.out];rfl,((ag.setCell (ZD _) _).setCell (ZD _) _).setCell (ZD _) _⟩
     .have HR:Hid (∀j y,j<k+1->H[j]? =some y->y.YX≠0):=λj y hj hy=>by
       by_cases e:j=k
       .subst e;rw[hx]at hy;injection hy with hy;subst hy;exact h0
       .exact hN.out j y Q hy
      clear hc hx hN;go_wp2;go_roundw
      .exact⟨k+1,Q,RP,HR,trivial⟩
      .simp[intOf];omega
    .have HR:Hid (F=⟨0,0,⟨#[]⟩⟩):=by simp only[Hid];rw[HF.out,HN.out λj y hj hy=>hN.out j y Q hy]
     have eY:¬(k:Int)<(H.length:Int):=Q;have⟨s0,s1,s2⟩:=jc8 (v0:=J 0) (v1:=J 0) (v2:=Rn) r0 r1 r2;clear hN;go_wp2;exact ZM (v:=.agg #[J 0,J 0,Rn]) (by simp[results,Tryz.results216,go_sem,s0,s1,s2]) rfl ⟨by rw[HR.out];rfl,((ag.setCell (ZD _) _).setCell (ZD _) _).setCell (ZD _) _⟩
  | succ k=>
   rw[show(((k+1:Nat):Int)-1)=(k:Int) by omega]at gG;subst gG;obtain⟨x,hx⟩:∃x,H[k]? =some x:=⟨_,ZV Q⟩;obtain⟨b,o,rfl,hc⟩:=eK.at (i:=k) (r:=x.cs) (by rw[Z8,hx];rfl);have c0:wr.cell? ⟨b,o+k*3,none⟩=some (J x.at_):=hc 0 _ rfl;have c1:=hc 1 _ rfl;have c2:=hc 2 _ rfl;have eY:(k:Int)<(H.length:Int):=Q;by_cases ht:x.at_<=t
   .have HR:Hid (F=x):=Hl.out k x hC.out hx ht
    have⟨s0,s1,s2⟩:=jc8 (v0:=J x.at_) (v1:=J x.YX) (v2:=I x.ZR) r0 r1 r2;clear hc hx hC;go_wp2;exact ZM (v:=.agg #[J x.at_,J x.YX,I x.ZR]) (by simp[results,Tryz.results216,go_sem,s0,s1,s2]) rfl ⟨by rw[HR.out];rfl,((ag.setCell (ZD _) _).setCell (ZD _) _).setCell (ZD _) _⟩
   .have HC:Hid (jdx H t k=c):=by simp only[Hid];rw[<- jtx hx Q];exact hC.out
    clear hc hx hC;go_wp2;go_roundw
    .exact⟨k,Q,rfl,HC,trivial⟩
    .simp[intOf]
theorem jgp(e:ZH)(F:Z5)(t:Int)(w:World)(hf:e.mr.size<=8000)(hl:F.ZR.size<=8000)(h3: -86400<=e.Zq)(h4:e.Zq<=86400)(h5: -7200<=F.YX)(h6:F.YX<=7200):
  C 181 #[e.v,F.v,J t] w λr W'=>r=V (jdl e F t).v/\Bw w W':=by
 have hA:∀w,C 215 #[I e.mr,I F.ZR,J F.YX] w λr w'=>r=V (I (jki e.mr F.ZR F.YX))/\Bw w w':=λw=>(jm7 e.mr F.ZR F.YX w hf hl).mono (by
  rintro r w' ⟨rfl,n,rfl⟩
  exact⟨by rw[jjv ⟨hf,hl⟩],below_drewN (ZU _ _) _⟩)
 have HR:Hid ((jdl e F t).v=.agg #[J t,J (e.Zq+F.YX),J F.YX,I (jki e.mr F.ZR F.YX)]):=rfl;generalize jki e.mr F.ZR F.YX=ab at *;generalize (jdl e F t).v=RV at *;have ag:=(((ZA w (G #[J e.Zq,I e.Vv,J e.YX,I e.mr,J e.ZO,I e.of] 154)).alloc M (G #[J F.at_,J F.YX,I F.ZR] 223)).alloc RO (G #[J 0,J 0,J 0,Rn] 195));have⟨W,hW⟩:=ZL ((((w.alloc (G #[J e.Zq,I e.Vv,J e.YX,I e.mr,J e.ZO,I e.of] 154)).alloc (G #[J F.at_,J F.YX,I F.ZR] 223)).alloc (G #[J 0,J 0,J 0,Rn] 195)));rw[hW]at ag;have k0:W.cell? ⟨w.heap.size,0,none⟩=some (J e.Zq):=by rw[<- hW];simp[go_sem]
 have k3:W.cell? ⟨w.heap.size,3,none⟩=some (I e.mr):=by rw[<- hW];simp[go_sem]
 have l1:W.cell? ⟨w.heap.size+1,1,none⟩=some (J F.YX):=by rw[<- hW];simp[go_sem]
 have l2:W.cell? ⟨w.heap.size+1,2,none⟩=some (I F.ZR):=by rw[<- hW];simp[go_sem]
 have r0:W.cell? ⟨w.heap.size+1+1,0,none⟩=some (J 0):=by rw[<- hW];simp[go_sem]
 have r1:W.cell? ⟨w.heap.size+1+1,1,none⟩=some (J 0):=by rw[<- hW];simp[go_sem]
 have r2:W.cell? ⟨w.heap.size+1+1,2,none⟩=some (J 0):=by rw[<- hW];simp[go_sem]
 have r3:W.cell? ⟨w.heap.size+1+1,3,none⟩=some (Rn):=by rw[<- hW];simp[go_sem]
 have f0:∀j,j<4->W.frozen? ⟨w.heap.size+1+1,j,none⟩=false:=by rw[<- hW];exact λj hj=>RQ
 unfold ZH.v Z5.v;unfold C;go_in;go_wp2_with fail
 (try rw[hW])
 clear hW;have bY:Bw w W.drew:=ag.trans ((rW W).mono ag.size);have gF:¬w.heap.size+1+1=w.heap.size:=Q;have vk:¬w.heap.size=w.heap.size+1+1:=Q;have KS:IntKind.i64.wrap (e.Zq+F.YX)=e.Zq+F.YX:=by rw[IntKind.wrap_i64];omega
 go_region_held3 (λw'=>w'.cell? ⟨w.heap.size,0,none⟩=some (J e.Zq)/\w'.cell? ⟨w.heap.size,3,none⟩=some (I e.mr)/\w'.cell? ⟨w.heap.size+1,1,none⟩=some (J F.YX)/\w'.cell? ⟨w.heap.size+1,2,none⟩=some (I F.ZR)) (go_keep) ((go_at_call 215;refine(hA _).mono ?_;rintro r w4 ⟨rfl,hb⟩;have q0:=YR hb k0;have q3:=YR hb k3;have p1:=YR hb l1;have p2:=YR hb l2;have s0:=YR hb r0;have s1:=YR hb r1;have s2:=YR hb r2;have s3:=YR hb r3;have z0:w4.frozen? ⟨w.heap.size+1+1,0,none⟩=false:=((Z4 hb).2 _ _ (ZI r0)).trans (f0 0 Q);have z1:w4.frozen? ⟨w.heap.size+1+1,1,none⟩=false:=((Z4 hb).2 _ _ (ZI r0)).trans (f0 1 Q);have z2:w4.frozen? ⟨w.heap.size+1+1,2,none⟩=false:=((Z4 hb).2 _ _ (ZI r0)).trans (f0 2 Q);have z3:w4.frozen? ⟨w.heap.size+1+1,3,none⟩=false:=((Z4 hb).2 _ _ (ZI r0)).trans (f0 3 Q)))
 all_goals
  go_wp2;have hB:Bw w w4:=Zp bY hb;have⟨u0,u1,u2,u3⟩:=jfo (v0:=J t) (v1:=J (e.Zq+F.YX)) (v2:=J F.YX) (v3:=I ab) s0 s1 s2 s3;exact ZM (v:=.agg #[J t,J (e.Zq+F.YX),J F.YX,I ab]) (by simp[results,Tryz.results181,go_sem,u0,u1,u2,u3]) rfl ⟨by rw[HR.out],(((hB.setCell (show w.heap.size<=w.heap.size+1+1 by omega) _).setCell (show w.heap.size<=w.heap.size+1+1 by omega) _).setCell (show w.heap.size<=w.heap.size+1+1 by omega) _).setCell (show w.heap.size<=w.heap.size+1+1 by omega) _⟩
theorem jgo(e:ZH)(H:List Z5)(a:Option Addr)(ca:Nat)(t:Int)(w:World)(hA:Za w a 3 (H.map Z5.cs))(hn:H.length<=2000)(hf:e.mr.size<=8000)(hl:∀t,(Mv e H t).ZR.size<=8000)(h3: -86400<=e.Zq)(h4:e.Zq<=86400)(h5:∀t, -7200<=(Mv e H t).YX/\(Mv e H t).YX<=7200):
  C 182 #[e.v,U a H.length ca,J t] w λr W'=>r=V (yO e H t).v/\Bw w W':=by
 have ag:=(ZA w (G #[J e.Zq,I e.Vv,J e.YX,I e.mr,J e.ZO,I e.of] 154)).alloc M (G #[J 0,J 0,J 0,Rn] 195);obtain⟨k0,k1,k2,k3,k4,k5,r0,r1,r2,r3⟩:(λz:World=>z.cell? ⟨w.heap.size,0,none⟩=some (J e.Zq)/\z.cell? ⟨w.heap.size,1,none⟩=some (I e.Vv)/\z.cell? ⟨w.heap.size,2,none⟩=some (J e.YX)/\z.cell? ⟨w.heap.size,3,none⟩=some (I e.mr)/\z.cell? ⟨w.heap.size,4,none⟩=some (J e.ZO)/\z.cell? ⟨w.heap.size,5,none⟩=some (I e.of)/\z.cell? ⟨w.heap.size+1,0,none⟩=some (J 0)/\z.cell? ⟨w.heap.size+1,1,none⟩=some (J 0)/\z.cell? ⟨w.heap.size+1,2,none⟩=some (J 0)/\z.cell? ⟨w.heap.size+1,3,none⟩=some (Rn)) ((w.alloc (G #[J e.Zq,I e.Vv,J e.YX,I e.mr,J e.ZO,I e.of] 154)).alloc (G #[J 0,J 0,J 0,Rn] 195)):=RQ;have f0:∀j,j<4->((w.alloc (G #[J e.Zq,I e.Vv,J e.YX,I e.mr,J e.ZO,I e.of] 154)).alloc (G #[J 0,J 0,J 0,Rn] 195)).frozen? ⟨w.heap.size+1,j,none⟩=false:=λj hj=>RQ
 have ko:=λw=>jgp e (Mv e H t) t w hf (hl t) h3 h4 (h5 t).1 (h5 t).2
 have HR:Hid (yO e H t=jdl e (Mv e H t) t):=rfl;by_cases h0:e.Vv.size=0
 .have hr:e.Vv=⟨#[]⟩:=jf1 (l:=[]) (by rw[<- List.length_eq_zero_iff,Rm];exact h0)
  rw[jjm h0]at ko HR;generalize jdl e ⟨0,e.YX,⟨#[]⟩⟩ t=X at *;obtain⟨xa,xo,xs,xb⟩:=X;simp only[Z5.v,ZK.v,ZH.v]at ko;rw[hr]at ko ag k0 k1 k2 k3 k4 k5 r0 r1 r2 r3 f0;unfold ZH.v;unfold C;go_in;go_wp2_with fail;refine(ko _).mono ?_;rintro q w1 ⟨rfl,hb1⟩;have s0:=YR hb1 r0;have s1:=YR hb1 r1;have s2:=YR hb1 r2;have s3:=YR hb1 r3;have z0:w1.frozen? ⟨w.heap.size+1,0,none⟩=false:=((Z4 hb1).2 _ _ (ZI r0)).trans (f0 0 Q);have z1:w1.frozen? ⟨w.heap.size+1,1,none⟩=false:=((Z4 hb1).2 _ _ (ZI r0)).trans (f0 1 Q);have z2:w1.frozen? ⟨w.heap.size+1,2,none⟩=false:=((Z4 hb1).2 _ _ (ZI r0)).trans (f0 2 Q);have z3:w1.frozen? ⟨w.heap.size+1,3,none⟩=false:=((Z4 hb1).2 _ _ (ZI r0)).trans (f0 3 Q);have aj:=ag.trans (hb1.mono RO);have⟨u0,u1,u2,u3⟩:=jfo (v0:=J xa) (v1:=J xo) (v2:=J xs) (v3:=I xb) s0 s1 s2 s3;clear hb1;go_wp2;exact ZM (v:=.agg #[J xa,J xo,J xs,I xb]) (by simp[results,Tryz.results182,go_sem,u0,u1,u2,u3]) rfl ⟨by rw[HR.out];rfl,(((aj.setCell (vQs _) _).setCell (vQs _) _).setCell (vQs _) _).setCell (vQs _) _⟩
 .have az:e.Vv.toList.isEmpty=false:=by
   cases h:e.Vv.toList with
   |nil=>exact absurd (by rw[vbh]at h;rw[<- Rm,h];rfl) h0
   |cons x l=>rfl
  have Bh:=λw (h:Za w a 3 (H.map Z5.cs))=>jlr H a ca t w h hn
  rw[<- jen (e:=e) h0]at Bh;generalize Mv e H t=F at *;obtain⟨fa,fs,fl⟩:=F;generalize jdl e ⟨fa,fs,fl⟩ t=X at *;obtain⟨xa,xo,xs,xb⟩:=X;simp only[Z5.v,ZK.v,ZH.v]at ko Bh;unfold ZH.v;unfold C;go_in;go_wp2_with fail;generalize ((w.alloc (G #[J e.Zq,I e.Vv,J e.YX,I e.mr,J e.ZO,I e.of] 154)).alloc (G #[J 0,J 0,J 0,Rn] 195))=W0 at *;have bY:Bw w W0.drew:=ag.trans ((rW W0).mono ag.size);have AQ:=hA.below bY;have gF:¬w.heap.size+1=w.heap.size:=Q;have vk:¬w.heap.size=w.heap.size+1:=Q;go_region_held3 (λw'=>w'.cell? ⟨w.heap.size,0,none⟩=some (J e.Zq)/\w'.cell? ⟨w.heap.size,1,none⟩=some (I e.Vv)/\w'.cell? ⟨w.heap.size,2,none⟩=some (J e.YX)/\w'.cell? ⟨w.heap.size,3,none⟩=some (I e.mr)/\w'.cell? ⟨w.heap.size,4,none⟩=some (J e.ZO)/\w'.cell? ⟨w.heap.size,5,none⟩=some (I e.of)) (go_keep) (first|(go_at_call 216;refine(Bh _ AQ).mono ?_;rintro q w4 ⟨rfl,hb⟩;have q0:=YR hb k0;have q1:=YR hb k1;have q2:=YR hb k2;have q3:=YR hb k3;have q4:=YR hb k4;have q5:=YR hb k5)|(go_at_call 181;refine(ko _).mono ?_;rintro q w5 ⟨rfl,aV⟩;have p0:=YR aV q0;have p1:=YR aV q1;have p2:=YR aV q2;have p3:=YR aV q3;have p4:=YR aV q4;have p5:=YR aV q5;have s0:=YR aV (YR hb r0);have s1:=YR aV (YR hb r1);have s2:=YR aV (YR hb r2);have s3:=YR aV (YR hb r3);have z0:w5.frozen? ⟨w.heap.size+1,0,none⟩=false:=((Z4 aV).2 _ _ (ZI (YR hb r0))).trans (((Z4 hb).2 _ _ (ZI r0)).trans (f0 0 Q));have z1:w5.frozen? ⟨w.heap.size+1,1,none⟩=false:=((Z4 aV).2 _ _ (ZI (YR hb r0))).trans (((Z4 hb).2 _ _ (ZI r0)).trans (f0 1 Q));have z2:w5.frozen? ⟨w.heap.size+1,2,none⟩=false:=((Z4 aV).2 _ _ (ZI (YR hb r0))).trans (((Z4 hb).2 _ _ (ZI r0)).trans (f0 2 Q));have z3:w5.frozen? ⟨w.heap.size+1,3,none⟩=false:=((Z4 aV).2 _ _ (ZI (YR hb r0))).trans (((Z4 hb).2 _ _ (ZI r0)).trans (f0 3 Q))))
  all_goals
   go_wp2;have aR:Bw w w4:=Zp bY hb;have aj:Bw w w5:=Zp aR aV;have⟨u0,u1,u2,u3⟩:=jfo (v0:=J xa) (v1:=J xo) (v2:=J xs) (v3:=I xb) s0 s1 s2 s3;exact ZM (v:=.agg #[J xa,J xo,J xs,I xb]) (by simp[results,Tryz.results182,go_sem,u0,u1,u2,u3]) rfl ⟨by rw[HR.out];rfl,(((aj.setCell (vQs _) _).setCell (vQs _) _).setCell (vQs _) _).setCell (vQs _) _⟩
theorem jgq(H:List Z5)(a:Option Addr)(ca:Nat)(w:World)(hA:Za w a 3 (H.map Z5.cs))(hl:H.length<=2000)(hH:∀h∈H,h.at_<=253402300799):
  C 179 #[U a H.length ca] w λe w'=>e=V (U (some ⟨w.heap.size,0,none⟩) H.length H.length)/\Jc w' w.heap.size (Gr H) 0/\Bw w w':=by
 have⟨i0,hi,aG,aH,aF⟩:=jwo;have⟨w1,dk,ai,dp⟩:=run_make_full (P:=Tryz.prog) w w.heap.size 90 2 i0 _ 1 Tryz.underlying90 hi aG aH .i64 .i64 H.length (by rw[aF];omega) (by unfold maxLen;omega) (ZD _);have hR:=jd4 ai;rw[Nat.mul_one]at hR;have hB:Bw w w1:=(ZU _ _).grown dp (ZD _) (λk hk=>by cases hk);have lc:Hid (∀(k:Nat) (h:Z5),H[k]? =some h->(Gr H)[k]? =some (min (D4 (Gr H) (k+1)) h.at_)):=λk h hh=>vcO hh
 have Hk:Hid (∀k,k<H.length->∃y,(Gr H)[k]? =some y):=λk hk=>⟨_,ZV (by rw[jcc];exact hk)⟩
 have yD:Hid (∀k,¬k<H.length->D4 (Gr H) k=253402300799):=λk hk=>jip (by rw[jcc];omega)
 have HH:=hid hH;have tL:Jc w1 w.heap.size (Gr H) H.length:=λi t h1 h2=>by have:=(pO h2).1;rw[jcc]at this;omega
 clear hH;generalize Gr H=E at *;clear hi aG aH aF ai dp;unfold C;go_in;go_wp2;go_loopw [4] (λs4 wr=>∃m:Nat,m<=H.length/\s4=J ((m:Int)-1)/\Jc wr w.heap.size E m/\Zg wr w.heap.size H.length/\Bw w wr) (λs4 _=>(intOf s4+1).toNat)
 .exact⟨H.length,ZD _,rfl,tL,hR,hB⟩
 ·
  clear hR hB dk tL;have⟨m,hm,mN,hL,hR,hB⟩:=hrel;cases m with
  |zero=>
   subst mN;go_wp2;go_ret;exact⟨rfl,hL,hB⟩
  |succ k=>
   rw[show(((k+1:Nat):Int)-1)=(k:Int) by omega]at mN;subst mN;obtain⟨x,hx⟩:∃x,H[k]? =some x:=⟨_,ZV Q⟩;obtain⟨b,o,rfl,hc⟩:=(hA.below hB).at (i:=k) (r:=x.cs) (by rw[Z8,hx];rfl);have c0:wr.cell? ⟨b,o+k*3,none⟩=some (J x.at_):=hc 0 _ rfl;have hE:=lc.out k x hx;have vM:=HH.out x (ui hx);have⟨⟨u0,iR⟩,gC⟩:=hR k Q;have eY:(k:Int)<(H.length:Int):=Q;have dn:=hR.set ⟨w.heap.size,k,none⟩ (J x.at_);have aj:Bw w (wr.setCell ⟨w.heap.size,k,none⟩ (J x.at_)):=hB.setCell (ZD _) _;have k1:(wr.setCell ⟨w.heap.size,k,none⟩ (J x.at_)).cell? ⟨w.heap.size,k,none⟩=some (J x.at_):=Bf _ _ _ iR;have kf:(wr.setCell ⟨w.heap.size,k,none⟩ (J x.at_)).frozen? ⟨w.heap.size,k,none⟩=false:=by rw[World.frozen?_setCell];exact gC
   by_cases iL:k+1<H.length
   .have⟨y,hy⟩:=Hk.out (k+1) iL
    rw[jdm hy]at hE;have cy:(wr.setCell ⟨w.heap.size,k,none⟩ (J x.at_)).cell? ⟨w.heap.size,k+1,none⟩=some (J y):=by
     rw[ZT _ _ _ _ M];exact hL (k+1) y Q hy
    have oz:decide ((k:Int)+1<(H.length:Int))=true:=rT Q;have bR:(k:Int)+1<(H.length:Int):=Q;by_cases Gq:y<x.at_
    .have nU:E[k]? =some y:=by rw[hE];congr 1;omega
     have hd:decide (y<x.at_)=true:=rT Gq;have nY:Jc ((wr.setCell ⟨w.heap.size,k,none⟩ (J x.at_)).drew.setCell ⟨w.heap.size,k,none⟩ (J y)) w.heap.size E k:=λi u hi hu=>by
      by_cases e:i=k
      .subst e
       rw[nU]at hu;injection hu with hu;subst hu
       exact Bf _ _ _ k1
      .rw[ZT _ _ _ _ (by first|(simp;done)|(simp;omega))]
       show(wr.setCell ⟨w.heap.size,k,none⟩ (J x.at_)).cell? ⟨w.heap.size,i,none⟩=_
       rw[ZT _ _ _ _ (by first|(simp;done)|(simp;omega))];exact hL i u Q hu
     have js:=hid nY;have aM:Zg ((wr.setCell ⟨w.heap.size,k,none⟩ (J x.at_)).drew.setCell ⟨w.heap.size,k,none⟩ (J y)) w.heap.size H.length:=Zg.set (w:=(wr.setCell ⟨w.heap.size,k,none⟩ (J x.at_)).drew) dn _ _;clear hc hx hE nU nY hL hR hy;go_wp2_with fail;go_quiet (fail);go_wp2;go_roundw
     .exact⟨k,Q,Si,js.out,aM,(below_drewN aj _).setCell (ZD _) _⟩
     .simp[intOf]
    .have nU:E[k]? =some x.at_:=by rw[hE];congr 1;omega
     have hd:decide (y<x.at_)=false:=dfe Gq;have js:Hid (Jc (wr.setCell ⟨w.heap.size,k,none⟩ (J x.at_)).drew w.heap.size E k):=(hL.set hR Q nU).below (rW _);have aM:Zg (wr.setCell ⟨w.heap.size,k,none⟩ (J x.at_)).drew w.heap.size H.length:=dn;clear hc hx hE nU hL hR hy;go_wp2_with fail;go_quiet (fail);go_wp2;go_roundw
     .exact⟨k,Q,Si,js.out,aM,below_drewN aj _⟩
     .simp[intOf]
   .have nU:E[k]? =some x.at_:=by rw[hE,yD.out (k+1) iL];congr 1;omega
    have oz:decide ((k:Int)+1<(H.length:Int))=false:=dfe Q;have js:Hid (Jc (wr.setCell ⟨w.heap.size,k,none⟩ (J x.at_)).drew w.heap.size E k):=(hL.set hR Q nU).below (rW _);have aM:Zg (wr.setCell ⟨w.heap.size,k,none⟩ (J x.at_)).drew w.heap.size H.length:=dn;clear hc hx hE nU hL hR;go_wp2_with fail;go_quiet (fail);go_wp2;go_roundw
    .exact⟨k,Q,Si,js.out,aM,below_drewN aj _⟩
    .simp[intOf]
def vbT(e:ZH)(H:List Z5)(b:Int):Int:=if e.ZO=253402300799 then 253402300799 else OV e H b
theorem jpp(e:ZH)(H:List Z5)(a:Option Addr)(ca:Nat)(b:Int)(w:World)(hA:Za w a 3 (H.map Z5.cs))(hn:H.length<=2000)(hf:e.mr.size<=8000)(hl:∀t,(Mv e H t).ZR.size<=8000)(h1: -62135596800<=e.ZO)(h2:e.ZO<=253402300799)(h3: -86400<=e.Zq)(h4:e.Zq<=86400)(h5:∀t, -7200<=(Mv e H t).YX/\(Mv e H t).YX<=7200)(hb:b<=253402300799):
  C 177 #[e.v,U a H.length ca,J b] w λr W'=>r=V (J (vbT e H b))/\Bw w W':=by
 have ag:=ZA w (G #[J e.Zq,I e.Vv,J e.YX,I e.mr,J e.ZO,I e.of] 154);have gw:=λx y w=>jgt x y w
 have Br:=λx y w=>jgs x y w
 by_cases hu:e.ZO=253402300799
 .have HR:Hid (vbT e H b=253402300799):=if_pos hu
  unfold ZH.v;rw[hu]at ag ⊢;unfold C;go_in;go_wp2;go_ret;exact⟨Fh HR.out.symm,ag⟩
 have HE:Hid (vbT e H b=OV e H b):=if_neg hu;have Pj:(e.ZO==253402300799)=false:=by simpa using hu
 cases hs:(e.of.toList==[115])
 .cases hw:(e.of.toList==[119])
  .have HR:Hid (vbT e H b=min 253402300799 (max b e.ZO)):=by simp only[Hid];rw[HE.out];simp only[OV,vck];rw[hs,hw];simp only[Bool.false_eq_true,if_false];omega
   unfold ZH.v;unfold C;go_in;go_wp2_with fail;refine(gw _ _ _).mono ?_;rintro q w1 ⟨rfl,f9⟩;have f9:=f9.symm;subst f9;go_wp2_with fail;refine(Br _ _ _).mono ?_;rintro q w1 ⟨rfl,f9⟩;have f9:=f9.symm;subst f9;go_wp2;go_ret;exact⟨Fh HR.out.symm,ag⟩
  .have HR:Hid (vbT e H b=min 253402300799 (max b (e.ZO-(yO e H (e.ZO-e.Zq-1)).Zq))):=by
    simp only[Hid];rw[HE.out];simp only[OV,vck,yO,jdl];rw[hs,hw];simp only[Bool.false_eq_true,if_false,if_true];omega
   have fv:=λw (h:Za w a 3 (H.map Z5.cs))=>jgo e H a ca (e.ZO-e.Zq-1) w h hn hf hl h3 h4 h5
   have Kr: -100000<=(yO e H (e.ZO-e.Zq-1)).Zq/\(yO e H (e.ZO-e.Zq-1)).Zq<=100000:=by
    have:=h5 (e.ZO-e.Zq-1);simp only[yO,jdl];omega
   generalize yO e H (e.ZO-e.Zq-1)=X at *;obtain⟨xa,xo,xs,xb⟩:=X;simp only[ZK.v,ZH.v]at fv;simp only at HR Kr;have qA:∀w,(Instr.field 195 (.agg #[J xa,J xo,J xs,I xb]) 1).run Tryz.prog w=.ok (J xo) w:=λ_=>RG
   obtain⟨k0,k1,k2,k3,k4,k5⟩:(λz:World=>z.cell? ⟨w.heap.size,0,none⟩=some (J e.Zq)/\z.cell? ⟨w.heap.size,1,none⟩=some (I e.Vv)/\z.cell? ⟨w.heap.size,2,none⟩=some (J e.YX)/\z.cell? ⟨w.heap.size,3,none⟩=some (I e.mr)/\z.cell? ⟨w.heap.size,4,none⟩=some (J e.ZO)/\z.cell? ⟨w.heap.size,5,none⟩=some (I e.of)) (w.alloc (G #[J e.Zq,I e.Vv,J e.YX,I e.mr,J e.ZO,I e.of] 154)):=RQ;unfold ZH.v;unfold C;go_in;go_wp2_with fail;generalize (w.alloc (G #[J e.Zq,I e.Vv,J e.YX,I e.mr,J e.ZO,I e.of] 154))=W0 at *;have bY:Bw w W0.drew:=ag.trans ((rW W0).mono ag.size);have AQ:=hA.below bY;have KT:IntKind.i64.wrap (e.ZO-e.Zq)=e.ZO-e.Zq:=by rw[IntKind.wrap_i64];omega
   have KU:IntKind.i64.wrap (e.ZO-e.Zq-1)=e.ZO-e.Zq-1:=by rw[IntKind.wrap_i64];omega
   have KV:IntKind.i64.wrap (e.ZO-xo)=e.ZO-xo:=by rw[IntKind.wrap_i64];omega
   go_region_held3 (λw'=>w'.cell? ⟨w.heap.size,0,none⟩=some (J e.Zq)/\w'.cell? ⟨w.heap.size,1,none⟩=some (I e.Vv)/\w'.cell? ⟨w.heap.size,2,none⟩=some (J e.YX)/\w'.cell? ⟨w.heap.size,3,none⟩=some (I e.mr)/\w'.cell? ⟨w.heap.size,4,none⟩=some (J e.ZO)/\w'.cell? ⟨w.heap.size,5,none⟩=some (I e.of)) (go_keep) ((go_at_call 182;refine(fv _ AQ).mono ?_;rintro q w4 ⟨rfl,aD⟩;have q0:=YR aD k0;have q1:=YR aD k1;have q2:=YR aD k2;have q3:=YR aD k3;have q4:=YR aD k4;have q5:=YR aD k5))
   all_goals
    have aR:Bw w w4:=Zp bY aD;go_wp2_with fail;refine(gw _ _ _).mono ?_;rintro q w5 ⟨rfl,oK⟩;have oK:=oK.symm;subst oK;go_wp2_with fail;refine(Br _ _ _).mono ?_;rintro q w6 ⟨rfl,qO⟩;have qO:=qO.symm;subst qO;go_wp2;go_ret;exact⟨Fh HR.out.symm,aR⟩
 .have HR:Hid (vbT e H b=min 253402300799 (max b (e.ZO-e.Zq))):=by simp only[Hid];rw[HE.out];simp only[OV,vck];rw[hs];simp only[if_true];omega
  unfold ZH.v;unfold C;go_in;go_wp2_with fail;refine(gw _ _ _).mono ?_;rintro q w1 ⟨rfl,f9⟩;have f9:=f9.symm;subst f9;go_wp2_with fail;refine(Br _ _ _).mono ?_;rintro q w1 ⟨rfl,f9⟩;have f9:=f9.symm;subst f9;go_wp2;go_ret;exact⟨Fh HR.out.symm,ag⟩
structure vdN(T:List ZK)(x:ZK)(base:Nat)(v:Value)(w:World)(q:Ending)(W':World):Prop where
 ex:∃v',q=V (.agg #[v'])/\Zf W' base v' (LP T x)/\Fr (λb=>v.ownBlock=some b) w W'/\(v'.ownBlock=v.ownBlock\/∃g,v'.ownBlock=some g/\w.heap.size<=g)
theorem Fr.vhV{S:Nat->Prop}{w':World}(h:Bw w w'):Fr S w w':=Fr.of_below h
theorem jcj{base:Nat}{v:Value}{T:List ZK}{b0 o0:Nat}{u0:Value}(h:Zf w1 base v T)(az:v.ownBlock≠some b0):Zf (w1.setCell ⟨b0,o0,none⟩ u0) base v T:=World.ownsRow.kept h (jck w1 b0 o0 u0) (by cases hv:v.ownBlock with
 |none=>exact .inl rfl
 |some g=>exact .inr (by rw[<- hv];exact az))
theorem j1c{S:Nat->Prop}{b o:Nat}{u:Value}(h:Fr S w w1)(hb:w.heap.size<=b):Fr S w (w1.setCell ⟨b,o,none⟩ u):=⟨h.os,h.tape,h.output,by simpa using h.size,λk hk hs=>by
 rw[heap_setCell_other w1 ⟨b,o,none⟩ k u (λe=>by simp at e;omega)]
 exact h.block k hk hs⟩
theorem jpq(T:List ZK)(x:ZK)(v:Value)(base:Nat)(w:World)(hT:Zf w base v T)(hb:base<=w.heap.size)(hl:T.length<=100000):
  C 180 #[.agg #[v],x.v] w λq W'=>vdN T x base v w q W':=by
 have⟨i0,hi,aG,aH,aF⟩:=info_parts joe;have⟨A,cap,jH,hS⟩:=hT.seq;have⟨n,hn⟩:=ZL T.length;rw[hn]at jH hl;subst jH;have lB:w.ownsRow base 195 4 (U A n cap) n (T.map ZK.cs).flatten:=by unfold Zf at hT;rw[hn]at hT;exact hT
 have ag:=((ZA w (G #[U A n cap] 158)).alloc M (G #[J x.at_,J x.Zq,J x.YX,I x.uh] 195)).alloc RO (G #[nS] 158);have hlt:∀g,(U A n cap).ownBlock=some g->g<w.heap.size:=λg hg=>(World.ownsRow.lt hT g hg).2
 have dv:Zf (((w.alloc (G #[U A n cap] 158)).alloc (G #[J x.at_,J x.Zq,J x.YX,I x.uh] 195)).alloc (G #[nS] 158)) base (U A n cap) T:=nO (nO (nO hT _) _) _;have ew:Fr (λb=>(U A n cap).ownBlock=some b) w (((w.alloc (G #[U A n cap] 158)).alloc (G #[J x.at_,J x.Zq,J x.YX,I x.uh] 195)).alloc (G #[nS] 158)):=Fr.of_below ag;obtain⟨r0,b0,p0,p1,p2,p3,Av,Ao⟩:(λz:World=>z.cell? ⟨w.heap.size+1+1,0,none⟩=some nS/\z.cell? ⟨w.heap.size,0,none⟩=some (U A n cap)/\z.cell? ⟨w.heap.size+1,0,none⟩=some (J x.at_)/\z.cell? ⟨w.heap.size+1,1,none⟩=some (J x.Zq)/\z.cell? ⟨w.heap.size+1,2,none⟩=some (J x.YX)/\z.cell? ⟨w.heap.size+1,3,none⟩=some (I x.uh)/\z.frozen? ⟨w.heap.size+1+1,0,none⟩=false/\z.frozen? ⟨w.heap.size,0,none⟩=false) (((w.alloc (G #[U A n cap] 158)).alloc (G #[J x.at_,J x.Zq,J x.YX,I x.uh] 195)).alloc (G #[nS] 158)):=RQ;have dP:(((w.alloc (G #[U A n cap] 158)).alloc (G #[J x.at_,J x.Zq,J x.YX,I x.uh] 195)).alloc (G #[nS] 158)).heap.size=w.heap.size+1+1+1:=M;have kj:∀(g1 aC:Nat) (w1 wp:World) (o:Obj),Bw w wp->w.heap.size<=wp.heap.size->(((w.alloc (G #[U A n cap] 158)).alloc (G #[J x.at_,J x.Zq,J x.YX,I x.uh] 195)).alloc (G #[nS] 158)).heap.size<=wp.heap.size->(∀bb oo vv,(((w.alloc (G #[U A n cap] 158)).alloc (G #[J x.at_,J x.Zq,J x.YX,I x.uh] 195)).alloc (G #[nS] 158)).cell? ⟨bb,oo,none⟩=some vv->wp.cell? ⟨bb,oo,none⟩=some vv)->(∀bb oo,bb<(((w.alloc (G #[U A n cap] 158)).alloc (G #[J x.at_,J x.Zq,J x.YX,I x.uh] 195)).alloc (G #[nS] 158)).heap.size->wp.frozen? ⟨bb,oo,none⟩=(((w.alloc (G #[U A n cap] 158)).alloc (G #[J x.at_,J x.Zq,J x.YX,I x.uh] 195)).alloc (G #[nS] 158)).frozen? ⟨bb,oo,none⟩)->w1.ownsRow base 195 4 (U (some ⟨g1,0,none⟩) (n+1) aC) (n+1) ((T.map ZK.cs).flatten++[J x.at_,J x.Zq,J x.YX,I x.uh])->(wp.alloc o).grownBy w1 (U A n cap).ownBlock->((U A n cap).ownBlock=some g1\/w.heap.size+1+1+1<=g1)->LP T x=T++[x]->
   vdN T x base (U A n cap) w (V (.agg #[U (some ⟨g1,0,none⟩) (n+1) aC])) ((w1.setCell ⟨w.heap.size,0,none⟩ (U (some ⟨g1,0,none⟩) (n+1) aC)).setCell ⟨w.heap.size+1+1,0,none⟩ (U (some ⟨g1,0,none⟩) (n+1) aC))/\(w1.cell? ⟨w.heap.size,0,none⟩=some (U A n cap)/\w1.cell? ⟨w.heap.size+1+1,0,none⟩=some nS)/\(w1.frozen? ⟨w.heap.size,0,none⟩=false/\w1.frozen? ⟨w.heap.size+1+1,0,none⟩=false):=λg1 aC w1 wp o J9 Ph ji xV qB ai dp bE hadd=>by
  have G9:∀k,w.heap.size<=k->some k≠(U A n cap).ownBlock:=λk hk e=>by have:=hlt k e.symm;omega
  have hc:∀(k:Nat) oo vv,w.heap.size<=k->(((w.alloc (G #[U A n cap] 158)).alloc (G #[J x.at_,J x.Zq,J x.YX,I x.uh] 195)).alloc (G #[nS] 158)).cell? ⟨k,oo,none⟩=some vv->w1.cell? ⟨k,oo,none⟩=some vv:=λk oo vv hk h=>dp.cell (YR (ZA wp _) (xV k oo vv h)) (G9 k hk)
  have cQ:g1≠w.heap.size/\g1≠w.heap.size+1+1:=by
   rcases bE with h|h
   .have:=hlt g1 h;omega
   .omega
  have C0:∀k,w.heap.size<=k->k<(((w.alloc (G #[U A n cap] 158)).alloc (G #[J x.at_,J x.Zq,J x.YX,I x.uh] 195)).alloc (G #[nS] 158)).heap.size->w1.frozen? ⟨k,0,none⟩=(((w.alloc (G #[U A n cap] 158)).alloc (G #[J x.at_,J x.Zq,J x.YX,I x.uh] 195)).alloc (G #[nS] 158)).frozen? ⟨k,0,none⟩:=λk hk fy=>(dp.frozen_far ⟨k,0,none⟩ RO (G9 k hk)).trans (((Z4 (ZA wp o)).2 _ _ Q).trans (qB k 0 fy))
  have hO:Zf w1 base (U (some ⟨g1,0,none⟩) (n+1) aC) (T++[x]):=Zf.add (by rw[hn];exact ai);refine⟨⟨_,rfl,?_,?_,?_⟩,⟨hc _ 0 _ (ZD _) b0,hc _ 0 _ Q r0⟩,(C0 _ (ZD _) (by rw[dP];omega)).trans Ao,(C0 _ Q (by rw[dP];omega)).trans Av⟩
  .rw[hadd]
   exact jcj (jcj hO (by simp[Value.ownBlock];omega)) (by simp[Value.ownBlock];omega)
  .exact j1c (j1c (((Fr.vhV J9).trans (Fr.of_below (ZA wp _))).trans (Fr.vaT dp)) (ZD _)) Q
  .rcases bE with h|h
   .exact .inl h.symm
   .exact .inr ⟨g1,rfl,Q⟩
 cases hL:T.getLast? with
 | none=>
  have fv:T=[]:=by simpa using hL
  have mE:n=0:=by rw[<- hn,fv];rfl
  have hadd:LP T x=T++[x]:=by rw[fv];rfl
  subst mE;have dG:((((w.alloc (G #[U A 0 cap] 158)).alloc (G #[J x.at_,J x.Zq,J x.YX,I x.uh] 195)).alloc (G #[nS] 158)).alloc (G #[J x.at_,J x.Zq,J x.YX,I x.uh] 195)).ownsRow base 195 4 (U A 0 cap) 0 (T.map ZK.cs).flatten:=nO (nO (nO (nO lB _) _) _) _;have jJ:Hid _:=λg1 aC w1=>kj g1 aC w1 (((w.alloc (G #[U A 0 cap] 158)).alloc (G #[J x.at_,J x.Zq,J x.YX,I x.uh] 195)).alloc (G #[nS] 158)) (G #[J x.at_,J x.Zq,J x.YX,I x.uh] 195) ag ag.size (ZD _) (λ_ _ _ h=>h) (λ_ _ _=>rfl)
  clear hL fv kj dv ew lB hS;unfold ZK.v;unfold C;go_in
  go_wp2_with (first
   |(at_builtin;refine wpList_append_lies _ rfl _ _ 156 rfl base 195 i0 (.agg #[J 0,J 0,J 0,.string ⟨#[]⟩]) 4 40 Tryz.underlying156 hi aG aH aF rfl RN (.slice A 0 cap) 0 (T.map ZK.cs).flatten rfl dG ⟨w.heap.size+1+1+1,0,none⟩ 1 1 [J x.at_,J x.Zq,J x.YX,.string x.uh] rfl rfl ?c1 ?c2 RN ?c3 ?c4 ?c5 _ rfl ?_)
   |fail)
  case c1=>simpa using Ka (((w.alloc (G #[U A 0 cap] 158)).alloc (G #[J x.at_,J x.Zq,J x.YX,I x.uh] 195)).alloc (G #[nS] 158)) [J x.at_,J x.Zq,J x.YX,I x.uh] 195
  case c2=>intro u hu;simp at hu;rcases hu with rfl|rfl|rfl|rfl<;>rfl
  case c3=>unfold maxLen;simp
  case c4=>simp
  case c5=>simp;omega
  intro g1 aC w1 av af bE hlt1;have⟨hP,⟨q0,q1⟩,z0,z1⟩:=jJ.out g1 aC w1 av af (bE.imp id λh=>by rw[h];omega) hadd;have HP:Hid _:=hP;have t0:(w1.setCell ⟨w.heap.size,0,none⟩ (U (some ⟨g1,0,none⟩) (0+1) aC)).cell? ⟨w.heap.size,0,none⟩=some (U (some ⟨g1,0,none⟩) (0+1) aC):=Bf _ _ _ q0;have t2:(w1.setCell ⟨w.heap.size,0,none⟩ (U (some ⟨g1,0,none⟩) (0+1) aC)).cell? ⟨w.heap.size+1+1,0,none⟩=some nS:=by rw[ZT _ _ _ _ M];exact q1
  have t1:((w1.setCell ⟨w.heap.size,0,none⟩ (U (some ⟨g1,0,none⟩) (0+1) aC)).setCell ⟨w.heap.size+1+1,0,none⟩ (U (some ⟨g1,0,none⟩) (0+1) aC)).cell? ⟨w.heap.size+1+1,0,none⟩=some (U (some ⟨g1,0,none⟩) (0+1) aC):=Bf _ _ _ t2;clear av af bE hlt1 hP jJ dG r0 b0 p0 p1 p2 p3 Av Ao;go_wp2;exact ZM (v:=.agg #[U (some ⟨g1,0,none⟩) (0+1) aC]) (by simp[results,Tryz.results180,go_sem,t1]) rfl HP.out
 |some y=>
  obtain⟨m,hm⟩:∃m,n=m+1:=by
   cases T with
   |nil=>simp at hL
   |cons z vZZ=>exact⟨vZZ.length,by rw[<- hn];rfl⟩
  have hy:T[m]? =some y:=by rw[List.getLast?_eq_getElem?,hn,hm]at hL;exact hL
  subst hm;have⟨b,o,ha,hc⟩:=hS.at (i:=m) (r:=y.cs) (by rw[Z8,hy];rfl);subst ha;have c0:(((w.alloc (G #[U (some ⟨b,o,none⟩) (m+1) cap] 158)).alloc (G #[J x.at_,J x.Zq,J x.YX,I x.uh] 195)).alloc (G #[nS] 158)).cell? ⟨b,o+m*4,none⟩=some (J y.at_):=YR ag (hc 0 _ rfl);have c1:=YR ag (hc 1 _ rfl);have c2:=YR ag (hc 2 _ rfl);have c3:=YR ag (hc 3 _ rfl);have gg:=λw=>jse x.at_ y.Zq y.YX x.Zq x.YX y.uh x.uh w
  have C5:=jk3;have e1:jd6 ⟨x.at_,y.Zq,y.YX,y.uh⟩ ⟨x.at_,x.Zq,x.YX,x.uh⟩=jd6 y x:=rfl;rw[e1]at gg;have lE:(m:Int)<((m+1:Nat):Int):=Q;have uO:=(ZU _ (((w.alloc (G #[U (some ⟨b,o,none⟩) (m+1) cap] 158)).alloc (G #[J x.at_,J x.Zq,J x.YX,I x.uh] 195)).alloc (G #[nS] 158))).alloc (ZD _) (G #[J x.at_,J y.Zq,J y.YX,I y.uh] 195);clear hc;cases hl:jd6 y x
  .have hadd:LP T x=T++[x]:=jms hL hl
   rw[hl]at gg;have dG:(((((w.alloc (G #[U (some ⟨b,o,none⟩) (m+1) cap] 158)).alloc (G #[J x.at_,J x.Zq,J x.YX,I x.uh] 195)).alloc (G #[nS] 158)).alloc (G #[J x.at_,J y.Zq,J y.YX,I y.uh] 195)).alloc (G #[J x.at_,J x.Zq,J x.YX,I x.uh] 195)).ownsRow base 195 4 (U (some ⟨b,o,none⟩) (m+1) cap) (m+1) (T.map ZK.cs).flatten:=nO (nO (nO (nO (nO lB _) _) _) _) _;have jJ:Hid _:=λg1 aC w1=>kj g1 aC w1 ((((w.alloc (G #[U (some ⟨b,o,none⟩) (m+1) cap] 158)).alloc (G #[J x.at_,J x.Zq,J x.YX,I x.uh] 195)).alloc (G #[nS] 158)).alloc (G #[J x.at_,J y.Zq,J y.YX,I y.uh] 195)) (G #[J x.at_,J x.Zq,J x.YX,I x.uh] 195) (Zp ag uO) (Nat.le_trans ag.size uO.size) uO.size (λ_ _ _ h=>YR uO h) (λ_ _ h=>(Z4 uO).2 _ _ h)
   clear hl hL e1 hS hy kj dv ew lB;unfold ZK.v;unfold C;go_in
   go_wp2_with (first
    |(at_builtin;refine wpList_append_lies _ rfl _ _ 156 rfl base 195 i0 (.agg #[J 0,J 0,J 0,.string ⟨#[]⟩]) 4 40 Tryz.underlying156 hi aG aH aF rfl RN (.slice (some ⟨b,o,none⟩) (m+1) cap) (m+1) (T.map ZK.cs).flatten rfl dG ⟨w.heap.size+1+1+1+1,0,none⟩ 1 1 [J x.at_,J x.Zq,J x.YX,.string x.uh] rfl rfl ?d1 ?d2 RN ?d3 ?d4 ?d5 _ rfl ?_)
    |fail)
   case d1=>simpa using Ka ((((w.alloc (G #[U (some ⟨b,o,none⟩) (m+1) cap] 158)).alloc (G #[J x.at_,J x.Zq,J x.YX,I x.uh] 195)).alloc (G #[nS] 158)).alloc (G #[J x.at_,J y.Zq,J y.YX,I y.uh] 195)) [J x.at_,J x.Zq,J x.YX,I x.uh] 195
   case d2=>intro u hu;simp at hu;rcases hu with rfl|rfl|rfl|rfl<;>rfl
   case d3=>unfold maxLen;omega
   case d4=>omega
   case d5=>simp;omega
   intro g1 aC w1 av af bE hlt1;have⟨hP,⟨q0,q1⟩,z0,z1⟩:=jJ.out g1 aC w1 av af (bE.imp id λh=>by rw[h];omega) hadd;have HP:Hid _:=hP;have t0:(w1.setCell ⟨w.heap.size,0,none⟩ (U (some ⟨g1,0,none⟩) (m+1+1) aC)).cell? ⟨w.heap.size,0,none⟩=some (U (some ⟨g1,0,none⟩) (m+1+1) aC):=Bf _ _ _ q0;have t2:(w1.setCell ⟨w.heap.size,0,none⟩ (U (some ⟨g1,0,none⟩) (m+1+1) aC)).cell? ⟨w.heap.size+1+1,0,none⟩=some nS:=by rw[ZT _ _ _ _ M];exact q1
   have t1:((w1.setCell ⟨w.heap.size,0,none⟩ (U (some ⟨g1,0,none⟩) (m+1+1) aC)).setCell ⟨w.heap.size+1+1,0,none⟩ (U (some ⟨g1,0,none⟩) (m+1+1) aC)).cell? ⟨w.heap.size+1+1,0,none⟩=some (U (some ⟨g1,0,none⟩) (m+1+1) aC):=Bf _ _ _ t2;clear av af bE hlt1 hP jJ dG r0 b0 p0 p1 p2 p3 Av Ao gg c0 c1 c2 c3;go_wp2;exact ZM (v:=.agg #[U (some ⟨g1,0,none⟩) (m+1+1) aC]) (by simp[results,Tryz.results180,go_sem,t1]) rfl HP.out
  .have hadd:LP T x=T:=jef hL hl
   rw[hl]at gg;have eO:Zf ((((w.alloc (G #[U (some ⟨b,o,none⟩) (m+1) cap] 158)).alloc (G #[J x.at_,J x.Zq,J x.YX,I x.uh] 195)).alloc (G #[U (some ⟨b,o,none⟩) (m+1) cap] 158)).alloc (G #[J x.at_,J y.Zq,J y.YX,I y.uh] 195)) base (U (some ⟨b,o,none⟩) (m+1) cap) T:=nO (nO (nO (nO hT _) _) _) _;have ch:Fr (λtj=>(U (some ⟨b,o,none⟩) (m+1) cap).ownBlock=some tj) w ((((w.alloc (G #[U (some ⟨b,o,none⟩) (m+1) cap] 158)).alloc (G #[J x.at_,J x.Zq,J x.YX,I x.uh] 195)).alloc (G #[U (some ⟨b,o,none⟩) (m+1) cap] 158)).alloc (G #[J x.at_,J y.Zq,J y.YX,I y.uh] 195)):=Fr.of_below (((((ZA w _).alloc M _).alloc RO _)).alloc RO _);have HP:Hid (vdN T x base (U (some ⟨b,o,none⟩) (m+1) cap) w (V (.agg #[U (some ⟨b,o,none⟩) (m+1) cap])) ((((w.alloc (G #[U (some ⟨b,o,none⟩) (m+1) cap] 158)).alloc (G #[J x.at_,J x.Zq,J x.YX,I x.uh] 195)).alloc (G #[U (some ⟨b,o,none⟩) (m+1) cap] 158)).alloc (G #[J x.at_,J y.Zq,J y.YX,I y.uh] 195))):=⟨_,rfl,by rw[hadd];exact eO,ch,.inl rfl⟩;clear hl hL e1 hS hy kj dv ew lB eO ch;unfold ZK.v;unfold C;go_in;go_wp2;exact ZM (v:=.agg #[U (some ⟨b,o,none⟩) (m+1) cap]) (by simp[results,Tryz.results180,go_sem]) rfl HP.out
