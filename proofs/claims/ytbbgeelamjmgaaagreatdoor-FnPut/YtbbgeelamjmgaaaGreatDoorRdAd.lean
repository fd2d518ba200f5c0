import Derived.Test.YtbbgeelamjmgaaaGreatDoorSRd
set_option maxRecDepth 20000
set_option maxHeartbeats 0
set_option linter.unusedSimpArgs false
open Go.RowKit
namespace Go.Proofs.YtbbgeelamjmgaaaGreatDoor
variable{W W2 w w0 wA wM:World}{i q r:Nat}{E:ZH}{v x:Value}{R:ZQ}{a le on:ByteArray}{h l mo:Int}
def E8(E:ZH):Prop:=E.Vv.size<=8000/\E.mr.size<=8000/\E.of.size<=8000
structure vdS(w:World)(e:Ending)(w':World):Prop where
 ex:∃(E:ZH) (m k:Bool),e=V (.tuple #[E.v,.bool m,.bool k])/\E8 E/\Bw w w'
structure vbv(w0 W:World)(q r:Nat)(E:ZH):Prop where
 c:∀j x,E.cs[j]? =some x->W.cell? (O q j)=some x
 d:∀j,j<6->∃x,W.cell? (O r j)=some x
 f:∀j,W.frozen? (O q j)=false
 g:∀j,W.frozen? (O r j)=false
 ZB:Bw w0 W
 hq:w0.heap.size<=q
 hr:w0.heap.size<=r
 ne:q≠r
theorem vbv.call(h:vbv w0 W q r E)(hb:Bw W W2):vbv w0 W2 q r E where
 c j x hx:=Z6 (h.c j x hx) hb
 d j hj:=by have⟨x,hx⟩:=h.d j hj;exact⟨x,Z6 hx hb⟩
 f j:=((Z4 hb).2 _ _ (ZI (h.c 0 _ rfl))).trans (h.f j)
 g j:=by have⟨x,hx⟩:=h.d 0 Q;exact((Z4 hb).2 _ _ (ZI hx)).trans (h.g j)
 ZB:=h.ZB.trans (hb.mono h.ZB.size)
 hq:=h.hq
 hr:=h.hr
 ne:=h.ne
theorem vbv.set{E':ZH}(h:vbv w0 W q r E)(hx:E.cs[i]? =some x)(he:E'.cs=E.cs.set i v):vbv w0 (W.setCell (O q i) v) q r E' where
 c j u hu:=by
  rw[he]at hu;by_cases hj:i=j
  .subst hj
   rw[List.getElem?_set_self (pO hx).1]at hu;obtain rfl:=Z9 hu;exact Bf _ _ _ (h.c i x hx)
  .rw[List.getElem?_set_ne hj]at hu
   rw[ZT _ _ _ _ vQj];exact h.c j u hu
 d j hj:=by
  have⟨u,hu⟩:=h.d j hj;have:=h.ne;exact⟨u,by rw[ZT _ _ _ _ vQj];exact hu⟩
 f j:=by rw[World.frozen?_setCell];exact h.f j
 g j:=by rw[World.frozen?_setCell];exact h.g j
 ZB:=h.ZB.setCell h.hq _
 hq:=h.hq
 hr:=h.hr
 ne:=h.ne
def vc0:ZH:=⟨0,⟨#[]⟩,0,⟨#[]⟩,253402300799,⟨#[119]⟩⟩
theorem ve4(w:World):vbv w ((w.alloc (G #[J 0,Rn,J 0,Rn,J 0,Rn] 154)).alloc (G #[J 0,Rn,J 0,Rn,J 253402300799,I ⟨#[119]⟩] 154)) (w.heap.size+1) w.heap.size vc0 where
 c j x hx:=by
  have hj:=(pO hx).1;simp[ZH.cs]at hj;obtain rfl|rfl|rfl|rfl|rfl|rfl:j=0\/j=1\/j=2\/j=3\/j=4\/j=5:=Q
  all_goals
   obtain rfl:=Z9 hx;simp[go_sem,vc0]
 d j hj:=by
  obtain rfl|rfl|rfl|rfl|rfl|rfl:j=0\/j=1\/j=2\/j=3\/j=4\/j=5:=Q
  all_goals exact⟨_,by simp[go_sem];rfl⟩
 f j:=RQ
 g j:=RQ
 ZB:=(ZA w _).alloc M _
 hq:=Q
 hr:=Q
 ne:=Q
def vbr(W:World)(r:Nat)(E:ZH):World:=(((((W.setCell (O r 0) (J E.Zq)).setCell (O r 1) (I E.Vv)).setCell (O r 2) (J E.YX)).setCell (O r 3) (I E.mr)).setCell (O r 4) (J E.ZO)).setCell (O r 5) (I E.of)
theorem ved(E:ZH)(h:∀j,j<6->∃x,W.cell? (O r j)=some x):
  (vbr W r E).cell? (O r 0)=some (J E.Zq)/\(vbr W r E).cell? (O r 1)=some (I E.Vv)/\(vbr W r E).cell? (O r 2)=some (J E.YX)/\(vbr W r E).cell? (O r 3)=some (I E.mr)/\(vbr W r E).cell? (O r 4)=some (J E.ZO)/\(vbr W r E).cell? (O r 5)=some (I E.of):=by
 have o:∀(W:World) (i j:Nat) (v x:Value),i≠j->W.cell? (O r j)=some x->(W.setCell (O r i) v).cell? (O r j)=some x:=λW i j v x eF hx=>by
  rw[ZT _ _ _ _ vQj];exact hx
 have s:∀(W:World) (i:Nat) (v:Value),(∃x,W.cell? (O r i)=some x)->(W.setCell (O r i) v).cell? (O r i)=some v:=λW i v ⟨x,hx⟩=>Bf _ _ _ hx
 have⟨x1,h1⟩:=h 1 Q;have⟨x2,h2⟩:=h 2 Q;have⟨x3,h3⟩:=h 3 Q;have⟨x4,h4⟩:=h 4 Q;have⟨x5,h5⟩:=h 5 Q;unfold vbr
 exact⟨o _ 5 0 _ _ Q (o _ 4 0 _ _ Q (o _ 3 0 _ _ Q (o _ 2 0 _ _ Q (o _ 1 0 _ _ Q (s _ 0 _ (h 0 Q)))))),
  o _ 5 1 _ _ Q (o _ 4 1 _ _ Q (o _ 3 1 _ _ Q (o _ 2 1 _ _ Q (s _ 1 _ ⟨_,o _ 0 1 _ _ Q h1⟩)))),
  o _ 5 2 _ _ Q (o _ 4 2 _ _ Q (o _ 3 2 _ _ Q (s _ 2 _ ⟨_,o _ 1 2 _ _ Q (o _ 0 2 _ _ Q h2)⟩))),
  o _ 5 3 _ _ Q (o _ 4 3 _ _ Q (s _ 3 _ ⟨_,o _ 2 3 _ _ Q (o _ 1 3 _ _ Q (o _ 0 3 _ _ Q h3))⟩)),
  o _ 5 4 _ _ Q (s _ 4 _ ⟨_,o _ 3 4 _ _ Q (o _ 2 4 _ _ Q (o _ 1 4 _ _ Q (o _ 0 4 _ _ Q h4)))⟩),
  s _ 5 _ ⟨_,o _ 4 5 _ _ Q (o _ 3 5 _ _ Q (o _ 2 5 _ _ Q (o _ 1 5 _ _ Q (o _ 0 5 _ _ Q h5))))⟩⟩
theorem vee(E:ZH)(h:Bw w W)(hr:w.heap.size<=r):Bw w (vbr W r E):=
 (((((h.setCell hr _).setCell hr _).setCell hr _).setCell hr _).setCell hr _).setCell hr _
theorem vie(b o n cap:Nat)(w:World)(hn:n<3):
  C 147 #[U (some (O b o)) n cap] w λe w'=>vdS w e w':=by
 have hg:(n:Int)<3:=Q;have hB:=λo o2=>(ZA w o).alloc M o2
 unfold C;go_in;go_wp2;exact ZM (v:=.tuple #[vc0.v,.bool false,.bool false]) (by simp[results,Tryz.results147,go_sem,vc0,ZH.v]) rfl ⟨⟨_,_,_,rfl,by unfold E8 vc0;decide,hB _ _⟩⟩
structure vb5(w0 W:World)(q r:Nat):Prop where
 ex:∃E:ZH,vbv w0 W q r E/\E8 E
theorem vcD(E:ZH)(h:q≠r)(j:Nat):(vbr W r E).cell? (O q j)=W.cell? (O q j):=by
 unfold vbr;rw[ZT _ _ _ _ vQj,ZT _ _ _ _ vQj,ZT _ _ _ _ vQj,ZT _ _ _ _ vQj,ZT _ _ _ _ vQj,ZT _ _ _ _ vQj]
theorem vif(b o n cap:Nat)(w:World)(s0 s1 s2:ByteArray)(c0:w.cell? (O b o)=some (I s0))(c1:w.cell? (O b (o+1))=some (I s1))(c2:w.cell? (O b (o+2))=some (I s2))(z0:s0.size<=8000)(z1:s1.size<=8000)(z2:s2.size<=8000)(mE:3<=n)(hn:n<=8001)(eh:n<=cap)(hW:vas w b o n):
  C 147 #[U (some (O b o)) n cap] w λe w'=>vdS w e w':=by
 have hg:¬(n:Int)<3:=Q;have HU:Hid (∀w,vas w b (o+3) (n-3)->1<=n-3->C 184 #[U (some (O b (o+3))) (n-3:Nat) (cap-3:Nat)] w λe w'=>vci w e w'):=λw h h1=>vip b (o+3) (n-3) (cap-3) w h1 Q h
 have GU:Hid (vas w b (o+3) (n-3)):=⟨λk hk=>by
  have⟨s,h1,h2⟩:=hW.ex (3+k) Q
  exact⟨s,by rw[Nat.add_assoc];exact h1,h2⟩⟩
 clear hW;have b0:=(ve4 w).ZB;have Mg:=Z6 c0 b0;unfold C;go_in;go_wp2_with fail;refine(vcL s0 _ z0).mono ?_;rintro e w1 ⟨⟨n0,k0,rfl,sJ⟩,hb1⟩;clear sJ;have Fq:=(ve4 w).call hb1;have x0:=Fq.c 0 _ rfl;have y0:=Fq.f 0;clear b0 Mg hb1;go_upto_region 6 with fail
 have qf:vbv w (w1.setCell (O (w.heap.size+1) 0) (J n0)) (w.heap.size+1) w.heap.size ⟨n0,⟨#[]⟩,0,⟨#[]⟩,253402300799,⟨#[119]⟩⟩:=Fq.set (x:=J 0) rfl rfl;generalize w1.setCell (O (w.heap.size+1) 0) (J n0)=w2 at *;clear x0 y0 Fq;have x3:=qf.c 3 _ rfl;have y3:=qf.f 3;have Ml:=Z6 c2 qf.ZB;go_upto_region 7 with fail
 have Fs:vbv w (w2.setCell (O (w.heap.size+1) 3) (I s2)) (w.heap.size+1) w.heap.size ⟨n0,⟨#[]⟩,0,s2,253402300799,⟨#[119]⟩⟩:=qf.set (x:=Rn) rfl rfl;generalize w2.setCell (O (w.heap.size+1) 3) (I s2)=w3 at *;clear x3 y3 qf Ml;have Mi:=Z6 c1 Fs.ZB;go_cut [8,9]from 31 to 37 (λx y wx=>(∃sv k1,x=J sv/\y=.bool k1)/\Bw w3 wx)
 case first=>
  go_wp2_with fail;refine(vcL s1 _ z1).mono ?_;rintro e w4 ⟨⟨sv,k1,rfl,hq1⟩,aD⟩;clear hq1;go_wp2;go_meet;exact⟨⟨_,_,rfl,rfl⟩,aD⟩
 case rest=>
  obtain⟨⟨sv,k1,rfl,rfl⟩,aD⟩:=hcut;have⟨w4,yj⟩:=wL wc;subst yj;have uH:=Fs.call aD;have Mj:=Z6 c1 uH.ZB;clear aD Fs Mi;go_step;go_step;go_cut [7]from 38 to 54 (λx wx=>(∃k:Bool,x=.bool k)/\vb5 w wx (w.heap.size+1) w.heap.size)
  case first=>
   cases k1 with
   | false=>
    have hN:=λw=>jbu s1 w (by unfold maxLen;omega)
    cases hnb:BH s1 with
    |true=>
     rw[hnb]at hN;have x1:=uH.c 1 _ rfl;have y1:=uH.f 1;have HA:Hid (vb5 w (w4.setCell (O (w.heap.size+1) 1) (I s1)) (w.heap.size+1) w.heap.size):=⟨⟨⟨n0,s1,0,s2,253402300799,⟨#[119]⟩⟩,uH.set (x:=Rn) rfl rfl,z1,z2,(show(⟨#[119]⟩:ByteArray).size<=8000 by decide)⟩⟩;clear uH hnb;go_wp2_with fail;refine(hN _).mono ?_;rintro e w5 ⟨rfl,oK⟩;have oK:=oK.symm;subst oK;go_wp2;go_meet;exact⟨⟨_,rfl⟩,HA.out⟩
    |false=>
     rw[hnb]at hN;have HA:Hid (vb5 w w4 (w.heap.size+1) w.heap.size):=⟨⟨_,uH,(show(⟨#[]⟩:ByteArray).size<=8000 by decide),z2,(show(⟨#[119]⟩:ByteArray).size<=8000 by decide)⟩⟩;clear uH hnb;go_wp2_with fail;refine(hN _).mono ?_;rintro e w5 ⟨rfl,oK⟩;have oK:=oK.symm;subst oK;go_wp2;go_meet;exact⟨⟨_,rfl⟩,HA.out⟩
   |true=>
    have yW:=λw=>jgr sv w
    cases hsv:ZX sv (-7200) 7200 with
    |true=>
     rw[hsv]at yW;have x2:=uH.c 2 _ rfl;have y2:=uH.f 2;have HA:Hid (vb5 w (w4.setCell (O (w.heap.size+1) 2) (J sv)) (w.heap.size+1) w.heap.size):=⟨⟨⟨n0,⟨#[]⟩,sv,s2,253402300799,⟨#[119]⟩⟩,uH.set (x:=J 0) rfl rfl,(show(⟨#[]⟩:ByteArray).size<=8000 by decide),z2,(show(⟨#[119]⟩:ByteArray).size<=8000 by decide)⟩⟩;clear uH hsv;go_wp2_with fail;refine(yW _).mono ?_;rintro e w5 ⟨rfl,oK⟩;have oK:=oK.symm;subst oK;go_wp2;go_meet;exact⟨⟨_,rfl⟩,HA.out⟩
    | false=>
     rw[hsv]at yW;clear hsv;go_wp2_with fail;refine(yW _).mono ?_;rintro e w5 ⟨rfl,oK⟩;have oK:=oK.symm;subst oK;have hN:=λw=>jbu s1 w (by unfold maxLen;omega)
     cases hnb:BH s1 with
     |true=>
      rw[hnb]at hN;have x1:=uH.c 1 _ rfl;have y1:=uH.f 1;have HA:Hid (vb5 w (w4.setCell (O (w.heap.size+1) 1) (I s1)) (w.heap.size+1) w.heap.size):=⟨⟨⟨n0,s1,0,s2,253402300799,⟨#[119]⟩⟩,uH.set (x:=Rn) rfl rfl,z1,z2,(show(⟨#[119]⟩:ByteArray).size<=8000 by decide)⟩⟩;clear uH hnb;go_wp2_with fail;refine(hN _).mono ?_;rintro e w5 ⟨rfl,oK⟩;have oK:=oK.symm;subst oK;go_wp2;go_meet;exact⟨⟨_,rfl⟩,HA.out⟩
     |false=>
      rw[hnb]at hN;have HA:Hid (vb5 w w4 (w.heap.size+1) w.heap.size):=⟨⟨_,uH,(show(⟨#[]⟩:ByteArray).size<=8000 by decide),z2,(show(⟨#[119]⟩:ByteArray).size<=8000 by decide)⟩⟩;clear uH hnb;go_wp2_with fail;refine(hN _).mono ?_;rintro e w5 ⟨rfl,oK⟩;have oK:=oK.symm;subst oK;go_wp2;go_meet;exact⟨⟨_,rfl⟩,HA.out⟩
  case rest=>
   obtain⟨⟨k5,rfl⟩,vx⟩:=hcut;clear uH Mj;have⟨w5,oK⟩:=wL wc;subst oK;go_step;go_step;go_cut [7]from 55 to 72 (λx wx=>(∃k:Bool,x=.bool k)/\vb5 w wx (w.heap.size+1) w.heap.size)
   case first=>
    by_cases h3:3<n
    .have nK:(3:Int)<(n:Int):=Q
     have⟨⟨e0,e1,e2,e3,e4,e5⟩,sl,tU⟩:=vx.ex;go_wp2_with fail;refine(HU.out _ (GU.out.below sl.ZB) Q).mono ?_;rintro e w6 hP;obtain⟨un,fu,bu,rfl,zu,hb6⟩:=hP.ex;have xN:=sl.call hb6;have x4:=xN.c 4 _ rfl;have y4:=xN.f 4;clear sl hb6 hP vx HU;go_upto_region 16 with fail
     have yL:vbv w (w6.setCell (O (w.heap.size+1) 4) (J un)) (w.heap.size+1) w.heap.size ⟨e0,e1,e2,e3,un,e5⟩:=xN.set (x:=J e4) rfl rfl;generalize w6.setCell (O (w.heap.size+1) 4) (J un)=w7 at *;clear x4 y4 xN;have x5:=yL.c 5 _ rfl;have y5:=yL.f 5;go_upto_region 17 with fail
     have Jy:vbv w (w7.setCell (O (w.heap.size+1) 5) (I fu)) (w.heap.size+1) w.heap.size ⟨e0,e1,e2,e3,un,fu⟩:=yL.set (x:=I e5) rfl rfl;have HA:Hid (vb5 w (w7.setCell (O (w.heap.size+1) 5) (I fu)) (w.heap.size+1) w.heap.size):=⟨⟨_,Jy,tU.1,tU.2.1,zu⟩⟩;generalize w7.setCell (O (w.heap.size+1) 5) (I fu)=w8 at *;clear x5 y5 yL Jy;cases k5
     all_goals
      go_wp2;go_meet;exact⟨⟨_,rfl⟩,HA.out⟩
    .have nK:¬(3:Int)<(n:Int):=Q
     have HA:=hid vx;clear vx;go_wp2;go_meet;exact⟨⟨_,rfl⟩,HA.out⟩
   case rest=>
    obtain⟨⟨k9,rfl⟩,I3⟩:=hcut;have⟨w9,EI⟩:=wL wc;subst EI;have⟨⟨e0,e1,e2,e3,e4,e5⟩,kq,yq⟩:=I3.ex;have HS:=hid kq;have z3:e3.size<=8000:=yq.2.1;have AE:=kq.c 0 _ rfl;have AF:=kq.c 1 _ rfl;have AG:=kq.c 2 _ rfl;have AH:=kq.c 3 _ rfl;have AI:=kq.c 4 _ rfl;have AJ:=kq.c 5 _ rfl;have⟨x0,d0⟩:=kq.d 0 Q;have⟨x1,d1⟩:=kq.d 1 Q;have⟨x2,d2⟩:=kq.d 2 Q;have⟨x3,d3⟩:=kq.d 3 Q;have⟨x4,d4⟩:=kq.d 4 Q;have⟨x5,d5⟩:=kq.d 5 Q;have g0:=kq.g 0;have g1:=kq.g 1;have g2:=kq.g 2;have g3:=kq.g 3;have g4:=kq.g 4;have g5:=kq.g 5;clear I3 vx kq HU GU;cases k9 with
    |false=>
     go_upto_region 18 with fail
     go_region;obtain⟨w7,yk⟩:∃x:World,((((((w9.setCell (O w.heap.size 0) (J e0)).setCell (O w.heap.size 1) (I e1)).setCell (O w.heap.size 2) (J e2)).setCell (O w.heap.size 3) (I e3)).setCell (O w.heap.size 4) (J e4)).setCell (O w.heap.size 5) (I e5))=x:=⟨_,rfl⟩;have ht:=ved (W:=w9) (r:=w.heap.size) ⟨e0,e1,e2,e3,e4,e5⟩ HS.out.d;have mt:Bw w w7:=by rw[<- yk];exact vee (W:=w9) ⟨e0,e1,e2,e3,e4,e5⟩ HS.out.ZB (ZD _)
     have hl:vbr w9 w.heap.size ⟨e0,e1,e2,e3,e4,e5⟩=w7:=yk;rw[hl]at ht;have⟨t0,t1,t2,t3,t4,t5⟩:=ht;rw[yk];clear yk hl;go_wp2;exact ZM (v:=.tuple #[ZH.v ⟨e0,e1,e2,e3,e4,e5⟩,.bool (decide (3<(n:Int))),.bool false]) (by simp[results,Tryz.results147,go_sem,ZH.v,t0,t1,t2,t3,t4,t5]) rfl ⟨⟨_,_,_,rfl,yq,below_drewN mt _⟩⟩
    |true=>
     have yr:=λw=>jau n0 (-86400) 86400 w
     have Ik:=λw=>jjz e3 w (by unfold maxLen;omega)
     generalize va0 e3=fb at *;cases hi:ZX n0 (-86400) 86400 with
     |false=>
      rw[hi]at yr;clear hi Ik;go_upto_region 18 with fail
      refine wp_region_noPanic ?_;refine wp_region_held_drew (S:=λw'=>w'.cell? (O (w.heap.size+1) 0)=some (J e0)/\w'.cell? (O (w.heap.size+1) 1)=some (I e1)/\w'.cell? (O (w.heap.size+1) 2)=some (J e2)/\w'.cell? (O (w.heap.size+1) 3)=some (I e3)/\w'.cell? (O (w.heap.size+1) 4)=some (J e4)/\w'.cell? (O (w.heap.size+1) 5)=some (I e5)) RG ⟨AE,AF,AG,AH,AI,AJ⟩ (λcZ=>?_);refine wpAnyH_take (i:=0) (v:=?v0) rfl RG RG RG (λ_ _ _ h=>h) (Or.inl ⟨Si,?y0⟩) cZ ?z0
      case y0=>(intro wq dA;(try dsimp only at dA);go_simp;try with_reducible rfl)
      try simp only[Act.put,qq1,qq2,qq3]
      refine wpAnyH_take (i:=1) (v:=?v1) rfl RG RG RG (λ_ _ _ h=>h) (Or.inl ⟨Si,?y1⟩) cZ ?z1
      case y1=>(intro wq dA;(try dsimp only at dA);go_simp;try with_reducible rfl)
      try simp only[Act.put,qq1,qq2,qq3]
      refine wpAnyH_take (i:=2) (v:=?v2) rfl RG RG RG (λ_ _ _ h=>h) (Or.inl ⟨Si,?y2⟩) cZ ?z2
      case y2=>(intro wq dA;(try dsimp only at dA);go_simp;try with_reducible rfl)
      try simp only[Act.put,qq1,qq2,qq3]
      refine wpAnyH_take (i:=3) (v:=?v3) rfl RG RG RG (λ_ _ _ h=>h) (Or.inl ⟨Si,?y3⟩) cZ ?z3
      case y3=>(intro wq dA;(try dsimp only at dA);go_simp;try with_reducible rfl)
      try simp only[Act.put,qq1,qq2,qq3]
      refine wpAnyH_take (i:=4) (v:=?v4) rfl RG RG RG (λ_ _ _ h=>h) (Or.inl ⟨Si,?y4⟩) cZ ?z4
      case y4=>(intro wq dA;(try dsimp only at dA);go_simp;try with_reducible rfl)
      try simp only[Act.put,qq1,qq2,qq3]
      refine wpAnyH_take (i:=5) (v:=?v5) rfl RG RG RG (λ_ _ _ h=>h) (Or.inl ⟨Si,?y5⟩) cZ ?z5
      case y5=>(intro wq dA;(try dsimp only at dA);go_simp;try with_reducible rfl)
      try simp only[Act.put,qq1,qq2,qq3]
      refine wpAnyH_take (i:=6) (v:=?v6) rfl RG RG RG (λ_ _ _ h=>h) (Or.inl ⟨Si,?y6⟩) cZ ?z6
      case y6=>(intro wq dA;(try dsimp only at dA);go_simp;try with_reducible rfl)
      try simp only[Act.put,qq1,qq2,qq3]
      refine wpAnyH_ready (rs:=[7]) RG M ?_;refine AllReadyH.cons rfl (λK hK=>?_) AllReadyH.nil;go_simp;refine(yr _).mono ?_;rintro e wq ⟨rfl,qQ⟩;have qQ:=qQ.symm;subst qQ;go_wp2_with fail;refine hK.out _ _ cZ (λcZ=>?_);clear hK K
      try simp only[Act.put,qq1,qq2,qq3]
      refine wpAnyH_take (i:=8) (v:=?v8) rfl RG RG RG (λ_ _ _ h=>h) (Or.inl ⟨Si,?y8⟩) cZ ?z8
      case y8=>(intro wq dA;(try dsimp only at dA);go_simp;try with_reducible rfl)
      try simp only[Act.put,qq1,qq2,qq3]
      refine wpAnyH_take (i:=9) (v:=?v9) rfl RG RG RG (λ_ _ _ h=>h) (Or.inl ⟨Si,?y9⟩) cZ ?z9
      case y9=>(intro wq dA;(try dsimp only at dA);go_simp;try with_reducible rfl)
      try simp only[Act.put,qq1,qq2,qq3]
      refine wpAnyH_take (i:=10) (v:=undef) rfl RG RG RG (λ_ _ _ h=>h) (Or.inr ⟨Si,rfl⟩) cZ ?_
      try simp only[Act.put,qq1,qq2,qq3]
      refine wpAnyH_take (i:=11) (v:=undef) rfl RG RG RG (λ_ _ _ h=>h) (Or.inr ⟨Si,rfl⟩) cZ ?_
      try simp only[Act.put,qq1,qq2,qq3]
      refine wpAnyH_take (i:=12) (v:=undef) rfl RG RG RG (λ_ _ _ h=>h) (Or.inr ⟨Si,rfl⟩) cZ ?_
      try simp only[Act.put,qq1,qq2,qq3]
      refine wpAnyH_take (i:=13) (v:=?v13) rfl RG RG RG (λ_ _ _ h=>h) (Or.inl ⟨Si,?y13⟩) cZ ?z13
      case y13=>(intro wq dA;(try dsimp only at dA);go_simp;try with_reducible rfl)
      try simp only[Act.put,qq1,qq2,qq3]
      refine wpAnyH_ready (rs:=[14]) RG M ?_;refine AllReadyH.cons rfl (λK hK=>?_) AllReadyH.nil;go_simp;obtain⟨w7,yk⟩:∃x:World,((((((w9.setCell (O w.heap.size 0) (J e0)).setCell (O w.heap.size 1) (I e1)).setCell (O w.heap.size 2) (J e2)).setCell (O w.heap.size 3) (I e3)).setCell (O w.heap.size 4) (J e4)).setCell (O w.heap.size 5) (I e5))=x:=⟨_,rfl⟩;have ht:=ved (W:=w9) (r:=w.heap.size) ⟨e0,e1,e2,e3,e4,e5⟩ HS.out.d;have mt:Bw w w7:=by rw[<- yk];exact vee (W:=w9) ⟨e0,e1,e2,e3,e4,e5⟩ HS.out.ZB (ZD _)
      have hl:vbr w9 w.heap.size ⟨e0,e1,e2,e3,e4,e5⟩=w7:=yk;have p0:w7.cell? (O (w.heap.size+1) 0)=some (J e0):=by rw[<- hl,vcD _ (show w.heap.size+1≠w.heap.size by omega)];exact AE
      have p1:w7.cell? (O (w.heap.size+1) 1)=some (I e1):=by rw[<- hl,vcD _ (show w.heap.size+1≠w.heap.size by omega)];exact AF
      have p2:w7.cell? (O (w.heap.size+1) 2)=some (J e2):=by rw[<- hl,vcD _ (show w.heap.size+1≠w.heap.size by omega)];exact AG
      have p3:w7.cell? (O (w.heap.size+1) 3)=some (I e3):=by rw[<- hl,vcD _ (show w.heap.size+1≠w.heap.size by omega)];exact AH
      have p4:w7.cell? (O (w.heap.size+1) 4)=some (J e4):=by rw[<- hl,vcD _ (show w.heap.size+1≠w.heap.size by omega)];exact AI
      have p5:w7.cell? (O (w.heap.size+1) 5)=some (I e5):=by rw[<- hl,vcD _ (show w.heap.size+1≠w.heap.size by omega)];exact AJ
      rw[hl]at ht;have⟨t0,t1,t2,t3,t4,t5⟩:=ht;rw[yk];clear yk hl;refine hK.out _ _ ⟨p0,p1,p2,p3,p4,p5⟩ (λcZ=>?_);clear hK K
      try simp only[Act.put,qq1,qq2,qq3]
      refine wpAnyH_take (i:=15) (v:=?v15) rfl RG RG RG (λ_ _ _ h=>h) (Or.inl ⟨Si,?y15⟩) cZ ?z15
      case y15=>(intro wq dA;(try dsimp only at dA);go_simp;try with_reducible rfl)
      try simp only[Act.put,qq1,qq2,qq3]
      refine wpAnyH_take (i:=16) (v:=?v16) rfl RG RG RG (λ_ _ _ h=>h) (Or.inl ⟨Si,?y16⟩) cZ ?z16
      case y16=>(intro wq dA;(try dsimp only at dA);go_simp;try with_reducible rfl)
      try simp only[Act.put,List.getElem_toArray,List.getElem_cons_succ,List.getElem_cons_zero,qq1,qq2,qq3]
      refine wpAnyH_done RG ?_ _;refine NoPanic.normal ?_;clear cZ p0 p1 p2 p3 p4 p5;go_wp2;exact ZM (v:=.tuple #[ZH.v ⟨e0,e1,e2,e3,e4,e5⟩,.bool (decide (3<(n:Int))),.bool false]) (by simp[results,Tryz.results147,go_sem,ZH.v,t0,t1,t2,t3,t4,t5]) rfl ⟨⟨_,_,_,rfl,yq,below_drewN mt _⟩⟩
     | true=>
      rw[hi]at yr;clear hi;go_upto_region 18 with fail
      go_region_held3 (λw'=>w'.cell? (O (w.heap.size+1) 0)=some (J e0)/\w'.cell? (O (w.heap.size+1) 1)=some (I e1)/\w'.cell? (O (w.heap.size+1) 2)=some (J e2)/\w'.cell? (O (w.heap.size+1) 3)=some (I e3)/\w'.cell? (O (w.heap.size+1) 4)=some (J e4)/\w'.cell? (O (w.heap.size+1) 5)=some (I e5)) (go_keep) (first|(go_at_call 31;refine(yr _).mono ?_;rintro e wq ⟨rfl,qQ⟩;have qQ:=qQ.symm;subst qQ)|(go_at_call 144;refine(Ik _).mono ?_;rintro e wq ⟨rfl,qQ⟩;have qQ:=qQ.symm;subst qQ))
      all_goals
       obtain⟨w7,yk⟩:∃x:World,((((((w9.setCell (O w.heap.size 0) (J e0)).setCell (O w.heap.size 1) (I e1)).setCell (O w.heap.size 2) (J e2)).setCell (O w.heap.size 3) (I e3)).setCell (O w.heap.size 4) (J e4)).setCell (O w.heap.size 5) (I e5))=x:=⟨_,rfl⟩;have ht:=ved (W:=w9) (r:=w.heap.size) ⟨e0,e1,e2,e3,e4,e5⟩ HS.out.d;have mt:Bw w w7:=by rw[<- yk];exact vee (W:=w9) ⟨e0,e1,e2,e3,e4,e5⟩ (HS.out.ZB) (ZD _)
       have hl:vbr w9 w.heap.size ⟨e0,e1,e2,e3,e4,e5⟩=w7:=yk;rw[hl]at ht;have⟨t0,t1,t2,t3,t4,t5⟩:=ht;rw[yk];clear yk hl;go_wp2;exact ZM (v:=.tuple #[ZH.v ⟨e0,e1,e2,e3,e4,e5⟩,.bool (decide (3<(n:Int))),.bool fb]) (by simp[results,Tryz.results147,go_sem,ZH.v,t0,t1,t2,t3,t4,t5]) rfl ⟨⟨_,_,_,rfl,yq,below_drewN mt _⟩⟩
theorem veo(b o n cap:Nat)(w:World)(hn:n<=8001)(eh:n<=cap)(hW:vas w b o n):
  C 147 #[U (some (O b o)) n cap] w λe w'=>vdS w e w':=by
 by_cases h:n<3
 .exact vie b o n cap w h
 .have⟨s0,c0,z0⟩:=hW.ex 0 Q
  rw[Nat.add_zero]at c0;have⟨s1,c1,z1⟩:=hW.ex 1 Q;have⟨s2,c2,z2⟩:=hW.ex 2 Q;exact vif b o n cap w s0 s1 s2 c0 c1 c2 z0 z1 z2 Q hn eh hW
def R8(R:ZQ):Prop:=R.name.size<=8000/\R.on.size<=8000/\R.of.size<=8000/\R.ZR.size<=8000
theorem R8.ok(h:R8 R):R.ok:=by have⟨h1,h2,h3,h4⟩:=h;unfold ZQ.ok maxLen;omega
structure vdW(w:World)(e:Ending)(w':World):Prop where
 ex:∃(R:ZQ) (k:Bool),e=V (.tuple #[R.v,.bool k])/\R8 R/\Bw w w'
structure vbi(w0 W:World)(q r:Nat)(R:ZQ):Prop where
 c:∀j x,R.cs[j]? =some x->W.cell? (O q j)=some x
 d:∀j,j<9->∃x,W.cell? (O r j)=some x
 f:∀j,W.frozen? (O q j)=false
 g:∀j,W.frozen? (O r j)=false
 ZB:Bw w0 W
 hq:w0.heap.size<=q
 hr:w0.heap.size<=r
 ne:q≠r
theorem vbi.call(h:vbi w0 W q r R)(hb:Bw W W2):vbi w0 W2 q r R where
 c j x hx:=Z6 (h.c j x hx) hb
 d j hj:=by have⟨x,hx⟩:=h.d j hj;exact⟨x,Z6 hx hb⟩
 f j:=((Z4 hb).2 _ _ (ZI (h.c 0 _ rfl))).trans (h.f j)
 g j:=by have⟨x,hx⟩:=h.d 0 Q;exact((Z4 hb).2 _ _ (ZI hx)).trans (h.g j)
 ZB:=h.ZB.trans (hb.mono h.ZB.size)
 hq:=h.hq
 hr:=h.hr
 ne:=h.ne
theorem vbi.set{R':ZQ}(h:vbi w0 W q r R)(hx:R.cs[i]? =some x)(he:R'.cs=R.cs.set i v):vbi w0 (W.setCell (O q i) v) q r R' where
 c j u hu:=by
  rw[he]at hu;by_cases hj:i=j
  .subst hj
   rw[List.getElem?_set_self (pO hx).1]at hu;obtain rfl:=Z9 hu;exact Bf _ _ _ (h.c i x hx)
  .rw[List.getElem?_set_ne hj]at hu
   rw[ZT _ _ _ _ vQj];exact h.c j u hu
 d j hj:=by
  have⟨u,hu⟩:=h.d j hj;have:=h.ne;exact⟨u,by rw[ZT _ _ _ _ vQj];exact hu⟩
 f j:=by rw[World.frozen?_setCell];exact h.f j
 g j:=by rw[World.frozen?_setCell];exact h.g j
 ZB:=h.ZB.setCell h.hq _
 hq:=h.hq
 hr:=h.hr
 ne:=h.ne
def vax(W:World)(r:Nat)(R:ZQ):World:=(((((((((W.setCell (O r 0) (I R.name)).setCell (O r 1) (J R.lo)).setCell (O r 2) (J R.hi)).setCell (O r 3) (J R.pU)).setCell (O r 4) (I R.on)).setCell (O r 5) (J R.at_)).setCell (O r 6) (I R.of)).setCell (O r 7) (J R.YX)).setCell (O r 8) (I R.ZR))
theorem vdx(R:ZQ)(h:∀j,j<9->∃x,W.cell? (O r j)=some x):(vax W r R).cell? (O r 0)=some (I R.name)/\(vax W r R).cell? (O r 1)=some (J R.lo)/\(vax W r R).cell? (O r 2)=some (J R.hi)/\(vax W r R).cell? (O r 3)=some (J R.pU)/\(vax W r R).cell? (O r 4)=some (I R.on)/\(vax W r R).cell? (O r 5)=some (J R.at_)/\(vax W r R).cell? (O r 6)=some (I R.of)/\(vax W r R).cell? (O r 7)=some (J R.YX)/\(vax W r R).cell? (O r 8)=some (I R.ZR):=by
 have o:∀(W:World) (i j:Nat) (v x:Value),i≠j->W.cell? (O r j)=some x->(W.setCell (O r i) v).cell? (O r j)=some x:=λW i j v x eF hx=>by
  rw[ZT _ _ _ _ vQj];exact hx
 have s:∀(W:World) (i:Nat) (v:Value),(∃x,W.cell? (O r i)=some x)->(W.setCell (O r i) v).cell? (O r i)=some v:=λW i v ⟨x,hx⟩=>Bf _ _ _ hx
 have⟨x0,h0⟩:=h 0 Q;have⟨x1,h1⟩:=h 1 Q;have⟨x2,h2⟩:=h 2 Q;have⟨x3,h3⟩:=h 3 Q;have⟨x4,h4⟩:=h 4 Q;have⟨x5,h5⟩:=h 5 Q;have⟨x6,h6⟩:=h 6 Q;have⟨x7,h7⟩:=h 7 Q;have⟨x8,h8⟩:=h 8 Q;unfold vax;exact⟨o _ 8 0 _ _ Q (o _ 7 0 _ _ Q (o _ 6 0 _ _ Q (o _ 5 0 _ _ Q (o _ 4 0 _ _ Q (o _ 3 0 _ _ Q (o _ 2 0 _ _ Q (o _ 1 0 _ _ Q (s _ 0 _ ⟨_,h0⟩)))))))),o _ 8 1 _ _ Q (o _ 7 1 _ _ Q (o _ 6 1 _ _ Q (o _ 5 1 _ _ Q (o _ 4 1 _ _ Q (o _ 3 1 _ _ Q (o _ 2 1 _ _ Q (s _ 1 _ ⟨_,o _ 0 1 _ _ Q (h1)⟩))))))),o _ 8 2 _ _ Q (o _ 7 2 _ _ Q (o _ 6 2 _ _ Q (o _ 5 2 _ _ Q (o _ 4 2 _ _ Q (o _ 3 2 _ _ Q (s _ 2 _ ⟨_,o _ 1 2 _ _ Q (o _ 0 2 _ _ Q (h2))⟩)))))),o _ 8 3 _ _ Q (o _ 7 3 _ _ Q (o _ 6 3 _ _ Q (o _ 5 3 _ _ Q (o _ 4 3 _ _ Q (s _ 3 _ ⟨_,o _ 2 3 _ _ Q (o _ 1 3 _ _ Q (o _ 0 3 _ _ Q (h3)))⟩))))),o _ 8 4 _ _ Q (o _ 7 4 _ _ Q (o _ 6 4 _ _ Q (o _ 5 4 _ _ Q (s _ 4 _ ⟨_,o _ 3 4 _ _ Q (o _ 2 4 _ _ Q (o _ 1 4 _ _ Q (o _ 0 4 _ _ Q (h4))))⟩)))),o _ 8 5 _ _ Q (o _ 7 5 _ _ Q (o _ 6 5 _ _ Q (s _ 5 _ ⟨_,o _ 4 5 _ _ Q (o _ 3 5 _ _ Q (o _ 2 5 _ _ Q (o _ 1 5 _ _ Q (o _ 0 5 _ _ Q (h5)))))⟩))),o _ 8 6 _ _ Q (o _ 7 6 _ _ Q (s _ 6 _ ⟨_,o _ 5 6 _ _ Q (o _ 4 6 _ _ Q (o _ 3 6 _ _ Q (o _ 2 6 _ _ Q (o _ 1 6 _ _ Q (o _ 0 6 _ _ Q (h6))))))⟩)),o _ 8 7 _ _ Q (s _ 7 _ ⟨_,o _ 6 7 _ _ Q (o _ 5 7 _ _ Q (o _ 4 7 _ _ Q (o _ 3 7 _ _ Q (o _ 2 7 _ _ Q (o _ 1 7 _ _ Q (o _ 0 7 _ _ Q (h7)))))))⟩),s _ 8 _ ⟨_,o _ 7 8 _ _ Q (o _ 6 8 _ _ Q (o _ 5 8 _ _ Q (o _ 4 8 _ _ Q (o _ 3 8 _ _ Q (o _ 2 8 _ _ Q (o _ 1 8 _ _ Q (o _ 0 8 _ _ Q (h8))))))))⟩⟩
theorem vdy(R:ZQ)(h:Bw w W)(hr:w.heap.size<=r):Bw w (vax W r R):=
 ((((((((h.setCell hr _).setCell hr _).setCell hr _).setCell hr _).setCell hr _).setCell hr _).setCell hr _).setCell hr _).setCell hr _
def vcI:ZQ:=⟨⟨#[]⟩,0,0,0,⟨#[]⟩,0,⟨#[]⟩,0,⟨#[]⟩⟩
theorem vin(b o n cap:Nat)(w:World)(hn:n≠10):
  C 148 #[U (some (O b o)) n cap] w λe w'=>vdW w e w':=by
 have hg:((n:Int) != 10)=true:=RO;have hB:=λo=>ZA w o
 unfold C;go_in;go_wp2;exact ZM (v:=.tuple #[vcI.v,.bool false]) (by simp[results,Tryz.results148,go_sem,vcI,ZQ.v]) rfl ⟨⟨_,_,rfl,by unfold R8 vcI;decide,hB _⟩⟩
theorem vhN{j:Nat}(R:ZQ)(h:q≠r):(vax W r R).cell? (O q j)=W.cell? (O q j):=by
 unfold vax;rw[ZT _ _ _ _ vQj,ZT _ _ _ _ vQj,ZT _ _ _ _ vQj,ZT _ _ _ _ vQj,ZT _ _ _ _ vQj,ZT _ _ _ _ vQj,ZT _ _ _ _ vQj,ZT _ _ _ _ vQj,ZT _ _ _ _ vQj]
theorem viO(bA:Bw w wA)(sA:wA.heap.size=w.heap.size+1)(rA:∀j,j<9->∃x,wA.cell? (O w.heap.size j)=some x)(fA:∀j,wA.frozen? (O w.heap.size j)=false)(hb:Below wA.drew.heap.size wA.drew wM):
  vbi w (wM.alloc (G #[I a,J l,J h,J mo,I on,J 0,Rn,J 0,I le] 116)) wM.heap.size w.heap.size ⟨a,l,h,mo,on,0,⟨#[]⟩,0,le⟩:=by
 have hsz:wA.heap.size<=wM.heap.size:=hb.size;have sy:Bw wA wM:=⟨hb.1,hb.2,hb.3,hb.4,hb.5⟩;have ba:Bw wM (wM.alloc (G #[I a,J l,J h,J mo,I on,J 0,Rn,J 0,I le] 116)):=ZA _ _
 exact {
  c :=λj x hx=>by
   have hj:=(pO hx).1;simp[ZQ.cs]at hj;obtain rfl|rfl|rfl|rfl|rfl|rfl|rfl|rfl|rfl:j=0\/j=1\/j=2\/j=3\/j=4\/j=5\/j=6\/j=7\/j=8:=Q
   all_goals
    obtain rfl:=Z9 hx;simp[go_sem]
  d:=λj hj=>by have⟨x,hx⟩:=rA j hj;exact⟨x,Z6 (Z6 hx sy) ba⟩
  f:=λj=>RQ
  g:=λj=>by
   have⟨x,hx⟩:=rA 0 Q;exact((Z4 ba).2 _ _ (ZI (Z6 hx sy))).trans (((Z4 sy).2 _ _ (ZI hx)).trans (fA j))
  ZB:=(bA.trans (sy.mono bA.size)).trans (ba.mono Q)
  hq:=Q
  hr:=ZD _
  ne:=by omega }
theorem viP(bA:Bw w wA)(sA:wA.heap.size=w.heap.size+1)(rA:∀j,j<9->∃x,wA.cell? (O w.heap.size j)=some x)(fA:∀j,wA.frozen? (O w.heap.size j)=false)(hb:Below (wA.drew.alloc (G #[Rn,J 0,J 0,J 0,Rn,J 0,Rn,J 0,Rn] 116)).heap.size (wA.drew.alloc (G #[Rn,J 0,J 0,J 0,Rn,J 0,Rn,J 0,Rn] 116)) wM):
  vbi w (vax wM wA.heap.size ⟨a,l,h,mo,on,0,⟨#[]⟩,0,le⟩) wA.heap.size w.heap.size ⟨a,l,h,mo,on,0,⟨#[]⟩,0,le⟩:=by
 have ba:Bw wA (wA.drew.alloc (G #[Rn,J 0,J 0,J 0,Rn,J 0,Rn,J 0,Rn] 116)):=(show Bw wA wA.drew from⟨rfl,rfl,rfl,ZD _,λ_ _=>rfl⟩).alloc (ZD _) _;have hsz:=hb.size;have JZ:∀j,j<9->∃x,wM.cell? (O wA.heap.size j)=some x:=λj hj=>by
  obtain rfl|rfl|rfl|rfl|rfl|rfl|rfl|rfl|rfl:j=0\/j=1\/j=2\/j=3\/j=4\/j=5\/j=6\/j=7\/j=8:=Q
  all_goals exact⟨_,Z6 (w1:=wA.drew.alloc (G #[Rn,J 0,J 0,J 0,Rn,J 0,Rn,J 0,Rn] 116)) (by simp[go_sem];rfl) hb⟩
 have bb:Bw w wM:=(Zp bA ba).trans (hb.mono RO);have⟨t0,t1,t2,t3,t4,t5,t6,t7,t8⟩:=vdx (W:=wM) (r:=wA.heap.size) ⟨a,l,h,mo,on,0,⟨#[]⟩,0,le⟩ JZ;have K0:∀b j,(vax wM wA.heap.size ⟨a,l,h,mo,on,0,⟨#[]⟩,0,le⟩).frozen? (O b j)=wM.frozen? (O b j):=λb j=>by unfold vax;simp only[World.frozen?_setCell]
 have ho:∀q j,q≠wA.heap.size->(vax wM wA.heap.size ⟨a,l,h,mo,on,0,⟨#[]⟩,0,le⟩).cell? (O q j)=wM.cell? (O q j):=λq j hq=>vhN _ hq
 have mt:Bw w (vax wM wA.heap.size ⟨a,l,h,mo,on,0,⟨#[]⟩,0,le⟩):=vdy _ bb Q;clear JZ;generalize vax wM wA.heap.size ⟨a,l,h,mo,on,0,⟨#[]⟩,0,le⟩=WL at *
 exact {
  c :=λj x hx=>by
   have hj:=(pO hx).1;simp[ZQ.cs]at hj;obtain rfl|rfl|rfl|rfl|rfl|rfl|rfl|rfl|rfl:j=0\/j=1\/j=2\/j=3\/j=4\/j=5\/j=6\/j=7\/j=8:=Q
   all_goals
    obtain rfl:=Z9 hx
    first|exact t0|exact t1|exact t2|exact t3|exact t4|exact t5|exact t6|exact t7|exact t8
  d:=λj hj=>by
   have⟨x,hx⟩:=rA j hj;refine⟨x,?_⟩;rw[ho _ _ Q];exact Z6 (Z6 hx ba) hb
  f:=λj=>by
   rw[K0];exact((Z4 hb).2 _ _ M).trans RQ
  g:=λj=>by
   rw[K0];have⟨x,hx⟩:=rA 0 Q;exact((Z4 hb).2 _ _ (ZI (Z6 hx ba))).trans (((Z4 ba).2 _ _ (ZI hx)).trans (fA j))
  ZB:=mt
  hq:=Q
  hr:=ZD _
  ne:=by omega }
theorem viQ(bA:Bw w wA)(sA:wA.heap.size=w.heap.size+1)(rA:∀j,j<9->∃x,wA.cell? (O w.heap.size j)=some x)(fA:∀j,wA.frozen? (O w.heap.size j)=false)(hb:Below (wA.drew.alloc (G #[Rn,J 0,J 0,J 0,Rn,J 0,Rn,J 0,Rn] 116)).heap.size (wA.drew.alloc (G #[Rn,J 0,J 0,J 0,Rn,J 0,Rn,J 0,Rn] 116)) wM):
  vbi w (((((((((wM.setCell (O wA.heap.size 0) (I a)).setCell (O wA.heap.size 1) (J l)).setCell (O wA.heap.size 2) (J h)).setCell (O wA.heap.size 3) (J mo)).setCell (O wA.heap.size 4) (I on)).setCell (O wA.heap.size 5) (J 0)).setCell (O wA.heap.size 6) (Rn)).setCell (O wA.heap.size 7) (J 0)).setCell (O wA.heap.size 8) (I le)) wA.heap.size w.heap.size ⟨a,l,h,mo,on,0,⟨#[]⟩,0,le⟩:=viP bA sA rA fA hb
structure vcf(w0 W:World)(q r:Nat):Prop where
 ex:∃R:ZQ,vbi w0 W q r R/\R8 R
theorem vio(b o cap:Nat)(w:World)(hW:vas w b o 10):
  C 148 #[U (some (O b o)) 10 cap] w λe w'=>vdW w e w':=by
 have⟨s4,c4,z4⟩:=hW.ex 4 Q;have hB:=λo=>ZA w o
 have c4a:=Z6 c4 (hB (G #[Rn,J 0,J 0,J 0,Rn,J 0,Rn,J 0,Rn] 116));cases h4:(s4.toList==[45])with
 |false=>
  unfold C;go_in;go_wp2;exact ZM (v:=.tuple #[vcI.v,.bool false]) (by simp[results,Tryz.results148,go_sem,vcI,ZQ.v]) rfl ⟨⟨_,_,rfl,by unfold R8 vcI;decide,hB _⟩⟩
 | true =>
  unfold C;go_in;have⟨s1,c1,z1⟩:=hW.ex 1 Q;have⟨s2,c2,z2⟩:=hW.ex 2 Q;have⟨s3,c3,z3⟩:=hW.ex 3 Q;have⟨s5,c5,z5⟩:=hW.ex 5 Q;have⟨s6,c6,z6⟩:=hW.ex 6 Q;have⟨s7,c7,z7⟩:=hW.ex 7 Q;have⟨s8,c8,z8⟩:=hW.ex 8 Q;have⟨s9,c9,z9⟩:=hW.ex 9 Q;have hY:=λs (h:ByteArray.size s<=8000) w=>vcH s w h
  have Dq:=λw=>vda s5 w
  go_upto_region 3 with fail
  obtain⟨wA,cK⟩:∃x:World,(w.alloc (G #[Rn,J 0,J 0,J 0,Rn,J 0,Rn,J 0,Rn] 116))=x:=⟨_,rfl⟩;have bA:Bw w wA:=by rw[<- cK];exact hB _
  have BM:Hid (wA.heap.size=w.heap.size+1):=by rw[<- cK];simp[Hid]
  have rA:∀j,j<9->∃x,wA.cell? (O w.heap.size j)=some x:=λj hj=>by
   rw[<- cK];obtain rfl|rfl|rfl|rfl|rfl|rfl|rfl|rfl|rfl:j=0\/j=1\/j=2\/j=3\/j=4\/j=5\/j=6\/j=7\/j=8:=Q
   all_goals exact⟨_,by simp[go_sem];rfl⟩
  have fA:∀j,wA.frozen? (O w.heap.size j)=false:=λj=>by rw[<- cK];simp[go_sem]
  have a1:=Z6 c1 bA;have a2:=Z6 c2 bA;have a3:=Z6 c3 bA;have a5:=Z6 c5 bA;have a6:=Z6 c6 bA;have a9:=Z6 c9 bA;rw[cK];have BI:=hid rA;have BG:=hid fA;clear cK hB c4a rA fA;go_cut [4]from 20 to 41 (λx wx=>∃q R,x=.pointer (some (O q 0))/\vbi w wx q w.heap.size R/\R8 R)
  case first=>
   go_region_held3 (λw'=>w'.cell? (O b (o+1))=some (I s1)/\w'.cell? (O b (o+2))=some (I s2)/\w'.cell? (O b (o+3))=some (I s3)/\w'.cell? (O b (o+5))=some (I s5)/\w'.cell? (O b (o+6))=some (I s6)/\w'.cell? (O b (o+9))=some (I s9)) (go_keep) (first|(go_at_call 186;refine(Dq _).mono ?_;rintro e wM ⟨m,rfl,m1,m2,et⟩;have b1:=Z6 (w1:=wA.drew) a1 et;have b2:=Z6 (w1:=wA.drew) a2 et;have b3:=Z6 (w1:=wA.drew) a3 et;have b5:=Z6 (w1:=wA.drew) a5 et;have b6:=Z6 (w1:=wA.drew) a6 et;have b9:=Z6 (w1:=wA.drew) a9 et;have OS:wM.heap.size≠b:=World.new_ne wM _ b1)|(go_at_call 186;refine(Dq _).mono ?_;rintro e wM ⟨m,rfl,m1,m2,et⟩;have b1:=Z6 (w1:=wA.drew.alloc (G #[Rn,J 0,J 0,J 0,Rn,J 0,Rn,J 0,Rn] 116)) (Z6 (w1:=wA.drew) a1 (ZA _ _)) et;have b2:=Z6 (w1:=wA.drew.alloc (G #[Rn,J 0,J 0,J 0,Rn,J 0,Rn,J 0,Rn] 116)) (Z6 (w1:=wA.drew) a2 (ZA _ _)) et;have b3:=Z6 (w1:=wA.drew.alloc (G #[Rn,J 0,J 0,J 0,Rn,J 0,Rn,J 0,Rn] 116)) (Z6 (w1:=wA.drew) a3 (ZA _ _)) et;have b5:=Z6 (w1:=wA.drew.alloc (G #[Rn,J 0,J 0,J 0,Rn,J 0,Rn,J 0,Rn] 116)) (Z6 (w1:=wA.drew) a5 (ZA _ _)) et;have b6:=Z6 (w1:=wA.drew.alloc (G #[Rn,J 0,J 0,J 0,Rn,J 0,Rn,J 0,Rn] 116)) (Z6 (w1:=wA.drew) a6 (ZA _ _)) et;have b9:=Z6 (w1:=wA.drew.alloc (G #[Rn,J 0,J 0,J 0,Rn,J 0,Rn,J 0,Rn] 116)) (Z6 (w1:=wA.drew) a9 (ZA _ _)) et;have nbB:wA.heap.size≠b:=World.new_ne wA _ a1;have q0:wM.cell? (O wA.heap.size 0)=some (Rn):=Z6 (w1:=(wA.drew.alloc (G #[Rn,J 0,J 0,J 0,Rn,J 0,Rn,J 0,Rn] 116))) RQ et;have f0:wM.frozen? (O wA.heap.size 0)=false:=((Z4 et).2 _ _ M).trans RQ;have q1:wM.cell? (O wA.heap.size 1)=some (J 0):=Z6 (w1:=(wA.drew.alloc (G #[Rn,J 0,J 0,J 0,Rn,J 0,Rn,J 0,Rn] 116))) RQ et;have f1:wM.frozen? (O wA.heap.size 1)=false:=((Z4 et).2 _ _ M).trans RQ;have q2:wM.cell? (O wA.heap.size 2)=some (J 0):=Z6 (w1:=(wA.drew.alloc (G #[Rn,J 0,J 0,J 0,Rn,J 0,Rn,J 0,Rn] 116))) RQ et;have f2:wM.frozen? (O wA.heap.size 2)=false:=((Z4 et).2 _ _ M).trans RQ;have q3:wM.cell? (O wA.heap.size 3)=some (J 0):=Z6 (w1:=(wA.drew.alloc (G #[Rn,J 0,J 0,J 0,Rn,J 0,Rn,J 0,Rn] 116))) RQ et;have f3:wM.frozen? (O wA.heap.size 3)=false:=((Z4 et).2 _ _ M).trans RQ;have q4:wM.cell? (O wA.heap.size 4)=some (Rn):=Z6 (w1:=(wA.drew.alloc (G #[Rn,J 0,J 0,J 0,Rn,J 0,Rn,J 0,Rn] 116))) RQ et;have f4:wM.frozen? (O wA.heap.size 4)=false:=((Z4 et).2 _ _ M).trans RQ;have q5:wM.cell? (O wA.heap.size 5)=some (J 0):=Z6 (w1:=(wA.drew.alloc (G #[Rn,J 0,J 0,J 0,Rn,J 0,Rn,J 0,Rn] 116))) RQ et;have f5:wM.frozen? (O wA.heap.size 5)=false:=((Z4 et).2 _ _ M).trans RQ;have q6:wM.cell? (O wA.heap.size 6)=some (Rn):=Z6 (w1:=(wA.drew.alloc (G #[Rn,J 0,J 0,J 0,Rn,J 0,Rn,J 0,Rn] 116))) RQ et;have f6:wM.frozen? (O wA.heap.size 6)=false:=((Z4 et).2 _ _ M).trans RQ;have q7:wM.cell? (O wA.heap.size 7)=some (J 0):=Z6 (w1:=(wA.drew.alloc (G #[Rn,J 0,J 0,J 0,Rn,J 0,Rn,J 0,Rn] 116))) RQ et;have f7:wM.frozen? (O wA.heap.size 7)=false:=((Z4 et).2 _ _ M).trans RQ;have q8:wM.cell? (O wA.heap.size 8)=some (Rn):=Z6 (w1:=(wA.drew.alloc (G #[Rn,J 0,J 0,J 0,Rn,J 0,Rn,J 0,Rn] 116))) RQ et;have f8:wM.frozen? (O wA.heap.size 8)=false:=((Z4 et).2 _ _ M).trans RQ)|(go_at_call 185;refine(hY _ (by assumption) _).mono ?_;rintro e wq ⟨y,rfl,_,_,qQ⟩;have qQ:=qQ.symm;subst qQ))
   all_goals
    go_wp2;go_meet
    first
     |(clear OS;exact⟨_,⟨s1,_,_,m,s6,0,⟨#[]⟩,0,s9⟩,rfl,viO bA BM.out BI.out BG.out et,z1,z6,(show(⟨#[]⟩:ByteArray).size<=8000 by decide),z9⟩)
     |(clear nbB;exact⟨_,⟨s1,_,_,m,s6,0,⟨#[]⟩,0,s9⟩,rfl,viQ bA BM.out BI.out BG.out et,z1,z6,(show(⟨#[]⟩:ByteArray).size<=8000 by decide),z9⟩)
  case rest=>
   obtain⟨q,R,rfl,hR,me⟩:=hcut;have⟨w1,f9⟩:=wL wc;subst f9;clear a1 a2 a3 a5 a6 a9 BM BI BG bA hY Dq;have Mm:=Z6 c3 hR.ZB;go_step;go_step;go_cut []from 42 to 52 (λwx=>vcf w wx q w.heap.size)
   case first=>
    obtain⟨n0,l0,h0,m0,o0,a0,f0,v0,e0⟩:=R;have x1:=hR.c 1 _ rfl;have x2:=hR.c 2 _ rfl;have y2:=hR.f 2;have Bc:Hid (vcf w w1 q w.heap.size):=⟨⟨_,hR,me⟩⟩;have Bd:Hid (vcf w (w1.setCell (O q 2) (J l0)) q w.heap.size):=⟨⟨⟨n0,l0,l0,m0,o0,a0,f0,v0,e0⟩,hR.set (x:=J h0) rfl rfl,me⟩⟩;have O6:Hid (vcf w (w1.setCell (O q 2) (J 9999)) q w.heap.size):=⟨⟨⟨n0,l0,9999,m0,o0,a0,f0,v0,e0⟩,hR.set (x:=J h0) rfl rfl,me⟩⟩;clear hR;cases hq1:(s3.toList==[111,110,108,121])with
    |true=>
     go_wp2;go_meet;exact Bd.out
    | false=>
     cases hq2:(s3.toList==[109,97,120])with
     |true=>
      go_wp2;go_meet;exact O6.out
     |false=>
      go_wp2;go_meet;exact Bc.out
   case rest=>
    clear hR me Mm;have⟨⟨n0,l0,h0,m0,o0,a0,f0,v0,e0⟩,hR,me⟩:=hcut.ex;have⟨w2,gH⟩:=wL wc;subst gH;clear hcut;go_step;go_step;go_cut []from 53 to 56 (λwx=>vcf w wx q w.heap.size)
    case first=>
     have x8:=hR.c 8 _ rfl;have y8:=hR.f 8;have Bc:Hid (vcf w w2 q w.heap.size):=⟨⟨_,hR,me⟩⟩;have Bd:Hid (vcf w (w2.setCell (O q 8) (Rn)) q w.heap.size):=⟨⟨⟨n0,l0,h0,m0,o0,a0,f0,v0,⟨#[]⟩⟩,hR.set (x:=I e0) rfl rfl,me.1,me.2.1,me.2.2.1,(show(⟨#[]⟩:ByteArray).size<=8000 by decide)⟩⟩;clear hR;cases hq1:(e0.toList==[45])with
     |true=>
      go_wp2;go_meet;exact Bd.out
     |false=>
      go_wp2;go_meet;exact Bc.out
    case rest=>
     clear hR me n0 l0 h0 m0 o0 a0 f0 v0 e0;have⟨⟨n0,l0,h0,m0,o0,a0,f0,v0,e0⟩,hR,me⟩:=hcut.ex;have⟨w3,gm⟩:=wL wc;subst gm;clear hcut;have Mo:=Z6 c7 hR.ZB;go_wp2_with fail;refine(vep s7 _ z7).mono ?_;rintro e w4 hP;obtain⟨nt,ft,bb,rfl,zf,aD⟩:=hP.ex;have pT:=hR.call aD;have Mp:=Z6 c8 pT.ZB;clear hR aD hP Mo;go_wp2_with fail;refine(vcL s8 _ z8).mono ?_;rintro e w5 ⟨⟨sv,k8,rfl,hq1⟩,aV⟩;have eC:=pT.call aV;clear hq1 pT aV Mp;have x5:=eC.c 5 _ rfl;have y5:=eC.f 5;go_upto_region 14 with fail
     have po:vbi w (w5.setCell (O q 5) (J nt)) q w.heap.size ⟨n0,l0,h0,m0,o0,nt,f0,v0,e0⟩:=eC.set (x:=J a0) rfl rfl;generalize w5.setCell (O q 5) (J nt)=w6 at *;clear x5 y5 eC;have x6:=po.c 6 _ rfl;have y6:=po.f 6;go_upto_region 15 with fail
     have yK:vbi w (w6.setCell (O q 6) (I ft)) q w.heap.size ⟨n0,l0,h0,m0,o0,nt,ft,v0,e0⟩:=po.set (x:=I f0) rfl rfl;generalize w6.setCell (O q 6) (I ft)=w7 at *;clear x6 y6 po;have x7:=yK.c 7 _ rfl;have y7:=yK.f 7;go_upto_region 16 with fail
     have gN:vbi w (w7.setCell (O q 7) (J sv)) q w.heap.size ⟨n0,l0,h0,m0,o0,nt,ft,sv,e0⟩:=yK.set (x:=J v0) rfl rfl;generalize w7.setCell (O q 7) (J sv)=w9 at *;clear x7 y7 yK;have vw:R8 ⟨n0,l0,h0,m0,o0,nt,ft,sv,e0⟩:=⟨me.1,me.2.1,zf,me.2.2.2⟩;have HS:=hid gN;have Jw:=λw=>jm9 ⟨n0,l0,h0,m0,o0,nt,ft,sv,e0⟩ w vw.ok (by have:=vw.2.1;omega)
     generalize BF ⟨n0,l0,h0,m0,o0,nt,ft,sv,e0⟩=rb at *;unfold ZQ.v at Jw;have AE:=gN.c 0 _ rfl;have AF:=gN.c 1 _ rfl;have AG:=gN.c 2 _ rfl;have AH:=gN.c 3 _ rfl;have AI:=gN.c 4 _ rfl;have AJ:=gN.c 5 _ rfl;have Oe:=gN.c 6 _ rfl;have Of:=gN.c 7 _ rfl;have Og:=gN.c 8 _ rfl;have⟨x0,d0⟩:=gN.d 0 Q;have⟨x1,d1⟩:=gN.d 1 Q;have⟨x2,d2⟩:=gN.d 2 Q;have⟨x3,d3⟩:=gN.d 3 Q;have⟨x4,d4⟩:=gN.d 4 Q;have⟨x5,d5⟩:=gN.d 5 Q;have⟨x6,d6⟩:=gN.d 6 Q;have⟨x7,d7⟩:=gN.d 7 Q;have⟨x8,d8⟩:=gN.d 8 Q;have g0:=gN.g 0;have g1:=gN.g 1;have g2:=gN.g 2;have g3:=gN.g 3;have g4:=gN.g 4;have g5:=gN.g 5;have g6:=gN.g 6;have g7:=gN.g 7;have g8:=gN.g 8;clear gN;cases bb with
     |false=>
      go_region;obtain⟨wz,gp⟩:∃x:World,(((((((((w9.setCell (O w.heap.size 0) (I n0)).setCell (O w.heap.size 1) (J l0)).setCell (O w.heap.size 2) (J h0)).setCell (O w.heap.size 3) (J m0)).setCell (O w.heap.size 4) (I o0)).setCell (O w.heap.size 5) (J nt)).setCell (O w.heap.size 6) (I ft)).setCell (O w.heap.size 7) (J sv)).setCell (O w.heap.size 8) (I e0))=x:=⟨_,rfl⟩;have ht:=vdx (W:=w9) (r:=w.heap.size) ⟨n0,l0,h0,m0,o0,nt,ft,sv,e0⟩ (HS.out.d);have mt:Bw w wz:=by rw[<- gp];exact vdy (W:=w9) ⟨n0,l0,h0,m0,o0,nt,ft,sv,e0⟩ (HS.out.ZB) (ZD _)
      have hl:vax w9 w.heap.size ⟨n0,l0,h0,m0,o0,nt,ft,sv,e0⟩=wz:=gp;rw[hl]at ht;have⟨t0,t1,t2,t3,t4,t5,t6,t7,t8⟩:=ht;rw[gp];clear gp hl;go_wp2;exact ZM (v:=.tuple #[ZQ.v ⟨n0,l0,h0,m0,o0,nt,ft,sv,e0⟩,.bool false]) (by simp[results,Tryz.results148,go_sem,ZQ.v,t0,t1,t2,t3,t4,t5,t6,t7,t8]) rfl ⟨⟨_,_,rfl,vw,below_drewN mt _⟩⟩
     |true=>
      cases k8 with
      |false=>
       go_region;obtain⟨wz,gp⟩:∃x:World,(((((((((w9.setCell (O w.heap.size 0) (I n0)).setCell (O w.heap.size 1) (J l0)).setCell (O w.heap.size 2) (J h0)).setCell (O w.heap.size 3) (J m0)).setCell (O w.heap.size 4) (I o0)).setCell (O w.heap.size 5) (J nt)).setCell (O w.heap.size 6) (I ft)).setCell (O w.heap.size 7) (J sv)).setCell (O w.heap.size 8) (I e0))=x:=⟨_,rfl⟩;have ht:=vdx (W:=w9) (r:=w.heap.size) ⟨n0,l0,h0,m0,o0,nt,ft,sv,e0⟩ (HS.out.d);have mt:Bw w wz:=by rw[<- gp];exact vdy (W:=w9) ⟨n0,l0,h0,m0,o0,nt,ft,sv,e0⟩ (HS.out.ZB) (ZD _)
       have hl:vax w9 w.heap.size ⟨n0,l0,h0,m0,o0,nt,ft,sv,e0⟩=wz:=gp;rw[hl]at ht;have⟨t0,t1,t2,t3,t4,t5,t6,t7,t8⟩:=ht;rw[gp];clear gp hl;go_wp2;exact ZM (v:=.tuple #[ZQ.v ⟨n0,l0,h0,m0,o0,nt,ft,sv,e0⟩,.bool false]) (by simp[results,Tryz.results148,go_sem,ZQ.v,t0,t1,t2,t3,t4,t5,t6,t7,t8]) rfl ⟨⟨_,_,rfl,vw,below_drewN mt _⟩⟩
      | true=>
       have az:w.heap.size≠q:=HS.out.ne.symm;go_region_held3 (λw'=>w'.cell? (O q 0)=some (I n0)/\w'.cell? (O q 1)=some (J l0)/\w'.cell? (O q 2)=some (J h0)/\w'.cell? (O q 3)=some (J m0)/\w'.cell? (O q 4)=some (I o0)/\w'.cell? (O q 5)=some (J nt)/\w'.cell? (O q 6)=some (I ft)/\w'.cell? (O q 7)=some (J sv)/\w'.cell? (O q 8)=some (I e0)) (go_keep) ((go_at_call 69;refine(Jw _).mono ?_;rintro e wq ⟨rfl,aY⟩;have p0:=Z6 (w1:=w9.drew) AE aY;have r0:=Z6 (w1:=w9.drew) d0 aY;have SB:wq.frozen? (O w.heap.size 0)=false:=((Z4 aY).2 _ _ (World.block_lt_of_cell? w9.drew _ d0)).trans g0;have p1:=Z6 (w1:=w9.drew) AF aY;have r1:=Z6 (w1:=w9.drew) d1 aY;have SC:wq.frozen? (O w.heap.size 1)=false:=((Z4 aY).2 _ _ (World.block_lt_of_cell? w9.drew _ d0)).trans g1;have p2:=Z6 (w1:=w9.drew) AG aY;have r2:=Z6 (w1:=w9.drew) d2 aY;have SD:wq.frozen? (O w.heap.size 2)=false:=((Z4 aY).2 _ _ (World.block_lt_of_cell? w9.drew _ d0)).trans g2;have p3:=Z6 (w1:=w9.drew) AH aY;have r3:=Z6 (w1:=w9.drew) d3 aY;have SE:wq.frozen? (O w.heap.size 3)=false:=((Z4 aY).2 _ _ (World.block_lt_of_cell? w9.drew _ d0)).trans g3;have p4:=Z6 (w1:=w9.drew) AI aY;have r4:=Z6 (w1:=w9.drew) d4 aY;have SG:wq.frozen? (O w.heap.size 4)=false:=((Z4 aY).2 _ _ (World.block_lt_of_cell? w9.drew _ d0)).trans g4;have p5:=Z6 (w1:=w9.drew) AJ aY;have r5:=Z6 (w1:=w9.drew) d5 aY;have SH:wq.frozen? (O w.heap.size 5)=false:=((Z4 aY).2 _ _ (World.block_lt_of_cell? w9.drew _ d0)).trans g5;have p6:=Z6 (w1:=w9.drew) Oe aY;have r6:=Z6 (w1:=w9.drew) d6 aY;have SI:wq.frozen? (O w.heap.size 6)=false:=((Z4 aY).2 _ _ (World.block_lt_of_cell? w9.drew _ d0)).trans g6;have p7:=Z6 (w1:=w9.drew) Of aY;have r7:=Z6 (w1:=w9.drew) d7 aY;have SJ:wq.frozen? (O w.heap.size 7)=false:=((Z4 aY).2 _ _ (World.block_lt_of_cell? w9.drew _ d0)).trans g7;have p8:=Z6 (w1:=w9.drew) Og aY;have r8:=Z6 (w1:=w9.drew) d8 aY;have SK:wq.frozen? (O w.heap.size 8)=false:=((Z4 aY).2 _ _ (World.block_lt_of_cell? w9.drew _ d0)).trans g8))
       all_goals
        have iQ:Bw w9 wq:=⟨aY.1,aY.2,aY.3,aY.4,aY.5⟩;obtain⟨wz,gp⟩:∃x:World,(((((((((wq.setCell (O w.heap.size 0) (I n0)).setCell (O w.heap.size 1) (J l0)).setCell (O w.heap.size 2) (J h0)).setCell (O w.heap.size 3) (J m0)).setCell (O w.heap.size 4) (I o0)).setCell (O w.heap.size 5) (J nt)).setCell (O w.heap.size 6) (I ft)).setCell (O w.heap.size 7) (J sv)).setCell (O w.heap.size 8) (I e0))=x:=⟨_,rfl⟩;have ht:=vdx (W:=wq) (r:=w.heap.size) ⟨n0,l0,h0,m0,o0,nt,ft,sv,e0⟩ (λj hj=>by have⟨x,hx⟩:=HS.out.d j hj;exact⟨x,Z6 hx iQ⟩);have mt:Bw w wz:=by rw[<- gp];exact vdy (W:=wq) ⟨n0,l0,h0,m0,o0,nt,ft,sv,e0⟩ (vat HS.out.ZB iQ) (ZD _)
        have hl:vax wq w.heap.size ⟨n0,l0,h0,m0,o0,nt,ft,sv,e0⟩=wz:=gp;rw[hl]at ht;have⟨t0,t1,t2,t3,t4,t5,t6,t7,t8⟩:=ht;rw[gp];clear gp hl;go_wp2;exact ZM (v:=.tuple #[ZQ.v ⟨n0,l0,h0,m0,o0,nt,ft,sv,e0⟩,.bool rb]) (by simp[results,Tryz.results148,go_sem,ZQ.v,t0,t1,t2,t3,t4,t5,t6,t7,t8]) rfl ⟨⟨_,_,rfl,vw,mt⟩⟩
theorem vih(b o n cap:Nat)(w:World)(hW:vas w b o n):
  C 148 #[U (some (O b o)) n cap] w λe w'=>vdW w e w':=by
 by_cases h:n=10
 .subst h;exact vio b o cap w hW
 .exact vin b o n cap w h
