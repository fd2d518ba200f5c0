import Derived.Test.YtmkjofknhdikpaaGreatDoorSRd
set_option maxRecDepth 20000
set_option maxHeartbeats 0
set_option linter.unusedSimpArgs false
open Go.RowKit
namespace Go.Proofs.YtmkjofknhdikpaaGreatDoor
variable{W W2 w w0 wA wM:World}{i q r:Nat}{E:TX}{v x:Value}{R:Ud}{a le on:ByteArray}{h l mo:Int}
def E8(E:TX):Prop:=E.Tw.size<=8000/\E.Uz.size<=8000/\E.of.size<=8000
structure vcz(w:World)(e:Ending)(w':World):Prop where
 ex:∃(E:TX) (m k:Bool),e=V (.tuple #[E.v,Z m,Z k])/\E8 E/\Bw w w'
structure ZE(w0 W:World)(q r:Nat)(E:TX):Prop where
 c:∀j x,E.cs[j]? =some x->W.cell? (O q j)=some x
 d:∀j,j<6->∃x,W.cell? (O r j)=some x
 f:∀j,W.frozen? (O q j)=false
 g:∀j,W.frozen? (O r j)=false
 TQ:Bw w0 W
 hq:w0.heap.size<=q
 hr:w0.heap.size<=r
 ne:q≠r
theorem ZE.call(h:ZE w0 W q r E)(hb:Bw W W2):ZE w0 W2 q r E where
 c j x hx:=Ut (h.c j x hx) hb
 d j hj:=by have⟨x,hx⟩:=h.d j hj;exact⟨x,Ut hx hb⟩
 f j:=((Uq hb).2 _ _ (TV (h.c 0 _ rfl))).trans (h.f j)
 g j:=by have⟨x,hx⟩:=h.d 0 Q;exact((Uq hb).2 _ _ (TV hx)).trans (h.g j)
 TQ:=h.TQ.trans (hb.mono h.TQ.size)
 hq:=h.hq
 hr:=h.hr
 ne:=h.ne
theorem ZE.set{E':TX}(h:ZE w0 W q r E)(hx:E.cs[i]? =some x)(he:E'.cs=E.cs.set i v):ZE w0 (W.setCell (O q i) v) q r E' where
 c j u hu:=by
  rw[he]at hu;by_cases hj:i=j
  .subst hj
   rw[List.getElem?_set_self (Ux hx).1]at hu;obtain rfl:=Uw hu;exact U8 _ _ _ (h.c i x hx)
  .rw[List.getElem?_set_ne hj]at hu
   rw[Uh _ _ _ _ vQj];exact h.c j u hu
 d j hj:=by
  have⟨u,hu⟩:=h.d j hj;have:=h.ne;exact⟨u,by rw[Uh _ _ _ _ vQj];exact hu⟩
 f j:=by rw[World.frozen?_setCell];exact h.f j
 g j:=by rw[World.frozen?_setCell];exact h.g j
 TQ:=h.TQ.setCell h.hq _
 hq:=h.hq
 hr:=h.hr
 ne:=h.ne
def vbF:TX:=⟨0,⟨#[]⟩,0,⟨#[]⟩,253402300799,⟨#[119]⟩⟩
theorem vdy(w:World):ZE w ((w.alloc (G #[J 0,ZV,J 0,ZV,J 0,ZV] 159)).alloc (G #[J 0,ZV,J 0,ZV,J 253402300799,I ⟨#[119]⟩] 159)) (w.heap.size+1) w.heap.size vbF where
 c j x hx:=by
  have hj:=(Ux hx).1;simp[TX.cs]at hj;obtain rfl|rfl|rfl|rfl|rfl|rfl:j=0\/j=1\/j=2\/j=3\/j=4\/j=5:=Q
  all_goals
   obtain rfl:=Uw hx;simp[go_sem,vbF]
 d j hj:=by
  obtain rfl|rfl|rfl|rfl|rfl|rfl:j=0\/j=1\/j=2\/j=3\/j=4\/j=5:=Q
  all_goals exact⟨_,by simp[go_sem];rfl⟩
 f j:=Z8
 g j:=Z8
 TQ:=(TK w _).alloc M _
 hq:=Q
 hr:=Q
 ne:=Q
def Zq(W:World)(r:Nat)(E:TX):World:=(((((W.setCell (O r 0) (J E.TI)).setCell (O r 1) (I E.Tw)).setCell (O r 2) (J E.TF)).setCell (O r 3) (I E.Uz)).setCell (O r 4) (J E.Ua)).setCell (O r 5) (I E.of)
theorem vcQ(E:TX)(h:∀j,j<6->∃x,W.cell? (O r j)=some x):
  (Zq W r E).cell? (O r 0)=some (J E.TI)/\(Zq W r E).cell? (O r 1)=some (I E.Tw)/\(Zq W r E).cell? (O r 2)=some (J E.TF)/\(Zq W r E).cell? (O r 3)=some (I E.Uz)/\(Zq W r E).cell? (O r 4)=some (J E.Ua)/\(Zq W r E).cell? (O r 5)=some (I E.of):=by
 have o:∀(W:World) (i j:Nat) (v x:Value),i≠j->W.cell? (O r j)=some x->(W.setCell (O r i) v).cell? (O r j)=some x:=λW i j v x eF hx=>by
  rw[Uh _ _ _ _ vQj];exact hx
 have s:∀(W:World) (i:Nat) (v:Value),(∃x,W.cell? (O r i)=some x)->(W.setCell (O r i) v).cell? (O r i)=some v:=λW i v ⟨x,hx⟩=>U8 _ _ _ hx
 have⟨x1,h1⟩:=h 1 Q;have⟨x2,h2⟩:=h 2 Q;have⟨x3,h3⟩:=h 3 Q;have⟨x4,h4⟩:=h 4 Q;have⟨x5,h5⟩:=h 5 Q;unfold Zq
 exact⟨o _ 5 0 _ _ Q (o _ 4 0 _ _ Q (o _ 3 0 _ _ Q (o _ 2 0 _ _ Q (o _ 1 0 _ _ Q (s _ 0 _ (h 0 Q)))))),
  o _ 5 1 _ _ Q (o _ 4 1 _ _ Q (o _ 3 1 _ _ Q (o _ 2 1 _ _ Q (s _ 1 _ ⟨_,o _ 0 1 _ _ Q h1⟩)))),
  o _ 5 2 _ _ Q (o _ 4 2 _ _ Q (o _ 3 2 _ _ Q (s _ 2 _ ⟨_,o _ 1 2 _ _ Q (o _ 0 2 _ _ Q h2)⟩))),
  o _ 5 3 _ _ Q (o _ 4 3 _ _ Q (s _ 3 _ ⟨_,o _ 2 3 _ _ Q (o _ 1 3 _ _ Q (o _ 0 3 _ _ Q h3))⟩)),
  o _ 5 4 _ _ Q (s _ 4 _ ⟨_,o _ 3 4 _ _ Q (o _ 2 4 _ _ Q (o _ 1 4 _ _ Q (o _ 0 4 _ _ Q h4)))⟩),
  s _ 5 _ ⟨_,o _ 4 5 _ _ Q (o _ 3 5 _ _ Q (o _ 2 5 _ _ Q (o _ 1 5 _ _ Q (o _ 0 5 _ _ Q h5))))⟩⟩
theorem vcR(E:TX)(h:Bw w W)(hr:w.heap.size<=r):Bw w (Zq W r E):=
 (((((h.setCell hr _).setCell hr _).setCell hr _).setCell hr _).setCell hr _).setCell hr _
theorem vgw(b o n cap:Nat)(w:World)(hn:n<3):
  C 154 #[U (some (O b o)) n cap] w λe w'=>vcz w e w':=by
 have hg:(n:Int)<3:=Q;have hB:=λo o2=>(TK w o).alloc M o2
 delta C;go_in;go_wp2;exact Ue (v:=.tuple #[vbF.v,Z false,Z false]) (by simp[results,Tryz.results154,go_sem,vbF,TX.v]) rfl ⟨⟨_,_,_,rfl,by unfold E8 vbF;decide,hB _ _⟩⟩
structure vaG(w0 W:World)(q r:Nat):Prop where
 ex:∃E:TX,ZE w0 W q r E/\E8 E
theorem vbg(E:TX)(h:q≠r)(j:Nat):(Zq W r E).cell? (O q j)=W.cell? (O q j):=by
 unfold Zq;rw[Uh _ _ _ _ vQj,Uh _ _ _ _ vQj,Uh _ _ _ _ vQj,Uh _ _ _ _ vQj,Uh _ _ _ _ vQj,Uh _ _ _ _ vQj]
theorem vgx(b o n cap:Nat)(w:World)(s0 s1 s2:ByteArray)(c0:w.cell? (O b o)=some (.string s0))(c1:w.cell? (O b (o+1))=some (.string s1))(c2:w.cell? (O b (o+2))=some (.string s2))(z0:s0.size<=8000)(z1:s1.size<=8000)(z2:s2.size<=8000)(mE:3<=n)(hn:n<=8001)(eh:n<=cap)(hW:WU w b o n):
  C 154 #[.slice (some (O b o)) n cap] w λe w'=>vcz w e w':=by
 have hg:¬(n:Int)<3:=(by omega);have HU:Hid (∀w,WU w b (o+3) (n-3)->1<=n-3->C 208 #[.slice (some (O b (o+3))) (n-3:Nat) (cap-3:Nat)] w λe w'=>vaY w e w'):=λw h h1=>vgG b (o+3) (n-3) (cap-3) w h1 (by omega) h
 have GU:Hid (WU w b (o+3) (n-3)):=⟨λk hk=>by
  obtain⟨s,h1,h2⟩:=hW.ex (3+k) (by omega)
  exact⟨s,by rw[Nat.add_assoc];exact h1,h2⟩⟩
 clear hW;have b0:=(vdy w).TQ;have Mg:=Ut c0 b0;delta C;go_in;go_wp2_with fail;refine(vbo s0 _ z0).mono ?_;rintro e w1 ⟨⟨n0,k0,rfl,sJ⟩,hb1⟩;clear sJ;have Fq:=(vdy w).call hb1;have x0:=Fq.c 0 _ rfl;have y0:=Fq.f 0;clear b0 Mg hb1;go_upto_region 6 with fail
 have qf:ZE w (w1.setCell (O (w.heap.size+1) 0) (J n0)) (w.heap.size+1) w.heap.size ⟨n0,⟨#[]⟩,0,⟨#[]⟩,253402300799,⟨#[119]⟩⟩:=Fq.set (x:=J 0) rfl rfl;generalize w1.setCell (O (w.heap.size+1) 0) (J n0)=w2 at *;clear x0 y0 Fq;have x3:=qf.c 3 _ rfl;have y3:=qf.f 3;have Ml:=Ut c2 qf.TQ;go_upto_region 7 with fail
 have Fs:ZE w (w2.setCell (O (w.heap.size+1) 3) (.string s2)) (w.heap.size+1) w.heap.size ⟨n0,⟨#[]⟩,0,s2,253402300799,⟨#[119]⟩⟩:=qf.set (x:=.string ⟨#[]⟩) rfl rfl;generalize w2.setCell (O (w.heap.size+1) 3) (.string s2)=w3 at *;clear x3 y3 qf Ml;have Mi:=Ut c1 Fs.TQ;go_cut [8,9]from 31 to 37 (λx y wx=>(∃sv k1,x=J sv/\y=.bool k1)/\Bw w3 wx)
 case first=>
  go_wp2_with fail;refine(vbo s1 _ z1).mono ?_;rintro e w4 ⟨⟨sv,k1,rfl,hq1⟩,aD⟩;clear hq1;go_wp2;go_meet;exact⟨⟨_,_,rfl,rfl⟩,aD⟩
 case rest=>
  obtain⟨⟨sv,k1,rfl,rfl⟩,aD⟩:=hcut;obtain⟨w4,yj⟩:=UL wc;subst yj;have uH:=Fs.call aD;have Mj:=Ut c1 uH.TQ;clear aD Fs Mi;go_step;go_step;go_cut [7]from 38 to 54 (λx wx=>(∃k:Bool,x=.bool k)/\vaG w wx (w.heap.size+1) w.heap.size)
  case first=>
   cases k1 with
   | false=>
    have hN:=λw=>jbu s1 w (by unfold maxLen;omega)
    cases hnb:U6 s1 with
    |true=>
     rw[hnb]at hN;have x1:=uH.c 1 _ rfl;have y1:=uH.f 1;have HA:Hid (vaG w (w4.setCell (O (w.heap.size+1) 1) (.string s1)) (w.heap.size+1) w.heap.size):=⟨⟨⟨n0,s1,0,s2,253402300799,⟨#[119]⟩⟩,uH.set (x:=.string ⟨#[]⟩) rfl rfl,z1,z2,(show(⟨#[119]⟩:ByteArray).size<=8000 by decide)⟩⟩;clear uH hnb;go_wp2_with fail;refine(hN _).mono ?_;rintro e w5 ⟨rfl,oK⟩;have oK:=oK.symm;subst oK;go_wp2;go_meet;exact⟨⟨_,rfl⟩,HA.out⟩
    |false=>
     rw[hnb]at hN;have HA:Hid (vaG w w4 (w.heap.size+1) w.heap.size):=⟨⟨_,uH,(show(⟨#[]⟩:ByteArray).size<=8000 by decide),z2,(show(⟨#[119]⟩:ByteArray).size<=8000 by decide)⟩⟩;clear uH hnb;go_wp2_with fail;refine(hN _).mono ?_;rintro e w5 ⟨rfl,oK⟩;have oK:=oK.symm;subst oK;go_wp2;go_meet;exact⟨⟨_,rfl⟩,HA.out⟩
   |true=>
    have yW:=λw=>jgr sv w
    cases hsv:Uk sv (-7200) 7200 with
    |true=>
     rw[hsv]at yW;have x2:=uH.c 2 _ rfl;have y2:=uH.f 2;have HA:Hid (vaG w (w4.setCell (O (w.heap.size+1) 2) (J sv)) (w.heap.size+1) w.heap.size):=⟨⟨⟨n0,⟨#[]⟩,sv,s2,253402300799,⟨#[119]⟩⟩,uH.set (x:=J 0) rfl rfl,(show(⟨#[]⟩:ByteArray).size<=8000 by decide),z2,(show(⟨#[119]⟩:ByteArray).size<=8000 by decide)⟩⟩;clear uH hsv;go_wp2_with fail;refine(yW _).mono ?_;rintro e w5 ⟨rfl,oK⟩;have oK:=oK.symm;subst oK;go_wp2;go_meet;exact⟨⟨_,rfl⟩,HA.out⟩
    | false=>
     rw[hsv]at yW;clear hsv;go_wp2_with fail;refine(yW _).mono ?_;rintro e w5 ⟨rfl,oK⟩;have oK:=oK.symm;subst oK;have hN:=λw=>jbu s1 w (by unfold maxLen;omega)
     cases hnb:U6 s1 with
     |true=>
      rw[hnb]at hN;have x1:=uH.c 1 _ rfl;have y1:=uH.f 1;have HA:Hid (vaG w (w4.setCell (O (w.heap.size+1) 1) (.string s1)) (w.heap.size+1) w.heap.size):=⟨⟨⟨n0,s1,0,s2,253402300799,⟨#[119]⟩⟩,uH.set (x:=.string ⟨#[]⟩) rfl rfl,z1,z2,(show(⟨#[119]⟩:ByteArray).size<=8000 by decide)⟩⟩;clear uH hnb;go_wp2_with fail;refine(hN _).mono ?_;rintro e w5 ⟨rfl,oK⟩;have oK:=oK.symm;subst oK;go_wp2;go_meet;exact⟨⟨_,rfl⟩,HA.out⟩
     |false=>
      rw[hnb]at hN;have HA:Hid (vaG w w4 (w.heap.size+1) w.heap.size):=⟨⟨_,uH,(show(⟨#[]⟩:ByteArray).size<=8000 by decide),z2,(show(⟨#[119]⟩:ByteArray).size<=8000 by decide)⟩⟩;clear uH hnb;go_wp2_with fail;refine(hN _).mono ?_;rintro e w5 ⟨rfl,oK⟩;have oK:=oK.symm;subst oK;go_wp2;go_meet;exact⟨⟨_,rfl⟩,HA.out⟩
  case rest=>
   obtain⟨⟨k5,rfl⟩,vx⟩:=hcut;clear uH Mj;obtain⟨w5,oK⟩:=UL wc;subst oK;go_step;go_step;go_cut [7]from 55 to 72 (λx wx=>(∃k:Bool,x=.bool k)/\vaG w wx (w.heap.size+1) w.heap.size)
   case first=>
    by_cases h3:3<n
    .have nK:(3:Int)<(n:Int):=(by omega)
     obtain⟨⟨e0,e1,e2,e3,e4,e5⟩,sl,tU⟩:=vx.ex;go_wp2_with fail;refine(HU.out _ (GU.out.below sl.TQ) (by omega)).mono ?_;rintro e w6 hP;obtain⟨un,fu,bu,rfl,zu,hb6⟩:=hP.ex;have xN:=sl.call hb6;have x4:=xN.c 4 _ rfl;have y4:=xN.f 4;clear sl hb6 hP vx HU;go_upto_region 16 with fail
     have yL:ZE w (w6.setCell (O (w.heap.size+1) 4) (J un)) (w.heap.size+1) w.heap.size ⟨e0,e1,e2,e3,un,e5⟩:=xN.set (x:=J e4) rfl rfl;generalize w6.setCell (O (w.heap.size+1) 4) (J un)=w7 at *;clear x4 y4 xN;have x5:=yL.c 5 _ rfl;have y5:=yL.f 5;go_upto_region 17 with fail
     have Jy:ZE w (w7.setCell (O (w.heap.size+1) 5) (.string fu)) (w.heap.size+1) w.heap.size ⟨e0,e1,e2,e3,un,fu⟩:=yL.set (x:=.string e5) rfl rfl;have HA:Hid (vaG w (w7.setCell (O (w.heap.size+1) 5) (.string fu)) (w.heap.size+1) w.heap.size):=⟨⟨_,Jy,tU.1,tU.2.1,zu⟩⟩;generalize w7.setCell (O (w.heap.size+1) 5) (.string fu)=w8 at *;clear x5 y5 yL Jy;cases k5
     all_goals
      go_wp2;go_meet;exact⟨⟨_,rfl⟩,HA.out⟩
    .have nK:¬(3:Int)<(n:Int):=(by omega)
     have HA:=hid vx;clear vx;go_wp2;go_meet;exact⟨⟨_,rfl⟩,HA.out⟩
   case rest=>
    obtain⟨⟨k9,rfl⟩,I3⟩:=hcut;obtain⟨w9,EI⟩:=UL wc;subst EI;obtain⟨⟨e0,e1,e2,e3,e4,e5⟩,kq,yq⟩:=I3.ex;have HS:=hid kq;have z3:e3.size<=8000:=yq.2.1;have AE:=kq.c 0 _ rfl;have AF:=kq.c 1 _ rfl;have AG:=kq.c 2 _ rfl;have AH:=kq.c 3 _ rfl;have AI:=kq.c 4 _ rfl;have AJ:=kq.c 5 _ rfl;obtain⟨x0,d0⟩:=kq.d 0 (by omega);obtain⟨x1,d1⟩:=kq.d 1 (by omega);obtain⟨x2,d2⟩:=kq.d 2 (by omega);obtain⟨x3,d3⟩:=kq.d 3 (by omega);obtain⟨x4,d4⟩:=kq.d 4 (by omega);obtain⟨x5,d5⟩:=kq.d 5 (by omega);have g0:=kq.g 0;have g1:=kq.g 1;have g2:=kq.g 2;have g3:=kq.g 3;have g4:=kq.g 4;have g5:=kq.g 5;clear I3 vx kq HU GU;cases k9 with
    |false=>
     go_upto_region 18 with fail
     go_region;obtain⟨w7,yk⟩:∃x:World,((((((w9.setCell (O w.heap.size 0) (J e0)).setCell (O w.heap.size 1) (.string e1)).setCell (O w.heap.size 2) (J e2)).setCell (O w.heap.size 3) (.string e3)).setCell (O w.heap.size 4) (J e4)).setCell (O w.heap.size 5) (.string e5))=x:=⟨_,rfl⟩;have ht:=vcQ (W:=w9) (r:=w.heap.size) ⟨e0,e1,e2,e3,e4,e5⟩ HS.out.d;have mt:Bw w w7:=by rw[<- yk];exact vcR (W:=w9) ⟨e0,e1,e2,e3,e4,e5⟩ HS.out.TQ (TP _)
     have hl:Zq w9 w.heap.size ⟨e0,e1,e2,e3,e4,e5⟩=w7:=yk;rw[hl]at ht;obtain⟨t0,t1,t2,t3,t4,t5⟩:=ht;rw[yk];clear yk hl;go_wp2;exact Ue (v:=.tuple #[TX.v ⟨e0,e1,e2,e3,e4,e5⟩,.bool (decide (3<(n:Int))),.bool false]) (by simp[results,Tryz.results154,go_sem,TX.v,t0,t1,t2,t3,t4,t5]) rfl ⟨⟨_,_,_,rfl,yq,below_drewN mt _⟩⟩
    |true=>
     have yr:=λw=>Yz n0 (-86400) 86400 w
     have Ik:=λw=>jjz e3 w (by unfold maxLen;omega)
     generalize Ya e3=fb at *;cases hi:Uk n0 (-86400) 86400 with
     |false=>
      rw[hi]at yr;clear hi Ik;go_upto_region 18 with fail
      refine wp_region_noPanic ?_;refine wp_region_held_drew (S:=λw'=>w'.cell? (O (w.heap.size+1) 0)=some (J e0)/\w'.cell? (O (w.heap.size+1) 1)=some (.string e1)/\w'.cell? (O (w.heap.size+1) 2)=some (J e2)/\w'.cell? (O (w.heap.size+1) 3)=some (.string e3)/\w'.cell? (O (w.heap.size+1) 4)=some (J e4)/\w'.cell? (O (w.heap.size+1) 5)=some (.string e5)) (by kernel_rfl) ⟨AE,AF,AG,AH,AI,AJ⟩ (λcZ=>?_);refine wpAnyH_take (i:=0) (v:=?v0) rfl (by kernel_rfl) (by kernel_rfl) (by kernel_rfl) (λ_ _ _ h=>h) (Or.inl ⟨(by rfl),?y0⟩) cZ ?z0
      case y0=>(intro wq dA;(try dsimp only at dA);go_simp;try with_reducible rfl)
      try simp only[Act.put,qq1,qq2,qq3]
      refine wpAnyH_take (i:=1) (v:=?v1) rfl (by kernel_rfl) (by kernel_rfl) (by kernel_rfl) (λ_ _ _ h=>h) (Or.inl ⟨(by rfl),?y1⟩) cZ ?z1
      case y1=>(intro wq dA;(try dsimp only at dA);go_simp;try with_reducible rfl)
      try simp only[Act.put,qq1,qq2,qq3]
      refine wpAnyH_take (i:=2) (v:=?v2) rfl (by kernel_rfl) (by kernel_rfl) (by kernel_rfl) (λ_ _ _ h=>h) (Or.inl ⟨(by rfl),?y2⟩) cZ ?z2
      case y2=>(intro wq dA;(try dsimp only at dA);go_simp;try with_reducible rfl)
      try simp only[Act.put,qq1,qq2,qq3]
      refine wpAnyH_take (i:=3) (v:=?v3) rfl (by kernel_rfl) (by kernel_rfl) (by kernel_rfl) (λ_ _ _ h=>h) (Or.inl ⟨(by rfl),?y3⟩) cZ ?z3
      case y3=>(intro wq dA;(try dsimp only at dA);go_simp;try with_reducible rfl)
      try simp only[Act.put,qq1,qq2,qq3]
      refine wpAnyH_take (i:=4) (v:=?v4) rfl (by kernel_rfl) (by kernel_rfl) (by kernel_rfl) (λ_ _ _ h=>h) (Or.inl ⟨(by rfl),?y4⟩) cZ ?z4
      case y4=>(intro wq dA;(try dsimp only at dA);go_simp;try with_reducible rfl)
      try simp only[Act.put,qq1,qq2,qq3]
      refine wpAnyH_take (i:=5) (v:=?v5) rfl (by kernel_rfl) (by kernel_rfl) (by kernel_rfl) (λ_ _ _ h=>h) (Or.inl ⟨(by rfl),?y5⟩) cZ ?z5
      case y5=>(intro wq dA;(try dsimp only at dA);go_simp;try with_reducible rfl)
      try simp only[Act.put,qq1,qq2,qq3]
      refine wpAnyH_take (i:=6) (v:=?v6) rfl (by kernel_rfl) (by kernel_rfl) (by kernel_rfl) (λ_ _ _ h=>h) (Or.inl ⟨(by rfl),?y6⟩) cZ ?z6
      case y6=>(intro wq dA;(try dsimp only at dA);go_simp;try with_reducible rfl)
      try simp only[Act.put,qq1,qq2,qq3]
      refine wpAnyH_ready (rs:=[7]) (by kernel_rfl) (by simp) ?_;refine AllReadyH.cons rfl (λK hK=>?_) AllReadyH.nil;go_simp;refine(yr _).mono ?_;rintro e wq ⟨rfl,qQ⟩;have qQ:=qQ.symm;subst qQ;go_wp2_with fail;refine hK.out _ _ cZ (λcZ=>?_);clear hK K
      try simp only[Act.put,qq1,qq2,qq3]
      refine wpAnyH_take (i:=8) (v:=?v8) rfl (by kernel_rfl) (by kernel_rfl) (by kernel_rfl) (λ_ _ _ h=>h) (Or.inl ⟨(by rfl),?y8⟩) cZ ?z8
      case y8=>(intro wq dA;(try dsimp only at dA);go_simp;try with_reducible rfl)
      try simp only[Act.put,qq1,qq2,qq3]
      refine wpAnyH_take (i:=9) (v:=?v9) rfl (by kernel_rfl) (by kernel_rfl) (by kernel_rfl) (λ_ _ _ h=>h) (Or.inl ⟨(by rfl),?y9⟩) cZ ?z9
      case y9=>(intro wq dA;(try dsimp only at dA);go_simp;try with_reducible rfl)
      try simp only[Act.put,qq1,qq2,qq3]
      refine wpAnyH_take (i:=10) (v:=undef) rfl (by kernel_rfl) (by kernel_rfl) (by kernel_rfl) (λ_ _ _ h=>h) (Or.inr ⟨(by rfl),rfl⟩) cZ ?_
      try simp only[Act.put,qq1,qq2,qq3]
      refine wpAnyH_take (i:=11) (v:=undef) rfl (by kernel_rfl) (by kernel_rfl) (by kernel_rfl) (λ_ _ _ h=>h) (Or.inr ⟨(by rfl),rfl⟩) cZ ?_
      try simp only[Act.put,qq1,qq2,qq3]
      refine wpAnyH_take (i:=12) (v:=undef) rfl (by kernel_rfl) (by kernel_rfl) (by kernel_rfl) (λ_ _ _ h=>h) (Or.inr ⟨(by rfl),rfl⟩) cZ ?_
      try simp only[Act.put,qq1,qq2,qq3]
      refine wpAnyH_take (i:=13) (v:=?v13) rfl (by kernel_rfl) (by kernel_rfl) (by kernel_rfl) (λ_ _ _ h=>h) (Or.inl ⟨(by rfl),?y13⟩) cZ ?z13
      case y13=>(intro wq dA;(try dsimp only at dA);go_simp;try with_reducible rfl)
      try simp only[Act.put,qq1,qq2,qq3]
      refine wpAnyH_ready (rs:=[14]) (by kernel_rfl) (by simp) ?_;refine AllReadyH.cons rfl (λK hK=>?_) AllReadyH.nil;go_simp;obtain⟨w7,yk⟩:∃x:World,((((((w9.setCell (O w.heap.size 0) (J e0)).setCell (O w.heap.size 1) (.string e1)).setCell (O w.heap.size 2) (J e2)).setCell (O w.heap.size 3) (.string e3)).setCell (O w.heap.size 4) (J e4)).setCell (O w.heap.size 5) (.string e5))=x:=⟨_,rfl⟩;have ht:=vcQ (W:=w9) (r:=w.heap.size) ⟨e0,e1,e2,e3,e4,e5⟩ HS.out.d;have mt:Bw w w7:=by rw[<- yk];exact vcR (W:=w9) ⟨e0,e1,e2,e3,e4,e5⟩ HS.out.TQ (TP _)
      have hl:Zq w9 w.heap.size ⟨e0,e1,e2,e3,e4,e5⟩=w7:=yk;have p0:w7.cell? (O (w.heap.size+1) 0)=some (J e0):=by rw[<- hl,vbg _ (show w.heap.size+1≠w.heap.size by omega)];exact AE
      have p1:w7.cell? (O (w.heap.size+1) 1)=some (.string e1):=by rw[<- hl,vbg _ (show w.heap.size+1≠w.heap.size by omega)];exact AF
      have p2:w7.cell? (O (w.heap.size+1) 2)=some (J e2):=by rw[<- hl,vbg _ (show w.heap.size+1≠w.heap.size by omega)];exact AG
      have p3:w7.cell? (O (w.heap.size+1) 3)=some (.string e3):=by rw[<- hl,vbg _ (show w.heap.size+1≠w.heap.size by omega)];exact AH
      have p4:w7.cell? (O (w.heap.size+1) 4)=some (J e4):=by rw[<- hl,vbg _ (show w.heap.size+1≠w.heap.size by omega)];exact AI
      have p5:w7.cell? (O (w.heap.size+1) 5)=some (.string e5):=by rw[<- hl,vbg _ (show w.heap.size+1≠w.heap.size by omega)];exact AJ
      rw[hl]at ht;obtain⟨t0,t1,t2,t3,t4,t5⟩:=ht;rw[yk];clear yk hl;refine hK.out _ _ ⟨p0,p1,p2,p3,p4,p5⟩ (λcZ=>?_);clear hK K
      try simp only[Act.put,qq1,qq2,qq3]
      refine wpAnyH_take (i:=15) (v:=?v15) rfl (by kernel_rfl) (by kernel_rfl) (by kernel_rfl) (λ_ _ _ h=>h) (Or.inl ⟨(by rfl),?y15⟩) cZ ?z15
      case y15=>(intro wq dA;(try dsimp only at dA);go_simp;try with_reducible rfl)
      try simp only[Act.put,qq1,qq2,qq3]
      refine wpAnyH_take (i:=16) (v:=?v16) rfl (by kernel_rfl) (by kernel_rfl) (by kernel_rfl) (λ_ _ _ h=>h) (Or.inl ⟨(by rfl),?y16⟩) cZ ?z16
      case y16=>(intro wq dA;(try dsimp only at dA);go_simp;try with_reducible rfl)
      try simp only[Act.put,List.getElem_toArray,List.getElem_cons_succ,List.getElem_cons_zero,qq1,qq2,qq3]
      refine wpAnyH_done (by kernel_rfl) ?_ _;refine NoPanic.normal ?_;clear cZ p0 p1 p2 p3 p4 p5;go_wp2;exact Ue (v:=.tuple #[TX.v ⟨e0,e1,e2,e3,e4,e5⟩,.bool (decide (3<(n:Int))),.bool false]) (by simp[results,Tryz.results154,go_sem,TX.v,t0,t1,t2,t3,t4,t5]) rfl ⟨⟨_,_,_,rfl,yq,below_drewN mt _⟩⟩
     | true=>
      rw[hi]at yr;clear hi;go_upto_region 18 with fail
      go_region_held3 (λw'=>w'.cell? (O (w.heap.size+1) 0)=some (J e0)/\w'.cell? (O (w.heap.size+1) 1)=some (.string e1)/\w'.cell? (O (w.heap.size+1) 2)=some (J e2)/\w'.cell? (O (w.heap.size+1) 3)=some (.string e3)/\w'.cell? (O (w.heap.size+1) 4)=some (J e4)/\w'.cell? (O (w.heap.size+1) 5)=some (.string e5)) (go_keep) (first|(go_at_call 25;refine(yr _).mono ?_;rintro e wq ⟨rfl,qQ⟩;have qQ:=qQ.symm;subst qQ)|(go_at_call 150;refine(Ik _).mono ?_;rintro e wq ⟨rfl,qQ⟩;have qQ:=qQ.symm;subst qQ))
      all_goals
       obtain⟨w7,yk⟩:∃x:World,((((((w9.setCell (O w.heap.size 0) (J e0)).setCell (O w.heap.size 1) (.string e1)).setCell (O w.heap.size 2) (J e2)).setCell (O w.heap.size 3) (.string e3)).setCell (O w.heap.size 4) (J e4)).setCell (O w.heap.size 5) (.string e5))=x:=⟨_,rfl⟩;have ht:=vcQ (W:=w9) (r:=w.heap.size) ⟨e0,e1,e2,e3,e4,e5⟩ HS.out.d;have mt:Bw w w7:=by rw[<- yk];exact vcR (W:=w9) ⟨e0,e1,e2,e3,e4,e5⟩ (HS.out.TQ) (TP _)
       have hl:Zq w9 w.heap.size ⟨e0,e1,e2,e3,e4,e5⟩=w7:=yk;rw[hl]at ht;obtain⟨t0,t1,t2,t3,t4,t5⟩:=ht;rw[yk];clear yk hl;go_wp2;exact Ue (v:=.tuple #[TX.v ⟨e0,e1,e2,e3,e4,e5⟩,.bool (decide (3<(n:Int))),.bool fb]) (by simp[results,Tryz.results154,go_sem,TX.v,t0,t1,t2,t3,t4,t5]) rfl ⟨⟨_,_,_,rfl,yq,below_drewN mt _⟩⟩
theorem vcY(b o n cap:Nat)(w:World)(hn:n<=8001)(eh:n<=cap)(hW:WU w b o n):
  C 154 #[U (some (O b o)) n cap] w λe w'=>vcz w e w':=by
 by_cases h:n<3
 .exact vgw b o n cap w h
 .have⟨s0,c0,z0⟩:=hW.ex 0 Q
  rw[Nat.add_zero]at c0;have⟨s1,c1,z1⟩:=hW.ex 1 Q;have⟨s2,c2,z2⟩:=hW.ex 2 Q;exact vgx b o n cap w s0 s1 s2 c0 c1 c2 z0 z1 z2 Q hn eh hW
def R8(R:Ud):Prop:=R.name.size<=8000/\R.on.size<=8000/\R.of.size<=8000/\R.Uc.size<=8000
theorem R8.ok(h:R8 R):R.ok:=by have⟨h1,h2,h3,h4⟩:=h;unfold Ud.ok maxLen;omega
structure vcD(w:World)(e:Ending)(w':World):Prop where
 ex:∃(R:Ud) (k:Bool),e=V (.tuple #[R.v,Z k])/\R8 R/\Bw w w'
structure YH(w0 W:World)(q r:Nat)(R:Ud):Prop where
 c:∀j x,R.cs[j]? =some x->W.cell? (O q j)=some x
 d:∀j,j<9->∃x,W.cell? (O r j)=some x
 f:∀j,W.frozen? (O q j)=false
 g:∀j,W.frozen? (O r j)=false
 TQ:Bw w0 W
 hq:w0.heap.size<=q
 hr:w0.heap.size<=r
 ne:q≠r
theorem YH.call(h:YH w0 W q r R)(hb:Bw W W2):YH w0 W2 q r R where
 c j x hx:=Ut (h.c j x hx) hb
 d j hj:=by have⟨x,hx⟩:=h.d j hj;exact⟨x,Ut hx hb⟩
 f j:=((Uq hb).2 _ _ (TV (h.c 0 _ rfl))).trans (h.f j)
 g j:=by have⟨x,hx⟩:=h.d 0 Q;exact((Uq hb).2 _ _ (TV hx)).trans (h.g j)
 TQ:=h.TQ.trans (hb.mono h.TQ.size)
 hq:=h.hq
 hr:=h.hr
 ne:=h.ne
theorem YH.set{R':Ud}(h:YH w0 W q r R)(hx:R.cs[i]? =some x)(he:R'.cs=R.cs.set i v):YH w0 (W.setCell (O q i) v) q r R' where
 c j u hu:=by
  rw[he]at hu;by_cases hj:i=j
  .subst hj
   rw[List.getElem?_set_self (Ux hx).1]at hu;obtain rfl:=Uw hu;exact U8 _ _ _ (h.c i x hx)
  .rw[List.getElem?_set_ne hj]at hu
   rw[Uh _ _ _ _ vQj];exact h.c j u hu
 d j hj:=by
  have⟨u,hu⟩:=h.d j hj;have:=h.ne;exact⟨u,by rw[Uh _ _ _ _ vQj];exact hu⟩
 f j:=by rw[World.frozen?_setCell];exact h.f j
 g j:=by rw[World.frozen?_setCell];exact h.g j
 TQ:=h.TQ.setCell h.hq _
 hq:=h.hq
 hr:=h.hr
 ne:=h.ne
def Xd(W:World)(r:Nat)(R:Ud):World:=(((((((((W.setCell (O r 0) (I R.name)).setCell (O r 1) (J R.lo)).setCell (O r 2) (J R.hi)).setCell (O r 3) (J R.UB)).setCell (O r 4) (I R.on)).setCell (O r 5) (J R.at_)).setCell (O r 6) (I R.of)).setCell (O r 7) (J R.TF)).setCell (O r 8) (I R.Uc))
theorem vcc(R:Ud)(h:∀j,j<9->∃x,W.cell? (O r j)=some x):(Xd W r R).cell? (O r 0)=some (I R.name)/\(Xd W r R).cell? (O r 1)=some (J R.lo)/\(Xd W r R).cell? (O r 2)=some (J R.hi)/\(Xd W r R).cell? (O r 3)=some (J R.UB)/\(Xd W r R).cell? (O r 4)=some (I R.on)/\(Xd W r R).cell? (O r 5)=some (J R.at_)/\(Xd W r R).cell? (O r 6)=some (I R.of)/\(Xd W r R).cell? (O r 7)=some (J R.TF)/\(Xd W r R).cell? (O r 8)=some (I R.Uc):=by
 have o:∀(W:World) (i j:Nat) (v x:Value),i≠j->W.cell? (O r j)=some x->(W.setCell (O r i) v).cell? (O r j)=some x:=λW i j v x eF hx=>by
  rw[Uh _ _ _ _ vQj];exact hx
 have s:∀(W:World) (i:Nat) (v:Value),(∃x,W.cell? (O r i)=some x)->(W.setCell (O r i) v).cell? (O r i)=some v:=λW i v ⟨x,hx⟩=>U8 _ _ _ hx
 have⟨x0,h0⟩:=h 0 Q;have⟨x1,h1⟩:=h 1 Q;have⟨x2,h2⟩:=h 2 Q;have⟨x3,h3⟩:=h 3 Q;have⟨x4,h4⟩:=h 4 Q;have⟨x5,h5⟩:=h 5 Q;have⟨x6,h6⟩:=h 6 Q;have⟨x7,h7⟩:=h 7 Q;have⟨x8,h8⟩:=h 8 Q;unfold Xd;exact⟨o _ 8 0 _ _ Q (o _ 7 0 _ _ Q (o _ 6 0 _ _ Q (o _ 5 0 _ _ Q (o _ 4 0 _ _ Q (o _ 3 0 _ _ Q (o _ 2 0 _ _ Q (o _ 1 0 _ _ Q (s _ 0 _ ⟨_,h0⟩)))))))),o _ 8 1 _ _ Q (o _ 7 1 _ _ Q (o _ 6 1 _ _ Q (o _ 5 1 _ _ Q (o _ 4 1 _ _ Q (o _ 3 1 _ _ Q (o _ 2 1 _ _ Q (s _ 1 _ ⟨_,o _ 0 1 _ _ Q (h1)⟩))))))),o _ 8 2 _ _ Q (o _ 7 2 _ _ Q (o _ 6 2 _ _ Q (o _ 5 2 _ _ Q (o _ 4 2 _ _ Q (o _ 3 2 _ _ Q (s _ 2 _ ⟨_,o _ 1 2 _ _ Q (o _ 0 2 _ _ Q (h2))⟩)))))),o _ 8 3 _ _ Q (o _ 7 3 _ _ Q (o _ 6 3 _ _ Q (o _ 5 3 _ _ Q (o _ 4 3 _ _ Q (s _ 3 _ ⟨_,o _ 2 3 _ _ Q (o _ 1 3 _ _ Q (o _ 0 3 _ _ Q (h3)))⟩))))),o _ 8 4 _ _ Q (o _ 7 4 _ _ Q (o _ 6 4 _ _ Q (o _ 5 4 _ _ Q (s _ 4 _ ⟨_,o _ 3 4 _ _ Q (o _ 2 4 _ _ Q (o _ 1 4 _ _ Q (o _ 0 4 _ _ Q (h4))))⟩)))),o _ 8 5 _ _ Q (o _ 7 5 _ _ Q (o _ 6 5 _ _ Q (s _ 5 _ ⟨_,o _ 4 5 _ _ Q (o _ 3 5 _ _ Q (o _ 2 5 _ _ Q (o _ 1 5 _ _ Q (o _ 0 5 _ _ Q (h5)))))⟩))),o _ 8 6 _ _ Q (o _ 7 6 _ _ Q (s _ 6 _ ⟨_,o _ 5 6 _ _ Q (o _ 4 6 _ _ Q (o _ 3 6 _ _ Q (o _ 2 6 _ _ Q (o _ 1 6 _ _ Q (o _ 0 6 _ _ Q (h6))))))⟩)),o _ 8 7 _ _ Q (s _ 7 _ ⟨_,o _ 6 7 _ _ Q (o _ 5 7 _ _ Q (o _ 4 7 _ _ Q (o _ 3 7 _ _ Q (o _ 2 7 _ _ Q (o _ 1 7 _ _ Q (o _ 0 7 _ _ Q (h7)))))))⟩),s _ 8 _ ⟨_,o _ 7 8 _ _ Q (o _ 6 8 _ _ Q (o _ 5 8 _ _ Q (o _ 4 8 _ _ Q (o _ 3 8 _ _ Q (o _ 2 8 _ _ Q (o _ 1 8 _ _ Q (o _ 0 8 _ _ Q (h8))))))))⟩⟩
theorem vcd(R:Ud)(h:Bw w W)(hr:w.heap.size<=r):Bw w (Xd W r R):=
 ((((((((h.setCell hr _).setCell hr _).setCell hr _).setCell hr _).setCell hr _).setCell hr _).setCell hr _).setCell hr _).setCell hr _
def vbm:Ud:=⟨⟨#[]⟩,0,0,0,⟨#[]⟩,0,⟨#[]⟩,0,⟨#[]⟩⟩
theorem vgE(b o n cap:Nat)(w:World)(hn:n≠10):
  C 155 #[U (some (O b o)) n cap] w λe w'=>vcD w e w':=by
 have hg:((n:Int) != 10)=true:=Z6;have hB:=λo=>TK w o
 delta C;go_in;go_wp2;exact Ue (v:=.tuple #[vbm.v,Z false]) (by simp[results,Tryz.results155,go_sem,vbm,Ud.v]) rfl ⟨⟨_,_,rfl,by unfold R8 vbm;decide,hB _⟩⟩
theorem vf6{j:Nat}(R:Ud)(h:q≠r):(Xd W r R).cell? (O q j)=W.cell? (O q j):=by
 unfold Xd;rw[Uh _ _ _ _ vQj,Uh _ _ _ _ vQj,Uh _ _ _ _ vQj,Uh _ _ _ _ vQj,Uh _ _ _ _ vQj,Uh _ _ _ _ vQj,Uh _ _ _ _ vQj,Uh _ _ _ _ vQj,Uh _ _ _ _ vQj]
theorem vg9(bA:Bw w wA)(sA:wA.heap.size=w.heap.size+1)(rA:∀j,j<9->∃x,wA.cell? (O w.heap.size j)=some x)(fA:∀j,wA.frozen? (O w.heap.size j)=false)(hb:Below wA.drew.heap.size wA.drew wM):
  YH w (wM.alloc (G #[I a,J l,J h,J mo,I on,J 0,ZV,J 0,I le] 117)) wM.heap.size w.heap.size ⟨a,l,h,mo,on,0,⟨#[]⟩,0,le⟩:=by
 have hsz:wA.heap.size<=wM.heap.size:=hb.size;have sy:Bw wA wM:=⟨hb.1,hb.2,hb.3,hb.4,hb.5⟩;have ba:Bw wM (wM.alloc (G #[I a,J l,J h,J mo,I on,J 0,ZV,J 0,I le] 117)):=TK _ _
 exact {
  c :=λj x hx=>by
   have hj:=(Ux hx).1;simp[Ud.cs]at hj;obtain rfl|rfl|rfl|rfl|rfl|rfl|rfl|rfl|rfl:j=0\/j=1\/j=2\/j=3\/j=4\/j=5\/j=6\/j=7\/j=8:=Q
   all_goals
    obtain rfl:=Uw hx;simp[go_sem]
  d:=λj hj=>by have⟨x,hx⟩:=rA j hj;exact⟨x,Ut (Ut hx sy) ba⟩
  f:=λj=>Z8
  g:=λj=>by
   have⟨x,hx⟩:=rA 0 Q;exact((Uq ba).2 _ _ (TV (Ut hx sy))).trans (((Uq sy).2 _ _ (TV hx)).trans (fA j))
  TQ:=(bA.trans (sy.mono bA.size)).trans (ba.mono Q)
  hq:=Q
  hr:=TP _
  ne:=by omega }
theorem vha(bA:Bw w wA)(sA:wA.heap.size=w.heap.size+1)(rA:∀j,j<9->∃x,wA.cell? (O w.heap.size j)=some x)(fA:∀j,wA.frozen? (O w.heap.size j)=false)(hb:Below (wA.drew.alloc (G #[ZV,J 0,J 0,J 0,ZV,J 0,ZV,J 0,ZV] 117)).heap.size (wA.drew.alloc (G #[ZV,J 0,J 0,J 0,ZV,J 0,ZV,J 0,ZV] 117)) wM):
  YH w (Xd wM wA.heap.size ⟨a,l,h,mo,on,0,⟨#[]⟩,0,le⟩) wA.heap.size w.heap.size ⟨a,l,h,mo,on,0,⟨#[]⟩,0,le⟩:=by
 have ba:Bw wA (wA.drew.alloc (G #[ZV,J 0,J 0,J 0,ZV,J 0,ZV,J 0,ZV] 117)):=(show Bw wA wA.drew from⟨rfl,rfl,rfl,TP _,λ_ _=>rfl⟩).alloc (TP _) _;have hsz:=hb.size;have JZ:∀j,j<9->∃x,wM.cell? (O wA.heap.size j)=some x:=λj hj=>by
  obtain rfl|rfl|rfl|rfl|rfl|rfl|rfl|rfl|rfl:j=0\/j=1\/j=2\/j=3\/j=4\/j=5\/j=6\/j=7\/j=8:=Q
  all_goals exact⟨_,Ut (w1:=wA.drew.alloc (G #[ZV,J 0,J 0,J 0,ZV,J 0,ZV,J 0,ZV] 117)) (by simp[go_sem];rfl) hb⟩
 have bb:Bw w wM:=(TJ bA ba).trans (hb.mono Z6);have⟨t0,t1,t2,t3,t4,t5,t6,t7,t8⟩:=vcc (W:=wM) (r:=wA.heap.size) ⟨a,l,h,mo,on,0,⟨#[]⟩,0,le⟩ JZ;have K0:∀b j,(Xd wM wA.heap.size ⟨a,l,h,mo,on,0,⟨#[]⟩,0,le⟩).frozen? (O b j)=wM.frozen? (O b j):=λb j=>by unfold Xd;simp only[World.frozen?_setCell]
 have ho:∀q j,q≠wA.heap.size->(Xd wM wA.heap.size ⟨a,l,h,mo,on,0,⟨#[]⟩,0,le⟩).cell? (O q j)=wM.cell? (O q j):=λq j hq=>vf6 _ hq
 have mt:Bw w (Xd wM wA.heap.size ⟨a,l,h,mo,on,0,⟨#[]⟩,0,le⟩):=vcd _ bb Q;clear JZ;generalize Xd wM wA.heap.size ⟨a,l,h,mo,on,0,⟨#[]⟩,0,le⟩=WL at *
 exact {
  c :=λj x hx=>by
   have hj:=(Ux hx).1;simp[Ud.cs]at hj;obtain rfl|rfl|rfl|rfl|rfl|rfl|rfl|rfl|rfl:j=0\/j=1\/j=2\/j=3\/j=4\/j=5\/j=6\/j=7\/j=8:=Q
   all_goals
    obtain rfl:=Uw hx
    first|exact t0|exact t1|exact t2|exact t3|exact t4|exact t5|exact t6|exact t7|exact t8
  d:=λj hj=>by
   have⟨x,hx⟩:=rA j hj;refine⟨x,?_⟩;rw[ho _ _ Q];exact Ut (Ut hx ba) hb
  f:=λj=>by
   rw[K0];exact((Uq hb).2 _ _ M).trans Z8
  g:=λj=>by
   rw[K0];have⟨x,hx⟩:=rA 0 Q;exact((Uq hb).2 _ _ (TV (Ut hx ba))).trans (((Uq ba).2 _ _ (TV hx)).trans (fA j))
  TQ:=mt
  hq:=Q
  hr:=TP _
  ne:=by omega }
theorem vhb(bA:Bw w wA)(sA:wA.heap.size=w.heap.size+1)(rA:∀j,j<9->∃x,wA.cell? (O w.heap.size j)=some x)(fA:∀j,wA.frozen? (O w.heap.size j)=false)(hb:Below (wA.drew.alloc (G #[ZV,J 0,J 0,J 0,ZV,J 0,ZV,J 0,ZV] 117)).heap.size (wA.drew.alloc (G #[ZV,J 0,J 0,J 0,ZV,J 0,ZV,J 0,ZV] 117)) wM):
  YH w (((((((((wM.setCell (O wA.heap.size 0) (I a)).setCell (O wA.heap.size 1) (J l)).setCell (O wA.heap.size 2) (J h)).setCell (O wA.heap.size 3) (J mo)).setCell (O wA.heap.size 4) (I on)).setCell (O wA.heap.size 5) (J 0)).setCell (O wA.heap.size 6) (ZV)).setCell (O wA.heap.size 7) (J 0)).setCell (O wA.heap.size 8) (I le)) wA.heap.size w.heap.size ⟨a,l,h,mo,on,0,⟨#[]⟩,0,le⟩:=vha bA sA rA fA hb
structure vaW(w0 W:World)(q r:Nat):Prop where
 ex:∃R:Ud,YH w0 W q r R/\R8 R
theorem vgF(b o cap:Nat)(w:World)(hW:WU w b o 10):
  C 155 #[.slice (some (O b o)) 10 cap] w λe w'=>vcD w e w':=by
 obtain⟨s4,c4,z4⟩:=hW.ex 4 (by omega);have hB:=λo=>TK w o
 have c4a:=Ut c4 (hB (.cells #[.string ⟨#[]⟩,J 0,J 0,J 0,.string ⟨#[]⟩,J 0,.string ⟨#[]⟩,J 0,.string ⟨#[]⟩] 117));cases h4:(s4.toList==[45])with
 |false=>
  delta C;go_in;go_wp2;exact Ue (v:=.tuple #[vbm.v,.bool false]) (by simp[results,Tryz.results155,go_sem,vbm,Ud.v]) rfl ⟨⟨_,_,rfl,by unfold R8 vbm;decide,hB _⟩⟩
 | true =>
  delta C;go_in;obtain⟨s1,c1,z1⟩:=hW.ex 1 (by omega);obtain⟨s2,c2,z2⟩:=hW.ex 2 (by omega);obtain⟨s3,c3,z3⟩:=hW.ex 3 (by omega);obtain⟨s5,c5,z5⟩:=hW.ex 5 (by omega);obtain⟨s6,c6,z6⟩:=hW.ex 6 (by omega);obtain⟨s7,c7,z7⟩:=hW.ex 7 (by omega);obtain⟨s8,c8,z8⟩:=hW.ex 8 (by omega);obtain⟨s9,c9,z9⟩:=hW.ex 9 (by omega);have hY:=λs (h:ByteArray.size s<=8000) w=>vbl s w h
  have Dq:=λw=>vbP s5 w
  go_upto_region 3 with fail
  obtain⟨wA,cK⟩:∃x:World,(w.alloc (.cells #[.string ⟨#[]⟩,J 0,J 0,J 0,.string ⟨#[]⟩,J 0,.string ⟨#[]⟩,J 0,.string ⟨#[]⟩] 117))=x:=⟨_,rfl⟩;have bA:Bw w wA:=by rw[<- cK];exact hB _
  have BM:Hid (wA.heap.size=w.heap.size+1):=by rw[<- cK];simp[Hid]
  have rA:∀j,j<9->∃x,wA.cell? (O w.heap.size j)=some x:=λj hj=>by
   rw[<- cK];obtain rfl|rfl|rfl|rfl|rfl|rfl|rfl|rfl|rfl:j=0\/j=1\/j=2\/j=3\/j=4\/j=5\/j=6\/j=7\/j=8:=(by omega)
   all_goals exact⟨_,by simp[go_sem];rfl⟩
  have fA:∀j,wA.frozen? (O w.heap.size j)=false:=λj=>by rw[<- cK];simp[go_sem]
  have a1:=Ut c1 bA;have a2:=Ut c2 bA;have a3:=Ut c3 bA;have a5:=Ut c5 bA;have a6:=Ut c6 bA;have a9:=Ut c9 bA;rw[cK];have BI:=hid rA;have BG:=hid fA;clear cK hB c4a rA fA;go_cut [4]from 20 to 41 (λx wx=>∃q R,x=.pointer (some (O q 0))/\YH w wx q w.heap.size R/\R8 R)
  case first=>
   go_region_held3 (λw'=>w'.cell? (O b (o+1))=some (.string s1)/\w'.cell? (O b (o+2))=some (.string s2)/\w'.cell? (O b (o+3))=some (.string s3)/\w'.cell? (O b (o+5))=some (.string s5)/\w'.cell? (O b (o+6))=some (.string s6)/\w'.cell? (O b (o+9))=some (.string s9)) (go_keep) (first|(go_at_call 210;refine(Dq _).mono ?_;rintro e wM ⟨m,rfl,m1,m2,et⟩;have b1:=Ut (w1:=wA.drew) a1 et;have b2:=Ut (w1:=wA.drew) a2 et;have b3:=Ut (w1:=wA.drew) a3 et;have b5:=Ut (w1:=wA.drew) a5 et;have b6:=Ut (w1:=wA.drew) a6 et;have b9:=Ut (w1:=wA.drew) a9 et;have OS:wM.heap.size≠b:=World.new_ne wM _ b1)|(go_at_call 210;refine(Dq _).mono ?_;rintro e wM ⟨m,rfl,m1,m2,et⟩;have b1:=Ut (w1:=wA.drew.alloc (.cells #[.string ⟨#[]⟩,J 0,J 0,J 0,.string ⟨#[]⟩,J 0,.string ⟨#[]⟩,J 0,.string ⟨#[]⟩] 117)) (Ut (w1:=wA.drew) a1 (TK _ _)) et;have b2:=Ut (w1:=wA.drew.alloc (.cells #[.string ⟨#[]⟩,J 0,J 0,J 0,.string ⟨#[]⟩,J 0,.string ⟨#[]⟩,J 0,.string ⟨#[]⟩] 117)) (Ut (w1:=wA.drew) a2 (TK _ _)) et;have b3:=Ut (w1:=wA.drew.alloc (.cells #[.string ⟨#[]⟩,J 0,J 0,J 0,.string ⟨#[]⟩,J 0,.string ⟨#[]⟩,J 0,.string ⟨#[]⟩] 117)) (Ut (w1:=wA.drew) a3 (TK _ _)) et;have b5:=Ut (w1:=wA.drew.alloc (.cells #[.string ⟨#[]⟩,J 0,J 0,J 0,.string ⟨#[]⟩,J 0,.string ⟨#[]⟩,J 0,.string ⟨#[]⟩] 117)) (Ut (w1:=wA.drew) a5 (TK _ _)) et;have b6:=Ut (w1:=wA.drew.alloc (.cells #[.string ⟨#[]⟩,J 0,J 0,J 0,.string ⟨#[]⟩,J 0,.string ⟨#[]⟩,J 0,.string ⟨#[]⟩] 117)) (Ut (w1:=wA.drew) a6 (TK _ _)) et;have b9:=Ut (w1:=wA.drew.alloc (.cells #[.string ⟨#[]⟩,J 0,J 0,J 0,.string ⟨#[]⟩,J 0,.string ⟨#[]⟩,J 0,.string ⟨#[]⟩] 117)) (Ut (w1:=wA.drew) a9 (TK _ _)) et;have nbB:wA.heap.size≠b:=World.new_ne wA _ a1;have q0:wM.cell? (O wA.heap.size 0)=some (.string ⟨#[]⟩):=Ut (w1:=(wA.drew.alloc (.cells #[.string ⟨#[]⟩,J 0,J 0,J 0,.string ⟨#[]⟩,J 0,.string ⟨#[]⟩,J 0,.string ⟨#[]⟩] 117))) (by simp[go_sem]) et;have f0:wM.frozen? (O wA.heap.size 0)=false:=((Uq et).2 _ _ (by simp)).trans (by simp[go_sem]);have q1:wM.cell? (O wA.heap.size 1)=some (J 0):=Ut (w1:=(wA.drew.alloc (.cells #[.string ⟨#[]⟩,J 0,J 0,J 0,.string ⟨#[]⟩,J 0,.string ⟨#[]⟩,J 0,.string ⟨#[]⟩] 117))) (by simp[go_sem]) et;have f1:wM.frozen? (O wA.heap.size 1)=false:=((Uq et).2 _ _ (by simp)).trans (by simp[go_sem]);have q2:wM.cell? (O wA.heap.size 2)=some (J 0):=Ut (w1:=(wA.drew.alloc (.cells #[.string ⟨#[]⟩,J 0,J 0,J 0,.string ⟨#[]⟩,J 0,.string ⟨#[]⟩,J 0,.string ⟨#[]⟩] 117))) (by simp[go_sem]) et;have f2:wM.frozen? (O wA.heap.size 2)=false:=((Uq et).2 _ _ (by simp)).trans (by simp[go_sem]);have q3:wM.cell? (O wA.heap.size 3)=some (J 0):=Ut (w1:=(wA.drew.alloc (.cells #[.string ⟨#[]⟩,J 0,J 0,J 0,.string ⟨#[]⟩,J 0,.string ⟨#[]⟩,J 0,.string ⟨#[]⟩] 117))) (by simp[go_sem]) et;have f3:wM.frozen? (O wA.heap.size 3)=false:=((Uq et).2 _ _ (by simp)).trans (by simp[go_sem]);have q4:wM.cell? (O wA.heap.size 4)=some (.string ⟨#[]⟩):=Ut (w1:=(wA.drew.alloc (.cells #[.string ⟨#[]⟩,J 0,J 0,J 0,.string ⟨#[]⟩,J 0,.string ⟨#[]⟩,J 0,.string ⟨#[]⟩] 117))) (by simp[go_sem]) et;have f4:wM.frozen? (O wA.heap.size 4)=false:=((Uq et).2 _ _ (by simp)).trans (by simp[go_sem]);have q5:wM.cell? (O wA.heap.size 5)=some (J 0):=Ut (w1:=(wA.drew.alloc (.cells #[.string ⟨#[]⟩,J 0,J 0,J 0,.string ⟨#[]⟩,J 0,.string ⟨#[]⟩,J 0,.string ⟨#[]⟩] 117))) (by simp[go_sem]) et;have f5:wM.frozen? (O wA.heap.size 5)=false:=((Uq et).2 _ _ (by simp)).trans (by simp[go_sem]);have q6:wM.cell? (O wA.heap.size 6)=some (.string ⟨#[]⟩):=Ut (w1:=(wA.drew.alloc (.cells #[.string ⟨#[]⟩,J 0,J 0,J 0,.string ⟨#[]⟩,J 0,.string ⟨#[]⟩,J 0,.string ⟨#[]⟩] 117))) (by simp[go_sem]) et;have f6:wM.frozen? (O wA.heap.size 6)=false:=((Uq et).2 _ _ (by simp)).trans (by simp[go_sem]);have q7:wM.cell? (O wA.heap.size 7)=some (J 0):=Ut (w1:=(wA.drew.alloc (.cells #[.string ⟨#[]⟩,J 0,J 0,J 0,.string ⟨#[]⟩,J 0,.string ⟨#[]⟩,J 0,.string ⟨#[]⟩] 117))) (by simp[go_sem]) et;have f7:wM.frozen? (O wA.heap.size 7)=false:=((Uq et).2 _ _ (by simp)).trans (by simp[go_sem]);have q8:wM.cell? (O wA.heap.size 8)=some (.string ⟨#[]⟩):=Ut (w1:=(wA.drew.alloc (.cells #[.string ⟨#[]⟩,J 0,J 0,J 0,.string ⟨#[]⟩,J 0,.string ⟨#[]⟩,J 0,.string ⟨#[]⟩] 117))) (by simp[go_sem]) et;have f8:wM.frozen? (O wA.heap.size 8)=false:=((Uq et).2 _ _ (by simp)).trans (by simp[go_sem]))|(go_at_call 209;refine(hY _ (by assumption) _).mono ?_;rintro e wq ⟨y,rfl,_,_,qQ⟩;have qQ:=qQ.symm;subst qQ))
   all_goals
    go_wp2;go_meet
    first
     |(clear OS;exact⟨_,⟨s1,_,_,m,s6,0,⟨#[]⟩,0,s9⟩,rfl,vg9 bA BM.out BI.out BG.out et,z1,z6,(show(⟨#[]⟩:ByteArray).size<=8000 by decide),z9⟩)
     |(clear nbB;exact⟨_,⟨s1,_,_,m,s6,0,⟨#[]⟩,0,s9⟩,rfl,vhb bA BM.out BI.out BG.out et,z1,z6,(show(⟨#[]⟩:ByteArray).size<=8000 by decide),z9⟩)
  case rest=>
   obtain⟨q,R,rfl,hR,me⟩:=hcut;obtain⟨w1,f9⟩:=UL wc;subst f9;clear a1 a2 a3 a5 a6 a9 BM BI BG bA hY Dq;have Mm:=Ut c3 hR.TQ;go_step;go_step;go_cut []from 42 to 52 (λwx=>vaW w wx q w.heap.size)
   case first=>
    obtain⟨n0,l0,h0,m0,o0,a0,f0,v0,e0⟩:=R;have x1:=hR.c 1 _ rfl;have x2:=hR.c 2 _ rfl;have y2:=hR.f 2;have Bc:Hid (vaW w w1 q w.heap.size):=⟨⟨_,hR,me⟩⟩;have Bd:Hid (vaW w (w1.setCell (O q 2) (J l0)) q w.heap.size):=⟨⟨⟨n0,l0,l0,m0,o0,a0,f0,v0,e0⟩,hR.set (x:=J h0) rfl rfl,me⟩⟩;have O6:Hid (vaW w (w1.setCell (O q 2) (J 9999)) q w.heap.size):=⟨⟨⟨n0,l0,9999,m0,o0,a0,f0,v0,e0⟩,hR.set (x:=J h0) rfl rfl,me⟩⟩;clear hR;cases hq1:(s3.toList==[111,110,108,121])with
    |true=>
     go_wp2;go_meet;exact Bd.out
    | false=>
     cases hq2:(s3.toList==[109,97,120])with
     |true=>
      go_wp2;go_meet;exact O6.out
     |false=>
      go_wp2;go_meet;exact Bc.out
   case rest=>
    clear hR me Mm;obtain⟨⟨n0,l0,h0,m0,o0,a0,f0,v0,e0⟩,hR,me⟩:=hcut.ex;obtain⟨w2,gH⟩:=UL wc;subst gH;clear hcut;go_step;go_step;go_cut []from 53 to 56 (λwx=>vaW w wx q w.heap.size)
    case first=>
     have x8:=hR.c 8 _ rfl;have y8:=hR.f 8;have Bc:Hid (vaW w w2 q w.heap.size):=⟨⟨_,hR,me⟩⟩;have Bd:Hid (vaW w (w2.setCell (O q 8) (.string ⟨#[]⟩)) q w.heap.size):=⟨⟨⟨n0,l0,h0,m0,o0,a0,f0,v0,⟨#[]⟩⟩,hR.set (x:=.string e0) rfl rfl,me.1,me.2.1,me.2.2.1,(show(⟨#[]⟩:ByteArray).size<=8000 by decide)⟩⟩;clear hR;cases hq1:(e0.toList==[45])with
     |true=>
      go_wp2;go_meet;exact Bd.out
     |false=>
      go_wp2;go_meet;exact Bc.out
    case rest=>
     clear hR me n0 l0 h0 m0 o0 a0 f0 v0 e0;obtain⟨⟨n0,l0,h0,m0,o0,a0,f0,v0,e0⟩,hR,me⟩:=hcut.ex;obtain⟨w3,gm⟩:=UL wc;subst gm;clear hcut;have Mo:=Ut c7 hR.TQ;go_wp2_with fail;refine(vcZ s7 _ z7).mono ?_;rintro e w4 hP;obtain⟨nt,ft,bb,rfl,zf,aD⟩:=hP.ex;have pT:=hR.call aD;have Mp:=Ut c8 pT.TQ;clear hR aD hP Mo;go_wp2_with fail;refine(vbo s8 _ z8).mono ?_;rintro e w5 ⟨⟨sv,k8,rfl,hq1⟩,aV⟩;have eC:=pT.call aV;clear hq1 pT aV Mp;have x5:=eC.c 5 _ rfl;have y5:=eC.f 5;go_upto_region 14 with fail
     have po:YH w (w5.setCell (O q 5) (J nt)) q w.heap.size ⟨n0,l0,h0,m0,o0,nt,f0,v0,e0⟩:=eC.set (x:=J a0) rfl rfl;generalize w5.setCell (O q 5) (J nt)=w6 at *;clear x5 y5 eC;have x6:=po.c 6 _ rfl;have y6:=po.f 6;go_upto_region 15 with fail
     have yK:YH w (w6.setCell (O q 6) (.string ft)) q w.heap.size ⟨n0,l0,h0,m0,o0,nt,ft,v0,e0⟩:=po.set (x:=.string f0) rfl rfl;generalize w6.setCell (O q 6) (.string ft)=w7 at *;clear x6 y6 po;have x7:=yK.c 7 _ rfl;have y7:=yK.f 7;go_upto_region 16 with fail
     have gN:YH w (w7.setCell (O q 7) (J sv)) q w.heap.size ⟨n0,l0,h0,m0,o0,nt,ft,sv,e0⟩:=yK.set (x:=J v0) rfl rfl;generalize w7.setCell (O q 7) (J sv)=w9 at *;clear x7 y7 yK;have vw:R8 ⟨n0,l0,h0,m0,o0,nt,ft,sv,e0⟩:=⟨me.1,me.2.1,zf,me.2.2.2⟩;have HS:=hid gN;have Jw:=λw=>jm9 ⟨n0,l0,h0,m0,o0,nt,ft,sv,e0⟩ w vw.ok (by have:=vw.2.1;omega)
     generalize U5 ⟨n0,l0,h0,m0,o0,nt,ft,sv,e0⟩=rb at *;unfold Ud.v at Jw;have AE:=gN.c 0 _ rfl;have AF:=gN.c 1 _ rfl;have AG:=gN.c 2 _ rfl;have AH:=gN.c 3 _ rfl;have AI:=gN.c 4 _ rfl;have AJ:=gN.c 5 _ rfl;have Oe:=gN.c 6 _ rfl;have Of:=gN.c 7 _ rfl;have Og:=gN.c 8 _ rfl;obtain⟨x0,d0⟩:=gN.d 0 (by omega);obtain⟨x1,d1⟩:=gN.d 1 (by omega);obtain⟨x2,d2⟩:=gN.d 2 (by omega);obtain⟨x3,d3⟩:=gN.d 3 (by omega);obtain⟨x4,d4⟩:=gN.d 4 (by omega);obtain⟨x5,d5⟩:=gN.d 5 (by omega);obtain⟨x6,d6⟩:=gN.d 6 (by omega);obtain⟨x7,d7⟩:=gN.d 7 (by omega);obtain⟨x8,d8⟩:=gN.d 8 (by omega);have g0:=gN.g 0;have g1:=gN.g 1;have g2:=gN.g 2;have g3:=gN.g 3;have g4:=gN.g 4;have g5:=gN.g 5;have g6:=gN.g 6;have g7:=gN.g 7;have g8:=gN.g 8;clear gN;dsimp only[Z];cases bb with
     |false=>
      go_region;obtain⟨wz,gp⟩:∃x:World,(((((((((w9.setCell (O w.heap.size 0) (.string n0)).setCell (O w.heap.size 1) (J l0)).setCell (O w.heap.size 2) (J h0)).setCell (O w.heap.size 3) (J m0)).setCell (O w.heap.size 4) (.string o0)).setCell (O w.heap.size 5) (J nt)).setCell (O w.heap.size 6) (.string ft)).setCell (O w.heap.size 7) (J sv)).setCell (O w.heap.size 8) (.string e0))=x:=⟨_,rfl⟩;have ht:=vcc (W:=w9) (r:=w.heap.size) ⟨n0,l0,h0,m0,o0,nt,ft,sv,e0⟩ (HS.out.d);have mt:Bw w wz:=by rw[<- gp];exact vcd (W:=w9) ⟨n0,l0,h0,m0,o0,nt,ft,sv,e0⟩ (HS.out.TQ) (TP _)
      have hl:Xd w9 w.heap.size ⟨n0,l0,h0,m0,o0,nt,ft,sv,e0⟩=wz:=gp;rw[hl]at ht;obtain⟨t0,t1,t2,t3,t4,t5,t6,t7,t8⟩:=ht;rw[gp];clear gp hl;go_wp2;exact Ue (v:=.tuple #[Ud.v ⟨n0,l0,h0,m0,o0,nt,ft,sv,e0⟩,.bool false]) (by simp[results,Tryz.results155,go_sem,Ud.v,t0,t1,t2,t3,t4,t5,t6,t7,t8]) rfl ⟨⟨_,_,rfl,vw,below_drewN mt _⟩⟩
     |true=>
      cases k8 with
      |false=>
       go_region;obtain⟨wz,gp⟩:∃x:World,(((((((((w9.setCell (O w.heap.size 0) (.string n0)).setCell (O w.heap.size 1) (J l0)).setCell (O w.heap.size 2) (J h0)).setCell (O w.heap.size 3) (J m0)).setCell (O w.heap.size 4) (.string o0)).setCell (O w.heap.size 5) (J nt)).setCell (O w.heap.size 6) (.string ft)).setCell (O w.heap.size 7) (J sv)).setCell (O w.heap.size 8) (.string e0))=x:=⟨_,rfl⟩;have ht:=vcc (W:=w9) (r:=w.heap.size) ⟨n0,l0,h0,m0,o0,nt,ft,sv,e0⟩ (HS.out.d);have mt:Bw w wz:=by rw[<- gp];exact vcd (W:=w9) ⟨n0,l0,h0,m0,o0,nt,ft,sv,e0⟩ (HS.out.TQ) (TP _)
       have hl:Xd w9 w.heap.size ⟨n0,l0,h0,m0,o0,nt,ft,sv,e0⟩=wz:=gp;rw[hl]at ht;obtain⟨t0,t1,t2,t3,t4,t5,t6,t7,t8⟩:=ht;rw[gp];clear gp hl;go_wp2;exact Ue (v:=.tuple #[Ud.v ⟨n0,l0,h0,m0,o0,nt,ft,sv,e0⟩,.bool false]) (by simp[results,Tryz.results155,go_sem,Ud.v,t0,t1,t2,t3,t4,t5,t6,t7,t8]) rfl ⟨⟨_,_,rfl,vw,below_drewN mt _⟩⟩
      | true=>
       have az:w.heap.size≠q:=HS.out.ne.symm;go_region_held3 (λw'=>w'.cell? (O q 0)=some (.string n0)/\w'.cell? (O q 1)=some (J l0)/\w'.cell? (O q 2)=some (J h0)/\w'.cell? (O q 3)=some (J m0)/\w'.cell? (O q 4)=some (.string o0)/\w'.cell? (O q 5)=some (J nt)/\w'.cell? (O q 6)=some (.string ft)/\w'.cell? (O q 7)=some (J sv)/\w'.cell? (O q 8)=some (.string e0)) (go_keep) ((go_at_call 55;refine(Jw _).mono ?_;rintro e wq ⟨rfl,aY⟩;have p0:=Ut (w1:=w9.drew) AE aY;have r0:=Ut (w1:=w9.drew) d0 aY;have SB:wq.frozen? (O w.heap.size 0)=false:=((Uq aY).2 _ _ (World.block_lt_of_cell? w9.drew _ d0)).trans g0;have p1:=Ut (w1:=w9.drew) AF aY;have r1:=Ut (w1:=w9.drew) d1 aY;have SC:wq.frozen? (O w.heap.size 1)=false:=((Uq aY).2 _ _ (World.block_lt_of_cell? w9.drew _ d0)).trans g1;have p2:=Ut (w1:=w9.drew) AG aY;have r2:=Ut (w1:=w9.drew) d2 aY;have SD:wq.frozen? (O w.heap.size 2)=false:=((Uq aY).2 _ _ (World.block_lt_of_cell? w9.drew _ d0)).trans g2;have p3:=Ut (w1:=w9.drew) AH aY;have r3:=Ut (w1:=w9.drew) d3 aY;have SE:wq.frozen? (O w.heap.size 3)=false:=((Uq aY).2 _ _ (World.block_lt_of_cell? w9.drew _ d0)).trans g3;have p4:=Ut (w1:=w9.drew) AI aY;have r4:=Ut (w1:=w9.drew) d4 aY;have SG:wq.frozen? (O w.heap.size 4)=false:=((Uq aY).2 _ _ (World.block_lt_of_cell? w9.drew _ d0)).trans g4;have p5:=Ut (w1:=w9.drew) AJ aY;have r5:=Ut (w1:=w9.drew) d5 aY;have SH:wq.frozen? (O w.heap.size 5)=false:=((Uq aY).2 _ _ (World.block_lt_of_cell? w9.drew _ d0)).trans g5;have p6:=Ut (w1:=w9.drew) Oe aY;have r6:=Ut (w1:=w9.drew) d6 aY;have SI:wq.frozen? (O w.heap.size 6)=false:=((Uq aY).2 _ _ (World.block_lt_of_cell? w9.drew _ d0)).trans g6;have p7:=Ut (w1:=w9.drew) Of aY;have r7:=Ut (w1:=w9.drew) d7 aY;have SJ:wq.frozen? (O w.heap.size 7)=false:=((Uq aY).2 _ _ (World.block_lt_of_cell? w9.drew _ d0)).trans g7;have p8:=Ut (w1:=w9.drew) Og aY;have r8:=Ut (w1:=w9.drew) d8 aY;have SK:wq.frozen? (O w.heap.size 8)=false:=((Uq aY).2 _ _ (World.block_lt_of_cell? w9.drew _ d0)).trans g8))
       all_goals
        have iQ:Bw w9 wq:=⟨aY.1,aY.2,aY.3,aY.4,aY.5⟩;obtain⟨wz,gp⟩:∃x:World,(((((((((wq.setCell (O w.heap.size 0) (.string n0)).setCell (O w.heap.size 1) (J l0)).setCell (O w.heap.size 2) (J h0)).setCell (O w.heap.size 3) (J m0)).setCell (O w.heap.size 4) (.string o0)).setCell (O w.heap.size 5) (J nt)).setCell (O w.heap.size 6) (.string ft)).setCell (O w.heap.size 7) (J sv)).setCell (O w.heap.size 8) (.string e0))=x:=⟨_,rfl⟩;have ht:=vcc (W:=wq) (r:=w.heap.size) ⟨n0,l0,h0,m0,o0,nt,ft,sv,e0⟩ (λj hj=>by obtain⟨x,hx⟩:=HS.out.d j hj;exact⟨x,Ut hx iQ⟩);have mt:Bw w wz:=by rw[<- gp];exact vcd (W:=wq) ⟨n0,l0,h0,m0,o0,nt,ft,sv,e0⟩ (WV HS.out.TQ iQ) (TP _)
        have hl:Xd wq w.heap.size ⟨n0,l0,h0,m0,o0,nt,ft,sv,e0⟩=wz:=gp;rw[hl]at ht;obtain⟨t0,t1,t2,t3,t4,t5,t6,t7,t8⟩:=ht;rw[gp];clear gp hl;go_wp2;exact Ue (v:=.tuple #[Ud.v ⟨n0,l0,h0,m0,o0,nt,ft,sv,e0⟩,.bool rb]) (by simp[results,Tryz.results155,go_sem,Ud.v,t0,t1,t2,t3,t4,t5,t6,t7,t8]) rfl ⟨⟨_,_,rfl,vw,mt⟩⟩
theorem vgz(b o n cap:Nat)(w:World)(hW:WU w b o n):
  C 155 #[U (some (O b o)) n cap] w λe w'=>vcD w e w':=by
 by_cases h:n=10
 .subst h;exact vgF b o cap w hW
 .exact vgE b o n cap w h
