import Derived.Test.YtbbgeelamjmgaaaGreatDoorMGd
import Derived.Test.YtbbgeelamjmgaaaGreatDoorSId
set_option maxRecDepth 20000
set_option maxHeartbeats 0
set_option linter.unusedSimpArgs false
open Go.RowKit
namespace Go.Proofs.YtbbgeelamjmgaaaGreatDoor
variable{w wr:World}{a:Option Addr}{zs:List pE}{B vZZ:Nat}{r:ZW}{v:Value}
theorem js1(h:Zo w a zs):∃rows:List (List Value),rows.length=zs.length/\Za w a 2 rows/\(∀r∈rows,r.length=2)/\(∀u∈rows.flatten,u.oneCell'=true)/\∀(j:Nat) z,zs[j]? =some z->∃v,rows[j]? =some [I z.name,v]/\Jf w v z.ZC:=by
 rcases h with rfl|⟨b,o,ha,hc⟩
 .exact⟨[],rfl,.inl rfl,λr hr=>by simp at hr,λu hu=>by simp at hu,λj z hz=>by simp at hz⟩
 have⟨rows,hl,hp⟩:=jfc (P:=λi r=>∃z v,zs[i]? =some z/\r=[I z.name,v]/\w.cell? (O b (o+i*2))=some (I z.name)/\w.cell? (O b (o+i*2+1))=some v/\Jf w v z.ZC) zs.length (λi hi=>by
  have hz:zs[i]? =some zs[i]:=ZV hi;have⟨c0,v,c1,hE⟩:=hc i _ hz
  exact⟨_,zs[i],v,hz,rfl,c0,c1,hE⟩)
 refine⟨rows,hl,.inr ⟨b,o,ha,λi j r c hr hj=>?_⟩,λr hr=>?_,λu hu=>?_,λj z hz=>?_⟩
 .obtain⟨z,v,_,rfl,c0,c1,_⟩:=hp i r hr
  match j,hj with
  |0,hj=>simp at hj;subst hj;exact c0
  |1,hj=>simp at hj;subst hj;exact c1
  |j+2,hj=>simp at hj
 .have⟨i,hi⟩:=lgo hr
  obtain⟨z,v,_,rfl,_⟩:=hp i r hi;rfl
 .have⟨r,hr,KL⟩:=List.mem_flatten.mp hu
  have⟨i,hi⟩:=lgo hr;obtain⟨z,v,_,rfl,_,_,a2,c2,rfl,_⟩:=hp i r hi;simp at KL;rcases KL with rfl|rfl<;>rfl
 .have hj:=(List.getElem?_eq_some_iff.1 hz).1
  have hr:rows[j]? =some rows[j]:=ZV Q;have⟨z2,v,aF,he,_,_,hE⟩:=hp j _ hr;rw[hz]at aF;obtain rfl:=Z9 aF;exact⟨v,by rw[hr,he],hE⟩
theorem ve5:∀{zr:List (List Value)} {i:Nat} {n u:Value} (v:Value),(∀r∈zr,r.length=2)->zr[i]? =some [n,u]->(zr.set i [n,v]).flatten=zr.flatten.set (i*2+1) v
 |[],_,_,_,_,_,h=>by simp at h
 |r::zr,0,n,u,v,_,h=>by
  simp at h;subst h;simp
 |r::zr,i+1,n,u,v,hq,h=>by
  have hr:r.length=2:=hq r M;rw[List.set_cons_succ,List.flatten_cons,List.flatten_cons,ve5 v (λx hx=>hq x (by simp[hx])) (by simpa using h),List.set_append_right _ _ Q,show(i+1)*2+1-r.length=i*2+1 by omega]
theorem vaf.wide{vUU B' U':Nat}{va vb vc:Value}(h:vaf w B vUU va vb vc r)(hB:B'<=B)(hU:vUU<=U'):vaf w B' U' va vb vc r:=by
 have⟨vZZ,R,L,zr,⟨k1,k2,k3,k4⟩,h2,h3,h4,h5,h6⟩:=h.ex;exact⟨vZZ,R,L,zr,⟨Q,k2,k3,Q⟩,h2.wide hB (ZD _),h3,h4,h5,h6.wide (ZD _) hU⟩
structure vbI(w wr:World)(zs:List pE)(B vZZ i:Nat)(v:Value):Prop where
 ex:∃zr:List (List Value),zr.length=zs.length/\(∀x∈zr,x.length=2)/\Mk wr B vZZ 120 2 v zr/\vZZ<=wr.heap.size/\(∀(j:Nat) (z:pE),zs[j]? =some z->∃e c,zr[j]? =some [I z.name,U e z.ZC.length c]/\(i<=j->Jf w (U e z.ZC.length c) z.ZC)/\(j<i->Mk wr vZZ wr.heap.size 154 6 (U e z.ZC.length c) (z.ZC.map ZH.cs)))/\∀(j k:Nat) (nj nk:Value) (gj gk kj kk cj ck:Nat),j<k->k<i->zr[j]? =some [nj,so gj kj cj]->zr[k]? =some [nk,so gk kk ck]->gj<gk
theorem vbI.step{w2:World}{i g n c m d:Nat}{z:pE}(h:vbI w wr zs B vZZ i (so g n c))(hz:zs[i]? =some z)(hb:Bw wr w2)(ho:w2.ownsRow wr.heap.size 154 6 (U a m d) z.ZC.length (z.ZC.map ZH.cs).flatten):vbI w (w2.setCell (O g (i*2+1)) (U a m d)) zs B vZZ (i+1) (so g n c):=by
 have⟨zr,hl,hq,hR,hZ,aH,TC⟩:=h.ex;have⟨e0,c0,oF,_,_⟩:=aH i z hz;have YL:g<vZZ:=hR.top g rfl;have hm:m=z.ZC.length:=by
  rcases ho.2 with⟨h1,h2⟩|⟨_,_,_,h1,_⟩
  .injection h1 with _ h1;omega
  .injection h1
 subst hm;have fG:=hb.size;have i7:i<zr.length:=(List.getElem?_eq_some_iff.1 oF).1;have hn:zr.length=n:=by
  rcases hR.own.2 with⟨h1,_⟩|⟨_,_,_,h1,_⟩
  .injection h1 with h1;cases h1
  .injection h1 with _ h1;exact h1.symm
 have TS:=uZ hR.own hb;rw[hn]at TS;have ei:=TS.stored (i*2+1) (U a z.ZC.length d);have ht:Zc (λb=>b=g) w2 (w2.setCell (O g (i*2+1)) (U a z.ZC.length d)):=(Zc.refl (λb=>b=g) _).set (show g=g from rfl) _;have i6:g<wr.heap.size:=Q;refine⟨zr.set i [I z.name,U a z.ZC.length d],by simp[hl],λx hx=>?_,⟨?_,hR.top⟩,by rw[World.size_setCell];omega,λj y hy=>?_,λj k nj nk gj gk kj kk cj ck Cc Kg h1 h2=>?_⟩
 .rcases List.mem_or_eq_of_mem_set hx with h|rfl
  .exact hq x h
  .rfl
 .rw[List.length_set,ve5 _ hq oF,hn]
  exact ei.1
 .by_cases Cb:j=i
  .subst Cb
   rw[hz]at hy;obtain rfl:=Z9 hy;refine⟨a,d,by rw[List.getElem?_set_self i7],λh=>Q,λ_=>Mk.touch (S:=λb=>b=g) ⟨?_,λx hx=>?_⟩ ht (λb h1 _ h2=>Q)⟩
   .rw[BX];exact Ez ho Q
   .rw[World.size_setCell]
    exact(World.ownsRow.lt ho x hx).2
  .have⟨e,ce,h1,h2,h3⟩:=aH j y hy
   refine⟨e,ce,by rw[List.getElem?_set_ne (Ne.symm Cb)];exact h1,λh=>h2 Q,λh=>?_⟩;have h4:=(h3 Q).below hb;exact(h4.touch ht (λb h1 _ h2=>Q)).wide (ZD _) (by rw[World.size_setCell];omega)
 .rw[List.getElem?_set_ne Q]at h1
  by_cases hk:k=i
  .subst hk
   rw[List.getElem?_set_self i7]at h2;simp only[Option.some.injEq,List.cons.injEq,Value.slice.injEq]at h2;have⟨_,⟨h2,_⟩,_⟩:=h2;have bR:=(World.ownsRow.lt ho gk (by rw[h2];rfl)).1;have eP:j<zs.length:=Q;have⟨e,ce,h5,_,h6⟩:=aH j _ (ZV eP);rw[h1]at h5;simp only[Option.some.injEq,List.cons.injEq,Value.slice.injEq]at h5;have⟨_,⟨h5,h7,h8⟩,_⟩:=h5;have h9:=(h6 Cc).top gj (by rw[<- h5];rfl);omega
  .rw[List.getElem?_set_ne Q]at h2
   exact TC j k nj nk gj gk kj kk cj ck Cc Q h1 h2
structure vgD(r:ZW)(w:World)(q:Ending)(w':World):Prop where
 ex:∃a c a2 c2 a3 c3,q=V (.agg #[U a r.Vv.length c,U a2 r.YU.length c2,U a3 r.YW.length c3])/\vaf w' w.heap.size w'.heap.size (U a r.Vv.length c) (U a2 r.YU.length c2) (U a3 r.YW.length c3) r
 ZB:Bw w w'
theorem vdF{α:Type}{cs:α->List Value}{L:List α}{t:TypeId}{q:Nat}(h:w.ownsRow B t q v L.length (L.map cs).flatten):Mk w B w.heap.size t q v (L.map cs):=⟨by rw[BX];exact h,λg hg=>(World.ownsRow.lt h g hg).2⟩
theorem vbI.done(h:vbI w wr r.YU B vZZ r.YU.length v){w3 w4:World}{va vc:Value}(ar:Bw wr w3)(h3:w3.ownsRow wr.heap.size 116 9 va r.Vv.length (r.Vv.map ZQ.cs).flatten)(aD:Bw w3 w4)(h4:w4.ownsRow w3.heap.size 122 2 vc r.YW.length (r.YW.map vH.cs).flatten)(VM:B<=vZZ):vaf w4 B w4.heap.size va v vc r:=by
 have⟨zr,hl,hq,hR,hZ,aH,TC⟩:=h.ex
 have hE:vb6 wr vZZ wr.heap.size zr r.YU:=⟨hl,λi z hz=>by
  have⟨e,c,k1,_,k3⟩:=aH i z hz
  exact⟨e,c,k1,k3 (List.getElem?_eq_some_iff.1 hz).1⟩,λi j ni nj gi gj ki kj ci cj eF k1 k2=>TC i j ni nj gi gj ki kj ci cj eF (by rw[<- hl];exact(List.getElem?_eq_some_iff.1 k2).1) k1 k2⟩
 exact⟨vZZ,wr.heap.size,w3.heap.size,zr,⟨VM,hZ,ar.size,aD.size⟩,(hR.below ar).below aD,(hE.below ar).below aD,hq,(vdF h3).below aD,vdF h4⟩
theorem jc3(r:ZW)(a b c:Option Addr)(ca cb cc:Nat)(w:World)(hv:Zd w (.agg #[U a r.Vv.length ca,U b r.YU.length cb,U c r.YW.length cc]) r)(sm:r.small):
  C 88 #[.agg #[U a r.Vv.length ca,U b r.YU.length cb,U c r.YW.length cc]] w (vgD r w):=by
 have⟨a',b',c',Rf,Rg,Rh,he,hA,hZ,hC⟩:=hv.form;injection he with he
 simp only[List.toArray_inj,List.cons.injEq,Value.slice.injEq,true_and,and_true,Array.mk.injEq]at he;obtain⟨⟨rfl,rfl⟩,⟨rfl,rfl⟩,rfl,rfl⟩:=he;have⟨m1,m2,m3,m4⟩:=sm;obtain⟨rs,zs,ls⟩:=r;simp only at *;have⟨rows,hl,hq,r2,r1,ap⟩:=js1 hZ;have ag:Bw w ((w.alloc (G #[U a rs.length ca,U b zs.length cb,U c ls.length cc] 27)).alloc (G #[nS,nS,nS] 27)):=(ZA _ _).alloc M _;have X0:Zh ((w.alloc (G #[U a rs.length ca,U b zs.length cb,U c ls.length cc] 27)).alloc (G #[nS,nS,nS] 27)) w.heap.size [U a rs.length ca,U b zs.length cb,U c ls.length cc]:=(Zh.new w [U a rs.length ca,U b zs.length cb,U c ls.length cc] 27).below (ZA _ _);have O0:Zh ((w.alloc (G #[U a rs.length ca,U b zs.length cb,U c ls.length cc] 27)).alloc (G #[nS,nS,nS] 27)) (w.heap.size+1) [nS,nS,nS]:=by
  have h:=Zh.new (w.alloc (G #[U a rs.length ca,U b zs.length cb,U c ls.length cc] 27)) [nS,nS,nS] 27
  simpa using h
 have dP:((w.alloc (G #[U a rs.length ca,U b zs.length cb,U c ls.length cc] 27)).alloc (G #[nS,nS,nS] 27)).heap.size=w.heap.size+1+1:=M;have vE:=λw h=>jt5 rows r2 r1 b zs.length cb w h hl m2
 have vD:=λw h=>jt6 (rs.map ZQ.cs) (jlb (cs:=ZQ.cs) (λ_=>rfl) rs) js0 a rs.length ca w h M m1
 have Di:=λw h=>jt7 (ls.map vH.cs) (jlb (cs:=vH.cs) (λ_=>rfl) ls) jti c ls.length cc w h M m3
 have HM:=hid m4;have HA:=hid hA;have HC:=hid hC
 have vy:Hid (∀w1 v,w1.ownsRow (w.heap.size+1+1) 120 2 v zs.length rows.flatten->vbI w w1 zs (w.heap.size+1+1) w1.heap.size 0 v):=λw1 v ho=>⟨rows,hl,r2,⟨by rw[hl];exact ho,λg hg=>(World.ownsRow.lt ho g hg).2⟩,ZD _,λj z hz=>by
  obtain⟨u,k1,e,c,rfl,k2⟩:=ap j z hz
  exact⟨e,c,k1,λ_=>⟨e,c,rfl,k2⟩,λh=>Q⟩,λj k _ _ _ _ _ _ _ _ _ h=>Q⟩
 have HD:Hid (∀wr w3 w4 vZZ v va vc,vbI w wr zs (w.heap.size+1+1) vZZ zs.length v->Bw wr w3->w3.ownsRow wr.heap.size 116 9 va rs.length (rs.map ZQ.cs).flatten->Bw w3 w4->w4.ownsRow w3.heap.size 122 2 vc ls.length (ls.map vH.cs).flatten->w.heap.size+1+1<=vZZ->vaf w4 (w.heap.size+1+1) w4.heap.size va v vc ⟨rs,zs,ls⟩):=λwr w3 w4 vZZ v va vc h h1 h2 h3 h4 h5=>h.done (r:=⟨rs,zs,ls⟩) h1 h2 h3 h4 h5
 have x1:=X0.c 1 (u:=U b zs.length cb) rfl;have sJ:=hq.below ag;clear hv hZ hA hC ap m4 hq r1 r2 hl;generalize Cq:zs.length=nz at *;have HN:=hid Cq;clear Cq;unfold C;go_in;go_wp2_with fail;refine(vE _ sJ).mono ?_;rintro q w1 ⟨zv,rfl,dW,hb1⟩;rw[dP]at dW;obtain⟨pz,cz,rfl⟩:=vao dW;have aj:=Zp ag hb1;have X1:=X0.below hb1;have O1:=O0.below hb1;have j8:=vy.out w1 _ dW;have cr:w.heap.size+1+1<=w1.heap.size:=by have:=hb1.size;omega
 have⟨vZZ,Vj⟩:=ZL w1.heap.size;rw[Vj]at j8 cr;have HX:=hid X1;have HO:=hid O1;have VC:=hid cr;clear vE sJ dW hb1 x1 X0 O0 dP vy X1 O1 ag Vj cr;go_wp2;go_loopw [4,10] (λ_ mY wr=>∃i:Nat,i<=nz/\mY=J i/\Hid (vbI w wr zs (w.heap.size+1+1) vZZ i (U pz nz cz))/\Hid (Zh wr w.heap.size [U a rs.length ca,U b nz cb,U c ls.length cc])/\Hid (Zh wr (w.heap.size+1) [nS,nS,nS])/\Bw w wr) (λ_ mY _=>nz-(intOf mY).toNat)
 .exact⟨0,Q,rfl,j8,HX,HO,aj⟩
 ·
  have⟨wa,dS⟩:=wL wr;subst dS;obtain⟨i,hi,rfl,HZ,uN,xY,iy⟩:=hrel;clear j8 HX HO aj;by_cases hlt:i<nz
  .have a1:(i:Int)<(nz:Int):=Q
   have a0:(0:Int)<=(i:Int):=Q;obtain⟨z,hz⟩:∃z,zs[i]? =some z:=⟨_,ZV (by have:=HN.out;omega)⟩;have UH:=HZ.out;have⟨zr,sP,wX,Ur,_,Vu,_⟩:=UH.ex;have⟨ea,ec,hu,hE,_⟩:=Vu i z hz;have hE:=hE (ZD _);have⟨VI,VJ,NZ,hE⟩:=hE;obtain⟨rfl,rfl⟩:ea=VI/\ec=VJ:=by injection NZ with h1 _ h2;exact⟨h1,h2⟩
   have fH:=HN.out;have vu:∃g,pz=some (O g 0):=by
    rcases Ur.own.2 with⟨h1,h2⟩|⟨g,_,_,h1,_⟩
    .omega
    .injection h1 with h1 _ _;exact⟨g,h1⟩
   obtain⟨g,rfl⟩:=vu;have TS:wa.ownsRow (w.heap.size+1+1) 120 2 (so g nz cz) nz zr.flatten:=by have h:=Ur.own;rw[sP.trans fH]at h;exact h
   have hc:wa.cell? (O g (i*2+1))=some (U ea z.ZC.length ec):=by rw[TS.cellAt (i*2+1) Q];exact ja3 wX hu rfl
   have hf:=λw2 (hb:Bw wa w2)=>(uZ TS hb).frozenAt (i*2+1)
   have K7:=(World.ownsRow.lt Ur.own g rfl).1;have vC:=jxr (z.ZC.map ZH.cs) (jlb (cs:=ZH.cs) (λ_=>rfl) z.ZC) jxg ea z.ZC.length ec wa (hE.below iy) M (HM.out z (ui hz));have HS:Hid (∀w2 a m d,Bw wa w2->w2.ownsRow wa.heap.size 154 6 (U a m d) z.ZC.length (z.ZC.map ZH.cs).flatten->vbI w (w2.setCell (O g (i*2+1)) (U a m d)) zs (w.heap.size+1+1) vZZ (i+1) (so g nz cz)):=λw2 a m d hb ho=>UH.step hz hb ho
   have HF:=hid hf;clear TS Vu Ur wX sP hu hE hz UH HZ NZ fH hf;generalize (z.ZC.map ZH.cs).flatten=d8 at *;generalize z.ZC.length=ne at *;go_wp2_with fail;refine vC.mono ?_;rintro q w2 ⟨v2,rfl,aW,ac⟩;obtain⟨p2,c2,rfl⟩:=vao aW;have cU:=YR ac hc;have eE:=HF.out w2 ac;have an:=Zp iy ac;have LW:Hid (vbI w (w2.setCell (O g (i*2+1)) (U p2 ne c2)) zs (w.heap.size+1+1) vZZ (i+1) (so g nz cz)):=HS.out w2 p2 ne c2 ac aW;have LT:Hid (Zh (w2.setCell (O g (i*2+1)) (U p2 ne c2)) w.heap.size [U a rs.length ca,U b nz cb,U c ls.length cc]):=(uN.out.below ac).other Q _;have BC:Hid (Zh (w2.setCell (O g (i*2+1)) (U p2 ne c2)) (w.heap.size+1) [nS,nS,nS]):=(xY.out.below ac).other Q _;have ax:Bw w (w2.setCell (O g (i*2+1)) (U p2 ne c2)):=an.setCell (show w.heap.size<=g by omega) _;clear aW ac an iy hc vC uN xY HS HF;go_wp2;go_roundw
   .exact⟨i+1,Q,RP,LW,LT,BC,ax⟩
   .simp[intOf];omega
  .obtain rfl:i=nz:=Q
   have x0:wa.drew.cell? (O w.heap.size 0)=some (U a rs.length ca):=uN.out.c 0 (u:=U a rs.length ca) rfl;have x2:wa.drew.cell? (O w.heap.size 2)=some (U c ls.length cc):=uN.out.c 2 (u:=U c ls.length cc) rfl;have LL:Hid (Zh wa.drew (w.heap.size+1) [nS,nS,nS]):=xY.out.below (rW wa);have bY:Bw w wa.drew:=iy.trans ((rW wa).mono iy.size);have tT:=vD wa.drew (HA.out.below bY);have qs:=hid bY;clear bY iy vD uN xY;go_wp2_with fail;go_region_held3 (λw'=>w'.cell? (O w.heap.size 0)=some (U a rs.length ca)/\w'.cell? (O w.heap.size 2)=some (U c ls.length cc)) (go_keep) (first|(go_at_call 131;refine tT.mono ?_;rintro q w3 ⟨v3,rfl,dE,ar⟩;obtain⟨p3,c3,rfl⟩:=vao dE;have BC:=ZE dE;clear dE;have QX:=YR ar x0;have Ra:=YR ar x2;have lx:=Di w3 (HC.out.below (Zp qs.out ar)))|(go_at_call 132;refine lx.mono ?_;rintro q w4 ⟨v4,rfl,dX,aD⟩;obtain⟨p4,c4,rfl⟩:=vao dX;have UV:=ZE dX;clear dX;have Sx:=YR aD QX;have Sz:=YR aD Ra;have O4:=(LL.out.below ar).below aD;have o0:=O4.c 0 (u:=nS) rfl;have o1:=O4.c 1 (u:=nS) rfl;have o2:=O4.c 2 (u:=nS) rfl;have f0:=O4.f 0 (u:=nS) rfl;have f1:=O4.f 1 (u:=nS) rfl;have f2:=O4.f 2 (u:=nS) rfl))
   all_goals
    have ax:=Zp qs.out ar;have aR:=Zp ax aD;have pT:=HD.out wa w3 w4 vZZ _ _ _ HZ.out ((rW wa).trans (ar.mono (ZD _))) BC.out aD UV.out VC.out;have⟨t0,t1,t2⟩:=jne (v0:=U p3 rs.length c3) (v1:=U pz i cz) (v2:=U p4 ls.length c4) o0 o1 o2;have ht:Zc (λb=>b=w.heap.size+1) w4 (((w4.setCell (O (w.heap.size+1) 0) (U p3 rs.length c3)).setCell (O (w.heap.size+1) 1) (U pz i cz)).setCell (O (w.heap.size+1) 2) (U p4 ls.length c4)):=(((Zc.refl (λb=>b=w.heap.size+1) _).set (show w.heap.size+1=w.heap.size+1 from rfl) _).set (show w.heap.size+1=w.heap.size+1 from rfl) _).set (show w.heap.size+1=w.heap.size+1 from rfl) _;have hsz:(((w4.setCell (O (w.heap.size+1) 0) (U p3 rs.length c3)).setCell (O (w.heap.size+1) 1) (U pz i cz)).setCell (O (w.heap.size+1) 2) (U p4 ls.length c4)).heap.size=w4.heap.size:=by simp[World.size_setCell]
    have gr:=ZE ((pT.touch ht (λb h1 _ h2=>Q)).wide (show w.heap.size<=w.heap.size+1+1 by omega) (Nat.le_of_eq hsz.symm));have lM:Hid (Bw w (((w4.setCell (O (w.heap.size+1) 0) (U p3 rs.length c3)).setCell (O (w.heap.size+1) 1) (U pz i cz)).setCell (O (w.heap.size+1) 2) (U p4 ls.length c4))):=((aR.setCell (vQs _) _).setCell (vQs _) _).setCell (vQs _) _;clear ax aR ar aD lx O4 BC UV pT ht HZ HD hsz;go_wp2;exact ZM (v:=.agg #[U p3 rs.length c3,U pz i cz,U p4 ls.length c4]) (by simp[results,Tryz.results88,go_sem,t0,t1,t2]) rfl ⟨⟨_,_,_,_,_,_,by rw[HN.out],by rw[HN.out];exact gr.out⟩,lM.out⟩
structure vgE(s:ZP)(w:World)(q:Ending)(w':World):Prop where
 ex:∃v,q=V v/\StC w' w.heap.size w'.heap.size v s
 ZB:Bw w w'
theorem jqs(s:ZP)(v:Value)(w:World)(hv:Jd w v s)(hm:Zr s):
  C 52 #[v] w (vgE s w):=by
 obtain⟨a,b,c,d,e,f,va,ia,ca,cb,cc,cd,ce,cf,cv,ci,rfl,hN,hW,hV,hX,_,_⟩:=hv.form;obtain⟨tx,YT,YS,cur,vs,ix⟩:=s;have⟨m1,m2,m3,m4,m5⟩:=hm;simp only at *;have⟨w0,KR,ag,A0,R0,dP⟩:=vb3 w (stA ⟨tx,YT,YS,cur,vs,ix⟩ a b c d e f va ia ca cb cc cd ce cf cv ci) [J 0,nS,nS,nS,nS,nS,nS,J 0,nS,nS] 31 31;have q1:=λw h=>jc3 YT a b c ca cb cc w h m1.sm
 have q2:=λw h=>jc3 YS d e f cd ce cf w h m2.sm
 have q3:=λw h=>jmp (vs.map ZN.cs) (jlb (cs:=ZN.cs) (λ_=>rfl) vs) jup va vs.length cv w h M m4
 have q4:=λw h=>jq7 (ix.map ZY.cs) (jlb (cs:=ZY.cs) (λ_=>rfl) ix) jbn ia ix.length ci w h M m5
 clear m1 m2 m3 hv;have HN:=hid hN;have HW:=hid hW;have HV:=hid hV;have HX:=hid hX;clear hN hW hV hX;unfold C;go_in;have Ah:=A0.c 1 rfl;have oZ:=A0.f 1 rfl;have Ai:=A0.c 2 rfl;have pc:=A0.f 2 rfl;have Aj:=A0.c 3 rfl;have pd:=A0.f 3 rfl;go_wp2_with fail;refine(q1 _ (HN.out.below ag)).mono ?_;rintro e w1 hP;have⟨a1,c1,a2,c2,a3,c3,hq,hR⟩:=hP.ex;subst hq;rw[dP]at hR;have bg:=hP.ZB;have l1:=bg.size;rw[dP]at l1;have aj:=Zp ag bg;have A1:=A0.below bg;have R1:=R0.below bg;have HR:=ZE hR;clear A0 R0 ag bg hP hR dP;clear Ah oZ Ai pc Aj pd;have Ah:=A1.c 1 rfl;have oZ:=A1.f 1 rfl;have Ai:=A1.c 2 rfl;have pc:=A1.f 2 rfl;have Aj:=A1.c 3 rfl;have pd:=A1.f 3 rfl;have IT:=A1.c 4 rfl;have Ap:=A1.f 4 rfl;have IU:=A1.c 5 rfl;have Aq:=A1.f 5 rfl;have IV:=A1.c 6 rfl;have Ar:=A1.f 6 rfl;go_wp2_with fail;clear Ah oZ Ai pc Aj pd IT Ap IU Aq IV Ar;have⟨wB,hx,K⟩:=vaQ (w.heap.size) w1 [(1,U a1 YT.Vv.length c1),(2,U a2 YT.YU.length c2),(3,U a3 YT.YW.length c3)];simp only[stl]at hx;rw[hx];have A2:=K.var _ A1;have R2:=K.oth _ _ Q R1;have an:=K.ZB _ _ Q aj;have gK:=ZE (HR.out.touch (K.tch (λb=>b<w.heap.size+1+1) _ (show w.heap.size<_ by omega) (Zc.refl _ _)) (λb h1 _ h2=>Q));have z2:=K.size;clear A1 R1 aj HR hx K;refine(q2 _ (HW.out.below an)).mono ?_;rintro e w2 iB;have⟨a4,c4,a5,c5,a6,c6,hq,hR⟩:=iB.ex;subst hq;rw[z2]at hR;have ac:=iB.ZB;have l2:=ac.size;rw[z2]at l2;have ax:=Zp an ac;have A3:=A2.below ac;have R3:=R2.below ac;have jt:=ZE (gK.out.below ac);have HR:=ZE hR;clear A2 R2 an ac iB hR gK z2;have IN:=A3.c 4 rfl;have Ak:=A3.f 4 rfl;have IP:=A3.c 5 rfl;have Al:=A3.f 5 rfl;have IQ:=A3.c 6 rfl;have Am:=A3.f 6 rfl;have IW:=A3.c 8 rfl;have As:=A3.f 8 rfl;go_wp2_with fail;clear IN Ak IP Al IQ Am IW As;have⟨wC,hx,K⟩:=vaQ (w.heap.size) w2 [(4,U a4 YS.Vv.length c4),(5,U a5 YS.YU.length c5),(6,U a6 YS.YW.length c6)];simp only[stl]at hx;rw[hx];have A4:=K.var _ A3;have R4:=K.oth _ _ Q R3;have aR:=K.ZB _ _ Q ax;have T4:=K.tch (λb=>b<w.heap.size+1+1) _ (show w.heap.size<_ by omega) (Zc.refl _ _);have nG:=ZE (jt.out.touch T4 (λb h1 _ h2=>Q));have Kj:=ZE (HR.out.touch T4 (λb h1 _ h2=>Q));have z4:=K.size;clear A3 R3 ax T4 jt HR hx K;refine(q3 _ (HV.out.below aR)).mono ?_;rintro e w3 ⟨v3,rfl,ho,aD⟩;obtain⟨a8,c8,rfl⟩:=vao ho;rw[z4]at ho;have l3:=aD.size;rw[z4]at l3;have bG:=Zp aR aD;have A5:=A4.below aD;have R5:=R4.below aD;have I4:=ZE (nG.out.below aD);have Ic:=ZE (Kj.out.below aD);have Jq:=ZE (vdF ho);clear A4 R4 aR aD ho nG Kj z4;have IR:=A5.c 8 rfl;have An:=A5.f 8 rfl;have IX:=A5.c 9 rfl;have Au:=A5.f 9 rfl;go_wp2_with fail;clear IR An IX Au;have⟨wD,hx,K⟩:=vaQ (w.heap.size) w3 [(8,U a8 vs.length c8)];simp only[stl]at hx;rw[hx];have A6:=K.var _ A5;have R6:=K.oth _ _ Q R5;have cp:=K.ZB _ _ Q bG;have T6:=K.tch (λb=>b<w.heap.size+1+1) _ (show w.heap.size<_ by omega) (Zc.refl _ _);have I5:=ZE (I4.out.touch T6 (λb h1 _ h2=>Q))
 have Km:=ZE (Ic.out.touch T6 (λb h1 _ h2=>Q));have K1:=ZE (Jq.out.touch T6 (λb h1 _ h2=>Q));have z6:=K.size;clear A5 R5 bG T6 I4 Ic Jq hx K;refine(q4 _ (HX.out.below cp)).mono ?_;rintro e w4 ⟨v4,rfl,ho,hb6⟩;obtain⟨a9,c9,rfl⟩:=vao ho;rw[z6]at ho;have l4:=hb6.size;rw[z6]at l4;have dz:=Zp cp hb6;have A7:=A6.below hb6;have R7:=R6.below hb6;have Ig:=ZE (I5.out.below hb6);have Kw:=ZE (Km.out.below hb6);have K8:=ZE (K1.out.below hb6);have KC:=ZE (vdF ho);clear A6 R6 cp hb6 ho I5 Km K1 z6;have OH:=A7.c 9 rfl;have IS:=A7.f 9 rfl;have⟨wF,hx,K⟩:=vaQ (w.heap.size) w4 [(9,U a9 ix.length c9)];simp only[stl]at hx;have OZ:=K.var _ A7;have RZ:=K.oth _ _ Q R7;have⟨wG,n8,K2⟩:=vaQ (w.heap.size+1) wF [(0,J tx),(1,U a1 YT.Vv.length c1),(2,U a2 YT.YU.length c2),(3,U a3 YT.YW.length c3),(4,U a4 YS.Vv.length c4),(5,U a5 YS.YU.length c5),(6,U a6 YS.YW.length c6),(7,J cur),(8,U a8 vs.length c8),(9,U a9 ix.length c9)];simp only[stl]at n8;have⟨z0,z1,z2,z3,z4,z5,z6,z7,z8,z9⟩:=OZ.ZS;have⟨y0,y1,y2,y3,y4,y5,y6,y7,y8,y9⟩:=RZ.ZS;have⟨Ns,Nt,Nu,Nv,Nw,Nx,Ny,Nz,NA,NB⟩:=RZ.vaV;have RF:=K2.var _ RZ;have T8:=K2.tch (λb=>b<w.heap.size+1+1) _ (show w.heap.size+1<_ by omega) (K.tch (λb=>b<w.heap.size+1+1) _ (show w.heap.size<_ by omega) (Zc.refl _ _));have hsz:wG.heap.size=w4.heap.size:=K2.size.trans K.size;have LN:Hid (StC wG w.heap.size wG.heap.size (.agg (stA ⟨tx,YT,YS,cur,vs,ix⟩ a1 a2 a3 a4 a5 a6 a8 a9 c1 c2 c3 c4 c5 c6 c8 c9).toArray) ⟨tx,YT,YS,cur,vs,ix⟩):=⟨a1,a2,a3,a4,a5,a6,a8,a9,c1,c2,c3,c4,c5,c6,c8,c9,w1.heap.size,w2.heap.size,w3.heap.size,rfl,⟨Q,l2,l3,Nat.le_trans l4 (Nat.le_of_eq hsz.symm)⟩,(Ig.out.touch T8 (λb h1 _ h2=>Q)).wide Q (ZD _),Kw.out.touch T8 (λb h1 _ h2=>Q),K8.out.touch T8 (λb h1 _ h2=>Q),(KC.out.touch T8 (λb h1 _ h2=>Q)).wide (ZD _) (Nat.le_of_eq hsz.symm)⟩;have yA:=ZE (K2.ZB _ _ Q (K.ZB _ _ Q dz));have⟨t0,t1,t2,t3,t4,t5,t6,t7,t8,t9⟩:=RF.ZS;clear RF OZ RZ A7 R7 dz T8 hsz Ig Kw K8 KC K K2;go_wp2;exact ZM (v:=.agg #[J tx,U a1 YT.Vv.length c1,U a2 YT.YU.length c2,U a3 YT.YW.length c3,U a4 YS.Vv.length c4,U a5 YS.YU.length c5,U a6 YS.YW.length c6,J cur,U a8 vs.length c8,U a9 ix.length c9]) (by simp[results,Tryz.results52,go_sem,t0,t1,t2,t3,t4,t5,t6,t7,t8,t9]) rfl ⟨⟨_,rfl,LN.out⟩,yA.out⟩
section
open Go.RowKit Go.ChangeMaps Go.MapKept Go.WideMaps
def Mq(s:ZP)(a1 a2 a3 a4 a5 a6 a8 a9:Option Addr)(c1 c2 c3 c4 c5 c6 c8 c9:Nat):List (Nat × Value):=[(0,J s.tx),(1,U a1 s.YT.Vv.length c1),(2,U a2 s.YT.YU.length c2),(3,U a3 s.YT.YW.length c3),(4,U a4 s.YS.Vv.length c4),(5,U a5 s.YS.YU.length c5),(6,U a6 s.YS.YW.length c6),(8,U a8 s.vs.length c8),(9,U a9 s.ix.length c9)]
structure vbF(s:ZP)(w w':World)(x:Option Addr):Prop where
 ex:∃bb lb n a1 a2 a3 a4 a5 a6 a8 a9 c1 c2 c3 c4 c5 c6 c8 c9 nm wm k w0 B a b c d e f ca cb cc cd ce cf,x=some (O bb 0)/\Zm w' lb n (AY s.vs)/\n<=1048576/\Zl (Mq s a1 a2 a3 a4 a5 a6 a8 a9 c1 c2 c3 c4 c5 c6 c8 c9) w0 w' s bb lb nm wm k k a b c d e f ca cb cc cd ce cf/\k<=30/\Bw w w0/\Zx w/\Zd w (.agg #[U a s.YT.Vv.length ca,U b s.YT.YU.length cb,U c s.YT.YW.length cc]) s.YT/\Zd w (.agg #[U d s.YS.Vv.length cd,U e s.YS.YU.length ce,U f s.YS.YW.length cf]) s.YS/\(nm≠lb/\wm≠lb/\w.heap.size<=lb/\lb<B/\w0.heap.size<=bb/\bb<w'.heap.size)/\ZZ s.YT=true/\ZZ s.YS=true/\StC w0 B w0.heap.size (.agg (stA s a1 a2 a3 a4 a5 a6 a8 a9 c1 c2 c3 c4 c5 c6 c8 c9).toArray) s
theorem vbF.below{s:ZP}{w1 w':World}{x:Option Addr}(h:vbF s w w1 x)(hb:Bw w1 w'):vbF s w w' x:=by
 have⟨bb,lb,n,a1,a2,a3,a4,a5,a6,a8,a9,c1,c2,c3,c4,c5,c6,c8,c9,nm,wm,k,w0,B,a,b,c,d,e,f,ca,cb,cc,cd,ce,cf,hx,hM,hn,Ia,hk,bg,hE,hN,hW,⟨n1,n2,n3,n4,n5,n6⟩,hr⟩:=h.ex;exact⟨bb,lb,n,a1,a2,a3,a4,a5,a6,a8,a9,c1,c2,c3,c4,c5,c6,c8,c9,nm,wm,k,w0,B,a,b,c,d,e,f,ca,cb,cc,cd,ce,cf,hx,hM.below hb,hn,Ia.below hb,hk,bg,hE,hN,hW,⟨n1,n2,n3,n4,n5,Nat.lt_of_lt_of_le n6 hb.size⟩,hr⟩
structure vgH(s:ZP)(w:World)(q:Ending)(w':World):Prop where
 ex:∃x,q=V (.tuple #[.pointer x,.bool (wZ s)])/\(wZ s=true->vbF s w w' x)
 ZB:Bw w w'
theorem vea(hS:vcg)(s:ZP)(v:Value)(w:World)(hE:Zx w)(hv:Jd w v s)(ok:Zr s):
  C 21 #[v] w (vgH s w):=by
 have dQ:=hv;obtain⟨a,b,c,d,e,f,va,ia,ca,cb,cc,cd,ce,cf,cv,ci,rfl,hN,hW,hV,hX,_,_⟩:=hv.form;have ag:=ZA w (G (stA s a b c d e f va ia ca cb cc cd ce cf cv ci).toArray 31);have A0:=Zh.new w (stA s a b c d e f va ia ca cb cc cd ce cf cv ci) 31;have q1:=λw hE h=>jjc s (.agg (stA s a b c d e f va ia ca cb cc cd ce cf cv ci).toArray) w hE h ok
 have q2:=λw h=>jfv s.vs s.tx s.cur a b c d e f va ia s.YT.Vv.length ca s.YT.YU.length cb s.YT.YW.length cc s.YS.Vv.length cd s.YS.YU.length ce s.YS.YW.length cf s.vs.length cv s.ix.length ci w h ok.vs rfl ok.vl
 skip
 have HV:=hid hV;have HX:=hid hX;have HN:=hid hN;have HW:=hid hW;clear hV hX hN hW hv;have⟨x0,x1,x2,x3,x4,x5,x6,x7,x8,x9⟩:=A0.ZS;unfold C;go_in;go_wp2_with fail;refine(q1 _ (hE.of_below ag) (dQ.below ag)).mono ?_;rintro e1 w1 ⟨rfl,hb1⟩;have aj:=Zp ag hb1;have A1:=A0.below hb1;clear hb1 A0 q1 x0 x1 x2 x3 x4 x5 x6 x7 x8 x9;cases h1:jk5 s
 case false=>
  have HR:Hid (wZ s=false):=by simp[Hid,wZ,jov,h1]
  go_wp2;go_ret2;exact⟨⟨none,by rw[HR.out];rfl,λh=>by rw[HR.out]at h;cases h⟩,aj⟩
 have hr:ZZ s.YT=true/\ZZ s.YS=true:=by
  unfold jk5 at h1;simp only[vB]at h1;exact h1.2
 have⟨oG,dC⟩:=hr;have⟨x0,x1,x2,x3,x4,x5,x6,x7,x8,x9⟩:=A1.ZS;go_wp2_with fail;refine(q2 _ (HV.out.below aj)).mono ?_;rintro e2 w2 ⟨rfl,ac⟩;have an:=Zp aj ac;have A2:=A1.below ac;clear ac A1 q2 x0 x1 x2 x3 x4 x5 x6 x7 x8 x9;cases h2:txB s.vs s.tx
 case false=>
  have HR:Hid (wZ s=false):=by simp[Hid,wZ,jov,h1,h2]
  go_wp2;go_ret2;exact⟨⟨none,by rw[HR.out];rfl,λh=>by rw[HR.out]at h;cases h⟩,an⟩
 have q3:=jqn s.vs va s.vs.length cv w2 (HV.out.below an) (j23 h2) rfl ok.vl;have x8:=A2.c 8 rfl;go_wp2_with fail;refine q3.mono ?_;rintro e3 w3 mw;have ar:=mw.ZB;have ax:=Zp an ar;have A3:=A2.below ar;clear ar A2 q3 x8;rcases mw.end_ with⟨h3,iI,gT⟩|⟨h3,iI⟩
 case inr=>
  subst iI;clear mw;have HR:Hid (wZ s=false):=by simp[Hid,wZ,jov,h1,h2,h3]
  go_wp2;go_ret2;exact⟨⟨none,by rw[HR.out];rfl,λh=>by rw[HR.out]at h;cases h⟩,ax⟩
 subst iI;have N8:=an.size;clear mw an aj ag;have q4:=jkd s _ (AY s.vs) (ZJ s.vs) w2.heap.size s.vs.length w3 (hE.of_below ax) (dQ.below ax) ok gT (jga s.vs) (jhr s.vs.length) ok.vl oG dC;have⟨x0,x1,x2,x3,x4,x5,x6,x7,x8,x9⟩:=A3.ZS;go_wp2_with fail;refine q4.mono ?_;rintro e4 w4 ⟨rfl,aD⟩;have IM:=gT.below aD;have aR:=Zp ax aD;have A4:=A3.below aD;clear aD A3 q4 gT x0 x1 x2 x3 x4 x5 x6 x7 x8 x9;cases h4:jnr s (ZJ s.vs)
 case false=>
  have HR:Hid (wZ s=false):=by simp[Hid,wZ,jov,h1,h2,h3,h4]
  go_wp2;go_ret2;exact⟨⟨none,by rw[HR.out];rfl,λh=>by rw[HR.out]at h;cases h⟩,aR⟩
 have HR:Hid (wZ s=eqX s.ix (BS (vak s) (ZJ s.vs))):=by simp only[Hid,wZ,jov,h1,h2,h3,h4,Bool.true_and]
 have wY:(ZJ s.vs).length<=30:=by
  unfold jnr at h4;rw[vB]at h4;exact Nb h4.1
 clear h1 h2 h3 h4;generalize vf:w2.heap.size=lb at *;clear vf;have UU:Hid (w.heap.size<=lb/\lb<w4.drew.heap.size):=⟨N8,IM.lt⟩;have VG:=ZE ok.vl;have xM:=rW w4;have bG:Bw w w4.drew:=Zp aR xM;have jr:=IM.below xM;have A5:=A4.below xM;have⟨z0,z1,z2,z3,z4,z5,z6,z7,z8,z9⟩:=A5.ZS;have xV:=jqs s _ w4.drew (dQ.below bG) ok;have iH:=fun(r:ZW) a b c ca cb cc W=>jmf r a b c ca cb cc W
 have Gy:=hid jr;have lM:=hid bG;have Be:=hid A5;clear IM jr aR bG A4 A5 xM ax;go_wp2_with fail;go_region_held3 (λw'=>w'.cell? (O w.heap.size 0)=some (J s.tx)/\w'.cell? (O w.heap.size 1)=some (U a s.YT.Vv.length ca)/\w'.cell? (O w.heap.size 2)=some (U b s.YT.YU.length cb)/\w'.cell? (O w.heap.size 3)=some (U c s.YT.YW.length cc)/\w'.cell? (O w.heap.size 4)=some (U d s.YS.Vv.length cd)/\w'.cell? (O w.heap.size 5)=some (U e s.YS.YU.length ce)/\w'.cell? (O w.heap.size 6)=some (U f s.YS.YW.length cf)/\w'.cell? (O w.heap.size 7)=some (J s.cur)/\w'.cell? (O w.heap.size 8)=some (U va s.vs.length cv)/\w'.cell? (O w.heap.size 9)=some (U ia s.ix.length ci)) (go_keep) (first|(go_at_call 52;refine xV.mono ?_;rintro q w5 fo;have⟨v5,Nj,UB⟩:=fo.ex;subst Nj;have VA:=ZE UB;have⟨a1,a2,a3,a4,a5,a6,a8,a9,c1,c2,c3,c4,c5,c6,c8,c9,M1,M2,M3,VS,_⟩:=UB.form;subst VS;clear UB;have aV:=fo.ZB;clear fo;have⟨Qw,Qz,QA,QB,QD,QE,QI,QJ,QK,QN⟩:=(Be.out.below aV).ZS)|(go_at_call 53;have RL:=hb6;refine(iH s.YS d e f cd ce cf _).mono ?_;rintro q w7 ff;have yg:=ff.ex;subst yg;have DW:=ff.cache;have ay:=ff.ZB;clear ff;have⟨PW,PX,PY,Qa,Qc,Qn,Qr,Qu,Qv,La⟩:=(((Be.out.below aV).below hb6).below ay).ZS)|(go_at_call 53;refine(iH s.YT a b c ca cb cc _).mono ?_;rintro q w6 yy;have Nm:=yy.ex;subst Nm;have mu:=yy.cache;have hb6:=yy.ZB;clear yy;have⟨Pt,Px,Pz,PA,PF,PO,PQ,PS,PT,PU⟩:=((Be.out.below aV).below hb6).ZS))
 all_goals
  have bG:=Zp lM.out aV;have Hx:=(ZU w5.heap.size w5).trans (hb6.mono (ZD _));have Hy:=Zp Hx ay;have b8:=ZA w7 (G #[J s.tx,U a1 s.YT.Vv.length c1,U a2 s.YT.YU.length c2,U a3 s.YT.YW.length c3,U a4 s.YS.Vv.length c4,U a5 s.YS.YU.length c5,U a6 s.YS.YW.length c6,J s.cur,U a8 s.vs.length c8,U a9 s.ix.length c9,.map (some lb),U a s.YT.Vv.length ca,U b s.YT.YU.length cb,U c s.YT.YW.length cc,.map (some (w5.heap.size+1+1)),U d s.YS.Vv.length cd,U e s.YS.YU.length ce,U f s.YS.YW.length cf,.map (some (w6.heap.size+1+1))] 70);have Hz:=Zp Hy b8;have l5:=aV.size;have l6:=hb6.size;have l7:=ay.size;have ln:=mu.lt;have lw:=DW.lt;have ll:=Gy.out.lt;have K8:=Zh.new w7 [J s.tx,U a1 s.YT.Vv.length c1,U a2 s.YT.YU.length c2,U a3 s.YT.YW.length c3,U a4 s.YS.Vv.length c4,U a5 s.YS.YU.length c5,U a6 s.YS.YW.length c6,J s.cur,U a8 s.vs.length c8,U a9 s.ix.length c9,.map (some lb),U a s.YT.Vv.length ca,U b s.YT.YU.length cb,U c s.YT.YW.length cc,.map (some (w5.heap.size+1+1)),U d s.YS.Vv.length cd,U e s.YS.YU.length ce,U f s.YS.YW.length cf,.map (some (w6.heap.size+1+1))] 70;have Ia:Zl (Mq s a1 a2 a3 a4 a5 a6 a8 a9 c1 c2 c3 c4 c5 c6 c8 c9) w5 _ s w7.heap.size lb (w5.heap.size+1+1) (w6.heap.size+1+1) 0 0 a b c d e f ca cb cc cd ce cf:=⟨Hz,K8.c 7 rfl,K8.c 10 rfl,K8.c 11 rfl,K8.c 12 rfl,K8.c 13 rfl,K8.c 14 rfl,K8.c 15 rfl,K8.c 16 rfl,K8.c 17 rfl,K8.c 18 rfl,(mu.below ay).below b8,DW.below b8,Q,Q,Q,λp hp=>by simp[Mq]at hp;rcases hp with rfl|rfl|rfl|rfl|rfl|rfl|rfl|rfl|rfl;exact K8.c 0 rfl;exact K8.c 1 rfl;exact K8.c 2 rfl;exact K8.c 3 rfl;exact K8.c 4 rfl;exact K8.c 5 rfl;exact K8.c 6 rfl;exact K8.c 8 rfl;exact K8.c 9 rfl,_,heap_alloc_new w7 _⟩;have J2:=(((Gy.out.below aV).below hb6).below ay).below b8;have tU:=hE.of_below bG;have si:=HN.out.below bG;have uL:=HW.out.below bG;have jy:=jhk hS w5 s w7.heap.size lb (w5.heap.size+1+1) (w6.heap.size+1+1) s.vs.length a b c d e f ca cb cc cd ce cf (AY s.vs) (ZJ s.vs) _ tU si uL ok.YT ok.YS oG dC (Ia.below (rW _)) Q Q (J2.below (rW _)) (jga s.vs) (jhr s.vs.length) Q;have qx:Hid (Zx w5/\Zd w5 (.agg #[U a s.YT.Vv.length ca,U b s.YT.YU.length cb,U c s.YT.YW.length cc]) s.YT/\Zd w5 (.agg #[U d s.YS.Vv.length cd,U e s.YS.YU.length ce,U f s.YS.YW.length cf]) s.YS/\w5.heap.size+1+1≠lb/\w6.heap.size+1+1≠lb/\ZZ s.YT=true/\ZZ s.YS=true/\(ZJ s.vs).length<=30/\w5.heap.size<=w7.heap.size):=⟨tU,si,uL,Q,Q,oG,dC,wY,Q⟩;have x9:=YR (rW _) (YR b8 La);have LU:Hid (Za w5 ia 2 (s.ix.map ZY.cs)):=HX.out.below bG;have Gm:=hid bG;have iD:(BS (vak s) (ZJ s.vs)).length<=30:=Nat.le_trans (jep _ _) wY;have de:=ok.xl;have⟨X,lC⟩:=ZL (BS (vak s) (ZJ s.vs));rw[lC]at jy iD
  have lh:Hid (wZ s=eqX s.ix X):=by simp only[Hid];rw[<- lC];exact HR.out
  have⟨tb,jj⟩:=ZL (eqX s.ix X);have uq:Hid (wZ s=tb):=by simp only[Hid];rw[lh.out];exact jj
  have JC:=λpx cx W (h:Za W ia 2 (s.ix.map ZY.cs)) (h2:Za W px 2 (X.map ZY.cs))=>jhc s.ix X ia px s.ix.length X.length ci cx W h h2 rfl rfl de Q
  rw[jj]at JC;clear HR lh lC jj bG Hx Hy b8 Hz K8 Ia J2 tU si uL mu DW aV hb6 ay iH xV Qw Pt PW z0 Qz Px PX z1 QA Pz PY z2 QB PA Qa z3 QD PF Qc z4 QE PO Qn z5 QI PQ Qr z6 QJ PS Qu z7 QK PT Qv z8 PU La z9;go_wp2_with fail;go_region_held3 (λw'=>w'.cell? (O w.heap.size 9)=some (U ia s.ix.length ci)) (go_keep) (first|(go_at_call 55;refine jy.mono ?_;rintro q w9 pY;obtain⟨v9,rfl,eB⟩:=pY.ex;have⟨kk,sE,vG⟩:=pY.inv;have bZ:=vG.ZB;have N7:=vG.live;have Gt:Hid (kk<=(ZJ s.vs).length/\Zl (Mq s a1 a2 a3 a4 a5 a6 a8 a9 c1 c2 c3 c4 c5 c6 c8 c9) w5 w9 s w7.heap.size lb (w5.heap.size+1+1) (w6.heap.size+1+1) kk kk a b c d e f ca cb cc cd ce cf):=⟨sE,vG⟩;clear sE;have MB:=pY.live;clear vG pY;have eB:=jy6 eB;have⟨px,cx,KO,KA,_⟩:=jbe eB jak;rw[BX]at KO;subst KO;clear eB;have Rb:=YR bZ QN;have Dx:=JC px cx w9 (LU.out.below bZ) KA;clear KA)|(go_at_call 54;refine Dx.mono ?_;rintro q jC ⟨rfl,kT⟩;have SA:=YR kT Rb;have Ep:=YR kT N7;have Do:=MB.below kT))
  all_goals
   have fS:=Zp Gm.out bZ;have D6:=Zp fS kT;go_wp2;go_ret2;exact⟨⟨some (O w7.heap.size 0),by rw[uq.out];rfl,λ_=>⟨_,lb,_,a1,a2,a3,a4,a5,a6,a8,a9,c1,c2,c3,c4,c5,c6,c8,c9,_,_,kk,w5,_,a,b,c,d,e,f,ca,cb,cc,cd,ce,cf,rfl,Do,VG.out,Gt.out.2.below kT,Nat.le_trans Gt.out.1 qx.out.2.2.2.2.2.2.2.1,Gm.out,hE,HN.out,HW.out,⟨qx.out.2.2.2.1,qx.out.2.2.2.2.1,UU.out.1,UU.out.2,qx.out.2.2.2.2.2.2.2.2,ZI Ep⟩,qx.out.2.2.2.2.2.1,qx.out.2.2.2.2.2.2.1,VA.out⟩⟩,D6⟩
