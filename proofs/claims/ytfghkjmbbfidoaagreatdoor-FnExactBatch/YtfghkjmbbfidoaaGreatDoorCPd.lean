import Derived.Test.YtfghkjmbbfidoaaGreatDoorMGd
import Derived.Test.YtfghkjmbbfidoaaGreatDoorSNd
set_option maxRecDepth 20000
set_option maxHeartbeats 0
set_option linter.unusedSimpArgs false
open Go.RowKit
namespace Go.Proofs.YtfghkjmbbfidoaaGreatDoor
theorem js1{w:World}{a:Option Addr}{zs:List ZoneD}(h:Zo w a zs):∃rows:List (List Value),rows.length=zs.length/\Za w a 2 rows/\(∀r∈rows,r.length=2)/\(∀u∈rows.flatten,u.oneCell'=true)/\∀(j:Nat) z,zs[j]? =some z->∃v,rows[j]? =some [.string z.name,v]/\Jf w v z.eras:=by
 rcases h with rfl|⟨b,o,ha,hc⟩
 ·exact⟨[],rfl,.inl rfl,fun r hr=>by simp at hr,fun u hu=>by simp at hu,fun j z hz=>by simp at hz⟩
 obtain⟨rows,hl,hp⟩:=jfc (P:=fun i r=>∃z v,zs[i]? =some z/\r=[Value.string z.name,v]/\w.cell? (ad b (o+i*2))=some (.string z.name)/\w.cell? (ad b (o+i*2+1))=some v/\Jf w v z.eras) zs.length (fun i hi=>by
  have hz:zs[i]? =some zs[i]:=lgg hi
  obtain⟨c0,v,c1,hE⟩:=hc i _ hz
  exact⟨_,zs[i],v,hz,rfl,c0,c1,hE⟩)
 refine⟨rows,hl,.inr ⟨b,o,ha,fun i j r c hr hj=>?_⟩,fun r hr=>?_,fun u hu=>?_,fun j z hz=>?_⟩
 ·obtain⟨z,v,_,rfl,c0,c1,_⟩:=hp i r hr
  match j,hj with
  |0,hj=>simp at hj;subst hj;exact c0
  |1,hj=>simp at hj;subst hj;exact c1
  |j+2,hj=>simp at hj
 ·obtain⟨i,hi⟩:=lgo hr
  obtain⟨z,v,_,rfl,_⟩:=hp i r hi
  rfl
 ·obtain⟨r,hr,Gk⟩:=List.mem_flatten.mp hu
  obtain⟨i,hi⟩:=lgo hr
  obtain⟨z,v,_,rfl,_,_,a2,c2,rfl,_⟩:=hp i r hi
  simp at Gk
  rcases Gk with rfl|rfl<;>rfl
 ·have hj:=(List.getElem?_eq_some_iff.1 hz).1
  have hr:rows[j]? =some rows[j]:=lgg (by omega)
  obtain⟨z2,v,aF,he,_,_,hE⟩:=hp j _ hr
  rw[hz]at aF
  obtain rfl:=osi aF
  exact⟨v,by rw[hr,he],hE⟩
theorem js0{L:List RuleD}:∀u∈(L.map RuleD.cs).flatten,u.oneCell'=true:=fun u hu=>by
 simp only[List.mem_flatten,List.mem_map]at hu
 obtain⟨r,⟨t,_,rfl⟩,hr⟩:=hu
 simp[RuleD.cs]at hr
 rcases hr with rfl|rfl|rfl|rfl|rfl|rfl|rfl|rfl|rfl<;>rfl
theorem jti{L:List LinkD}:∀u∈(L.map LinkD.cs).flatten,u.oneCell'=true:=fun u hu=>by
 simp only[List.mem_flatten,List.mem_map]at hu
 obtain⟨r,⟨t,_,rfl⟩,hr⟩:=hu
 simp[LinkD.cs]at hr
 rcases hr with rfl|rfl<;>rfl
theorem jxg{L:List EraD}:∀u∈(L.map EraD.cs).flatten,u.oneCell'=true:=fun u hu=>by
 simp only[List.mem_flatten,List.mem_map]at hu
 obtain⟨r,⟨t,_,rfl⟩,hr⟩:=hu
 simp[EraD.cs]at hr
 rcases hr with rfl|rfl|rfl|rfl|rfl|rfl<;>rfl
theorem flat_set2:∀{zr:List (List Value)} {i:Nat} {n u:Value} (v:Value),(∀r∈zr,r.length=2)->zr[i]? =some [n,u]->(zr.set i [n,v]).flatten=zr.flatten.set (i*2+1) v
 |[],_,_,_,_,_,h=>by simp at h
 |r::zr,0,n,u,v,_,h=>by
  simp at h
  subst h
  simp
 |r::zr,i+1,n,u,v,hq,h=>by
  have hr:r.length=2:=hq r (by simp)
  rw[List.set_cons_succ,List.flatten_cons,List.flatten_cons,flat_set2 v (fun x hx=>hq x (by simp[hx])) (by simpa using h),List.set_append_right _ _ (by omega),show(i+1)*2+1-r.length=i*2+1 by omega]
theorem RelC.wide{w:World}{B U B' U':Nat}{va vb vc:Value}{r:RelD}(h:RelC w B U va vb vc r)(hB:B'<=B)(hU:U<=U'):RelC w B' U' va vb vc r:=by
 obtain⟨Z,R,L,zr,⟨k1,k2,k3,k4⟩,h2,h3,h4,h5,h6⟩:=h.ex
 exact⟨Z,R,L,zr,⟨by omega,k2,k3,by omega⟩,h2.wide hB (nlr _),h3,h4,h5,h6.wide (nlr _) hU⟩
structure ZonC(w wr:World)(zs:List ZoneD)(B Z i:Nat)(v:Value):Prop where
 ex:∃zr:List (List Value),zr.length=zs.length/\(∀x∈zr,x.length=2)/\RowC wr B Z 153 2 v zr/\Z<=wr.heap.size/\(∀(j:Nat) (z:ZoneD),zs[j]? =some z->∃e c,zr[j]? =some [.string z.name,.slice e z.eras.length c]/\(i<=j->Jf w (.slice e z.eras.length c) z.eras)/\(j<i->RowC wr Z wr.heap.size 187 6 (.slice e z.eras.length c) (z.eras.map EraD.cs)))/\∀(j k:Nat) (nj nk:Value) (gj gk kj kk cj ck:Nat),j<k->k<i->zr[j]? =some [nj,so gj kj cj]->zr[k]? =some [nk,so gk kk ck]->gj<gk
theorem ZonC.step{w wr w2:World}{zs:List ZoneD}{B Z i g n c m d:Nat}{a:Option Addr}{z:ZoneD}(h:ZonC w wr zs B Z i (so g n c))(hz:zs[i]? =some z)(hb:Bw wr w2)(ho:w2.ownsRow wr.heap.size 187 6 (.slice a m d) z.eras.length (z.eras.map EraD.cs).flatten):ZonC w (w2.setCell (ad g (i*2+1)) (.slice a m d)) zs B Z (i+1) (so g n c):=by
 obtain⟨zr,hl,hq,hR,hZ,aH,VW⟩:=h.ex
 obtain⟨e0,c0,oF,_,_⟩:=aH i z hz
 have PR:g<Z:=hR.top g rfl
 have hm:m=z.eras.length:=by
  rcases ho.2 with⟨h1,h2⟩|⟨_,_,_,h1,_⟩
  ·injection h1 with _ h1;omega
  ·injection h1
 subst hm
 have fG:=hb.size
 have i7:i<zr.length:=(List.getElem?_eq_some_iff.1 oF).1
 have hn:zr.length=n:=by
  rcases hR.own.2 with⟨h1,_⟩|⟨_,_,_,h1,_⟩
  ·injection h1 with h1;cases h1
  ·injection h1 with _ h1;exact h1.symm
 have Wq:=jac hR.own hb
 rw[hn]at Wq
 have ei:=Wq.stored (i*2+1) (.slice a z.eras.length d)
 have ht:Zc (fun b=>b=g) w2 (w2.setCell (ad g (i*2+1)) (.slice a z.eras.length d)):=(Zc.refl (fun b=>b=g) _).set (show g=g from rfl) _
 have i6:g<wr.heap.size:=by omega
 refine⟨zr.set i [.string z.name,.slice a z.eras.length d],by simp[hl],fun x hx=>?_,⟨?_,hR.top⟩,by rw[World.size_setCell];omega,fun j y hy=>?_,fun j k nj nk gj gk kj kk cj ck Cc Kg h1 h2=>?_⟩
 ·rcases List.mem_or_eq_of_mem_set hx with h|rfl
  ·exact hq x h
  ·rfl
 ·rw[List.length_set,flat_set2 _ hq oF,hn]
  exact ei.1
 ·by_cases Cb:j=i
  ·subst Cb
   rw[hz]at hy
   obtain rfl:=osi hy
   refine⟨a,d,by rw[List.getElem?_set_self i7],fun h=>by omega,fun _=>RowC.touch (S:=fun b=>b=g) ⟨?_,fun x hx=>?_⟩ ht (fun b h1 _ h2=>by omega)⟩
   ·rw[llm];exact jaj ho (by omega)
   ·rw[World.size_setCell]
    exact(World.ownsRow.lt ho x hx).2
  ·obtain⟨e,ce,h1,h2,h3⟩:=aH j y hy
   refine⟨e,ce,by rw[List.getElem?_set_ne (Ne.symm Cb)];exact h1,fun h=>h2 (by omega),fun h=>?_⟩
   have h4:=(h3 (by omega)).below hb
   exact(h4.touch ht (fun b h1 _ h2=>by omega)).wide (nlr _) (by rw[World.size_setCell];omega)
 ·rw[List.getElem?_set_ne (by omega)]at h1
  by_cases hk:k=i
  ·subst hk
   rw[List.getElem?_set_self i7]at h2
   simp only[Option.some.injEq,List.cons.injEq,Value.slice.injEq]at h2
   obtain⟨_,⟨h2,_⟩,_⟩:=h2
   have bR:=(World.ownsRow.lt ho gk (by rw[h2];rfl)).1
   have eP:j<zs.length:=by omega
   obtain⟨e,ce,h5,_,h6⟩:=aH j _ (lgg eP)
   rw[h1]at h5
   simp only[Option.some.injEq,List.cons.injEq,Value.slice.injEq]at h5
   obtain⟨_,⟨h5,h7,h8⟩,_⟩:=h5
   have h9:=(h6 Cc).top gj (by rw[<- h5];rfl)
   omega
  ·rw[List.getElem?_set_ne (by omega)]at h2
   exact VW j k nj nk gj gk kj kk cj ck Cc (by omega) h1 h2
structure CopP(r:RelD)(w:World)(q:Ending)(w':World):Prop where
 ex:∃a c a2 c2 a3 c3,q=.returned (.agg #[.slice a r.rules.length c,.slice a2 r.zones.length c2,.slice a3 r.links.length c3])/\RelC w' w.heap.size w'.heap.size (.slice a r.rules.length c) (.slice a2 r.zones.length c2) (.slice a3 r.links.length c3) r
 bel:Bw w w'
theorem hidP{p:Prop}(h:p):Hid p:=h
theorem own_shape2{w:World}{base:Nat}{e:TypeId}{q:Nat}{v:Value}{n:Nat}{xs:List Value}(h:w.ownsRow base e q v n xs):∃a c,v=.slice a n c:=by
 rcases h.2 with⟨h1,h2⟩|⟨_,_,_,h1,_⟩
 ·exact⟨_,_,by rw[h1,h2]⟩
 ·exact⟨_,_,h1⟩
theorem rowC_of{α:Type}{cs:α->List Value}{L:List α}{w:World}{B:Nat}{t:TypeId}{q:Nat}{v:Value}(h:w.ownsRow B t q v L.length (L.map cs).flatten):RowC w B w.heap.size t q v (L.map cs):=⟨by rw[llm];exact h,fun g hg=>(World.ownsRow.lt h g hg).2⟩
theorem ZonC.done{w wr:World}{r:RelD}{B Z:Nat}{v:Value}(h:ZonC w wr r.zones B Z r.zones.length v){w3 w4:World}{va vc:Value}(ar:Bw wr w3)(h3:w3.ownsRow wr.heap.size 149 9 va r.rules.length (r.rules.map RuleD.cs).flatten)(aD:Bw w3 w4)(h4:w4.ownsRow w3.heap.size 155 2 vc r.links.length (r.links.map LinkD.cs).flatten)(Rd:B<=Z):RelC w4 B w4.heap.size va v vc r:=by
 obtain⟨zr,hl,hq,hR,hZ,aH,VW⟩:=h.ex
 have hE:EraC wr Z wr.heap.size zr r.zones:=⟨hl,fun i z hz=>by
  obtain⟨e,c,k1,_,k3⟩:=aH i z hz
  exact⟨e,c,k1,k3 (List.getElem?_eq_some_iff.1 hz).1⟩,fun i j ni nj gi gj ki kj ci cj eF k1 k2=>VW i j ni nj gi gj ki kj ci cj eF (by rw[<- hl];exact(List.getElem?_eq_some_iff.1 k2).1) k1 k2⟩
 exact⟨Z,wr.heap.size,w3.heap.size,zr,⟨Rd,hZ,ar.size,aD.size⟩,(hR.below ar).below aD,(hE.below ar).below aD,hq,(rowC_of h3).below aD,rowC_of h4⟩
theorem jc3(r:RelD)(a b c:Option Addr)(ca cb cc:Nat)(w:World)(hv:Zd w (.agg #[.slice a r.rules.length ca,.slice b r.zones.length cb,.slice c r.links.length cc]) r)(sm:r.small):
  Cl 96 #[.agg #[.slice a r.rules.length ca,.slice b r.zones.length cb,.slice c r.links.length cc]] w (CopP r w):=by
 obtain⟨a',b',c',NZ,Oa,Oc,he,hA,hZ,hC⟩:=hv.form
 injection he with he
 simp only[List.toArray_inj,List.cons.injEq,Value.slice.injEq,true_and,and_true,Array.mk.injEq]at he
 obtain⟨⟨rfl,rfl⟩,⟨rfl,rfl⟩,rfl,rfl⟩:=he
 obtain⟨m1,m2,m3,m4⟩:=sm
 obtain⟨rs,zs,ls⟩:=r
 simp only at *
 obtain⟨rows,hl,hq,r2,r1,ap⟩:=js1 hZ
 have ag:Bw w ((w.alloc (.cells #[.slice a rs.length ca,.slice b zs.length cb,.slice c ls.length cc] 36)).alloc (.cells #[nS,nS,nS] 36)):=(qal _ _).alloc (by simp) _
 have X0:Zh ((w.alloc (.cells #[.slice a rs.length ca,.slice b zs.length cb,.slice c ls.length cc] 36)).alloc (.cells #[nS,nS,nS] 36)) w.heap.size [.slice a rs.length ca,.slice b zs.length cb,.slice c ls.length cc]:=(Zh.new w [.slice a rs.length ca,.slice b zs.length cb,.slice c ls.length cc] 36).below (qal _ _)
 have O0:Zh ((w.alloc (.cells #[.slice a rs.length ca,.slice b zs.length cb,.slice c ls.length cc] 36)).alloc (.cells #[nS,nS,nS] 36)) (w.heap.size+1) [nS,nS,nS]:=by
  have h:=Zh.new (w.alloc (.cells #[.slice a rs.length ca,.slice b zs.length cb,.slice c ls.length cc] 36)) [nS,nS,nS] 36
  simpa using h
 have dP:((w.alloc (.cells #[.slice a rs.length ca,.slice b zs.length cb,.slice c ls.length cc] 36)).alloc (.cells #[nS,nS,nS] 36)).heap.size=w.heap.size+1+1:=by simp
 have tX:=fun w h=>jt5 rows r2 r1 b zs.length cb w h hl m2
 have tW:=fun w h=>jt6 (rs.map RuleD.cs) (jlb (cs:=RuleD.cs) (fun _=>rfl) rs) js0 a rs.length ca w h (by simp) m1
 have AZ:=fun w h=>jt7 (ls.map LinkD.cs) (jlb (cs:=LinkD.cs) (fun _=>rfl) ls) jti c ls.length cc w h (by simp) m3
 have HM:=hid m4
 have HA:=hid hA
 have HC:=hid hC
 have SR:Hid (∀w1 v,w1.ownsRow (w.heap.size+1+1) 153 2 v zs.length rows.flatten->ZonC w w1 zs (w.heap.size+1+1) w1.heap.size 0 v):=fun w1 v ho=>⟨rows,hl,r2,⟨by rw[hl];exact ho,fun g hg=>(World.ownsRow.lt ho g hg).2⟩,nlr _,fun j z hz=>by
  obtain⟨u,k1,e,c,rfl,k2⟩:=ap j z hz
  exact⟨e,c,k1,fun _=>⟨e,c,rfl,k2⟩,fun h=>by omega⟩,fun j k _ _ _ _ _ _ _ _ _ h=>by omega⟩
 have HD:Hid (∀wr w3 w4 Z v va vc,ZonC w wr zs (w.heap.size+1+1) Z zs.length v->Bw wr w3->w3.ownsRow wr.heap.size 149 9 va rs.length (rs.map RuleD.cs).flatten->Bw w3 w4->w4.ownsRow w3.heap.size 155 2 vc ls.length (ls.map LinkD.cs).flatten->w.heap.size+1+1<=Z->RelC w4 (w.heap.size+1+1) w4.heap.size va v vc ⟨rs,zs,ls⟩):=fun wr w3 w4 Z v va vc h h1 h2 h3 h4 h5=>h.done (r:=⟨rs,zs,ls⟩) h1 h2 h3 h4 h5
 have x1:=X0.c 1 (u:=.slice b zs.length cb) rfl
 have sJ:=hq.below ag
 clear hv hZ hA hC ap m4 hq r1 r2 hl
 generalize Cq:zs.length=nz at *
 have HN:=hid Cq
 clear Cq
 unfold Cl;go_in
 go_wp2_with fail
 refine(tX _ sJ).mono ?_
 rintro q w1 ⟨zv,rfl,dW,hb1⟩
 rw[dP]at dW
 obtain⟨pz,cz,rfl⟩:=own_shape2 dW
 have aj:=qtr ag hb1
 have X1:=X0.below hb1
 have O1:=O0.below hb1
 have j8:=SR.out w1 _ dW
 have cr:w.heap.size+1+1<=w1.heap.size:=by have:=hb1.size;omega
 obtain⟨Z,PH⟩:=qeb w1.heap.size
 rw[PH]at j8 cr
 have HX:=hid X1
 have HO:=hid O1
 have QM:=hid cr
 clear tX sJ dW hb1 x1 X0 O0 dP SR X1 O1 ag PH cr
 go_wp2
 go_loopw [4,10] (fun _ mY wr=>∃i:Nat,i<=nz/\mY=iv i/\Hid (ZonC w wr zs (w.heap.size+1+1) Z i (.slice pz nz cz))/\Hid (Zh wr w.heap.size [.slice a rs.length ca,.slice b nz cb,.slice c ls.length cc])/\Hid (Zh wr (w.heap.size+1) [nS,nS,nS])/\Bw w wr) (fun _ mY _=>nz-(intOf mY).toNat)
 case atStart=>exact⟨0,by omega,rfl,j8,HX,HO,aj⟩
 case round=>
  obtain⟨wa,dS⟩:=qea wr
  subst dS
  obtain⟨i,hi,rfl,HZ,ti,xk,iy⟩:=hrel
  clear j8 HX HO aj
  by_cases hlt:i<nz
  ·have a1:(i:Int)<(nz:Int):=by omega
   have a0:(0:Int)<=(i:Int):=by omega
   obtain⟨z,hz⟩:∃z,zs[i]? =some z:=⟨_,lgg (by have:=HN.out;omega)⟩
   have yf:=HZ.out
   obtain⟨zr,sP,CP,YR,_,L2,_⟩:=yf.ex
   obtain⟨ea,ec,hu,hE,_⟩:=L2 i z hz
   have hE:=hE (nlr _)
   obtain⟨QY,QZ,KM,hE⟩:=hE
   obtain⟨rfl,rfl⟩:ea=QY/\ec=QZ:=by injection KM with h1 _ h2;exact⟨h1,h2⟩
   have fH:=HN.out
   have vu:∃g,pz=some (ad g 0):=by
    rcases YR.own.2 with⟨h1,h2⟩|⟨g,_,_,h1,_⟩
    ·omega
    ·injection h1 with h1 _ _;exact⟨g,h1⟩
   obtain⟨g,rfl⟩:=vu
   have Wq:wa.ownsRow (w.heap.size+1+1) 153 2 (so g nz cz) nz zr.flatten:=by have h:=YR.own;rw[sP.trans fH]at h;exact h
   have hc:wa.cell? (ad g (i*2+1))=some (.slice ea z.eras.length ec):=by rw[Wq.cellAt (i*2+1) (by omega)];exact ja3 CP hu rfl
   have hf:=fun w2 (hb:Bw wa w2)=>(jac Wq hb).frozenAt (i*2+1)
   have K7:=(World.ownsRow.lt YR.own g rfl).1
   have tV:=jxr (z.eras.map EraD.cs) (jlb (cs:=EraD.cs) (fun _=>rfl) z.eras) jxg ea z.eras.length ec wa (hE.below iy) (by simp) (HM.out z (lmg hz))
   have HS:Hid (∀w2 a m d,Bw wa w2->w2.ownsRow wa.heap.size 187 6 (.slice a m d) z.eras.length (z.eras.map EraD.cs).flatten->ZonC w (w2.setCell (ad g (i*2+1)) (.slice a m d)) zs (w.heap.size+1+1) Z (i+1) (so g nz cz)):=fun w2 a m d hb ho=>yf.step hz hb ho
   have HF:=hid hf
   clear Wq L2 YR CP sP hu hE hz yf HZ KM fH hf
   generalize (z.eras.map EraD.cs).flatten=cq at *
   generalize z.eras.length=ne at *
   go_wp2_with fail
   refine tV.mono ?_
   rintro q w2 ⟨v2,rfl,aW,ac⟩
   obtain⟨p2,c2,rfl⟩:=own_shape2 aW
   have cU:=jaa ac hc
   have eE:=HF.out w2 ac
   have an:=qtr iy ac
   have Ik:Hid (ZonC w (w2.setCell (ad g (i*2+1)) (.slice p2 ne c2)) zs (w.heap.size+1+1) Z (i+1) (so g nz cz)):=HS.out w2 p2 ne c2 ac aW
   have Ie:Hid (Zh (w2.setCell (ad g (i*2+1)) (.slice p2 ne c2)) w.heap.size [.slice a rs.length ca,.slice b nz cb,.slice c ls.length cc]):=(ti.out.below ac).other (by omega) _
   have yN:Hid (Zh (w2.setCell (ad g (i*2+1)) (.slice p2 ne c2)) (w.heap.size+1) [nS,nS,nS]):=(xk.out.below ac).other (by omega) _
   have ax:Bw w (w2.setCell (ad g (i*2+1)) (.slice p2 ne c2)):=an.setCell (show w.heap.size<=g by omega) _
   clear aW ac an iy hc tV ti xk HS HF
   go_wp2
   go_roundw
   case rel=>exact⟨i+1,by omega,by go_num,Ik,Ie,yN,ax⟩
   case measure=>simp[intOf];omega
  ·obtain rfl:i=nz:=by omega
   have x0:wa.drew.cell? (ad w.heap.size 0)=some (.slice a rs.length ca):=ti.out.c 0 (u:=.slice a rs.length ca) rfl
   have x2:wa.drew.cell? (ad w.heap.size 2)=some (.slice c ls.length cc):=ti.out.c 2 (u:=.slice c ls.length cc) rfl
   have Hy:Hid (Zh wa.drew (w.heap.size+1) [nS,nS,nS]):=xk.out.below (jab wa)
   have bY:Bw w wa.drew:=iy.trans ((jab wa).mono iy.size)
   have AY:=tW wa.drew (HA.out.below bY)
   have jr:=hid bY
   clear bY iy tW ti xk
   go_wp2_with fail
   go_region_held3 (fun w'=>w'.cell? (ad w.heap.size 0)=some (.slice a rs.length ca)/\w'.cell? (ad w.heap.size 2)=some (.slice c ls.length cc)) (go_keep) (first|(go_at_call 146;refine AY.mono ?_;rintro q w3 ⟨v3,rfl,dE,ar⟩;obtain⟨p3,c3,rfl⟩:=own_shape2 dE;have yN:=hidP dE;clear dE;have MN:=jaa ar x0;have MQ:=jaa ar x2;have nR:=AZ w3 (HC.out.below (qtr jr.out ar)))|(go_at_call 147;refine nR.mono ?_;rintro q w4 ⟨v4,rfl,dX,aD⟩;obtain⟨p4,c4,rfl⟩:=own_shape2 dX;have Ep:=hidP dX;clear dX;have Q8:=jaa aD MN;have Qa:=jaa aD MQ;have O4:=(Hy.out.below ar).below aD;have o0:=O4.c 0 (u:=nS) rfl;have o1:=O4.c 1 (u:=nS) rfl;have o2:=O4.c 2 (u:=nS) rfl;have f0:=O4.f 0 (u:=nS) rfl;have f1:=O4.f 1 (u:=nS) rfl;have f2:=O4.f 2 (u:=nS) rfl))
   all_goals
    have ax:=qtr jr.out ar
    have aR:=qtr ax aD
    have me:=HD.out wa w3 w4 Z _ _ _ HZ.out ((jab wa).trans (ar.mono (nlr _))) yN.out aD Ep.out QM.out
    obtain⟨t0,t1,t2⟩:=jne (v0:=.slice p3 rs.length c3) (v1:=.slice pz i cz) (v2:=.slice p4 ls.length c4) o0 o1 o2
    have ht:Zc (fun b=>b=w.heap.size+1) w4 (((w4.setCell (ad (w.heap.size+1) 0) (.slice p3 rs.length c3)).setCell (ad (w.heap.size+1) 1) (.slice pz i cz)).setCell (ad (w.heap.size+1) 2) (.slice p4 ls.length c4)):=(((Zc.refl (fun b=>b=w.heap.size+1) _).set (show w.heap.size+1=w.heap.size+1 from rfl) _).set (show w.heap.size+1=w.heap.size+1 from rfl) _).set (show w.heap.size+1=w.heap.size+1 from rfl) _
    have hsz:(((w4.setCell (ad (w.heap.size+1) 0) (.slice p3 rs.length c3)).setCell (ad (w.heap.size+1) 1) (.slice pz i cz)).setCell (ad (w.heap.size+1) 2) (.slice p4 ls.length c4)).heap.size=w4.heap.size:=by simp[World.size_setCell]
    have gr:=hidP ((me.touch ht (fun b h1 _ h2=>by omega)).wide (show w.heap.size<=w.heap.size+1+1 by omega) (Nat.le_of_eq hsz.symm))
    have lM:Hid (Bw w (((w4.setCell (ad (w.heap.size+1) 0) (.slice p3 rs.length c3)).setCell (ad (w.heap.size+1) 1) (.slice pz i cz)).setCell (ad (w.heap.size+1) 2) (.slice p4 ls.length c4))):=((aR.setCell (show w.heap.size<=w.heap.size+1 by omega) _).setCell (show w.heap.size<=w.heap.size+1 by omega) _).setCell (show w.heap.size<=w.heap.size+1 by omega) _
    clear ax aR ar aD nR O4 yN Ep me ht HZ HD hsz
    go_wp2
    exact bpr (v:=.agg #[.slice p3 rs.length c3,.slice pz i cz,.slice p4 ls.length c4]) (by simp[results,Tryz.results96,go_sem,t0,t1,t2]) rfl ⟨⟨_,_,_,_,_,_,by rw[HN.out],by rw[HN.out];exact gr.out⟩,lM.out⟩
theorem jup{L:List VersionD}:∀u∈(L.map VersionD.cs).flatten,u.oneCell'=true:=fun u hu=>by
 simp only[List.mem_flatten,List.mem_map]at hu
 obtain⟨r,⟨t,_,rfl⟩,hr⟩:=hu
 simp[VersionD.cs]at hr
 rcases hr with rfl|rfl|rfl|rfl|rfl|rfl|rfl|rfl<;>rfl
structure CopS(s:StoreD)(w:World)(q:Ending)(w':World):Prop where
 ex:∃v,q=.returned v/\StC w' w.heap.size w'.heap.size v s
 bel:Bw w w'
theorem jqs(s:StoreD)(v:Value)(w:World)(hv:Jd w v s)(hm:Zr s):
  Cl 58 #[v] w (CopS s w):=by
 obtain⟨a,b,c,d,e,f,va,ia,ca,cb,cc,cd,ce,cf,cv,ci,rfl,hN,hW,hV,hX,_,_⟩:=hv.form
 obtain⟨tx,now,was,cur,vs,ix⟩:=s
 obtain⟨m1,m2,m3,m4,m5⟩:=hm
 simp only at *
 obtain⟨w0,KR,ag,A0,R0,dP⟩:=two_alloc w (stA ⟨tx,now,was,cur,vs,ix⟩ a b c d e f va ia ca cb cc cd ce cf cv ci) [iv 0,nS,nS,nS,nS,nS,nS,iv 0,nS,nS] 40 40
 have q1:=fun w h=>jc3 now a b c ca cb cc w h m1.sm
 have q2:=fun w h=>jc3 was d e f cd ce cf w h m2.sm
 have q3:=fun w h=>jmp (vs.map VersionD.cs) (jlb (cs:=VersionD.cs) (fun _=>rfl) vs) jup va vs.length cv w h (by simp) m4
 have q4:=fun w h=>jq7 (ix.map EntryD.cs) (jlb (cs:=EntryD.cs) (fun _=>rfl) ix) jbn ia ix.length ci w h (by simp) m5
 clear m1 m2 m3 hv
 have HN:=hid hN
 have HW:=hid hW
 have HV:=hid hV
 have HX:=hid hX
 clear hN hW hV hX
 unfold Cl;go_in
 have Ah:=A0.c 1 rfl
 have oZ:=A0.f 1 rfl
 have Ai:=A0.c 2 rfl
 have pc:=A0.f 2 rfl
 have Aj:=A0.c 3 rfl
 have pd:=A0.f 3 rfl
 go_wp2_with fail
 refine(q1 _ (HN.out.below ag)).mono ?_
 rintro e w1 hP
 obtain⟨a1,c1,a2,c2,a3,c3,hq,hR⟩:=hP.ex
 subst hq
 rw[dP]at hR
 have bg:=hP.bel
 have l1:=bg.size
 rw[dP]at l1
 have aj:=qtr ag bg
 have A1:=A0.below bg
 have R1:=R0.below bg
 have HR:=hidP hR
 clear A0 R0 ag bg hP hR dP
 clear Ah oZ Ai pc Aj pd
 have Ah:=A1.c 1 rfl
 have oZ:=A1.f 1 rfl
 have Ai:=A1.c 2 rfl
 have pc:=A1.f 2 rfl
 have Aj:=A1.c 3 rfl
 have pd:=A1.f 3 rfl
 have IT:=A1.c 4 rfl
 have Ap:=A1.f 4 rfl
 have IU:=A1.c 5 rfl
 have Aq:=A1.f 5 rfl
 have IV:=A1.c 6 rfl
 have Ar:=A1.f 6 rfl
 go_wp2_with fail
 clear Ah oZ Ai pc Aj pd IT Ap IU Aq IV Ar
 obtain⟨wB,hx,K⟩:=sets_ex (w.heap.size) w1 [(1,.slice a1 now.rules.length c1),(2,.slice a2 now.zones.length c2),(3,.slice a3 now.links.length c3)]
 simp only[stl]at hx
 rw[hx]
 have A2:=K.var _ A1
 have R2:=K.oth _ _ (by omega) R1
 have an:=K.bel _ _ (by omega) aj
 have gK:=hidP (HR.out.touch (K.tch (fun b=>b<w.heap.size+1+1) _ (show w.heap.size<_ by omega) (Zc.refl _ _)) (fun b h1 _ h2=>by omega))
 have z2:=K.size
 clear A1 R1 aj HR hx K
 refine(q2 _ (HW.out.below an)).mono ?_
 rintro e w2 iB
 obtain⟨a4,c4,a5,c5,a6,c6,hq,hR⟩:=iB.ex
 subst hq
 rw[z2]at hR
 have ac:=iB.bel
 have l2:=ac.size
 rw[z2]at l2
 have ax:=qtr an ac
 have A3:=A2.below ac
 have R3:=R2.below ac
 have jt:=hidP (gK.out.below ac)
 have HR:=hidP hR
 clear A2 R2 an ac iB hR gK z2
 have IN:=A3.c 4 rfl
 have Ak:=A3.f 4 rfl
 have IP:=A3.c 5 rfl
 have Al:=A3.f 5 rfl
 have IQ:=A3.c 6 rfl
 have Am:=A3.f 6 rfl
 have IW:=A3.c 8 rfl
 have As:=A3.f 8 rfl
 go_wp2_with fail
 clear IN Ak IP Al IQ Am IW As
 obtain⟨wC,hx,K⟩:=sets_ex (w.heap.size) w2 [(4,.slice a4 was.rules.length c4),(5,.slice a5 was.zones.length c5),(6,.slice a6 was.links.length c6)]
 simp only[stl]at hx
 rw[hx]
 have A4:=K.var _ A3
 have R4:=K.oth _ _ (by omega) R3
 have aR:=K.bel _ _ (by omega) ax
 have T4:=K.tch (fun b=>b<w.heap.size+1+1) _ (show w.heap.size<_ by omega) (Zc.refl _ _)
 have nG:=hidP (jt.out.touch T4 (fun b h1 _ h2=>by omega))
 have Wi:=hidP (HR.out.touch T4 (fun b h1 _ h2=>by omega))
 have z4:=K.size
 clear A3 R3 ax T4 jt HR hx K
 refine(q3 _ (HV.out.below aR)).mono ?_
 rintro e w3 ⟨v3,rfl,ho,aD⟩
 obtain⟨a8,c8,rfl⟩:=own_shape2 ho
 rw[z4]at ho
 have l3:=aD.size
 rw[z4]at l3
 have bG:=qtr aR aD
 have A5:=A4.below aD
 have R5:=R4.below aD
 have WQ:=hidP (nG.out.below aD)
 have Ic:=hidP (Wi.out.below aD)
 have WT:=hidP (rowC_of ho)
 clear A4 R4 aR aD ho nG Wi z4
 have IR:=A5.c 8 rfl
 have An:=A5.f 8 rfl
 have IX:=A5.c 9 rfl
 have Au:=A5.f 9 rfl
 go_wp2_with fail
 clear IR An IX Au
 obtain⟨wD,hx,K⟩:=sets_ex (w.heap.size) w3 [(8,.slice a8 vs.length c8)]
 simp only[stl]at hx
 rw[hx]
 have A6:=K.var _ A5
 have R6:=K.oth _ _ (by omega) R5
 have cp:=K.bel _ _ (by omega) bG
 have T6:=K.tch (fun b=>b<w.heap.size+1+1) _ (show w.heap.size<_ by omega) (Zc.refl _ _)
 have Wg:=hidP (WQ.out.touch T6 (fun b h1 _ h2=>by omega))
 have Wj:=hidP (Ic.out.touch T6 (fun b h1 _ h2=>by omega))
 have Wh:=hidP (WT.out.touch T6 (fun b h1 _ h2=>by omega))
 have z6:=K.size
 clear A5 R5 bG T6 WQ Ic WT hx K
 refine(q4 _ (HX.out.below cp)).mono ?_
 rintro e w4 ⟨v4,rfl,ho,hb6⟩
 obtain⟨a9,c9,rfl⟩:=own_shape2 ho
 rw[z6]at ho
 have l4:=hb6.size
 rw[z6]at l4
 have dz:=qtr cp hb6
 have A7:=A6.below hb6
 have R7:=R6.below hb6
 have WR:=hidP (Wg.out.below hb6)
 have WV:=hidP (Wj.out.below hb6)
 have WU:=hidP (Wh.out.below hb6)
 have WW:=hidP (rowC_of ho)
 clear A6 R6 cp hb6 ho Wg Wj Wh z6
 have OH:=A7.c 9 rfl
 have IS:=A7.f 9 rfl
 obtain⟨wF,hx,K⟩:=sets_ex (w.heap.size) w4 [(9,.slice a9 ix.length c9)]
 simp only[stl]at hx
 have OZ:=K.var _ A7
 have RZ:=K.oth _ _ (by omega) R7
 obtain⟨wG,n8,K2⟩:=sets_ex (w.heap.size+1) wF [(0,iv tx),(1,.slice a1 now.rules.length c1),(2,.slice a2 now.zones.length c2),(3,.slice a3 now.links.length c3),(4,.slice a4 was.rules.length c4),(5,.slice a5 was.zones.length c5),(6,.slice a6 was.links.length c6),(7,iv cur),(8,.slice a8 vs.length c8),(9,.slice a9 ix.length c9)]
 simp only[stl]at n8
 obtain⟨z0,z1,z2,z3,z4,z5,z6,z7,z8,z9⟩:=OZ.ten
 obtain⟨y0,y1,y2,y3,y4,y5,y6,y7,y8,y9⟩:=RZ.ten
 obtain⟨Ns,Nt,Nu,Nv,Nw,Nx,Ny,Nz,NA,NB⟩:=RZ.tenF
 have RF:=K2.var _ RZ
 have T8:=K2.tch (fun b=>b<w.heap.size+1+1) _ (show w.heap.size+1<_ by omega) (K.tch (fun b=>b<w.heap.size+1+1) _ (show w.heap.size<_ by omega) (Zc.refl _ _))
 have hsz:wG.heap.size=w4.heap.size:=K2.size.trans K.size
 have I3:Hid (StC wG w.heap.size wG.heap.size (.agg (stA ⟨tx,now,was,cur,vs,ix⟩ a1 a2 a3 a4 a5 a6 a8 a9 c1 c2 c3 c4 c5 c6 c8 c9).toArray) ⟨tx,now,was,cur,vs,ix⟩):=⟨a1,a2,a3,a4,a5,a6,a8,a9,c1,c2,c3,c4,c5,c6,c8,c9,w1.heap.size,w2.heap.size,w3.heap.size,rfl,⟨by omega,l2,l3,Nat.le_trans l4 (Nat.le_of_eq hsz.symm)⟩,(WR.out.touch T8 (fun b h1 _ h2=>by omega)).wide (by omega) (nlr _),WV.out.touch T8 (fun b h1 _ h2=>by omega),WU.out.touch T8 (fun b h1 _ h2=>by omega),(WW.out.touch T8 (fun b h1 _ h2=>by omega)).wide (nlr _) (Nat.le_of_eq hsz.symm)⟩
 have yA:=hidP (K2.bel _ _ (by omega) (K.bel _ _ (by omega) dz))
 obtain⟨t0,t1,t2,t3,t4,t5,t6,t7,t8,t9⟩:=RF.ten
 clear RF OZ RZ A7 R7 dz T8 hsz WR WV WU WW K K2
 go_wp2
 exact bpr (v:=.agg #[iv tx,.slice a1 now.rules.length c1,.slice a2 now.zones.length c2,.slice a3 now.links.length c3,.slice a4 was.rules.length c4,.slice a5 was.zones.length c5,.slice a6 was.links.length c6,iv cur,.slice a8 vs.length c8,.slice a9 ix.length c9]) (by simp[results,Tryz.results58,go_sem,t0,t1,t2,t3,t4,t5,t6,t7,t8,t9]) rfl ⟨⟨_,rfl,I3.out⟩,yA.out⟩
section
open Go.RowKit Go.ChangeMaps Go.MapKept Go.WideMaps
def bkX(s:StoreD)(a1 a2 a3 a4 a5 a6 a8 a9:Option Addr)(c1 c2 c3 c4 c5 c6 c8 c9:Nat):List (Nat × Value):=[(0,iv s.tx),(1,.slice a1 s.now.rules.length c1),(2,.slice a2 s.now.zones.length c2),(3,.slice a3 s.now.links.length c3),(4,.slice a4 s.was.rules.length c4),(5,.slice a5 s.was.zones.length c5),(6,.slice a6 s.was.links.length c6),(8,.slice a8 s.vs.length c8),(9,.slice a9 s.ix.length c9)]
structure BookC(s:StoreD)(w w':World)(x:Option Addr):Prop where
 ex:∃bb lb n a1 a2 a3 a4 a5 a6 a8 a9 c1 c2 c3 c4 c5 c6 c8 c9 nm wm k w0 B a b c d e f ca cb cc cd ce cf,x=some (ad bb 0)/\Zm w' lb n (jch s.vs)/\n<=1048576/\Zl (bkX s a1 a2 a3 a4 a5 a6 a8 a9 c1 c2 c3 c4 c5 c6 c8 c9) w0 w' s bb lb nm wm k k a b c d e f ca cb cc cd ce cf/\k<=30/\Bw w w0/\Zx w/\Zd w (.agg #[.slice a s.now.rules.length ca,.slice b s.now.zones.length cb,.slice c s.now.links.length cc]) s.now/\Zd w (.agg #[.slice d s.was.rules.length cd,.slice e s.was.zones.length ce,.slice f s.was.links.length cf]) s.was/\(nm≠lb/\wm≠lb/\w.heap.size<=lb/\lb<B/\w0.heap.size<=bb/\bb<w'.heap.size)/\relB s.now=true/\relB s.was=true/\StC w0 B w0.heap.size (.agg (stA s a1 a2 a3 a4 a5 a6 a8 a9 c1 c2 c3 c4 c5 c6 c8 c9).toArray) s
structure OpenC(s:StoreD)(w:World)(q:Ending)(w':World):Prop where
 ex:∃x,q=.returned (.tuple #[.pointer x,.bool (storeI s)])/\(storeI s=true->BookC s w w' x)
 bel:Bw w w'
theorem impl_openedC(hS:SortC)(s:StoreD)(v:Value)(w:World)(hE:Zx w)(hv:Jd w v s)(ok:Zr s):
  Cl 25 #[v] w (OpenC s w):=by
 have dQ:=hv
 obtain⟨a,b,c,d,e,f,va,ia,ca,cb,cc,cd,ce,cf,cv,ci,rfl,hN,hW,hV,hX,_,_⟩:=hv.form
 have ag:=qal w (.cells (stA s a b c d e f va ia ca cb cc cd ce cf cv ci).toArray 40)
 have A0:=Zh.new w (stA s a b c d e f va ia ca cb cc cd ce cf cv ci) 40
 have q1:=fun w hE h=>jjc s (.agg (stA s a b c d e f va ia ca cb cc cd ce cf cv ci).toArray) w hE h ok
 have q2:=fun w h=>jfv s.vs s.tx s.cur a b c d e f va ia s.now.rules.length ca s.now.zones.length cb s.now.links.length cc s.was.rules.length cd s.was.zones.length ce s.was.links.length cf s.vs.length cv s.ix.length ci w h ok.vs rfl ok.vl
 skip
 have HV:=hid hV
 have HX:=hid hX
 have HN:=hid hN
 have HW:=hid hW
 clear hV hX hN hW hv
 obtain⟨x0,x1,x2,x3,x4,x5,x6,x7,x8,x9⟩:=A0.ten
 unfold Cl;go_in
 go_wp2_with fail
 refine(q1 _ (hE.of_below ag) (dQ.below ag)).mono ?_
 rintro e1 w1 ⟨rfl,hb1⟩
 have aj:=qtr ag hb1
 have A1:=A0.below hb1
 clear hb1 A0 q1 x0 x1 x2 x3 x4 x5 x6 x7 x8 x9
 cases h1:jk5 s
 case false=>
  have HR:Hid (storeI s=false):=by simp[Hid,storeI,jov,h1]
  go_wp2
  go_ret2
  exact⟨⟨none,by rw[HR.out];rfl,fun h=>by rw[HR.out]at h;cases h⟩,aj⟩
 have hr:relB s.now=true/\relB s.was=true:=by
  unfold jk5 at h1
  simp only[bat]at h1
  exact h1.2
 obtain⟨oG,dC⟩:=hr
 obtain⟨x0,x1,x2,x3,x4,x5,x6,x7,x8,x9⟩:=A1.ten
 go_wp2_with fail
 refine(q2 _ (HV.out.below aj)).mono ?_
 rintro e2 w2 ⟨rfl,ac⟩
 have an:=qtr aj ac
 have A2:=A1.below ac
 clear ac A1 q2 x0 x1 x2 x3 x4 x5 x6 x7 x8 x9
 cases h2:txB s.vs s.tx
 case false=>
  have HR:Hid (storeI s=false):=by simp[Hid,storeI,jov,h1,h2]
  go_wp2
  go_ret2
  exact⟨⟨none,by rw[HR.out];rfl,fun h=>by rw[HR.out]at h;cases h⟩,an⟩
 have q3:=jqn s.vs va s.vs.length cv w2 (HV.out.below an) (j23 h2) rfl ok.vl
 have x8:=A2.c 8 rfl
 go_wp2_with fail
 refine q3.mono ?_
 rintro e3 w3 jC
 have ar:=jC.bel
 have ax:=qtr an ar
 have A3:=A2.below ar
 clear ar A2 q3 x8
 rcases jC.end_ with⟨h3,iI,gT⟩|⟨h3,iI⟩
 case inr=>
  subst iI
  clear jC
  have HR:Hid (storeI s=false):=by simp[Hid,storeI,jov,h1,h2,h3]
  go_wp2
  go_ret2
  exact⟨⟨none,by rw[HR.out];rfl,fun h=>by rw[HR.out]at h;cases h⟩,ax⟩
 subst iI
 have Kh:=an.size
 clear jC an aj ag
 have q4:=jkd s _ (jch s.vs) (jan s.vs) w2.heap.size s.vs.length w3 (hE.of_below ax) (dQ.below ax) ok gT (jga s.vs) (jhr s.vs.length) ok.vl oG dC
 obtain⟨x0,x1,x2,x3,x4,x5,x6,x7,x8,x9⟩:=A3.ten
 go_wp2_with fail
 refine q4.mono ?_
 rintro e4 w4 ⟨rfl,aD⟩
 have lx:=gT.below aD
 have aR:=qtr ax aD
 have A4:=A3.below aD
 clear aD A3 q4 gT x0 x1 x2 x3 x4 x5 x6 x7 x8 x9
 cases h4:jnr s (jan s.vs)
 case false=>
  have HR:Hid (storeI s=false):=by simp[Hid,storeI,jov,h1,h2,h3,h4]
  go_wp2
  go_ret2
  exact⟨⟨none,by rw[HR.out];rfl,fun h=>by rw[HR.out]at h;cases h⟩,aR⟩
 have HR:Hid (storeI s=eqX s.ix (entF (momB s) (jan s.vs))):=by simp only[Hid,storeI,jov,h1,h2,h3,h4,Bool.true_and]
 have ve:(jan s.vs).length<=30:=by
  unfold jnr at h4
  rw[bat]at h4
  exact odt h4.1
 clear h1 h2 h3 h4
 generalize vf:w2.heap.size=lb at *
 clear vf
 have I4:Hid (w.heap.size<=lb/\lb<w4.drew.heap.size):=⟨Kh,lx.lt⟩
 have Z7:=hidP ok.vl
 have wZ:=jab w4
 have bG:Bw w w4.drew:=qtr aR wZ
 have sg:=lx.below wZ
 have A5:=A4.below wZ
 obtain⟨z0,z1,z2,z3,z4,z5,z6,z7,z8,z9⟩:=A5.ten
 have xV:=jqs s _ w4.drew (dQ.below bG) ok
 have iH:=fun(r:RelD) a b c ca cb cc W=>jmf r a b c ca cb cc W
 have Ek:=hid sg
 have lM:=hid bG
 have yy:=hid A5
 clear lx sg aR bG A4 A5 wZ ax
 go_wp2_with fail
 go_region_held3 (fun w'=>w'.cell? (ad w.heap.size 0)=some (iv s.tx)/\w'.cell? (ad w.heap.size 1)=some (.slice a s.now.rules.length ca)/\w'.cell? (ad w.heap.size 2)=some (.slice b s.now.zones.length cb)/\w'.cell? (ad w.heap.size 3)=some (.slice c s.now.links.length cc)/\w'.cell? (ad w.heap.size 4)=some (.slice d s.was.rules.length cd)/\w'.cell? (ad w.heap.size 5)=some (.slice e s.was.zones.length ce)/\w'.cell? (ad w.heap.size 6)=some (.slice f s.was.links.length cf)/\w'.cell? (ad w.heap.size 7)=some (iv s.cur)/\w'.cell? (ad w.heap.size 8)=some (.slice va s.vs.length cv)/\w'.cell? (ad w.heap.size 9)=some (.slice ia s.ix.length ci)) (go_keep) (first|(go_at_call 58;refine xV.mono ?_;rintro q w5 lz;obtain⟨v5,Ky,vX⟩:=lz.ex;subst Ky;have QL:=hidP vX;obtain⟨a1,a2,a3,a4,a5,a6,a8,a9,c1,c2,c3,c4,c5,c6,c8,c9,M1,M2,M3,Ro,_⟩:=vX.form;subst Ro;clear vX;have aV:=lz.bel;clear lz;obtain⟨Mu,Mv,Mw,My,Mz,MA,MB,MC,MD,ME⟩:=(yy.out.below aV).ten)|(go_at_call 59;have Gp:=hb6;refine(iH s.was d e f cd ce cf _).mono ?_;rintro q w7 ff;have yg:=ff.ex;subst yg;have BS:=ff.cache;have ay:=ff.bel;clear ff;obtain⟨Mh,Mi,Mj,Mk,Mm,Mn,Mo,Mp,Mq,GU⟩:=(((yy.out.below aV).below hb6).below ay).ten)|(go_at_call 59;refine(iH s.now a b c ca cb cc _).mono ?_;rintro q w6 jD;have Kz:=jD.ex;subst Kz;have mu:=jD.cache;have hb6:=jD.bel;clear jD;obtain⟨De,Di,Dk,Dm,Do,Dq,Ds,Dt,Du,Dv⟩:=((yy.out.below aV).below hb6).ten))
 all_goals
  have bG:=qtr lM.out aV
  have EI:=(brf w5.heap.size w5).trans (hb6.mono (nlr _))
  have EJ:=qtr EI ay
  have b8:=qal w7 (.cells #[iv s.tx,.slice a1 s.now.rules.length c1,.slice a2 s.now.zones.length c2,.slice a3 s.now.links.length c3,.slice a4 s.was.rules.length c4,.slice a5 s.was.zones.length c5,.slice a6 s.was.links.length c6,iv s.cur,.slice a8 s.vs.length c8,.slice a9 s.ix.length c9,.map (some lb),.slice a s.now.rules.length ca,.slice b s.now.zones.length cb,.slice c s.now.links.length cc,.map (some (w5.heap.size+1+1)),.slice d s.was.rules.length cd,.slice e s.was.zones.length ce,.slice f s.was.links.length cf,.map (some (w6.heap.size+1+1))] 125)
  have EK:=qtr EJ b8
  have l5:=aV.size
  have l6:=hb6.size
  have l7:=ay.size
  have ln:=mu.lt
  have lw:=BS.lt
  have ll:=Ek.out.lt
  have K8:=Zh.new w7 [iv s.tx,.slice a1 s.now.rules.length c1,.slice a2 s.now.zones.length c2,.slice a3 s.now.links.length c3,.slice a4 s.was.rules.length c4,.slice a5 s.was.zones.length c5,.slice a6 s.was.links.length c6,iv s.cur,.slice a8 s.vs.length c8,.slice a9 s.ix.length c9,.map (some lb),.slice a s.now.rules.length ca,.slice b s.now.zones.length cb,.slice c s.now.links.length cc,.map (some (w5.heap.size+1+1)),.slice d s.was.rules.length cd,.slice e s.was.zones.length ce,.slice f s.was.links.length cf,.map (some (w6.heap.size+1+1))] 125
  have F5:Zl (bkX s a1 a2 a3 a4 a5 a6 a8 a9 c1 c2 c3 c4 c5 c6 c8 c9) w5 _ s w7.heap.size lb (w5.heap.size+1+1) (w6.heap.size+1+1) 0 0 a b c d e f ca cb cc cd ce cf:=⟨EK,K8.c 7 rfl,K8.c 10 rfl,K8.c 11 rfl,K8.c 12 rfl,K8.c 13 rfl,K8.c 14 rfl,K8.c 15 rfl,K8.c 16 rfl,K8.c 17 rfl,K8.c 18 rfl,(mu.below ay).below b8,BS.below b8,by omega,by omega,by omega,fun p hp=>by simp[bkX]at hp;rcases hp with rfl|rfl|rfl|rfl|rfl|rfl|rfl|rfl|rfl;exact K8.c 0 rfl;exact K8.c 1 rfl;exact K8.c 2 rfl;exact K8.c 3 rfl;exact K8.c 4 rfl;exact K8.c 5 rfl;exact K8.c 6 rfl;exact K8.c 8 rfl;exact K8.c 9 rfl,_,heap_alloc_new w7 _⟩
  have sh:=(((Ek.out.below aV).below hb6).below ay).below b8
  have B6:=hE.of_below bG
  have si:=HN.out.below bG
  have uL:=HW.out.below bG
  have jy:=jhk hS w5 s w7.heap.size lb (w5.heap.size+1+1) (w6.heap.size+1+1) s.vs.length a b c d e f ca cb cc cd ce cf (jch s.vs) (jan s.vs) _ B6 si uL ok.now ok.was oG dC (F5.below (jab _)) (by omega) (by omega) (sh.below (jab _)) (jga s.vs) (jhr s.vs.length) (by omega)
  have nC:Hid (Zx w5/\Zd w5 (.agg #[.slice a s.now.rules.length ca,.slice b s.now.zones.length cb,.slice c s.now.links.length cc]) s.now/\Zd w5 (.agg #[.slice d s.was.rules.length cd,.slice e s.was.zones.length ce,.slice f s.was.links.length cf]) s.was/\w5.heap.size+1+1≠lb/\w6.heap.size+1+1≠lb/\relB s.now=true/\relB s.was=true/\(jan s.vs).length<=30/\w5.heap.size<=w7.heap.size):=⟨B6,si,uL,by omega,by omega,oG,dC,ve,by omega⟩
  have x9:=jaa (jab _) (jaa b8 GU)
  have If:Hid (Za w5 ia 2 (s.ix.map EntryD.cs)):=HX.out.below bG
  have Ea:=hid bG
  have iD:(entF (momB s) (jan s.vs)).length<=30:=Nat.le_trans (jep _ _) ve
  have de:=ok.xl
  obtain⟨X,lC⟩:=qeb (entF (momB s) (jan s.vs))
  rw[lC]at jy iD
  have lh:Hid (storeI s=eqX s.ix X):=by simp only[Hid];rw[<- lC];exact HR.out
  obtain⟨tb,jj⟩:=qeb (eqX s.ix X)
  have I0:Hid (storeI s=tb):=by simp only[Hid];rw[lh.out];exact jj
  have Fw:=fun px cx W (h:Za W ia 2 (s.ix.map EntryD.cs)) (h2:Za W px 2 (X.map EntryD.cs))=>jhc s.ix X ia px s.ix.length X.length ci cx W h h2 rfl rfl de (by omega)
  rw[jj]at Fw
  clear HR lh lC jj bG EI EJ b8 EK K8 F5 sh B6 si uL mu BS aV hb6 ay iH xV Mu De Mh z0 Mv Di Mi z1 Mw Dk Mj z2 My Dm Mk z3 Mz Do Mm z4 MA Dq Mn z5 MB Ds Mo z6 MC Dt Mp z7 MD Du Mq z8 Dv GU z9
  go_wp2_with fail
  go_region_held3 (fun w'=>w'.cell? (ad w.heap.size 9)=some (.slice ia s.ix.length ci)) (go_keep) (first|(go_at_call 61;refine jy.mono ?_;rintro q w9 pY;obtain⟨v9,rfl,eB⟩:=pY.ex;obtain⟨kk,sE,ul⟩:=pY.inv;have bZ:=ul.bel;have G4:=ul.live;have Ei:Hid (kk<=(jan s.vs).length/\Zl (bkX s a1 a2 a3 a4 a5 a6 a8 a9 c1 c2 c3 c4 c5 c6 c8 c9) w5 w9 s w7.heap.size lb (w5.heap.size+1+1) (w6.heap.size+1+1) kk kk a b c d e f ca cb cc cd ce cf):=⟨sE,ul⟩;clear sE;have JC:=pY.live;clear ul pY;have eB:=jy6 eB;obtain⟨px,cx,Gm,vE,_⟩:=jbe eB jak;rw[llm]at Gm;subst Gm;clear eB;have MR:=jaa bZ ME;have BF:=Fw px cx w9 (If.out.below bZ) vE;clear vE)|(go_at_call 60;refine BF.mono ?_;rintro q MF ⟨rfl,g9⟩;have Qc:=jaa g9 MR;have Cf:=jaa g9 G4;have Bo:=JC.below g9))
  all_goals
   have fS:=qtr Ea.out bZ
   have lW:=qtr fS g9
   go_wp2
   go_ret2
   exact⟨⟨some (ad w7.heap.size 0),by rw[I0.out];rfl,fun _=>⟨_,lb,_,a1,a2,a3,a4,a5,a6,a8,a9,c1,c2,c3,c4,c5,c6,c8,c9,_,_,kk,w5,_,a,b,c,d,e,f,ca,cb,cc,cd,ce,cf,rfl,Bo,Z7.out,Ei.out.2.below g9,Nat.le_trans Ei.out.1 nC.out.2.2.2.2.2.2.2.1,Ea.out,hE,HN.out,HW.out,⟨nC.out.2.2.2.1,nC.out.2.2.2.2.1,I4.out.1,I4.out.2,nC.out.2.2.2.2.2.2.2.2,qbl Cf⟩,nC.out.2.2.2.2.2.1,nC.out.2.2.2.2.2.2.1,QL.out⟩⟩,lW⟩
