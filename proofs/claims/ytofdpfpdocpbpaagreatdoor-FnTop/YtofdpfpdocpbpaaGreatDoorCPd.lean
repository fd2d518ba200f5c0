/- Packed. -/
import Derived.Test.YtofdpfpdocpbpaaGreatDoorSLd
import Derived.Test.YtofdpfpdocpbpaaGreatDoorSBd
import Derived.Deep.RegionHeld3
import Derived.Test.YtofdpfpdocpbpaaGreatDoorLVd
import Derived.Test.YtofdpfpdocpbpaaGreatDoorSId
set_option maxRecDepth 20000
set_option maxHeartbeats 20000000
set_option linter.unusedSimpArgs false
namespace Go.Proofs.YtofdpfpdocpbpaaGreatDoor
section
open Go.RowKit
theorem jtj{w:World}{a:Option Addr}{zs:List ZoneD}(h:Zy w a zs):∃rows:List (List Value),rows.length=zs.length/\Zd w a 2 rows/\(∀r∈rows,r.length=2)/\(∀u∈rows.flatten,u.oneCell'=true)/\∀(j:Nat) z,zs[j]? =some z->∃v,rows[j]? =some [.string z.name,v]/\EraSl w v z.eras:=by
 rcases h with rfl|⟨b,o,ha,hc⟩
 ·exact⟨[],rfl,.inl rfl,fun r hr=>by simp at hr,fun u hu=>by simp at hu,fun j z hz=>by simp at hz⟩
 obtain⟨rows,hl,hp⟩:=j5v (P:=fun i r=>∃z v,zs[i]? =some z/\r=[Value.string z.name,v]/\w.cell? ⟨b,o+i*2,none⟩=some (.string z.name)/\w.cell? ⟨b,o+i*2+1,none⟩=some v/\EraSl w v z.eras) zs.length (fun i hi=>by
  have hz:zs[i]? =some zs[i]:=List.getElem?_eq_getElem hi
  obtain⟨c0,v,c1,hE⟩:=hc i _ hz
  exact⟨_,zs[i],v,hz,rfl,c0,c1,hE⟩)
 refine⟨rows,hl,.inr ⟨b,o,ha,fun i j r c hr hj=>?_⟩,fun r hr=>?_,fun u hu=>?_,fun j z hz=>?_⟩
 ·obtain⟨z,v,_,rfl,c0,c1,_⟩:=hp i r hr
  match j,hj with
  |0,hj=>simp at hj;subst hj;exact c0
  |1,hj=>simp at hj;subst hj;exact c1
  |j+2,hj=>simp at hj
 ·obtain⟨i,hi⟩:=List.getElem?_of_mem hr
  obtain⟨z,v,_,rfl,_⟩:=hp i r hi
  rfl
 ·obtain⟨r,hr,hur⟩:=List.mem_flatten.mp hu
  obtain⟨i,hi⟩:=List.getElem?_of_mem hr
  obtain⟨z,v,_,rfl,_,_,a2,c2,rfl,_⟩:=hp i r hi
  simp at hur
  rcases hur with rfl|rfl<;>rfl
 ·have hj:=(List.getElem?_eq_some_iff.1 hz).1
  have hr:rows[j]? =some rows[j]:=List.getElem?_eq_getElem (by omega)
  obtain⟨z2,v,hz2,he,_,_,hE⟩:=hp j _ hr
  rw[hz]at hz2
  obtain rfl:=Option.some.inj hz2
  exact⟨v,by rw[hr,he],hE⟩
theorem jow:∀{zr:List (List Value)} {i:Nat} {n u:Value} (v:Value),(∀r∈zr,r.length=2)->zr[i]? =some [n,u]->(zr.set i [n,v]).flatten=zr.flatten.set (i*2+1) v
 |[],_,_,_,_,_,h=>by simp at h
 |r::zr,0,n,u,v,_,h=>by
  simp at h
  subst h
  simp
 |r::zr,i+1,n,u,v,hq,h=>by
  have hr:r.length=2:=hq r (by simp)
  rw[List.set_cons_succ,List.flatten_cons,List.flatten_cons,jow v (fun x hx=>hq x (by simp[hx])) (by simpa using h),List.set_append_right _ _ (by omega),show(i+1)*2+1-r.length=i*2+1 by omega]
theorem Jr.wide{w:World}{B U B' U':Nat}{va vb vc:Value}{r:RelD}(h:Jr w B U va vb vc r)(hB:B'<=B)(hU:U<=U'):Jr w B' U' va vb vc r:=by
 obtain⟨Z,R,L,zr,⟨k1,k2,k3,k4⟩,h2,h3,h4,h5,h6⟩:=h.ex
 exact⟨Z,R,L,zr,⟨by omega,k2,k3,by omega⟩,h2.wide hB (Nat.le_refl _),h3,h4,h5,h6.wide (Nat.le_refl _) hU⟩
structure ZonC(w wr:World)(zs:List ZoneD)(B Z i:Nat)(v:Value):Prop where
 ex:∃zr:List (List Value),zr.length=zs.length/\(∀x∈zr,x.length=2)/\Jh wr B Z 136 2 v zr/\Z<=wr.heap.size/\(∀(j:Nat) (z:ZoneD),zs[j]? =some z->∃e c,zr[j]? =some [.string z.name,.slice e z.eras.length c]/\(i<=j->EraSl w (.slice e z.eras.length c) z.eras)/\(j<i->Jh wr Z wr.heap.size 148 6 (.slice e z.eras.length c) (z.eras.map EraD.cs)))/\∀(j k:Nat) (nj nk:Value) (gj gk kj kk cj ck:Nat),j<k->k<i->zr[j]? =some [nj,.slice (some ⟨gj,0,none⟩) kj cj]->zr[k]? =some [nk,.slice (some ⟨gk,0,none⟩) kk ck]->gj<gk
theorem ZonC.step{w wr w2:World}{zs:List ZoneD}{B Z i g n c m d:Nat}{a:Option Addr}{z:ZoneD}(h:ZonC w wr zs B Z i (.slice (some ⟨g,0,none⟩) n c))(hz:zs[i]? =some z)(hb:Below wr.heap.size wr w2)(ho:w2.ownsRow wr.heap.size 148 6 (.slice a m d) z.eras.length (z.eras.map EraD.cs).flatten):ZonC w (w2.setCell ⟨g,i*2+1,none⟩ (.slice a m d)) zs B Z (i+1) (.slice (some ⟨g,0,none⟩) n c):=by
 obtain⟨zr,hl,hq,hR,hZ,hz1,hinc⟩:=h.ex
 obtain⟨e0,c0,hr0,_,_⟩:=hz1 i z hz
 have hgZ:g<Z:=hR.top g rfl
 have hm:m=z.eras.length:=by
  rcases ho.2 with⟨h1,h2⟩|⟨_,_,_,h1,_⟩
  ·injection h1 with _ h1;omega
  ·injection h1
 subst hm
 have hl2:=hb.size
 have hil:i<zr.length:=(List.getElem?_eq_some_iff.1 hr0).1
 have hn:zr.length=n:=by
  rcases hR.own.2 with⟨h1,_⟩|⟨_,_,_,h1,_⟩
  ·injection h1 with h1;cases h1
  ·injection h1 with _ h1;exact h1.symm
 have hRo:=jad hR.own hb
 rw[hn]at hRo
 have hst:=hRo.stored (i*2+1) (.slice a z.eras.length d)
 have ht:Zz (fun b=>b=g) w2 (w2.setCell ⟨g,i*2+1,none⟩ (.slice a z.eras.length d)):=(Zz.refl (fun b=>b=g) _).set (show g=g from rfl) _
 have hgn:g<wr.heap.size:=by omega
 refine⟨zr.set i [.string z.name,.slice a z.eras.length d],by simp[hl],fun x hx=>?_,⟨?_,hR.top⟩,by rw[World.size_setCell];omega,fun j y hy=>?_,fun j k nj nk gj gk kj kk cj ck hjk hki h1 h2=>?_⟩
 ·rcases List.mem_or_eq_of_mem_set hx with h|rfl
  ·exact hq x h
  ·rfl
 ·rw[List.length_set,jow _ hq hr0,hn]
  exact hst.1
 ·by_cases hji:j=i
  ·subst hji
   rw[hz]at hy
   obtain rfl:=Option.some.inj hy
   refine⟨a,d,by rw[List.getElem?_set_self hil],fun h=>by omega,fun _=>Jh.touch (S:=fun b=>b=g) ⟨?_,fun x hx=>?_⟩ ht (fun b h1 _ h2=>by omega)⟩
   ·rw[List.length_map];exact jb8 ho (by omega)
   ·rw[World.size_setCell]
    exact(World.ownsRow.lt ho x hx).2
  ·obtain⟨e,ce,h1,h2,h3⟩:=hz1 j y hy
   refine⟨e,ce,by rw[List.getElem?_set_ne (Ne.symm hji)];exact h1,fun h=>h2 (by omega),fun h=>?_⟩
   have h4:=(h3 (by omega)).below hb
   exact(h4.touch ht (fun b h1 _ h2=>by omega)).wide (Nat.le_refl _) (by rw[World.size_setCell];omega)
 ·rw[List.getElem?_set_ne (by omega)]at h1
  by_cases hk:k=i
  ·subst hk
   rw[List.getElem?_set_self hil]at h2
   simp only[Option.some.injEq,List.cons.injEq,Value.slice.injEq]at h2
   obtain⟨_,⟨h2,_⟩,_⟩:=h2
   have hg2:=(World.ownsRow.lt ho gk (by rw[h2];rfl)).1
   have hjl:j<zs.length:=by omega
   obtain⟨e,ce,h5,_,h6⟩:=hz1 j _ (List.getElem?_eq_getElem hjl)
   rw[h1]at h5
   simp only[Option.some.injEq,List.cons.injEq,Value.slice.injEq]at h5
   obtain⟨_,⟨h5,h7,h8⟩,_⟩:=h5
   have h9:=(h6 hjk).top gj (by rw[<- h5];rfl)
   omega
  ·rw[List.getElem?_set_ne (by omega)]at h2
   exact hinc j k nj nk gj gk kj kk cj ck hjk (by omega) h1 h2
structure CopP(r:RelD)(w:World)(q:Ending)(w':World):Prop where
 ex:∃a c a2 c2 a3 c3,q=.returned (.agg #[.slice a r.rules.length c,.slice a2 r.zones.length c2,.slice a3 r.links.length c3])/\Jr w' w.heap.size w'.heap.size (.slice a r.rules.length c) (.slice a2 r.zones.length c2) (.slice a3 r.links.length c3) r
 bel:Below w.heap.size w w'
theorem jly{α:Type}{cs:α->List Value}{L:List α}{w:World}{B:Nat}{t:TypeId}{q:Nat}{v:Value}(h:w.ownsRow B t q v L.length (L.map cs).flatten):Jh w B w.heap.size t q v (L.map cs):=⟨by rw[List.length_map];exact h,fun g hg=>(World.ownsRow.lt h g hg).2⟩
theorem ZonC.done{w wr:World}{r:RelD}{B Z:Nat}{v:Value}(h:ZonC w wr r.zones B Z r.zones.length v){w3 w4:World}{va vc:Value}(hb3:Below wr.heap.size wr w3)(h3:w3.ownsRow wr.heap.size 131 9 va r.rules.length (r.rules.map RuleD.cs).flatten)(hb4:Below w3.heap.size w3 w4)(h4:w4.ownsRow w3.heap.size 140 2 vc r.links.length (r.links.map LinkD.cs).flatten)(hBZ:B<=Z):Jr w4 B w4.heap.size va v vc r:=by
 obtain⟨zr,hl,hq,hR,hZ,hz1,hinc⟩:=h.ex
 have hE:EraC wr Z wr.heap.size zr r.zones:=⟨hl,fun i z hz=>by
  obtain⟨e,c,k1,_,k3⟩:=hz1 i z hz
  exact⟨e,c,k1,k3 (List.getElem?_eq_some_iff.1 hz).1⟩,fun i j ni nj gi gj ki kj ci cj hij k1 k2=>hinc i j ni nj gi gj ki kj ci cj hij (by rw[<- hl];exact(List.getElem?_eq_some_iff.1 k2).1) k1 k2⟩
 exact⟨Z,wr.heap.size,w3.heap.size,zr,⟨hBZ,hZ,hb3.size,hb4.size⟩,(hR.below hb3).below hb4,(hE.below hb3).below hb4,hq,(jly h3).below hb4,jly h4⟩
theorem jdg(r:RelD)(a b c:Option Addr)(ca cb cc:Nat)(w:World)(hv:Zi w (.agg #[.slice a r.rules.length ca,.slice b r.zones.length cb,.slice c r.links.length cc]) r)(sm:r.small):
  Calls Tryz.prog 54 #[.agg #[.slice a r.rules.length ca,.slice b r.zones.length cb,.slice c r.links.length cc]] w (CopP r w):=by
 obtain⟨a',b',c',ca',cb',cc',he,hA,hZ,hC⟩:=hv.form
 injection he with he
 simp only[List.toArray_inj,List.cons.injEq,Value.slice.injEq,true_and,and_true,Array.mk.injEq]at he
 obtain⟨⟨rfl,rfl⟩,⟨rfl,rfl⟩,rfl,rfl⟩:=he
 obtain⟨m1,m2,m3,m4⟩:=sm
 obtain⟨rs,zs,ls⟩:=r
 simp only at *
 obtain⟨rows,hl,hq,r2,r1,hrow⟩:=jtj hZ
 have hB0:Below w.heap.size w ((w.alloc (.cells #[.slice a rs.length ca,.slice b zs.length cb,.slice c ls.length cc] 56)).alloc (.cells #[.slice none 0 0,.slice none 0 0,.slice none 0 0] 56)):=(qal _ _).alloc (by simp) _
 have X0:Zc ((w.alloc (.cells #[.slice a rs.length ca,.slice b zs.length cb,.slice c ls.length cc] 56)).alloc (.cells #[.slice none 0 0,.slice none 0 0,.slice none 0 0] 56)) w.heap.size [.slice a rs.length ca,.slice b zs.length cb,.slice c ls.length cc]:=(Zc.new w [.slice a rs.length ca,.slice b zs.length cb,.slice c ls.length cc] 56).below (qal _ _)
 have O0:Zc ((w.alloc (.cells #[.slice a rs.length ca,.slice b zs.length cb,.slice c ls.length cc] 56)).alloc (.cells #[.slice none 0 0,.slice none 0 0,.slice none 0 0] 56)) (w.heap.size+1) [.slice none 0 0,.slice none 0 0,.slice none 0 0]:=by
  have h:=Zc.new (w.alloc (.cells #[.slice a rs.length ca,.slice b zs.length cb,.slice c ls.length cc] 56)) [.slice none 0 0,.slice none 0 0,.slice none 0 0] 56
  simpa using h
 have hs0:((w.alloc (.cells #[.slice a rs.length ca,.slice b zs.length cb,.slice c ls.length cc] 56)).alloc (.cells #[.slice none 0 0,.slice none 0 0,.slice none 0 0] 56)).heap.size=w.heap.size+1+1:=by simp
 have hClZ:=fun w h=>jut rows r2 r1 b zs.length cb w h hl m2
 have hClR:=fun w h=>juu (rs.map RuleD.cs) (jo4 (cs:=RuleD.cs) (fun _=>rfl) rs) jti a rs.length ca w h (by simp) m1
 have hClL:=fun w h=>juv (ls.map LinkD.cs) (jo4 (cs:=LinkD.cs) (fun _=>rfl) ls) jtr c ls.length cc w h (by simp) m3
 have HM:=hid m4
 have HA:=hid hA
 have HC:=hid hC
 have HZ0:Hid (∀w1 v,w1.ownsRow (w.heap.size+1+1) 136 2 v zs.length rows.flatten->ZonC w w1 zs (w.heap.size+1+1) w1.heap.size 0 v):=fun w1 v ho=>⟨rows,hl,r2,⟨by rw[hl];exact ho,fun g hg=>(World.ownsRow.lt ho g hg).2⟩,Nat.le_refl _,fun j z hz=>by
  obtain⟨u,k1,e,c,rfl,k2⟩:=hrow j z hz
  exact⟨e,c,k1,fun _=>⟨e,c,rfl,k2⟩,fun h=>by omega⟩,fun j k _ _ _ _ _ _ _ _ _ h=>by omega⟩
 have HD:Hid (∀wr w3 w4 Z v va vc,ZonC w wr zs (w.heap.size+1+1) Z zs.length v->Below wr.heap.size wr w3->w3.ownsRow wr.heap.size 131 9 va rs.length (rs.map RuleD.cs).flatten->Below w3.heap.size w3 w4->w4.ownsRow w3.heap.size 140 2 vc ls.length (ls.map LinkD.cs).flatten->w.heap.size+1+1<=Z->Jr w4 (w.heap.size+1+1) w4.heap.size va v vc ⟨rs,zs,ls⟩):=fun wr w3 w4 Z v va vc h h1 h2 h3 h4 h5=>h.done (r:=⟨rs,zs,ls⟩) h1 h2 h3 h4 h5
 have x1:=X0.c 1 (u:=.slice b zs.length cb) rfl
 have hq0:=hq.below hB0
 clear hv hZ hA hC hrow m4 hq r1 r2 hl
 generalize hnz:zs.length=nz at *
 have HN:=hid hnz
 clear hnz
 go_enter Tryz.func54,Tryz.ntmps54
 go_wp2_with fail
 refine(hClZ _ hq0).mono ?_
 rintro q w1 ⟨zv,rfl,hO1,hb1⟩
 rw[hs0]at hO1
 obtain⟨pz,cz,rfl⟩:=jb2 hO1
 have hB1:=qtr hB0 hb1
 have X1:=X0.below hb1
 have O1:=O0.below hb1
 have hZ1:=HZ0.out w1 _ hO1
 have hle:w.heap.size+1+1<=w1.heap.size:=by have:=hb1.size;omega
 obtain⟨Z,hZe⟩:∃Z,w1.heap.size=Z:=⟨_,rfl⟩
 rw[hZe]at hZ1 hle
 have HX:=hid X1
 have HO:=hid O1
 have HLE:=hid hle
 clear hClZ hq0 hO1 hb1 x1 X0 O0 hs0 HZ0 X1 O1 hB0 hZe hle
 go_wp2
 go_loopw [4,10] (fun _ s10 wr=>∃i:Nat,i<=nz/\s10=.int .i64 i/\Hid (ZonC w wr zs (w.heap.size+1+1) Z i (.slice pz nz cz))/\Hid (Zc wr w.heap.size [.slice a rs.length ca,.slice b nz cb,.slice c ls.length cc])/\Hid (Zc wr (w.heap.size+1) [.slice none 0 0,.slice none 0 0,.slice none 0 0])/\Below w.heap.size w wr) (fun _ s10 _=>nz-(intOf s10).toNat)
 case atStart=>exact⟨0,by omega,rfl,hZ1,HX,HO,hB1⟩
 case round=>
  obtain⟨wa,hwa⟩:∃x:World,x=wr:=⟨_,rfl⟩
  subst hwa
  obtain⟨i,hi,rfl,HZ,HXa,HOa,hBa⟩:=hrel
  clear hZ1 HX HO hB1
  by_cases hlt:i<nz
  ·have a1:(i:Int)<(nz:Int):=by omega
   have a0:(0:Int)<=(i:Int):=by omega
   obtain⟨z,hz⟩:∃z,zs[i]? =some z:=⟨_,List.getElem?_eq_getElem (by have:=HN.out;omega)⟩
   have hZx:=HZ.out
   obtain⟨zr,hzl,hzq,hzR,_,hzx,_⟩:=hZx.ex
   obtain⟨ea,ec,hu,hE,_⟩:=hzx i z hz
   have hE:=hE (Nat.le_refl _)
   obtain⟨ea',ec',hue,hE⟩:=hE
   obtain⟨rfl,rfl⟩:ea=ea'/\ec=ec':=by injection hue with h1 _ h2;exact⟨h1,h2⟩
   have hnl:=HN.out
   have hpz:∃g,pz=some ⟨g,0,none⟩:=by
    rcases hzR.own.2 with⟨h1,h2⟩|⟨g,_,_,h1,_⟩
    ·omega
    ·injection h1 with h1 _ _;exact⟨g,h1⟩
   obtain⟨g,rfl⟩:=hpz
   have hRo:wa.ownsRow (w.heap.size+1+1) 136 2 (.slice (some ⟨g,0,none⟩) nz cz) nz zr.flatten:=by have h:=hzR.own;rw[hzl.trans hnl]at h;exact h
   have hc:wa.cell? ⟨g,i*2+1,none⟩=some (.slice ea z.eras.length ec):=by rw[hRo.cellAt (i*2+1) (by omega)];exact jbl hzq hu rfl
   have hf:=fun w2 (hb:Below wa.heap.size wa w2)=>(jad hRo hb).frozenAt (i*2+1)
   have hge:=(World.ownsRow.lt hzR.own g rfl).1
   have hClE:=jza (z.eras.map EraD.cs) (jo4 (cs:=EraD.cs) (fun _=>rfl) z.eras) jyt ea z.eras.length ec wa (hE.below hBa) (by simp) (HM.out z (List.mem_of_getElem? hz))
   have HS:Hid (∀w2 a m d,Below wa.heap.size wa w2->w2.ownsRow wa.heap.size 148 6 (.slice a m d) z.eras.length (z.eras.map EraD.cs).flatten->ZonC w (w2.setCell ⟨g,i*2+1,none⟩ (.slice a m d)) zs (w.heap.size+1+1) Z (i+1) (.slice (some ⟨g,0,none⟩) nz cz)):=fun w2 a m d hb ho=>hZx.step hz hb ho
   have HF:=hid hf
   clear hRo hzx hzR hzq hzl hu hE hz hZx HZ hue hnl hf
   generalize (z.eras.map EraD.cs).flatten=news at *
   generalize z.eras.length=ne at *
   go_wp2_with fail
   refine hClE.mono ?_
   rintro q w2 ⟨v2,rfl,hO2,hb2⟩
   obtain⟨p2,c2,rfl⟩:=jb2 hO2
   have hc2:=jab hb2 hc
   have hf2:=HF.out w2 hb2
   have hB2:=qtr hBa hb2
   have HZ3:Hid (ZonC w (w2.setCell ⟨g,i*2+1,none⟩ (.slice p2 ne c2)) zs (w.heap.size+1+1) Z (i+1) (.slice (some ⟨g,0,none⟩) nz cz)):=HS.out w2 p2 ne c2 hb2 hO2
   have HX3:Hid (Zc (w2.setCell ⟨g,i*2+1,none⟩ (.slice p2 ne c2)) w.heap.size [.slice a rs.length ca,.slice b nz cb,.slice c ls.length cc]):=(HXa.out.below hb2).other (by omega) _
   have HO3:Hid (Zc (w2.setCell ⟨g,i*2+1,none⟩ (.slice p2 ne c2)) (w.heap.size+1) [.slice none 0 0,.slice none 0 0,.slice none 0 0]):=(HOa.out.below hb2).other (by omega) _
   have hB3:Below w.heap.size w (w2.setCell ⟨g,i*2+1,none⟩ (.slice p2 ne c2)):=hB2.setCell (show w.heap.size<=g by omega) _
   clear hO2 hb2 hB2 hBa hc hClE HXa HOa HS HF
   go_wp2
   go_roundw
   case rel=>exact⟨i+1,by omega,by go_num,HZ3,HX3,HO3,hB3⟩
   case measure=>simp[intOf];omega
  ·obtain rfl:i=nz:=by omega
   have x0:wa.drew.cell? ⟨w.heap.size,0,none⟩=some (.slice a rs.length ca):=HXa.out.c 0 (u:=.slice a rs.length ca) rfl
   have x2:wa.drew.cell? ⟨w.heap.size,2,none⟩=some (.slice c ls.length cc):=HXa.out.c 2 (u:=.slice c ls.length cc) rfl
   have HOD:Hid (Zc wa.drew (w.heap.size+1) [.slice none 0 0,.slice none 0 0,.slice none 0 0]):=HOa.out.below (jaa wa)
   have hBD:Below w.heap.size w wa.drew:=hBa.trans ((jaa wa).mono hBa.size)
   have hC1:=hClR wa.drew (HA.out.below hBD)
   have HBD:=hid hBD
   clear hBD hBa hClR HXa HOa
   go_wp2_with fail
   go_region_held3 (fun w'=>w'.cell? ⟨w.heap.size,0,none⟩=some (.slice a rs.length ca)/\w'.cell? ⟨w.heap.size,2,none⟩=some (.slice c ls.length cc)) (go_keep) (first|(go_at_call 86;refine hC1.mono ?_;rintro q w3 ⟨v3,rfl,hO3,hb3⟩;obtain⟨p3,c3,rfl⟩:=jb2 hO3;have HO3:=hidP hO3;clear hO3;have x0c:=jab hb3 x0;have x2c:=jab hb3 x2;have hC2:=hClL w3 (HC.out.below (qtr HBD.out hb3)))|(go_at_call 87;refine hC2.mono ?_;rintro q w4 ⟨v4,rfl,hO4,hb4⟩;obtain⟨p4,c4,rfl⟩:=jb2 hO4;have HO4:=hidP hO4;clear hO4;have x0d:=jab hb4 x0c;have x2d:=jab hb4 x2c;have O4:=(HOD.out.below hb3).below hb4;have o0:=O4.c 0 (u:=.slice none 0 0) rfl;have o1:=O4.c 1 (u:=.slice none 0 0) rfl;have o2:=O4.c 2 (u:=.slice none 0 0) rfl;have f0:=O4.f 0 (u:=.slice none 0 0) rfl;have f1:=O4.f 1 (u:=.slice none 0 0) rfl;have f2:=O4.f 2 (u:=.slice none 0 0) rfl))
   all_goals
    have hB3:=qtr HBD.out hb3
    have hB4:=qtr hB3 hb4
    have hR4:=HD.out wa w3 w4 Z _ _ _ HZ.out ((jaa wa).trans (hb3.mono (Nat.le_refl _))) HO3.out hb4 HO4.out HLE.out
    obtain⟨t0,t1,t2⟩:=jwi (v0:=.slice p3 rs.length c3) (v1:=.slice pz i cz) (v2:=.slice p4 ls.length c4) o0 o1 o2
    have ht:Zz (fun b=>b=w.heap.size+1) w4 (((w4.setCell ⟨w.heap.size+1,0,none⟩ (.slice p3 rs.length c3)).setCell ⟨w.heap.size+1,1,none⟩ (.slice pz i cz)).setCell ⟨w.heap.size+1,2,none⟩ (.slice p4 ls.length c4)):=(((Zz.refl (fun b=>b=w.heap.size+1) _).set (show w.heap.size+1=w.heap.size+1 from rfl) _).set (show w.heap.size+1=w.heap.size+1 from rfl) _).set (show w.heap.size+1=w.heap.size+1 from rfl) _
    have hsz:(((w4.setCell ⟨w.heap.size+1,0,none⟩ (.slice p3 rs.length c3)).setCell ⟨w.heap.size+1,1,none⟩ (.slice pz i cz)).setCell ⟨w.heap.size+1,2,none⟩ (.slice p4 ls.length c4)).heap.size=w4.heap.size:=by simp[World.size_setCell]
    have HR5:=hidP ((hR4.touch ht (fun b h1 _ h2=>by omega)).wide (show w.heap.size<=w.heap.size+1+1 by omega) (Nat.le_of_eq hsz.symm))
    have HB5:Hid (Below w.heap.size w (((w4.setCell ⟨w.heap.size+1,0,none⟩ (.slice p3 rs.length c3)).setCell ⟨w.heap.size+1,1,none⟩ (.slice pz i cz)).setCell ⟨w.heap.size+1,2,none⟩ (.slice p4 ls.length c4))):=((hB4.setCell (show w.heap.size<=w.heap.size+1 by omega) _).setCell (show w.heap.size<=w.heap.size+1 by omega) _).setCell (show w.heap.size<=w.heap.size+1 by omega) _
    clear hB3 hB4 hb3 hb4 hC2 O4 HO3 HO4 hR4 ht HZ HD hsz
    go_wp2
    exact bodyPost_ret (v:=.agg #[.slice p3 rs.length c3,.slice pz i cz,.slice p4 ls.length c4]) (by simp[results,Tryz.results54,go_sem,t0,t1,t2]) rfl ⟨⟨_,_,_,_,_,_,by rw[HN.out],by rw[HN.out];exact HR5.out⟩,HB5.out⟩
end
section
open Go.RowKit
structure CopS(s:Za)(w:World)(q:Ending)(w':World):Prop where
 ex:∃v,q=.returned v/\StC w' w.heap.size w'.heap.size v s
 bel:Below w.heap.size w w'
theorem jqg(s:Za)(v:Value)(w:World)(hv:StAt w v s)(hm:StoreOk s):
  Calls Tryz.prog 37 #[v] w (CopS s w):=by
 obtain⟨a,b,c,d,e,f,va,ia,ca,cb,cc,cd,ce,cf,cv,ci,rfl,hN,hW,hV,hX,_,_⟩:=hv.form
 obtain⟨tx,now,was,cur,vs,ix⟩:=s
 obtain⟨m1,m2,m3,m4,m5⟩:=hm
 simp only at *
 obtain⟨w0,hw0,hB0,A0,R0,hs0⟩:=jvp w (stA ⟨tx,now,was,cur,vs,ix⟩ a b c d e f va ia ca cb cc cd ce cf cv ci) [.int .i64 0,.slice none 0 0,.slice none 0 0,.slice none 0 0,.slice none 0 0,.slice none 0 0,.slice none 0 0,.int .i64 0,.slice none 0 0,.slice none 0 0] 60 60
 have q1:=fun w h=>jdg now a b c ca cb cc w h m1.sm
 have q2:=fun w h=>jdg was d e f cd ce cf w h m2.sm
 have q3:=fun w h=>jmt (vs.map VersionD.cs) (jo4 (cs:=VersionD.cs) (fun _=>rfl) vs) jvk va vs.length cv w h (by simp) m4
 have q4:=fun w h=>jq4 (ix.map EntryD.cs) (jo4 (cs:=EntryD.cs) (fun _=>rfl) ix) jqx ia ix.length ci w h (by simp) m5
 clear m1 m2 m3 hv
 have HN:=hid hN
 have HW:=hid hW
 have HV:=hid hV
 have HX:=hid hX
 clear hN hW hV hX
 go_enter Tryz.func37,Tryz.ntmps37
 have fa1:=A0.c 1 rfl
 have faf1:=A0.f 1 rfl
 have fa2:=A0.c 2 rfl
 have faf2:=A0.f 2 rfl
 have fa3:=A0.c 3 rfl
 have faf3:=A0.f 3 rfl
 go_wp2_with fail
 refine(q1 _ (HN.out.below hB0)).mono ?_
 rintro e w1 hP
 obtain⟨a1,c1,a2,c2,a3,c3,hq,hR⟩:=hP.ex
 subst hq
 rw[hs0]at hR
 have hb0:=hP.bel
 have l1:=hb0.size
 rw[hs0]at l1
 have hB1:=qtr hB0 hb0
 have A1:=A0.below hb0
 have R1:=R0.below hb0
 have HR:=hidP hR
 clear A0 R0 hB0 hb0 hP hR hs0
 clear fa1 faf1 fa2 faf2 fa3 faf3
 have fa1:=A1.c 1 rfl
 have faf1:=A1.f 1 rfl
 have fa2:=A1.c 2 rfl
 have faf2:=A1.f 2 rfl
 have fa3:=A1.c 3 rfl
 have faf3:=A1.f 3 rfl
 have fb4:=A1.c 4 rfl
 have fbf4:=A1.f 4 rfl
 have fb5:=A1.c 5 rfl
 have fbf5:=A1.f 5 rfl
 have fb6:=A1.c 6 rfl
 have fbf6:=A1.f 6 rfl
 go_wp2_with fail
 clear fa1 faf1 fa2 faf2 fa3 faf3 fb4 fbf4 fb5 fbf5 fb6 fbf6
 obtain⟨wB,hx,K⟩:=jin (w.heap.size) w1 [(1,.slice a1 now.rules.length c1),(2,.slice a2 now.zones.length c2),(3,.slice a3 now.links.length c3)]
 simp only[stl]at hx
 rw[hx]
 have A2:=K.var _ A1
 have R2:=K.oth _ _ (by omega) R1
 have hB2:=K.bel _ _ (by omega) hB1
 have HN2:=hidP (HR.out.touch (K.tch (fun b=>b<w.heap.size+1+1) _ (show w.heap.size<_ by omega) (Zz.refl _ _)) (fun b h1 _ h2=>by omega))
 have z2:=K.size
 clear A1 R1 hB1 HR hx K
 refine(q2 _ (HW.out.below hB2)).mono ?_
 rintro e w2 hP2
 obtain⟨a4,c4,a5,c5,a6,c6,hq,hR⟩:=hP2.ex
 subst hq
 rw[z2]at hR
 have hb2:=hP2.bel
 have l2:=hb2.size
 rw[z2]at l2
 have hB3:=qtr hB2 hb2
 have A3:=A2.below hb2
 have R3:=R2.below hb2
 have HN3:=hidP (HN2.out.below hb2)
 have HR:=hidP hR
 clear A2 R2 hB2 hb2 hP2 hR HN2 z2
 have fa4:=A3.c 4 rfl
 have faf4:=A3.f 4 rfl
 have fa5:=A3.c 5 rfl
 have faf5:=A3.f 5 rfl
 have fa6:=A3.c 6 rfl
 have faf6:=A3.f 6 rfl
 have fb8:=A3.c 8 rfl
 have fbf8:=A3.f 8 rfl
 go_wp2_with fail
 clear fa4 faf4 fa5 faf5 fa6 faf6 fb8 fbf8
 obtain⟨wC,hx,K⟩:=jin (w.heap.size) w2 [(4,.slice a4 was.rules.length c4),(5,.slice a5 was.zones.length c5),(6,.slice a6 was.links.length c6)]
 simp only[stl]at hx
 rw[hx]
 have A4:=K.var _ A3
 have R4:=K.oth _ _ (by omega) R3
 have hB4:=K.bel _ _ (by omega) hB3
 have T4:=K.tch (fun b=>b<w.heap.size+1+1) _ (show w.heap.size<_ by omega) (Zz.refl _ _)
 have HN4:=hidP (HN3.out.touch T4 (fun b h1 _ h2=>by omega))
 have HW4:=hidP (HR.out.touch T4 (fun b h1 _ h2=>by omega))
 have z4:=K.size
 clear A3 R3 hB3 T4 HN3 HR hx K
 refine(q3 _ (HV.out.below hB4)).mono ?_
 rintro e w3 ⟨v3,rfl,ho,hb4⟩
 obtain⟨a8,c8,rfl⟩:=jb2 ho
 rw[z4]at ho
 have l3:=hb4.size
 rw[z4]at l3
 have hB5:=qtr hB4 hb4
 have A5:=A4.below hb4
 have R5:=R4.below hb4
 have HN5:=hidP (HN4.out.below hb4)
 have HW5:=hidP (HW4.out.below hb4)
 have HV5:=hidP (jly ho)
 clear A4 R4 hB4 hb4 ho HN4 HW4 z4
 have fa8:=A5.c 8 rfl
 have faf8:=A5.f 8 rfl
 have fb9:=A5.c 9 rfl
 have fbf9:=A5.f 9 rfl
 go_wp2_with fail
 clear fa8 faf8 fb9 fbf9
 obtain⟨wD,hx,K⟩:=jin (w.heap.size) w3 [(8,.slice a8 vs.length c8)]
 simp only[stl]at hx
 rw[hx]
 have A6:=K.var _ A5
 have R6:=K.oth _ _ (by omega) R5
 have hB6:=K.bel _ _ (by omega) hB5
 have T6:=K.tch (fun b=>b<w.heap.size+1+1) _ (show w.heap.size<_ by omega) (Zz.refl _ _)
 have HN6:=hidP (HN5.out.touch T6 (fun b h1 _ h2=>by omega))
 have HW6:=hidP (HW5.out.touch T6 (fun b h1 _ h2=>by omega))
 have HV6:=hidP (HV5.out.touch T6 (fun b h1 _ h2=>by omega))
 have z6:=K.size
 clear A5 R5 hB5 T6 HN5 HW5 HV5 hx K
 refine(q4 _ (HX.out.below hB6)).mono ?_
 rintro e w4 ⟨v4,rfl,ho,hb6⟩
 obtain⟨a9,c9,rfl⟩:=jb2 ho
 rw[z6]at ho
 have l4:=hb6.size
 rw[z6]at l4
 have hB7:=qtr hB6 hb6
 have A7:=A6.below hb6
 have R7:=R6.below hb6
 have HN7:=hidP (HN6.out.below hb6)
 have HW7:=hidP (HW6.out.below hb6)
 have HV7:=hidP (HV6.out.below hb6)
 have HX7:=hidP (jly ho)
 clear A6 R6 hB6 hb6 ho HN6 HW6 HV6 z6
 have fa9:=A7.c 9 rfl
 have faf9:=A7.f 9 rfl
 obtain⟨wF,hx,K⟩:=jin (w.heap.size) w4 [(9,.slice a9 ix.length c9)]
 simp only[stl]at hx
 have OZ:=K.var _ A7
 have RZ:=K.oth _ _ (by omega) R7
 obtain⟨wG,hx2,K2⟩:=jin (w.heap.size+1) wF [(0,.int .i64 tx),(1,.slice a1 now.rules.length c1),(2,.slice a2 now.zones.length c2),(3,.slice a3 now.links.length c3),(4,.slice a4 was.rules.length c4),(5,.slice a5 was.zones.length c5),(6,.slice a6 was.links.length c6),(7,.int .i64 cur),(8,.slice a8 vs.length c8),(9,.slice a9 ix.length c9)]
 simp only[stl]at hx2
 obtain⟨z0,z1,z2,z3,z4,z5,z6,z7,z8,z9⟩:=OZ.ten
 obtain⟨y0,y1,y2,y3,y4,y5,y6,y7,y8,y9⟩:=RZ.ten
 obtain⟨yf0,yf1,yf2,yf3,yf4,yf5,yf6,yf7,yf8,yf9⟩:=RZ.tenF
 have RF:=K2.var _ RZ
 have T8:=K2.tch (fun b=>b<w.heap.size+1+1) _ (show w.heap.size+1<_ by omega) (K.tch (fun b=>b<w.heap.size+1+1) _ (show w.heap.size<_ by omega) (Zz.refl _ _))
 have hsz:wG.heap.size=w4.heap.size:=K2.size.trans K.size
 have HSF:Hid (StC wG w.heap.size wG.heap.size (.agg (stA ⟨tx,now,was,cur,vs,ix⟩ a1 a2 a3 a4 a5 a6 a8 a9 c1 c2 c3 c4 c5 c6 c8 c9).toArray) ⟨tx,now,was,cur,vs,ix⟩):=⟨a1,a2,a3,a4,a5,a6,a8,a9,c1,c2,c3,c4,c5,c6,c8,c9,w1.heap.size,w2.heap.size,w3.heap.size,rfl,⟨by omega,l2,l3,Nat.le_trans l4 (Nat.le_of_eq hsz.symm)⟩,(HN7.out.touch T8 (fun b h1 _ h2=>by omega)).wide (by omega) (Nat.le_refl _),HW7.out.touch T8 (fun b h1 _ h2=>by omega),HV7.out.touch T8 (fun b h1 _ h2=>by omega),(HX7.out.touch T8 (fun b h1 _ h2=>by omega)).wide (Nat.le_refl _) (Nat.le_of_eq hsz.symm)⟩
 have HBF:=hidP (K2.bel _ _ (by omega) (K.bel _ _ (by omega) hB7))
 obtain⟨t0,t1,t2,t3,t4,t5,t6,t7,t8,t9⟩:=RF.ten
 clear RF OZ RZ A7 R7 hB7 T8 hsz HN7 HW7 HV7 HX7 K K2
 go_wp2
 exact bodyPost_ret (v:=.agg #[.int .i64 tx,.slice a1 now.rules.length c1,.slice a2 now.zones.length c2,.slice a3 now.links.length c3,.slice a4 was.rules.length c4,.slice a5 was.zones.length c5,.slice a6 was.links.length c6,.int .i64 cur,.slice a8 vs.length c8,.slice a9 ix.length c9]) (by simp[results,Tryz.results37,go_sem,t0,t1,t2,t3,t4,t5,t6,t7,t8,t9]) rfl ⟨⟨_,rfl,HSF.out⟩,HBF.out⟩
end
section
open Go.RowKit Go.ChangeMaps Go.MapKept Go.WideMaps
def bkX(s:Za)(a1 a2 a3 a4 a5 a6 a8 a9:Option Addr)(c1 c2 c3 c4 c5 c6 c8 c9:Nat):List (Nat × Value):=[(0,.int .i64 s.tx),(1,.slice a1 s.now.rules.length c1),(2,.slice a2 s.now.zones.length c2),(3,.slice a3 s.now.links.length c3),(4,.slice a4 s.was.rules.length c4),(5,.slice a5 s.was.zones.length c5),(6,.slice a6 s.was.links.length c6),(8,.slice a8 s.vs.length c8),(9,.slice a9 s.ix.length c9)]
structure BookC(s:Za)(w w':World)(x:Option Addr):Prop where
 ex:∃bb lb n a1 a2 a3 a4 a5 a6 a8 a9 c1 c2 c3 c4 c5 c6 c8 c9 nm wm k w0 B a b c d e f ca cb cc cd ce cf,x=some ⟨bb,0,none⟩/\Zg w' lb n (jbk s.vs)/\n<=1048576/\Zj (bkX s a1 a2 a3 a4 a5 a6 a8 a9 c1 c2 c3 c4 c5 c6 c8 c9) w0 w' s bb lb nm wm k k a b c d e f ca cb cc cd ce cf/\k<=30/\Below w.heap.size w w0/\Zm w/\Zi w (.agg #[.slice a s.now.rules.length ca,.slice b s.now.zones.length cb,.slice c s.now.links.length cc]) s.now/\Zi w (.agg #[.slice d s.was.rules.length cd,.slice e s.was.zones.length ce,.slice f s.was.links.length cf]) s.was/\(nm≠lb/\wm≠lb/\w.heap.size<=lb/\lb<B/\w0.heap.size<=bb/\bb<w'.heap.size)/\relB s.now=true/\relB s.was=true/\StC w0 B w0.heap.size (.agg (stA s a1 a2 a3 a4 a5 a6 a8 a9 c1 c2 c3 c4 c5 c6 c8 c9).toArray) s
structure OpenC(s:Za)(w:World)(q:Ending)(w':World):Prop where
 ex:∃x,q=.returned (.tuple #[.pointer x,.bool (storeI s)])/\(storeI s=true->BookC s w w' x)
 bel:Below w.heap.size w w'
theorem job(hS:SortC)(s:Za)(v:Value)(w:World)(hE:Zm w)(hv:StAt w v s)(ok:StoreOk s):
  Calls Tryz.prog 20 #[v] w (OpenC s w):=by
 have hv0:=hv
 obtain⟨a,b,c,d,e,f,va,ia,ca,cb,cc,cd,ce,cf,cv,ci,rfl,hN,hW,hV,hX,_,_⟩:=hv.form
 have hB0:=qal w (.cells (stA s a b c d e f va ia ca cb cc cd ce cf cv ci).toArray 60)
 have A0:=Zc.new w (stA s a b c d e f va ia ca cb cc cd ce cf cv ci) 60
 have q1:=fun w hE h=>jjk s (.agg (stA s a b c d e f va ia ca cb cc cd ce cf cv ci).toArray) w hE h ok
 have q2:=fun w h=>jfz s.vs s.tx s.cur a b c d e f va ia s.now.rules.length ca s.now.zones.length cb s.now.links.length cc s.was.rules.length cd s.was.zones.length ce s.was.links.length cf s.vs.length cv s.ix.length ci w h ok.vs rfl ok.vl
 skip
 have HV:=hid hV
 have HX:=hid hX
 have HN:=hid hN
 have HW:=hid hW
 clear hV hX hN hW hv
 obtain⟨x0,x1,x2,x3,x4,x5,x6,x7,x8,x9⟩:=A0.ten
 go_enter Tryz.func20,Tryz.ntmps20
 go_wp2_with fail
 refine(q1 _ (hE.of_below hB0) (hv0.below hB0)).mono ?_
 rintro e1 w1 ⟨rfl,hb1⟩
 have hB1:=qtr hB0 hb1
 have A1:=A0.below hb1
 clear hb1 A0 q1 x0 x1 x2 x3 x4 x5 x6 x7 x8 x9
 cases h1:jos s
 case false=>
  have HR:Hid (storeI s=false):=by simp[Hid,storeI,jt7,h1]
  go_wp2
  go_ret2
  exact⟨⟨none,by rw[HR.out];rfl,fun h=>by rw[HR.out]at h;cases h⟩,hB1⟩
 have hr:relB s.now=true/\relB s.was=true:=by
  unfold jos at h1
  simp only[Bool.and_eq_true]at h1
  exact h1.2
 obtain⟨hr1,hr2⟩:=hr
 obtain⟨x0,x1,x2,x3,x4,x5,x6,x7,x8,x9⟩:=A1.ten
 go_wp2_with fail
 refine(q2 _ (HV.out.below hB1)).mono ?_
 rintro e2 w2 ⟨rfl,hb2⟩
 have hB2:=qtr hB1 hb2
 have A2:=A1.below hb2
 clear hb2 A1 q2 x0 x1 x2 x3 x4 x5 x6 x7 x8 x9
 cases h2:txB s.vs s.tx
 case false=>
  have HR:Hid (storeI s=false):=by simp[Hid,storeI,jt7,h1,h2]
  go_wp2
  go_ret2
  exact⟨⟨none,by rw[HR.out];rfl,fun h=>by rw[HR.out]at h;cases h⟩,hB2⟩
 have q3:=jje s.vs va s.vs.length cv w2 (HV.out.below hB2) (j7s h2) rfl ok.vl
 have x8:=A2.c 8 rfl
 go_wp2_with fail
 refine q3.mono ?_
 rintro e3 w3 hP3
 have hb3:=hP3.bel
 have hB3:=qtr hB2 hb3
 have A3:=A2.below hb3
 clear hb3 A2 q3 x8
 rcases hP3.end_ with⟨h3,he3,hM3⟩|⟨h3,he3⟩
 case inr=>
  subst he3
  clear hP3
  have HR:Hid (storeI s=false):=by simp[Hid,storeI,jt7,h1,h2,h3]
  go_wp2
  go_ret2
  exact⟨⟨none,by rw[HR.out];rfl,fun h=>by rw[HR.out]at h;cases h⟩,hB3⟩
 subst he3
 have hlb2:=hB2.size
 clear hP3 hB2 hB1 hB0
 have q4:=jkk s _ (jbk s.vs) (jai s.vs) w2.heap.size s.vs.length w3 (hE.of_below hB3) (hv0.below hB3) ok hM3 (jbf s.vs) (jck s.vs.length) ok.vl hr1 hr2
 obtain⟨x0,x1,x2,x3,x4,x5,x6,x7,x8,x9⟩:=A3.ten
 go_wp2_with fail
 refine q4.mono ?_
 rintro e4 w4 ⟨rfl,hb4⟩
 have hM4:=hM3.below hb4
 have hB4:=qtr hB3 hb4
 have A4:=A3.below hb4
 clear hb4 A3 q4 hM3 x0 x1 x2 x3 x4 x5 x6 x7 x8 x9
 cases h4:jxj s (jai s.vs)
 case false=>
  have HR:Hid (storeI s=false):=by simp[Hid,storeI,jt7,h1,h2,h3,h4]
  go_wp2
  go_ret2
  exact⟨⟨none,by rw[HR.out];rfl,fun h=>by rw[HR.out]at h;cases h⟩,hB4⟩
 have HR:Hid (storeI s=eqX s.ix (entF (momB s) (jai s.vs))):=by simp only[Hid,storeI,jt7,h1,h2,h3,h4,Bool.true_and]
 have hl30:(jai s.vs).length<=30:=by
  unfold jxj at h4
  rw[Bool.and_eq_true]at h4
  exact of_decide_eq_true h4.1
 clear h1 h2 h3 h4
 generalize hlb:w2.heap.size=lb at *
 clear hlb
 have HLB:Hid (w.heap.size<=lb/\lb<w4.drew.heap.size):=⟨hlb2,hM4.lt⟩
 have HVL:=hidP ok.vl
 have B4D:=jaa w4
 have hB5:Below w.heap.size w w4.drew:=qtr hB4 B4D
 have hM5:=hM4.below B4D
 have A5:=A4.below B4D
 obtain⟨z0,z1,z2,z3,z4,z5,z6,z7,z8,z9⟩:=A5.ten
 have hcp:=jqg s _ w4.drew (hv0.below hB5) ok
 have hck:=fun(r:RelD) a b c ca cb cc W=>jd4 r a b c ca cb cc W
 have HM5:=hid hM5
 have HB5:=hid hB5
 have HA5:=hid A5
 clear hM4 hM5 hB4 hB5 A4 A5 B4D hB3
 go_wp2_with fail
 go_region_held3 (fun w'=>w'.cell? ⟨w.heap.size,0,none⟩=some (.int .i64 s.tx)/\w'.cell? ⟨w.heap.size,1,none⟩=some (.slice a s.now.rules.length ca)/\w'.cell? ⟨w.heap.size,2,none⟩=some (.slice b s.now.zones.length cb)/\w'.cell? ⟨w.heap.size,3,none⟩=some (.slice c s.now.links.length cc)/\w'.cell? ⟨w.heap.size,4,none⟩=some (.slice d s.was.rules.length cd)/\w'.cell? ⟨w.heap.size,5,none⟩=some (.slice e s.was.zones.length ce)/\w'.cell? ⟨w.heap.size,6,none⟩=some (.slice f s.was.links.length cf)/\w'.cell? ⟨w.heap.size,7,none⟩=some (.int .i64 s.cur)/\w'.cell? ⟨w.heap.size,8,none⟩=some (.slice va s.vs.length cv)/\w'.cell? ⟨w.heap.size,9,none⟩=some (.slice ia s.ix.length ci)) (go_keep) (first|(go_at_call 37;refine hcp.mono ?_;rintro q w5 hP5;obtain⟨v5,hq5,hC5⟩:=hP5.ex;subst hq5;have HC5:=hidP hC5;obtain⟨a1,a2,a3,a4,a5,a6,a8,a9,c1,c2,c3,c4,c5,c6,c8,c9,M1,M2,M3,hv5,_⟩:=hC5.form;subst hv5;clear hC5;have hb5:=hP5.bel;clear hP5;obtain⟨u0_,u1_,u2_,u3_,u4_,u5_,u6_,u7_,u8_,u9_⟩:=(HA5.out.below hb5).ten)|(go_at_call 38;have hx6:=hb6;refine(hck s.was d e f cd ce cf _).mono ?_;rintro q w7 hP7;have hq7:=hP7.ex;subst hq7;have hc7:=hP7.cache;have hb7:=hP7.bel;clear hP7;obtain⟨t0_,t1_,t2_,t3_,t4_,t5_,t6_,t7_,t8_,t9_⟩:=(((HA5.out.below hb5).below hb6).below hb7).ten)|(go_at_call 38;refine(hck s.now a b c ca cb cc _).mono ?_;rintro q w6 hP6;have hq6:=hP6.ex;subst hq6;have hc6:=hP6.cache;have hb6:=hP6.bel;clear hP6;obtain⟨s0_,s1_,s2_,s3_,s4_,s5_,s6_,s7_,s8_,s9_⟩:=((HA5.out.below hb5).below hb6).ten))
 all_goals
  have hB5:=qtr HB5.out hb5
  have b56:=(Below.refl w5.heap.size w5).trans (hb6.mono (Nat.le_refl _))
  have b57:=qtr b56 hb7
  have b8:=qal w7 (.cells #[.int .i64 s.tx,.slice a1 s.now.rules.length c1,.slice a2 s.now.zones.length c2,.slice a3 s.now.links.length c3,.slice a4 s.was.rules.length c4,.slice a5 s.was.zones.length c5,.slice a6 s.was.links.length c6,.int .i64 s.cur,.slice a8 s.vs.length c8,.slice a9 s.ix.length c9,.map (some lb),.slice a s.now.rules.length ca,.slice b s.now.zones.length cb,.slice c s.now.links.length cc,.map (some (w5.heap.size+1+1)),.slice d s.was.rules.length cd,.slice e s.was.zones.length ce,.slice f s.was.links.length cf,.map (some (w6.heap.size+1+1))] 85)
  have b58:=qtr b57 b8
  have l5:=hb5.size
  have l6:=hb6.size
  have l7:=hb7.size
  have ln:=hc6.lt
  have lw:=hc7.lt
  have ll:=HM5.out.lt
  have K8:=Zc.new w7 [.int .i64 s.tx,.slice a1 s.now.rules.length c1,.slice a2 s.now.zones.length c2,.slice a3 s.now.links.length c3,.slice a4 s.was.rules.length c4,.slice a5 s.was.zones.length c5,.slice a6 s.was.links.length c6,.int .i64 s.cur,.slice a8 s.vs.length c8,.slice a9 s.ix.length c9,.map (some lb),.slice a s.now.rules.length ca,.slice b s.now.zones.length cb,.slice c s.now.links.length cc,.map (some (w5.heap.size+1+1)),.slice d s.was.rules.length cd,.slice e s.was.zones.length ce,.slice f s.was.links.length cf,.map (some (w6.heap.size+1+1))] 85
  have hBk:Zj (bkX s a1 a2 a3 a4 a5 a6 a8 a9 c1 c2 c3 c4 c5 c6 c8 c9) w5 _ s w7.heap.size lb (w5.heap.size+1+1) (w6.heap.size+1+1) 0 0 a b c d e f ca cb cc cd ce cf:=⟨b58,K8.c 7 rfl,K8.c 10 rfl,K8.c 11 rfl,K8.c 12 rfl,K8.c 13 rfl,K8.c 14 rfl,K8.c 15 rfl,K8.c 16 rfl,K8.c 17 rfl,K8.c 18 rfl,(hc6.below hb7).below b8,hc7.below b8,by omega,by omega,by omega,fun p hp=>by simp[bkX]at hp;rcases hp with rfl|rfl|rfl|rfl|rfl|rfl|rfl|rfl|rfl;exact K8.c 0 rfl;exact K8.c 1 rfl;exact K8.c 2 rfl;exact K8.c 3 rfl;exact K8.c 4 rfl;exact K8.c 5 rfl;exact K8.c 6 rfl;exact K8.c 8 rfl;exact K8.c 9 rfl,_,heap_alloc_new w7 _⟩
  have hM8:=(((HM5.out.below hb5).below hb6).below hb7).below b8
  have hE5:=hE.of_below hB5
  have hN5:=HN.out.below hB5
  have hW5:=HW.out.below hB5
  have hEn:=jh0 hS w5 s w7.heap.size lb (w5.heap.size+1+1) (w6.heap.size+1+1) s.vs.length a b c d e f ca cb cc cd ce cf (jbk s.vs) (jai s.vs) _ hE5 hN5 hW5 ok.now ok.was hr1 hr2 (hBk.below (jaa _)) (by omega) (by omega) (hM8.below (jaa _)) (jbf s.vs) (jck s.vs.length) (by omega)
  have HE5:Hid (Zm w5/\Zi w5 (.agg #[.slice a s.now.rules.length ca,.slice b s.now.zones.length cb,.slice c s.now.links.length cc]) s.now/\Zi w5 (.agg #[.slice d s.was.rules.length cd,.slice e s.was.zones.length ce,.slice f s.was.links.length cf]) s.was/\w5.heap.size+1+1≠lb/\w6.heap.size+1+1≠lb/\relB s.now=true/\relB s.was=true/\(jai s.vs).length<=30/\w5.heap.size<=w7.heap.size):=⟨hE5,hN5,hW5,by omega,by omega,hr1,hr2,hl30,by omega⟩
  have x9:=jab (jaa _) (jab b8 t9_)
  have HX5:Hid (Zd w5 ia 2 (s.ix.map EntryD.cs)):=HX.out.below hB5
  have HBw:=hid hB5
  have hXl:(entF (momB s) (jai s.vs)).length<=30:=Nat.le_trans (jmo _ _) hl30
  have hxl:=ok.xl
  obtain⟨X,hXX⟩:∃X,entF (momB s) (jai s.vs)=X:=⟨_,rfl⟩
  rw[hXX]at hEn hXl
  have HR2:Hid (storeI s=eqX s.ix X):=by simp only[Hid];rw[<- hXX];exact HR.out
  obtain⟨tb,htb⟩:∃tb,eqX s.ix X=tb:=⟨_,rfl⟩
  have HR3:Hid (storeI s=tb):=by simp only[Hid];rw[HR2.out];exact htb
  have hSm:=fun px cx W (h:Zd W ia 2 (s.ix.map EntryD.cs)) (h2:Zd W px 2 (X.map EntryD.cs))=>jho s.ix X ia px s.ix.length X.length ci cx W h h2 rfl rfl hxl (by omega)
  rw[htb]at hSm
  clear HR HR2 hXX htb hB5 b56 b57 b8 b58 K8 hBk hM8 hE5 hN5 hW5 hc6 hc7 hb5 hb6 hb7 hck hcp u0_ s0_ t0_ z0 u1_ s1_ t1_ z1 u2_ s2_ t2_ z2 u3_ s3_ t3_ z3 u4_ s4_ t4_ z4 u5_ s5_ t5_ z5 u6_ s6_ t6_ z6 u7_ s7_ t7_ z7 u8_ s8_ t8_ z8 s9_ t9_ z9
  go_wp2_with fail
  go_region_held3 (fun w'=>w'.cell? ⟨w.heap.size,9,none⟩=some (.slice ia s.ix.length ci)) (go_keep) (first|(go_at_call 40;refine hEn.mono ?_;rintro q w9 hP9;obtain⟨v9,rfl,hO9⟩:=hP9.ex;obtain⟨kk,hkk,hI9⟩:=hP9.inv;have hb9:=hI9.bel;have hl9:=hI9.live;have HI9:Hid (kk<=(jai s.vs).length/\Zj (bkX s a1 a2 a3 a4 a5 a6 a8 a9 c1 c2 c3 c4 c5 c6 c8 c9) w5 w9 s w7.heap.size lb (w5.heap.size+1+1) (w6.heap.size+1+1) kk kk a b c d e f ca cb cc cd ce cf):=⟨hkk,hI9⟩;clear hkk;have hM9:=hP9.live;clear hI9 hP9;have hO9:=j0y hO9;obtain⟨px,cx,hv9,hs9,_⟩:=jav hO9 jbz;rw[List.length_map]at hv9;subst hv9;clear hO9;have x9e:=jab hb9 u9_;have hSm9:=hSm px cx w9 (HX5.out.below hb9) hs9;clear hs9)|(go_at_call 39;refine hSm9.mono ?_;rintro q w10 ⟨rfl,hb10⟩;have x9f:=jab hb10 x9e;have hl10:=jab hb10 hl9;have hM10:=hM9.below hb10))
  all_goals
   have hB9:=qtr HBw.out hb9
   have hB10:=qtr hB9 hb10
   go_wp2
   go_ret2
   exact⟨⟨some ⟨w7.heap.size,0,none⟩,by rw[HR3.out];rfl,fun _=>⟨_,lb,_,a1,a2,a3,a4,a5,a6,a8,a9,c1,c2,c3,c4,c5,c6,c8,c9,_,_,kk,w5,_,a,b,c,d,e,f,ca,cb,cc,cd,ce,cf,rfl,hM10,HVL.out,HI9.out.2.below hb10,Nat.le_trans HI9.out.1 HE5.out.2.2.2.2.2.2.2.1,HBw.out,hE,HN.out,HW.out,⟨HE5.out.2.2.2.1,HE5.out.2.2.2.2.1,HLB.out.1,HLB.out.2,HE5.out.2.2.2.2.2.2.2.2,qbl hl10⟩,HE5.out.2.2.2.2.2.1,HE5.out.2.2.2.2.2.2.1,HC5.out⟩⟩,hB10⟩
end
end Go.Proofs.YtofdpfpdocpbpaaGreatDoor
