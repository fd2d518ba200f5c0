import Derived.Test.YtlmgdfoiejpbcaaGreatDoorSLd
import Derived.Test.YtlmgdfoiejpbcaaGreatDoorSEd
set_option maxRecDepth 20000
set_option maxHeartbeats 0
set_option linter.unusedSimpArgs false
open Go.RowKit
namespace Go.Proofs.YtlmgdfoiejpbcaaGreatDoor
theorem js1{w:World}{a:Option Addr}{zs:List ZoneD}(h:Zo w a zs):∃rows:List (List Value),rows.length=zs.length/\Za w a 2 rows/\(∀r∈rows,r.length=2)/\(∀u∈rows.flatten,u.oneCell'=true)/\∀(j:Nat) z,zs[j]? =some z->∃v,rows[j]? =some [.string z.name,v]/\Jf w v z.eras:=by
 rcases h with rfl|⟨b,o,ha,hc⟩
 ·exact⟨[],rfl,.inl rfl,fun r hr=>by simp at hr,fun u hu=>by simp at hu,fun j z hz=>by simp at hz⟩
 obtain⟨rows,hl,hp⟩:=jfc (P:=fun i r=>∃z v,zs[i]? =some z/\r=[Value.string z.name,v]/\w.cell? (ad b (o+i*2))=some (.string z.name)/\w.cell? (ad b (o+i*2+1))=some v/\Jf w v z.eras) zs.length (fun i hi=>by
  have hz:zs[i]? =some zs[i]:=lgg hi
  obtain⟨c0,v,c1,hE⟩:=hc i _ hz
  exact⟨_,zs[i],v,hz,rfl,c0,c1,hE⟩)
 refine⟨rows,hl,.inr ⟨b,o,ha,fun i j r c hr hj=>?_⟩,fun r hr=>?_,fun u hu=>?_,fun j z hz=>?_⟩
 ·obtain⟨z,v,_,rfl,c0,c1,_⟩:=hp i r hr
  match j,hj with
  |0,hj=>simp at hj;subst hj;exact c0
  |1,hj=>simp at hj;subst hj;exact c1
  |j+2,hj=>simp at hj
 ·obtain⟨i,hi⟩:=lgo hr
  obtain⟨z,v,_,rfl,_⟩:=hp i r hi
  rfl
 ·obtain⟨r,hr,Gk⟩:=List.mem_flatten.mp hu
  obtain⟨i,hi⟩:=lgo hr
  obtain⟨z,v,_,rfl,_,_,a2,c2,rfl,_⟩:=hp i r hi
  simp at Gk
  rcases Gk with rfl|rfl<;>rfl
 ·have hj:=(List.getElem?_eq_some_iff.1 hz).1
  have hr:rows[j]? =some rows[j]:=lgg (by omega)
  obtain⟨z2,v,aF,he,_,_,hE⟩:=hp j _ hr
  rw[hz]at aF
  obtain rfl:=osi aF
  exact⟨v,by rw[hr,he],hE⟩
theorem js0{L:List RuleD}:∀u∈(L.map RuleD.cs).flatten,u.oneCell'=true:=fun u hu=>by
 simp only[List.mem_flatten,List.mem_map]at hu
 obtain⟨r,⟨t,_,rfl⟩,hr⟩:=hu
 simp[RuleD.cs]at hr
 rcases hr with rfl|rfl|rfl|rfl|rfl|rfl|rfl|rfl|rfl<;>rfl
theorem jti{L:List LinkD}:∀u∈(L.map LinkD.cs).flatten,u.oneCell'=true:=fun u hu=>by
 simp only[List.mem_flatten,List.mem_map]at hu
 obtain⟨r,⟨t,_,rfl⟩,hr⟩:=hu
 simp[LinkD.cs]at hr
 rcases hr with rfl|rfl<;>rfl
theorem jxg{L:List EraD}:∀u∈(L.map EraD.cs).flatten,u.oneCell'=true:=fun u hu=>by
 simp only[List.mem_flatten,List.mem_map]at hu
 obtain⟨r,⟨t,_,rfl⟩,hr⟩:=hu
 simp[EraD.cs]at hr
 rcases hr with rfl|rfl|rfl|rfl|rfl|rfl<;>rfl
theorem jlb{α:Type}{cs:α->List Value}{k:Nat}(h:∀x,(cs x).length=k)(L:List α):∀r∈L.map cs,r.length=k:=fun r hr=>by
 obtain⟨x,_,rfl⟩:=List.mem_map.1 hr
 exact h x
structure ZonP(w wr:World)(zs:List ZoneD)(B i:Nat)(v:Value)(n:Nat):Prop where
 own:∃xs,wr.ownsRow B 144 2 v n xs/\∀(j:Nat) z,i<=j->zs[j]? =some z->∃u,xs[j*2+1]? =some u/\Jf w u z.eras
structure CopP(w:World)(q:Ending)(w':World):Prop where
 ex:∃a n c a2 n2 c2 a3 n3 c3,q=.returned (.agg #[.slice a n c,.slice a2 n2 c2,.slice a3 n3 c3])
 bel:Bw w w'
theorem jc3(r:RelD)(a b c:Option Addr)(ca cb cc:Nat)(w:World)(hv:Zd w (.agg #[.slice a r.rules.length ca,.slice b r.zones.length cb,.slice c r.links.length cc]) r)(sm:r.small):
  Cl 94 #[.agg #[.slice a r.rules.length ca,.slice b r.zones.length cb,.slice c r.links.length cc]] w (CopP w):=by
 obtain⟨a',b',c',NZ,Oa,Oc,he,hA,hZ,hC⟩:=hv.form
 injection he with he
 simp only[List.toArray_inj,List.cons.injEq,Value.slice.injEq,true_and,and_true,Array.mk.injEq]at he
 obtain⟨⟨rfl,rfl⟩,⟨rfl,rfl⟩,rfl,rfl⟩:=he
 obtain⟨m1,m2,m3,m4⟩:=sm
 obtain⟨rs,zs,ls⟩:=r
 simp only at *
 obtain⟨rows,hl,hq,r2,r1,ap⟩:=js1 hZ
 have ag:Bw w ((w.alloc (.cells #[.slice a rs.length ca,.slice b zs.length cb,.slice c ls.length cc] 38)).alloc (.cells #[nS,nS,nS] 38)):=(qal _ _).alloc (by simp) _
 have X0:Zh ((w.alloc (.cells #[.slice a rs.length ca,.slice b zs.length cb,.slice c ls.length cc] 38)).alloc (.cells #[nS,nS,nS] 38)) w.heap.size [.slice a rs.length ca,.slice b zs.length cb,.slice c ls.length cc]:=(Zh.new w [.slice a rs.length ca,.slice b zs.length cb,.slice c ls.length cc] 38).below (qal _ _)
 have O0:Zh ((w.alloc (.cells #[.slice a rs.length ca,.slice b zs.length cb,.slice c ls.length cc] 38)).alloc (.cells #[nS,nS,nS] 38)) (w.heap.size+1) [nS,nS,nS]:=by
  have h:=Zh.new (w.alloc (.cells #[.slice a rs.length ca,.slice b zs.length cb,.slice c ls.length cc] 38)) [nS,nS,nS] 38
  simpa using h
 have dP:((w.alloc (.cells #[.slice a rs.length ca,.slice b zs.length cb,.slice c ls.length cc] 38)).alloc (.cells #[nS,nS,nS] 38)).heap.size=w.heap.size+1+1:=by simp
 have tX:=fun w h=>jt5 rows r2 r1 b zs.length cb w h hl m2
 have tW:=fun w h=>jt6 (rs.map RuleD.cs) (jlb (cs:=RuleD.cs) (fun _=>rfl) rs) js0 a rs.length ca w h (by simp) m1
 have AZ:=fun w h=>jt7 (ls.map LinkD.cs) (jlb (cs:=LinkD.cs) (fun _=>rfl) ls) jti c ls.length cc w h (by simp) m3
 have HR:=hid ap
 have HM:=hid m4
 have HA:=hid hA
 have HC:=hid hC
 have HF:Hid (∀(j:Nat) z v,zs[j]? =some z->rows[j]? =some [.string z.name,v]->rows.flatten[j*2+1]? =some v):=fun j z v _ hr=>ja3 r2 hr rfl
 have x1:=X0.c 1 (u:=.slice b zs.length cb) rfl
 have sJ:=hq.below ag
 clear hv hZ hA hC ap m4 hq r1 r2 hl
 generalize Cq:zs.length=nz at *
 have HN:=hid Cq
 clear Cq
 unfold Cl;go_in
 go_wp2_with fail
 refine(tX _ sJ).mono ?_
 rintro q w1 ⟨zv,rfl,dW,hb1⟩
 rw[dP]at dW
 obtain⟨pz,mz,cz,rfl⟩:=jad dW
 have Sw:mz=nz:=by
  rcases dW.2 with⟨h1,h2⟩|⟨_,_,_,h1,_⟩
  ·injection h1 with _ h1 _;omega
  ·injection h1
 subst Sw
 have aj:=qtr ag hb1
 have X1:=X0.below hb1
 have O1:=O0.below hb1
 have j8:ZonP w w1 zs (w.heap.size+1+1) 0 (.slice pz mz cz) mz:=⟨_,dW,fun j z _ hz=>by
  obtain⟨v,hr,hE⟩:=HR.out j z hz
  exact⟨v,HF.out j z v hz hr,hE⟩⟩
 have HX:=hid X1
 have HO:=hid O1
 clear tX sJ dW hb1 x1 X0 O0 dP HR HF X1 O1 ag
 go_wp2
 go_loopw [4,10] (fun _ mY wr=>∃i:Nat,i<=mz/\mY=iv i/\Hid (ZonP w wr zs (w.heap.size+1+1) i (.slice pz mz cz) mz)/\Hid (Zh wr w.heap.size [.slice a rs.length ca,.slice b mz cb,.slice c ls.length cc])/\Hid (Zh wr (w.heap.size+1) [nS,nS,nS])/\Bw w wr/\Hid (w.heap.size+1+1<=wr.heap.size)) (fun _ mY _=>mz-(intOf mY).toNat)
 case atStart=>exact⟨0,by omega,rfl,j8,HX,HO,aj,by have:=qbl (HO.out.c 0 (u:=nS) rfl);exact this⟩
 case round=>
  obtain⟨wa,dS⟩:=qea wr
  subst dS
  obtain⟨i,hi,rfl,HZ,ti,xk,iy,HS⟩:=hrel
  clear j8 HX HO aj
  by_cases hlt:i<mz
  ·have a1:(i:Int)<(mz:Int):=by omega
   have a0:(0:Int)<=(i:Int):=by omega
   obtain⟨z,hz⟩:∃z,zs[i]? =some z:=⟨_,lgg (by have:=HN.out;omega)⟩
   obtain⟨xs,hO,hx⟩:=HZ.out.own
   obtain⟨u,hu,ea,ec,KM,hE⟩:=hx i z (nlr _) hz
   subst KM
   have vu:∃g,pz=some (ad g 0):=by
    rcases hO.2 with⟨h1,h2⟩|⟨g,_,_,h1,_⟩
    ·omega
    ·injection h1 with h1 _ _;exact⟨g,h1⟩
   obtain⟨g,rfl⟩:=vu
   have hc:wa.cell? (ad g (i*2+1))=some (.slice ea z.eras.length ec):=by rw[hO.cellAt (i*2+1) (by omega)];exact hu
   have K7:=(World.ownsRow.lt hO g rfl).1
   have tV:=jxr (z.eras.map EraD.cs) (jlb (cs:=EraD.cs) (fun _=>rfl) z.eras) jxg ea z.eras.length ec wa (hE.below iy) (by simp) (HM.out z (lmg hz))
   have yW:=hid hx
   have yS:=hid hO
   clear hx hO hu hE hz
   generalize z.eras.length=ne at *
   go_wp2_with fail
   refine tV.mono ?_
   rintro q w2 ⟨v2,rfl,aW,ac⟩
   obtain⟨p2,sQ,c2,rfl⟩:=jad aW
   have uB:=jac yS.out ac
   have cU:=jaa ac hc
   have eE:=uB.frozenAt (i*2+1)
   have ei:=uB.stored (i*2+1) (.slice p2 sQ c2)
   have an:=qtr iy ac
   have Ik:Hid (ZonP w (w2.setCell (ad g (i*2+1)) (.slice p2 sQ c2)) zs (w.heap.size+1+1) (i+1) (so g mz cz) mz):=⟨_,ei.1,fun j z hj hz=>by
    obtain⟨u,h1,h2⟩:=yW.out j z (by omega) hz
    exact⟨u,by rw[List.getElem?_set_ne (by omega)];exact h1,h2⟩⟩
   have Ie:Hid (Zh (w2.setCell (ad g (i*2+1)) (.slice p2 sQ c2)) w.heap.size [.slice a rs.length ca,.slice b mz cb,.slice c ls.length cc]):=(ti.out.below ac).other (by omega) _
   have yN:Hid (Zh (w2.setCell (ad g (i*2+1)) (.slice p2 sQ c2)) (w.heap.size+1) [nS,nS,nS]):=(xk.out.below ac).other (by omega) _
   have ax:Bw w (w2.setCell (ad g (i*2+1)) (.slice p2 sQ c2)):=an.setCell (show w.heap.size<=g by omega) _
   have yU:Hid (w.heap.size+1+1<=(w2.setCell (ad g (i*2+1)) (.slice p2 sQ c2)).heap.size):=by have h1:=HS.out;have h2:=ac.size;simp only[Hid,World.size_setCell];omega
   clear ei uB aW ac an iy hc tV ti xk HZ
   go_wp2
   go_roundw
   case rel=>exact⟨i+1,by omega,by go_num,Ik,Ie,yN,ax,yU⟩
   case measure=>simp[intOf];omega
  ·obtain rfl:i=mz:=by omega
   have x0:wa.drew.cell? (ad w.heap.size 0)=some (.slice a rs.length ca):=ti.out.c 0 (u:=.slice a rs.length ca) rfl
   have x2:wa.drew.cell? (ad w.heap.size 2)=some (.slice c ls.length cc):=ti.out.c 2 (u:=.slice c ls.length cc) rfl
   have Hy:Hid (Zh wa.drew (w.heap.size+1) [nS,nS,nS]):=xk.out.below (jab wa)
   have bY:Bw w wa.drew:=iy.trans ((jab wa).mono iy.size)
   have AY:=tW wa.drew (HA.out.below bY)
   have jr:=hid bY
   clear bY iy tW ti xk HZ
   go_wp2_with fail
   go_region_held3 (fun w'=>w'.cell? (ad w.heap.size 0)=some (.slice a rs.length ca)/\w'.cell? (ad w.heap.size 2)=some (.slice c ls.length cc)) (go_keep) (first|(go_at_call 136;refine AY.mono ?_;rintro q w3 ⟨v3,rfl,dE,ar⟩;obtain⟨p3,Rl,c3,rfl⟩:=jad dE;clear dE;have MN:=jaa ar x0;have MQ:=jaa ar x2;have nR:=AZ w3 (HC.out.below (qtr jr.out ar)))|(go_at_call 137;refine nR.mono ?_;rintro q w4 ⟨v4,rfl,dX,aD⟩;obtain⟨p4,Rn,c4,rfl⟩:=jad dX;clear dX;have Q8:=jaa aD MN;have Qa:=jaa aD MQ;have O4:=(Hy.out.below ar).below aD;have o0:=O4.c 0 (u:=nS) rfl;have o1:=O4.c 1 (u:=nS) rfl;have o2:=O4.c 2 (u:=nS) rfl;have f0:=O4.f 0 (u:=nS) rfl;have f1:=O4.f 1 (u:=nS) rfl;have f2:=O4.f 2 (u:=nS) rfl))
   all_goals
    have ax:=qtr jr.out ar
    have aR:=qtr ax aD
    obtain⟨t0,t1,t2⟩:=jne (v0:=.slice p3 Rl c3) (v1:=.slice pz i cz) (v2:=.slice p4 Rn c4) o0 o1 o2
    have lM:Hid (Bw w (((w4.setCell (ad (w.heap.size+1) 0) (.slice p3 Rl c3)).setCell (ad (w.heap.size+1) 1) (.slice pz i cz)).setCell (ad (w.heap.size+1) 2) (.slice p4 Rn c4))):=((aR.setCell (show w.heap.size<=w.heap.size+1 by omega) _).setCell (show w.heap.size<=w.heap.size+1 by omega) _).setCell (show w.heap.size<=w.heap.size+1 by omega) _
    clear ax aR ar aD nR O4
    go_wp2
    exact bpr (v:=.agg #[.slice p3 Rl c3,.slice pz i cz,.slice p4 Rn c4]) (by simp[results,Tryz.results94,go_sem,t0,t1,t2]) rfl ⟨⟨_,_,_,_,_,_,_,_,_,rfl⟩,lM.out⟩
theorem jup{L:List VersionD}:∀u∈(L.map VersionD.cs).flatten,u.oneCell'=true:=fun u hu=>by
 simp only[List.mem_flatten,List.mem_map]at hu
 obtain⟨r,⟨t,_,rfl⟩,hr⟩:=hu
 simp[VersionD.cs]at hr
 rcases hr with rfl|rfl|rfl|rfl|rfl|rfl|rfl|rfl<;>rfl
theorem Za.set{w:World}{a:Option Addr}{k b i:Nat}{v:Value}{rows:List (List Value)}(h:Za w a k rows)(hn:∀g o,a=some (ad g o)->g≠b):Za (w.setCell (ad b i) v) a k rows:=by
 rcases h with h|⟨g,o,rfl,h⟩
 ·exact .inl h
 ·exact .inr ⟨g,o,rfl,fun x y r c hx hy=>(wco _ _ _ _ (fun e=>by injection e with e;exact hn g o rfl e.symm)).trans (h x y r c hx hy)⟩
structure CopS(s:StoreD)(w:World)(q:Ending)(w':World):Prop where
 ex:∃a1 n1 c1 a2 n2 c2 a3 n3 c3 a4 n4 c4 a5 n5 c5 a6 n6 c6 a8 n8 c8 a9 n9 c9,q=.returned (.agg #[iv s.tx,.slice a1 n1 c1,.slice a2 n2 c2,.slice a3 n3 c3,.slice a4 n4 c4,.slice a5 n5 c5,.slice a6 n6 c6,iv s.cur,.slice a8 n8 c8,.slice a9 n9 c9])/\n8=s.vs.length/\Za w' a8 8 (s.vs.map VersionD.cs)/\s.vs.length<=c8
 bel:Bw w w'
theorem jqs(s:StoreD)(v:Value)(w:World)(hv:Jd w v s)(hm:Zr s):
  Cl 56 #[v] w (CopS s w):=by
 obtain⟨a,b,c,d,e,f,va,ia,ca,cb,cc,cd,ce,cf,cv,ci,rfl,hN,hW,hV,hX,_,_⟩:=hv.form
 obtain⟨tx,now,was,cur,vs,ix⟩:=s
 obtain⟨m1,m2,m3,m4,m5⟩:=hm
 simp only at *
 have ag:Bw w ((w.alloc (.cells (stA ⟨tx,now,was,cur,vs,ix⟩ a b c d e f va ia ca cb cc cd ce cf cv ci).toArray 42)).alloc (.cells #[iv 0,nS,nS,nS,nS,nS,nS,iv 0,nS,nS] 42)):=(qal _ _).alloc (by simp) _
 have A0:Zh ((w.alloc (.cells (stA ⟨tx,now,was,cur,vs,ix⟩ a b c d e f va ia ca cb cc cd ce cf cv ci).toArray 42)).alloc (.cells #[iv 0,nS,nS,nS,nS,nS,nS,iv 0,nS,nS] 42)) w.heap.size (stA ⟨tx,now,was,cur,vs,ix⟩ a b c d e f va ia ca cb cc cd ce cf cv ci):=(Zh.new w (stA ⟨tx,now,was,cur,vs,ix⟩ a b c d e f va ia ca cb cc cd ce cf cv ci) 42).below (qal _ _)
 have R0:Zh ((w.alloc (.cells (stA ⟨tx,now,was,cur,vs,ix⟩ a b c d e f va ia ca cb cc cd ce cf cv ci).toArray 42)).alloc (.cells #[iv 0,nS,nS,nS,nS,nS,nS,iv 0,nS,nS] 42)) (w.heap.size+1) [iv 0,nS,nS,nS,nS,nS,nS,iv 0,nS,nS]:=by have h:=Zh.new (w.alloc (.cells (stA ⟨tx,now,was,cur,vs,ix⟩ a b c d e f va ia ca cb cc cd ce cf cv ci).toArray 42)) [iv 0,nS,nS,nS,nS,nS,nS,iv 0,nS,nS] 42;simpa using h
 have q1:=fun w h=>jc3 now a b c ca cb cc w h m1.sm
 have q2:=fun w h=>jc3 was d e f cd ce cf w h m2.sm
 have q3:=fun w h=>jmp (vs.map VersionD.cs) (jlb (cs:=VersionD.cs) (fun _=>rfl) vs) jup va vs.length cv w h (by simp) m4
 have q4:=fun w h=>jq7 (ix.map EntryD.cs) (jlb (cs:=EntryD.cs) (fun _=>rfl) ix) jbn ia ix.length ci w h (by simp) m5
 clear m1 m2 m3 hv
 have HN:=hid hN
 have HW:=hid hW
 have HV:=hid hV
 have HX:=hid hX
 clear hN hW hV hX
 unfold Cl;go_in
 have Ah:=A0.c 1 rfl
 have oZ:=A0.f 1 rfl
 have Ai:=A0.c 2 rfl
 have pc:=A0.f 2 rfl
 have Aj:=A0.c 3 rfl
 have pd:=A0.f 3 rfl
 go_wp2_with fail
 refine(q1 _ (HN.out.below ag)).mono ?_
 rintro e w1 hP
 obtain⟨a1,n1,c1,a2,n2,c2,a3,n3,c3,hq⟩:=hP.ex
 subst hq
 have bg:=hP.bel
 have aj:=qtr ag bg
 have A1:=A0.below bg
 have R1:=R0.below bg
 clear A0 R0 ag bg
 clear Ah oZ Ai pc Aj pd
 have Ah:=A1.c 1 rfl
 have oZ:=A1.f 1 rfl
 have Ai:=A1.c 2 rfl
 have pc:=A1.f 2 rfl
 have Aj:=A1.c 3 rfl
 have pd:=A1.f 3 rfl
 have IT:=A1.c 4 rfl
 have Ap:=A1.f 4 rfl
 have IU:=A1.c 5 rfl
 have Aq:=A1.f 5 rfl
 have IV:=A1.c 6 rfl
 have Ar:=A1.f 6 rfl
 go_wp2_with fail
 clear Ah oZ Ai pc Aj pd IT Ap IU Aq IV Ar
 have A2:=(((A1.set (j:=1) (.slice a1 n1 c1)).set (j:=2) (.slice a2 n2 c2)).set (j:=3) (.slice a3 n3 c3))
 have R2:=(((R1.other (b2:=w.heap.size) (j:=1) (by omega) (.slice a1 n1 c1)).other (b2:=w.heap.size) (j:=2) (by omega) (.slice a2 n2 c2)).other (b2:=w.heap.size) (j:=3) (by omega) (.slice a3 n3 c3))
 have an:=(bst (w.heap.size) 3 (.slice a3 n3 c3) (by omega) (bst (w.heap.size) 2 (.slice a2 n2 c2) (by omega) (bst (w.heap.size) 1 (.slice a1 n1 c1) (by omega) aj)))
 clear A1 R1 aj
 generalize (((w1.setCell (ad w.heap.size 1) (.slice a1 n1 c1)).setCell (ad w.heap.size 2) (.slice a2 n2 c2)).setCell (ad w.heap.size 3) (.slice a3 n3 c3))=wB at *
 refine(q2 _ (HW.out.below an)).mono ?_
 rintro e w2 iB
 obtain⟨a4,n4,c4,a5,n5,c5,a6,n6,c6,hq⟩:=iB.ex
 subst hq
 have ac:=iB.bel
 have ax:=qtr an ac
 have A3:=A2.below ac
 have R3:=R2.below ac
 clear A2 R2 an ac
 have IN:=A3.c 4 rfl
 have Ak:=A3.f 4 rfl
 have IP:=A3.c 5 rfl
 have Al:=A3.f 5 rfl
 have IQ:=A3.c 6 rfl
 have Am:=A3.f 6 rfl
 have IW:=A3.c 8 rfl
 have As:=A3.f 8 rfl
 go_wp2_with fail
 clear IN Ak IP Al IQ Am IW As
 have A4:=(((A3.set (j:=4) (.slice a4 n4 c4)).set (j:=5) (.slice a5 n5 c5)).set (j:=6) (.slice a6 n6 c6))
 have R4:=(((R3.other (b2:=w.heap.size) (j:=4) (by omega) (.slice a4 n4 c4)).other (b2:=w.heap.size) (j:=5) (by omega) (.slice a5 n5 c5)).other (b2:=w.heap.size) (j:=6) (by omega) (.slice a6 n6 c6))
 have aR:=(bst (w.heap.size) 6 (.slice a6 n6 c6) (by omega) (bst (w.heap.size) 5 (.slice a5 n5 c5) (by omega) (bst (w.heap.size) 4 (.slice a4 n4 c4) (by omega) ax)))
 clear A3 R3 ax
 generalize (((w2.setCell (ad w.heap.size 4) (.slice a4 n4 c4)).setCell (ad w.heap.size 5) (.slice a5 n5 c5)).setCell (ad w.heap.size 6) (.slice a6 n6 c6))=wC at *
 refine(q3 _ (HV.out.below aR)).mono ?_
 rintro e w3 ⟨v3,rfl,pm,aD⟩
 obtain⟨a8,c8,S3,s8,BT⟩:=jbe (rows:=vs.map VersionD.cs) (by rw[llm];exact pm) (jlb (cs:=VersionD.cs) (fun _=>rfl) vs)
 rw[llm]at S3 BT
 subst S3
 obtain⟨n8,Ck⟩:=qeb vs.length
 have RK:Hid (n8=vs.length/\vs.length<=c8):=⟨Ck.symm,BT⟩
 rw[Ck]at pm ⊢
 have e8:∀g o,a8=some (ad g o)->w.heap.size+1<g:=fun g o h=>by
  have h1:=(World.ownsRow.lt pm g (by rw[h];rfl)).1
  have h2:w.heap.size+1<_:=qbl (R4.c 0 rfl)
  omega
 clear pm Ck BT
 have bG:=qtr aR aD
 have A5:=A4.below aD
 have R5:=R4.below aD
 clear A4 R4 aR aD
 have IR:=A5.c 8 rfl
 have An:=A5.f 8 rfl
 have IX:=A5.c 9 rfl
 have Au:=A5.f 9 rfl
 go_wp2_with fail
 clear IR An IX Au
 have A6:=(A5.set (j:=8) (.slice a8 n8 c8))
 have R6:=(R5.other (b2:=w.heap.size) (j:=8) (by omega) (.slice a8 n8 c8))
 have cp:=(bst (w.heap.size) 8 (.slice a8 n8 c8) (by omega) bG)
 have S6:=s8.set (b:=w.heap.size) (i:=8) (v:=.slice a8 n8 c8) (fun g o h=>by have:=e8 g o h;omega)
 clear s8
 clear A5 R5 bG
 generalize (w3.setCell (ad w.heap.size 8) (.slice a8 n8 c8))=wD at *
 refine(q4 _ (HX.out.below cp)).mono ?_
 rintro e w4 ⟨v4,rfl,RQ,hb6⟩
 obtain⟨a9,n9,c9,rfl⟩:=jad RQ
 clear RQ
 have dz:=qtr cp hb6
 have A7:=A6.below hb6
 have S7:=S6.below hb6
 clear S6
 have R7:=R6.below hb6
 clear A6 R6 cp hb6
 have OH:=A7.c 9 rfl
 have IS:=A7.f 9 rfl
 have OZ:=A7.set (j:=9) (.slice a9 n9 c9)
 have RZ:=R7.other (b2:=w.heap.size) (j:=9) (by omega) (.slice a9 n9 c9)
 have z0:=OZ.c 0 rfl
 have y0:=RZ.c 0 rfl
 have Ns:=RZ.f 0 rfl
 have z1:=OZ.c 1 rfl
 have y1:=RZ.c 1 rfl
 have Nt:=RZ.f 1 rfl
 have z2:=OZ.c 2 rfl
 have y2:=RZ.c 2 rfl
 have Nu:=RZ.f 2 rfl
 have z3:=OZ.c 3 rfl
 have y3:=RZ.c 3 rfl
 have Nv:=RZ.f 3 rfl
 have z4:=OZ.c 4 rfl
 have y4:=RZ.c 4 rfl
 have Nw:=RZ.f 4 rfl
 have z5:=OZ.c 5 rfl
 have y5:=RZ.c 5 rfl
 have Nx:=RZ.f 5 rfl
 have z6:=OZ.c 6 rfl
 have y6:=RZ.c 6 rfl
 have Ny:=RZ.f 6 rfl
 have z7:=OZ.c 7 rfl
 have y7:=RZ.c 7 rfl
 have Nz:=RZ.f 7 rfl
 have z8:=OZ.c 8 rfl
 have y8:=RZ.c 8 rfl
 have NA:=RZ.f 8 rfl
 have z9:=OZ.c 9 rfl
 have y9:=RZ.c 9 rfl
 have NB:=RZ.f 9 rfl
 have RF:=((((((((((RZ.set (j:=0) (iv tx)).set (j:=1) (.slice a1 n1 c1)).set (j:=2) (.slice a2 n2 c2)).set (j:=3) (.slice a3 n3 c3)).set (j:=4) (.slice a4 n4 c4)).set (j:=5) (.slice a5 n5 c5)).set (j:=6) (.slice a6 n6 c6)).set (j:=7) (iv cur)).set (j:=8) (.slice a8 n8 c8)).set (j:=9) (.slice a9 n9 c9))
 have z8:∀g o,a8=some (ad g o)->g≠w.heap.size+1:=fun g o h=>by have:=e8 g o h;omega
 have I3:Hid (Za _ a8 8 (vs.map VersionD.cs)):=((((((((((S7.set (b:=w.heap.size) (i:=9) (v:=.slice a9 n9 c9) (fun g o h=>by have:=e8 g o h;omega)).set (b:=w.heap.size+1) (i:=0) (v:=iv tx) z8).set (b:=w.heap.size+1) (i:=1) (v:=.slice a1 n1 c1) z8).set (b:=w.heap.size+1) (i:=2) (v:=.slice a2 n2 c2) z8).set (b:=w.heap.size+1) (i:=3) (v:=.slice a3 n3 c3) z8).set (b:=w.heap.size+1) (i:=4) (v:=.slice a4 n4 c4) z8).set (b:=w.heap.size+1) (i:=5) (v:=.slice a5 n5 c5) z8).set (b:=w.heap.size+1) (i:=6) (v:=.slice a6 n6 c6) z8).set (b:=w.heap.size+1) (i:=7) (v:=iv cur) z8).set (b:=w.heap.size+1) (i:=8) (v:=.slice a8 n8 c8) z8).set (b:=w.heap.size+1) (i:=9) (v:=.slice a9 n9 c9) z8
 have yA:Hid (Bw w _):=(bst (w.heap.size+1) 9 (.slice a9 n9 c9) (by omega) (bst (w.heap.size+1) 8 (.slice a8 n8 c8) (by omega) (bst (w.heap.size+1) 7 (iv cur) (by omega) (bst (w.heap.size+1) 6 (.slice a6 n6 c6) (by omega) (bst (w.heap.size+1) 5 (.slice a5 n5 c5) (by omega) (bst (w.heap.size+1) 4 (.slice a4 n4 c4) (by omega) (bst (w.heap.size+1) 3 (.slice a3 n3 c3) (by omega) (bst (w.heap.size+1) 2 (.slice a2 n2 c2) (by omega) (bst (w.heap.size+1) 1 (.slice a1 n1 c1) (by omega) (bst (w.heap.size+1) 0 (iv tx) (by omega) (bst (w.heap.size) 9 (.slice a9 n9 c9) (by omega) dz)))))))))))
 obtain⟨t0,t1,t2,t3,t4,t5,t6,t7,t8,t9⟩:=RF.ten
 clear RF OZ RZ A7 R7 dz S7
 go_wp2
 exact bpr (v:=.agg #[iv tx,.slice a1 n1 c1,.slice a2 n2 c2,.slice a3 n3 c3,.slice a4 n4 c4,.slice a5 n5 c5,.slice a6 n6 c6,iv cur,.slice a8 n8 c8,.slice a9 n9 c9]) (by simp[results,Tryz.results56,go_sem,t0,t1,t2,t3,t4,t5,t6,t7,t8,t9]) rfl ⟨⟨_,_,_,_,_,_,_,_,_,_,_,_,_,_,_,_,_,_,_,_,_,_,_,_,rfl,RK.out.1,I3.out,RK.out.2⟩,yA.out⟩
