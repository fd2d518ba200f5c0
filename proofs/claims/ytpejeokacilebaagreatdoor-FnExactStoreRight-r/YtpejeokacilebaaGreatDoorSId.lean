import Derived.Test.YtpejeokacilebaaGreatDoorSHd
import Derived.Test.YtpejeokacilebaaGreatDoorShelfX
set_option maxRecDepth 20000
set_option maxHeartbeats 0
set_option linter.unusedSimpArgs false
open Go.RowKit
namespace Go.Proofs.YtpejeokacilebaaGreatDoor
section
open Go.RowKit Go.ChangeMaps Go.MapKept Go.WideMaps
def jov(s:StoreD):Bool:=jk5 s&&(txB s.vs s.tx&&(jdq s.vs s.vs.length&&jnr s (jan s.vs)))
def storeI(s:StoreD):Bool:=jov s&&eqX s.ix (entF (momB s) (jan s.vs))
theorem jy6{w:World}{base:Nat}{v:Value}{L:List EntryD}(h:Zb w base v L):w.ownsRow base 57 2 v (L.map EntryD.cs).length (L.map EntryD.cs).flatten:=by rw[llm];exact h
theorem jyh{l:List VersionD}{t:Int}(h:txB l t=true):∀v∈l,jbm v.ev=true:=fun v hv=>by
 obtain⟨k,hk⟩:=lgo hv
 unfold txB at h
 rw[bat]at h
 cases hx:txI l t k v
 ·have:=juu hk hx (n:=l.length) (List.getElem?_eq_some_iff.1 hk).1
  rw[h.2]at this
  cases this
 ·unfold txI at hx
  simp only[bat]at hx
  exact hx.2.2
theorem jq1{e:EventD}(h:jbm e=true):(1<=e.id/\e.id<=1000000)/\jaz e.zone=true/\isB e.wall (-62135596800) 253402300799=true/\isB e.gap 0 2=true/\isB e.fold 0 2=true:=by
 unfold jbm at h
 simp only[bat]at h
 exact⟨jax h.1,h.2.2⟩
theorem j23{l:List VersionD}{t:Int}(h:txB l t=true):∀v∈l,1<=v.id/\v.id<=1000000:=fun v hv=>(jq1 (jyh h v hv)).1
end
theorem js1{w:World}{a:Option Addr}{zs:List ZoneD}(h:Zo w a zs):∃rows:List (List Value),rows.length=zs.length/\Za w a 2 rows/\(∀r∈rows,r.length=2)/\(∀u∈rows.flatten,u.oneCell'=true)/\∀(j:Nat) z,zs[j]? =some z->∃v,rows[j]? =some [.string z.name,v]/\Jf w v z.eras:=by
 rcases h with rfl|⟨b,o,ha,hc⟩
 ·exact⟨[],rfl,.inl rfl,fun r hr=>by simp at hr,fun u hu=>by simp at hu,fun j z hz=>by simp at hz⟩
 obtain⟨rows,hl,hp⟩:=jfc (P:=fun i r=>∃z v,zs[i]? =some z/\r=[Value.string z.name,v]/\w.cell? (ad b (o+i*2))=some (.string z.name)/\w.cell? (ad b (o+i*2+1))=some v/\Jf w v z.eras) zs.length (fun i hi=>by
  have hz:zs[i]? =some zs[i]:=lgg hi
  obtain⟨c0,v,c1,hE⟩:=hc i _ hz
  exact⟨_,zs[i],v,hz,rfl,c0,c1,hE⟩)
 refine⟨rows,hl,.inr ⟨b,o,ha,fun i j r c hr hj=>?_⟩,fun r hr=>?_,fun u hu=>?_,fun j z hz=>?_⟩
 ·obtain⟨z,v,_,rfl,c0,c1,_⟩:=hp i r hr
  match j,hj with
  |0,hj=>simp at hj;subst hj;exact c0
  |1,hj=>simp at hj;subst hj;exact c1
  |j+2,hj=>simp at hj
 ·obtain⟨i,hi⟩:=lgo hr
  obtain⟨z,v,_,rfl,_⟩:=hp i r hi
  rfl
 ·obtain⟨r,hr,KL⟩:=List.mem_flatten.mp hu
  obtain⟨i,hi⟩:=lgo hr
  obtain⟨z,v,_,rfl,_,_,a2,c2,rfl,_⟩:=hp i r hi
  simp at KL
  rcases KL with rfl|rfl<;>rfl
 ·have hj:=(List.getElem?_eq_some_iff.1 hz).1
  have hr:rows[j]? =some rows[j]:=lgg (by omega)
  obtain⟨z2,v,aF,he,_,_,hE⟩:=hp j _ hr
  rw[hz]at aF
  obtain rfl:=osi aF
  exact⟨v,by rw[hr,he],hE⟩
structure ZonP(w wr:World)(zs:List ZoneD)(B i:Nat)(v:Value)(n:Nat):Prop where
 own:∃xs,wr.ownsRow B 81 2 v n xs/\∀(j:Nat) z,i<=j->zs[j]? =some z->∃u,xs[j*2+1]? =some u/\Jf w u z.eras
structure CopP(w:World)(q:Ending)(w':World):Prop where
 ex:∃a n c a2 n2 c2 a3 n3 c3,q=.returned (.agg #[.slice a n c,.slice a2 n2 c2,.slice a3 n3 c3])
 bel:Bw w w'
theorem jc3(r:RelD)(a b c:Option Addr)(ca cb cc:Nat)(w:World)(hv:Zd w (.agg #[.slice a r.rules.length ca,.slice b r.zones.length cb,.slice c r.links.length cc]) r)(sm:r.small):
  Cl 80 #[.agg #[.slice a r.rules.length ca,.slice b r.zones.length cb,.slice c r.links.length cc]] w (CopP w):=by
 obtain⟨a',b',c',Rf,Rg,Rh,he,hA,hZ,hC⟩:=hv.form
 injection he with he
 simp only[List.toArray_inj,List.cons.injEq,Value.slice.injEq,true_and,and_true,Array.mk.injEq]at he
 obtain⟨⟨rfl,rfl⟩,⟨rfl,rfl⟩,rfl,rfl⟩:=he
 obtain⟨m1,m2,m3,m4⟩:=sm
 obtain⟨rs,zs,ls⟩:=r
 simp only at *
 obtain⟨rows,hl,hq,r2,r1,ap⟩:=js1 hZ
 have ag:Bw w ((w.alloc (.cells #[.slice a rs.length ca,.slice b zs.length cb,.slice c ls.length cc] 37)).alloc (.cells #[nS,nS,nS] 37)):=(qal _ _).alloc (by simp) _
 have X0:Zh ((w.alloc (.cells #[.slice a rs.length ca,.slice b zs.length cb,.slice c ls.length cc] 37)).alloc (.cells #[nS,nS,nS] 37)) w.heap.size [.slice a rs.length ca,.slice b zs.length cb,.slice c ls.length cc]:=(Zh.new w [.slice a rs.length ca,.slice b zs.length cb,.slice c ls.length cc] 37).below (qal _ _)
 have O0:Zh ((w.alloc (.cells #[.slice a rs.length ca,.slice b zs.length cb,.slice c ls.length cc] 37)).alloc (.cells #[nS,nS,nS] 37)) (w.heap.size+1) [nS,nS,nS]:=by
  have h:=Zh.new (w.alloc (.cells #[.slice a rs.length ca,.slice b zs.length cb,.slice c ls.length cc] 37)) [nS,nS,nS] 37
  simpa using h
 have dP:((w.alloc (.cells #[.slice a rs.length ca,.slice b zs.length cb,.slice c ls.length cc] 37)).alloc (.cells #[nS,nS,nS] 37)).heap.size=w.heap.size+1+1:=by simp
 have vE:=fun w h=>jt5 rows r2 r1 b zs.length cb w h hl m2
 have vD:=fun w h=>jt6 (rs.map RuleD.cs) (jlb (cs:=RuleD.cs) (fun _=>rfl) rs) js0 a rs.length ca w h (by simp) m1
 have Di:=fun w h=>jt7 (ls.map LinkD.cs) (jlb (cs:=LinkD.cs) (fun _=>rfl) ls) jti c ls.length cc w h (by simp) m3
 have HR:=hid ap
 have HM:=hid m4
 have HA:=hid hA
 have HC:=hid hC
 have HF:Hid (∀(j:Nat) z v,zs[j]? =some z->rows[j]? =some [.string z.name,v]->rows.flatten[j*2+1]? =some v):=fun j z v _ hr=>ja3 r2 hr rfl
 have x1:=X0.c 1 (u:=.slice b zs.length cb) rfl
 have sJ:=hq.below ag
 clear hv hZ hA hC ap m4 hq r1 r2 hl
 generalize Cq:zs.length=nz at *
 have HN:=hid Cq
 clear Cq
 unfold Cl;go_in
 go_wp2_with fail
 refine(vE _ sJ).mono ?_
 rintro q w1 ⟨zv,rfl,dW,hb1⟩
 rw[dP]at dW
 obtain⟨pz,mz,cz,rfl⟩:=jad dW
 have Ng:mz=nz:=by
  rcases dW.2 with⟨h1,h2⟩|⟨_,_,_,h1,_⟩
  ·injection h1 with _ h1 _;omega
  ·injection h1
 subst Ng
 have aj:=qtr ag hb1
 have X1:=X0.below hb1
 have O1:=O0.below hb1
 have j8:ZonP w w1 zs (w.heap.size+1+1) 0 (.slice pz mz cz) mz:=⟨_,dW,fun j z _ hz=>by
  obtain⟨v,hr,hE⟩:=HR.out j z hz
  exact⟨v,HF.out j z v hz hr,hE⟩⟩
 have HX:=hid X1
 have HO:=hid O1
 clear vE sJ dW hb1 x1 X0 O0 dP HR HF X1 O1 ag
 go_wp2
 go_loopw [4,10] (fun _ mY wr=>∃i:Nat,i<=mz/\mY=iv i/\Hid (ZonP w wr zs (w.heap.size+1+1) i (.slice pz mz cz) mz)/\Hid (Zh wr w.heap.size [.slice a rs.length ca,.slice b mz cb,.slice c ls.length cc])/\Hid (Zh wr (w.heap.size+1) [nS,nS,nS])/\Bw w wr/\Hid (w.heap.size+1+1<=wr.heap.size)) (fun _ mY _=>mz-(intOf mY).toNat)
 case atStart=>exact⟨0,by omega,rfl,j8,HX,HO,aj,by have:=qbl (HO.out.c 0 (u:=nS) rfl);exact this⟩
 case round=>
  obtain⟨wa,dS⟩:=qea wr
  subst dS
  obtain⟨i,hi,rfl,HZ,uN,xY,iy,HS⟩:=hrel
  clear j8 HX HO aj
  by_cases hlt:i<mz
  ·have a1:(i:Int)<(mz:Int):=by omega
   have a0:(0:Int)<=(i:Int):=by omega
   obtain⟨z,hz⟩:∃z,zs[i]? =some z:=⟨_,lgg (by have:=HN.out;omega)⟩
   obtain⟨xs,hO,hx⟩:=HZ.out.own
   obtain⟨u,hu,ea,ec,NZ,hE⟩:=hx i z (nlr _) hz
   subst NZ
   have vu:∃g,pz=some (ad g 0):=by
    rcases hO.2 with⟨h1,h2⟩|⟨g,_,_,h1,_⟩
    ·omega
    ·injection h1 with h1 _ _;exact⟨g,h1⟩
   obtain⟨g,rfl⟩:=vu
   have hc:wa.cell? (ad g (i*2+1))=some (.slice ea z.eras.length ec):=by rw[hO.cellAt (i*2+1) (by omega)];exact hu
   have K7:=(World.ownsRow.lt hO g rfl).1
   have vC:=jxr (z.eras.map EraD.cs) (jlb (cs:=EraD.cs) (fun _=>rfl) z.eras) jxg ea z.eras.length ec wa (hE.below iy) (by simp) (HM.out z (lmg hz))
   have LS:=hid hx
   have yS:=hid hO
   clear hx hO hu hE hz
   generalize z.eras.length=ne at *
   go_wp2_with fail
   refine vC.mono ?_
   rintro q w2 ⟨v2,rfl,aW,ac⟩
   obtain⟨p2,ui,c2,rfl⟩:=jad aW
   have uB:=jac yS.out ac
   have cU:=jaa ac hc
   have eE:=uB.frozenAt (i*2+1)
   have ei:=uB.stored (i*2+1) (.slice p2 ui c2)
   have an:=qtr iy ac
   have LW:Hid (ZonP w (w2.setCell (ad g (i*2+1)) (.slice p2 ui c2)) zs (w.heap.size+1+1) (i+1) (so g mz cz) mz):=⟨_,ei.1,fun j z hj hz=>by
    obtain⟨u,h1,h2⟩:=LS.out j z (by omega) hz
    exact⟨u,by rw[List.getElem?_set_ne (by omega)];exact h1,h2⟩⟩
   have LT:Hid (Zh (w2.setCell (ad g (i*2+1)) (.slice p2 ui c2)) w.heap.size [.slice a rs.length ca,.slice b mz cb,.slice c ls.length cc]):=(uN.out.below ac).other (by omega) _
   have BC:Hid (Zh (w2.setCell (ad g (i*2+1)) (.slice p2 ui c2)) (w.heap.size+1) [nS,nS,nS]):=(xY.out.below ac).other (by omega) _
   have ax:Bw w (w2.setCell (ad g (i*2+1)) (.slice p2 ui c2)):=an.setCell (show w.heap.size<=g by omega) _
   have yU:Hid (w.heap.size+1+1<=(w2.setCell (ad g (i*2+1)) (.slice p2 ui c2)).heap.size):=by have h1:=HS.out;have h2:=ac.size;simp only[Hid,World.size_setCell];omega
   clear ei uB aW ac an iy hc vC uN xY HZ
   go_wp2
   go_roundw
   case rel=>exact⟨i+1,by omega,by go_num,LW,LT,BC,ax,yU⟩
   case measure=>simp[intOf];omega
  ·obtain rfl:i=mz:=by omega
   have x0:wa.drew.cell? (ad w.heap.size 0)=some (.slice a rs.length ca):=uN.out.c 0 (u:=.slice a rs.length ca) rfl
   have x2:wa.drew.cell? (ad w.heap.size 2)=some (.slice c ls.length cc):=uN.out.c 2 (u:=.slice c ls.length cc) rfl
   have LL:Hid (Zh wa.drew (w.heap.size+1) [nS,nS,nS]):=xY.out.below (jab wa)
   have bY:Bw w wa.drew:=iy.trans ((jab wa).mono iy.size)
   have tT:=vD wa.drew (HA.out.below bY)
   have qs:=hid bY
   clear bY iy vD uN xY HZ
   go_wp2_with fail
   go_region_held3 (fun w'=>w'.cell? (ad w.heap.size 0)=some (.slice a rs.length ca)/\w'.cell? (ad w.heap.size 2)=some (.slice c ls.length cc)) (go_keep) (first|(go_at_call 111;refine tT.mono ?_;rintro q w3 ⟨v3,rfl,dE,ar⟩;obtain⟨p3,Fg,c3,rfl⟩:=jad dE;clear dE;have QX:=jaa ar x0;have Ra:=jaa ar x2;have lx:=Di w3 (HC.out.below (qtr qs.out ar)))|(go_at_call 112;refine lx.mono ?_;rintro q w4 ⟨v4,rfl,dX,aD⟩;obtain⟨p4,Fh,c4,rfl⟩:=jad dX;clear dX;have Sx:=jaa aD QX;have Sz:=jaa aD Ra;have O4:=(LL.out.below ar).below aD;have o0:=O4.c 0 (u:=nS) rfl;have o1:=O4.c 1 (u:=nS) rfl;have o2:=O4.c 2 (u:=nS) rfl;have f0:=O4.f 0 (u:=nS) rfl;have f1:=O4.f 1 (u:=nS) rfl;have f2:=O4.f 2 (u:=nS) rfl))
   all_goals
    have ax:=qtr qs.out ar
    have aR:=qtr ax aD
    obtain⟨t0,t1,t2⟩:=jne (v0:=.slice p3 Fg c3) (v1:=.slice pz i cz) (v2:=.slice p4 Fh c4) o0 o1 o2
    have lM:Hid (Bw w (((w4.setCell (ad (w.heap.size+1) 0) (.slice p3 Fg c3)).setCell (ad (w.heap.size+1) 1) (.slice pz i cz)).setCell (ad (w.heap.size+1) 2) (.slice p4 Fh c4))):=((aR.setCell (show w.heap.size<=w.heap.size+1 by omega) _).setCell (show w.heap.size<=w.heap.size+1 by omega) _).setCell (show w.heap.size<=w.heap.size+1 by omega) _
    clear ax aR ar aD lx O4
    go_wp2
    exact bpr (v:=.agg #[.slice p3 Fg c3,.slice pz i cz,.slice p4 Fh c4]) (by simp[results,Tryz.results80,go_sem,t0,t1,t2]) rfl ⟨⟨_,_,_,_,_,_,_,_,_,rfl⟩,lM.out⟩
theorem Za.set{w:World}{a:Option Addr}{k b i:Nat}{v:Value}{rows:List (List Value)}(h:Za w a k rows)(hn:∀g o,a=some (ad g o)->g≠b):Za (w.setCell (ad b i) v) a k rows:=by
 rcases h with h|⟨g,o,rfl,h⟩
 ·exact .inl h
 ·exact .inr ⟨g,o,rfl,fun x y r c hx hy=>(wco _ _ _ _ (fun e=>by injection e with e;exact hn g o rfl e.symm)).trans (h x y r c hx hy)⟩
structure CopS(s:StoreD)(w:World)(q:Ending)(w':World):Prop where
 ex:∃a1 n1 c1 a2 n2 c2 a3 n3 c3 a4 n4 c4 a5 n5 c5 a6 n6 c6 a8 n8 c8 a9 n9 c9,q=.returned (.agg #[iv s.tx,.slice a1 n1 c1,.slice a2 n2 c2,.slice a3 n3 c3,.slice a4 n4 c4,.slice a5 n5 c5,.slice a6 n6 c6,iv s.cur,.slice a8 n8 c8,.slice a9 n9 c9])/\n8=s.vs.length/\Za w' a8 8 (s.vs.map VersionD.cs)/\s.vs.length<=c8
 bel:Bw w w'
theorem jqs(s:StoreD)(v:Value)(w:World)(hv:Jd w v s)(hm:Zr s):
  Cl 48 #[v] w (CopS s w):=by
 obtain⟨a,b,c,d,e,f,va,ia,ca,cb,cc,cd,ce,cf,cv,ci,rfl,hN,hW,hV,hX,_,_⟩:=hv.form
 obtain⟨tx,now,was,cur,vs,ix⟩:=s
 obtain⟨m1,m2,m3,m4,m5⟩:=hm
 simp only at *
 have ag:Bw w ((w.alloc (.cells (stA ⟨tx,now,was,cur,vs,ix⟩ a b c d e f va ia ca cb cc cd ce cf cv ci).toArray 41)).alloc (.cells #[iv 0,nS,nS,nS,nS,nS,nS,iv 0,nS,nS] 41)):=(qal _ _).alloc (by simp) _
 have A0:Zh ((w.alloc (.cells (stA ⟨tx,now,was,cur,vs,ix⟩ a b c d e f va ia ca cb cc cd ce cf cv ci).toArray 41)).alloc (.cells #[iv 0,nS,nS,nS,nS,nS,nS,iv 0,nS,nS] 41)) w.heap.size (stA ⟨tx,now,was,cur,vs,ix⟩ a b c d e f va ia ca cb cc cd ce cf cv ci):=(Zh.new w (stA ⟨tx,now,was,cur,vs,ix⟩ a b c d e f va ia ca cb cc cd ce cf cv ci) 41).below (qal _ _)
 have R0:Zh ((w.alloc (.cells (stA ⟨tx,now,was,cur,vs,ix⟩ a b c d e f va ia ca cb cc cd ce cf cv ci).toArray 41)).alloc (.cells #[iv 0,nS,nS,nS,nS,nS,nS,iv 0,nS,nS] 41)) (w.heap.size+1) [iv 0,nS,nS,nS,nS,nS,nS,iv 0,nS,nS]:=by have h:=Zh.new (w.alloc (.cells (stA ⟨tx,now,was,cur,vs,ix⟩ a b c d e f va ia ca cb cc cd ce cf cv ci).toArray 41)) [iv 0,nS,nS,nS,nS,nS,nS,iv 0,nS,nS] 41;simpa using h
 have q1:=fun w h=>jc3 now a b c ca cb cc w h m1.sm
 have q2:=fun w h=>jc3 was d e f cd ce cf w h m2.sm
 have q3:=fun w h=>jmp (vs.map VersionD.cs) (jlb (cs:=VersionD.cs) (fun _=>rfl) vs) jup va vs.length cv w h (by simp) m4
 have q4:=fun w h=>jq7 (ix.map EntryD.cs) (jlb (cs:=EntryD.cs) (fun _=>rfl) ix) jbn ia ix.length ci w h (by simp) m5
 clear m1 m2 m3 hv
 have HN:=hid hN
 have HW:=hid hW
 have HV:=hid hV
 have HX:=hid hX
 clear hN hW hV hX
 unfold Cl;go_in
 have Ah:=A0.c 1 rfl
 have oZ:=A0.f 1 rfl
 have Ai:=A0.c 2 rfl
 have pc:=A0.f 2 rfl
 have Aj:=A0.c 3 rfl
 have pd:=A0.f 3 rfl
 go_wp2_with fail
 refine(q1 _ (HN.out.below ag)).mono ?_
 rintro e w1 hP
 obtain⟨a1,n1,c1,a2,n2,c2,a3,n3,c3,hq⟩:=hP.ex
 subst hq
 have bg:=hP.bel
 have aj:=qtr ag bg
 have A1:=A0.below bg
 have R1:=R0.below bg
 clear A0 R0 ag bg
 clear Ah oZ Ai pc Aj pd
 have Ah:=A1.c 1 rfl
 have oZ:=A1.f 1 rfl
 have Ai:=A1.c 2 rfl
 have pc:=A1.f 2 rfl
 have Aj:=A1.c 3 rfl
 have pd:=A1.f 3 rfl
 have IT:=A1.c 4 rfl
 have Ap:=A1.f 4 rfl
 have IU:=A1.c 5 rfl
 have Aq:=A1.f 5 rfl
 have IV:=A1.c 6 rfl
 have Ar:=A1.f 6 rfl
 go_wp2_with fail
 clear Ah oZ Ai pc Aj pd IT Ap IU Aq IV Ar
 have A2:=(((A1.set (j:=1) (.slice a1 n1 c1)).set (j:=2) (.slice a2 n2 c2)).set (j:=3) (.slice a3 n3 c3))
 have R2:=(((R1.other (b2:=w.heap.size) (j:=1) (by omega) (.slice a1 n1 c1)).other (b2:=w.heap.size) (j:=2) (by omega) (.slice a2 n2 c2)).other (b2:=w.heap.size) (j:=3) (by omega) (.slice a3 n3 c3))
 have an:=(bst (w.heap.size) 3 (.slice a3 n3 c3) (by omega) (bst (w.heap.size) 2 (.slice a2 n2 c2) (by omega) (bst (w.heap.size) 1 (.slice a1 n1 c1) (by omega) aj)))
 clear A1 R1 aj
 generalize (((w1.setCell (ad w.heap.size 1) (.slice a1 n1 c1)).setCell (ad w.heap.size 2) (.slice a2 n2 c2)).setCell (ad w.heap.size 3) (.slice a3 n3 c3))=wB at *
 refine(q2 _ (HW.out.below an)).mono ?_
 rintro e w2 iB
 obtain⟨a4,n4,c4,a5,n5,c5,a6,n6,c6,hq⟩:=iB.ex
 subst hq
 have ac:=iB.bel
 have ax:=qtr an ac
 have A3:=A2.below ac
 have R3:=R2.below ac
 clear A2 R2 an ac
 have IN:=A3.c 4 rfl
 have Ak:=A3.f 4 rfl
 have IP:=A3.c 5 rfl
 have Al:=A3.f 5 rfl
 have IQ:=A3.c 6 rfl
 have Am:=A3.f 6 rfl
 have IW:=A3.c 8 rfl
 have As:=A3.f 8 rfl
 go_wp2_with fail
 clear IN Ak IP Al IQ Am IW As
 have A4:=(((A3.set (j:=4) (.slice a4 n4 c4)).set (j:=5) (.slice a5 n5 c5)).set (j:=6) (.slice a6 n6 c6))
 have R4:=(((R3.other (b2:=w.heap.size) (j:=4) (by omega) (.slice a4 n4 c4)).other (b2:=w.heap.size) (j:=5) (by omega) (.slice a5 n5 c5)).other (b2:=w.heap.size) (j:=6) (by omega) (.slice a6 n6 c6))
 have aR:=(bst (w.heap.size) 6 (.slice a6 n6 c6) (by omega) (bst (w.heap.size) 5 (.slice a5 n5 c5) (by omega) (bst (w.heap.size) 4 (.slice a4 n4 c4) (by omega) ax)))
 clear A3 R3 ax
 generalize (((w2.setCell (ad w.heap.size 4) (.slice a4 n4 c4)).setCell (ad w.heap.size 5) (.slice a5 n5 c5)).setCell (ad w.heap.size 6) (.slice a6 n6 c6))=wC at *
 refine(q3 _ (HV.out.below aR)).mono ?_
 rintro e w3 ⟨v3,rfl,pm,aD⟩
 obtain⟨a8,c8,KM,s8,DX⟩:=jbe (rows:=vs.map VersionD.cs) (by rw[llm];exact pm) (jlb (cs:=VersionD.cs) (fun _=>rfl) vs)
 rw[llm]at KM DX
 subst KM
 obtain⟨n8,Ez⟩:=qeb vs.length
 have Gz:Hid (n8=vs.length/\vs.length<=c8):=⟨Ez.symm,DX⟩
 rw[Ez]at pm ⊢
 have e8:∀g o,a8=some (ad g o)->w.heap.size+1<g:=fun g o h=>by
  have h1:=(World.ownsRow.lt pm g (by rw[h];rfl)).1
  have h2:w.heap.size+1<_:=qbl (R4.c 0 rfl)
  omega
 clear pm Ez DX
 have bG:=qtr aR aD
 have A5:=A4.below aD
 have R5:=R4.below aD
 clear A4 R4 aR aD
 have IR:=A5.c 8 rfl
 have An:=A5.f 8 rfl
 have IX:=A5.c 9 rfl
 have Au:=A5.f 9 rfl
 go_wp2_with fail
 clear IR An IX Au
 have A6:=(A5.set (j:=8) (.slice a8 n8 c8))
 have R6:=(R5.other (b2:=w.heap.size) (j:=8) (by omega) (.slice a8 n8 c8))
 have cp:=(bst (w.heap.size) 8 (.slice a8 n8 c8) (by omega) bG)
 have S6:=s8.set (b:=w.heap.size) (i:=8) (v:=.slice a8 n8 c8) (fun g o h=>by have:=e8 g o h;omega)
 clear s8
 clear A5 R5 bG
 generalize (w3.setCell (ad w.heap.size 8) (.slice a8 n8 c8))=wD at *
 refine(q4 _ (HX.out.below cp)).mono ?_
 rintro e w4 ⟨v4,rfl,Ky,hb6⟩
 obtain⟨a9,n9,c9,rfl⟩:=jad Ky
 clear Ky
 have dz:=qtr cp hb6
 have A7:=A6.below hb6
 have S7:=S6.below hb6
 clear S6
 have R7:=R6.below hb6
 clear A6 R6 cp hb6
 have OH:=A7.c 9 rfl
 have IS:=A7.f 9 rfl
 have OZ:=A7.set (j:=9) (.slice a9 n9 c9)
 have RZ:=R7.other (b2:=w.heap.size) (j:=9) (by omega) (.slice a9 n9 c9)
 have z0:=OZ.c 0 rfl
 have y0:=RZ.c 0 rfl
 have Ns:=RZ.f 0 rfl
 have z1:=OZ.c 1 rfl
 have y1:=RZ.c 1 rfl
 have Nt:=RZ.f 1 rfl
 have z2:=OZ.c 2 rfl
 have y2:=RZ.c 2 rfl
 have Nu:=RZ.f 2 rfl
 have z3:=OZ.c 3 rfl
 have y3:=RZ.c 3 rfl
 have Nv:=RZ.f 3 rfl
 have z4:=OZ.c 4 rfl
 have y4:=RZ.c 4 rfl
 have Nw:=RZ.f 4 rfl
 have z5:=OZ.c 5 rfl
 have y5:=RZ.c 5 rfl
 have Nx:=RZ.f 5 rfl
 have z6:=OZ.c 6 rfl
 have y6:=RZ.c 6 rfl
 have Ny:=RZ.f 6 rfl
 have z7:=OZ.c 7 rfl
 have y7:=RZ.c 7 rfl
 have Nz:=RZ.f 7 rfl
 have z8:=OZ.c 8 rfl
 have y8:=RZ.c 8 rfl
 have NA:=RZ.f 8 rfl
 have z9:=OZ.c 9 rfl
 have y9:=RZ.c 9 rfl
 have NB:=RZ.f 9 rfl
 have RF:=((((((((((RZ.set (j:=0) (iv tx)).set (j:=1) (.slice a1 n1 c1)).set (j:=2) (.slice a2 n2 c2)).set (j:=3) (.slice a3 n3 c3)).set (j:=4) (.slice a4 n4 c4)).set (j:=5) (.slice a5 n5 c5)).set (j:=6) (.slice a6 n6 c6)).set (j:=7) (iv cur)).set (j:=8) (.slice a8 n8 c8)).set (j:=9) (.slice a9 n9 c9))
 have z8:∀g o,a8=some (ad g o)->g≠w.heap.size+1:=fun g o h=>by have:=e8 g o h;omega
 have LN:Hid (Za _ a8 8 (vs.map VersionD.cs)):=((((((((((S7.set (b:=w.heap.size) (i:=9) (v:=.slice a9 n9 c9) (fun g o h=>by have:=e8 g o h;omega)).set (b:=w.heap.size+1) (i:=0) (v:=iv tx) z8).set (b:=w.heap.size+1) (i:=1) (v:=.slice a1 n1 c1) z8).set (b:=w.heap.size+1) (i:=2) (v:=.slice a2 n2 c2) z8).set (b:=w.heap.size+1) (i:=3) (v:=.slice a3 n3 c3) z8).set (b:=w.heap.size+1) (i:=4) (v:=.slice a4 n4 c4) z8).set (b:=w.heap.size+1) (i:=5) (v:=.slice a5 n5 c5) z8).set (b:=w.heap.size+1) (i:=6) (v:=.slice a6 n6 c6) z8).set (b:=w.heap.size+1) (i:=7) (v:=iv cur) z8).set (b:=w.heap.size+1) (i:=8) (v:=.slice a8 n8 c8) z8).set (b:=w.heap.size+1) (i:=9) (v:=.slice a9 n9 c9) z8
 have yA:Hid (Bw w _):=(bst (w.heap.size+1) 9 (.slice a9 n9 c9) (by omega) (bst (w.heap.size+1) 8 (.slice a8 n8 c8) (by omega) (bst (w.heap.size+1) 7 (iv cur) (by omega) (bst (w.heap.size+1) 6 (.slice a6 n6 c6) (by omega) (bst (w.heap.size+1) 5 (.slice a5 n5 c5) (by omega) (bst (w.heap.size+1) 4 (.slice a4 n4 c4) (by omega) (bst (w.heap.size+1) 3 (.slice a3 n3 c3) (by omega) (bst (w.heap.size+1) 2 (.slice a2 n2 c2) (by omega) (bst (w.heap.size+1) 1 (.slice a1 n1 c1) (by omega) (bst (w.heap.size+1) 0 (iv tx) (by omega) (bst (w.heap.size) 9 (.slice a9 n9 c9) (by omega) dz)))))))))))
 obtain⟨t0,t1,t2,t3,t4,t5,t6,t7,t8,t9⟩:=RF.ten
 clear RF OZ RZ A7 R7 dz S7
 go_wp2
 exact bpr (v:=.agg #[iv tx,.slice a1 n1 c1,.slice a2 n2 c2,.slice a3 n3 c3,.slice a4 n4 c4,.slice a5 n5 c5,.slice a6 n6 c6,iv cur,.slice a8 n8 c8,.slice a9 n9 c9]) (by simp[results,Tryz.results48,go_sem,t0,t1,t2,t3,t4,t5,t6,t7,t8,t9]) rfl ⟨⟨_,_,_,_,_,_,_,_,_,_,_,_,_,_,_,_,_,_,_,_,_,_,_,_,rfl,Gz.out.1,LN.out,Gz.out.2⟩,yA.out⟩
section
open Go.RowKit Go.ChangeMaps Go.MapKept Go.WideMaps
structure BookO(s:StoreD)(w w':World)(bb lb:Nat)(a8:Option Addr)(c8:Nat):Prop where
 ex:∃nm wm k w0 a b c d e f ca cb cc cd ce cf,Zl [(0,iv s.tx),(8,.slice a8 s.vs.length c8)] w0 w' s bb lb nm wm k k a b c d e f ca cb cc cd ce cf/\k<=30/\Bw w w0/\Zx w0/\Zd w0 (.agg #[.slice a s.now.rules.length ca,.slice b s.now.zones.length cb,.slice c s.now.links.length cc]) s.now/\Zd w0 (.agg #[.slice d s.was.rules.length cd,.slice e s.was.zones.length ce,.slice f s.was.links.length cf]) s.was/\nm≠lb/\wm≠lb/\relB s.now=true/\relB s.was=true
structure OpenP(s:StoreD)(w:World)(q:Ending)(w':World):Prop where
 ex:∃x,q=.returned (.tuple #[.pointer x,.bool (storeI s)])/\(storeI s=true->∃bb lb n a8 c8,x=some (ad bb 0)/\w'.cell? (ad bb 10)=some (.map (some lb))/\Zm w' lb n (jch s.vs)/\w'.cell? (ad bb 0)=some (iv s.tx)/\w'.cell? (ad bb 8)=some (.slice a8 s.vs.length c8)/\Za w' a8 8 (s.vs.map VersionD.cs)/\s.vs.length<=c8/\BookO s w w' bb lb a8 c8)
 bel:Bw w w'
theorem ji8(hS:SortC)(s:StoreD)(v:Value)(w:World)(hE:Zx w)(hv:Jd w v s)(ok:Zr s):
  Cl 22 #[v] w (OpenP s w):=by
 have dQ:=hv
 obtain⟨a,b,c,d,e,f,va,ia,ca,cb,cc,cd,ce,cf,cv,ci,rfl,hN,hW,hV,hX,_,_⟩:=hv.form
 have ag:=qal w (.cells (stA s a b c d e f va ia ca cb cc cd ce cf cv ci).toArray 41)
 have A0:=Zh.new w (stA s a b c d e f va ia ca cb cc cd ce cf cv ci) 41
 have q1:=fun w hE h=>jjc s (.agg (stA s a b c d e f va ia ca cb cc cd ce cf cv ci).toArray) w hE h ok
 have q2:=fun w h=>jfv s.vs s.tx s.cur a b c d e f va ia s.now.rules.length ca s.now.zones.length cb s.now.links.length cc s.was.rules.length cd s.was.zones.length ce s.was.links.length cf s.vs.length cv s.ix.length ci w h ok.vs rfl ok.vl
 skip
 have HV:=hid hV
 have HX:=hid hX
 have HN:=hid hN
 have HW:=hid hW
 clear hV hX hN hW hv
 obtain⟨x0,x1,x2,x3,x4,x5,x6,x7,x8,x9⟩:=A0.ten
 unfold Cl;go_in
 go_wp2_with fail
 refine(q1 _ (hE.of_below ag) (dQ.below ag)).mono ?_
 rintro e1 w1 ⟨rfl,hb1⟩
 have aj:=qtr ag hb1
 have A1:=A0.below hb1
 clear hb1 A0 q1 x0 x1 x2 x3 x4 x5 x6 x7 x8 x9
 cases h1:jk5 s
 case false=>
  have HR:Hid (storeI s=false):=by simp[Hid,storeI,jov,h1]
  go_wp2
  go_ret2
  exact⟨⟨none,by rw[HR.out];rfl,fun h=>by rw[HR.out]at h;cases h⟩,aj⟩
 have hr:relB s.now=true/\relB s.was=true:=by
  unfold jk5 at h1
  simp only[bat]at h1
  exact h1.2
 obtain⟨oG,dC⟩:=hr
 obtain⟨x0,x1,x2,x3,x4,x5,x6,x7,x8,x9⟩:=A1.ten
 go_wp2_with fail
 refine(q2 _ (HV.out.below aj)).mono ?_
 rintro e2 w2 ⟨rfl,ac⟩
 have an:=qtr aj ac
 have A2:=A1.below ac
 clear ac A1 q2 x0 x1 x2 x3 x4 x5 x6 x7 x8 x9
 cases h2:txB s.vs s.tx
 case false=>
  have HR:Hid (storeI s=false):=by simp[Hid,storeI,jov,h1,h2]
  go_wp2
  go_ret2
  exact⟨⟨none,by rw[HR.out];rfl,fun h=>by rw[HR.out]at h;cases h⟩,an⟩
 have q3:=jqn s.vs va s.vs.length cv w2 (HV.out.below an) (j23 h2) rfl ok.vl
 have x8:=A2.c 8 rfl
 go_wp2_with fail
 refine q3.mono ?_
 rintro e3 w3 mw
 have ar:=mw.bel
 have ax:=qtr an ar
 have A3:=A2.below ar
 clear ar A2 q3 x8
 rcases mw.end_ with⟨h3,iI,gT⟩|⟨h3,iI⟩
 case inr=>
  subst iI
  clear mw
  have HR:Hid (storeI s=false):=by simp[Hid,storeI,jov,h1,h2,h3]
  go_wp2
  go_ret2
  exact⟨⟨none,by rw[HR.out];rfl,fun h=>by rw[HR.out]at h;cases h⟩,ax⟩
 subst iI
 have N8:=an.size
 clear mw an aj ag
 have q4:=jkd s _ (jch s.vs) (jan s.vs) w2.heap.size s.vs.length w3 (hE.of_below ax) (dQ.below ax) ok gT (jga s.vs) (jhr s.vs.length) ok.vl oG dC
 obtain⟨x0,x1,x2,x3,x4,x5,x6,x7,x8,x9⟩:=A3.ten
 go_wp2_with fail
 refine q4.mono ?_
 rintro e4 w4 ⟨rfl,aD⟩
 have IM:=gT.below aD
 have aR:=qtr ax aD
 have A4:=A3.below aD
 clear aD A3 q4 gT x0 x1 x2 x3 x4 x5 x6 x7 x8 x9
 cases h4:jnr s (jan s.vs)
 case false=>
  have HR:Hid (storeI s=false):=by simp[Hid,storeI,jov,h1,h2,h3,h4]
  go_wp2
  go_ret2
  exact⟨⟨none,by rw[HR.out];rfl,fun h=>by rw[HR.out]at h;cases h⟩,aR⟩
 have HR:Hid (storeI s=eqX s.ix (entF (momB s) (jan s.vs))):=by simp only[Hid,storeI,jov,h1,h2,h3,h4,Bool.true_and]
 have wY:(jan s.vs).length<=30:=by
  unfold jnr at h4
  rw[bat]at h4
  exact odt h4.1
 clear h1 h2 h3 h4
 generalize vf:w2.heap.size=lb at *
 clear vf
 have xM:=jab w4
 have bG:Bw w w4.drew:=qtr aR xM
 have jr:=IM.below xM
 have A5:=A4.below xM
 obtain⟨z0,z1,z2,z3,z4,z5,z6,z7,z8,z9⟩:=A5.ten
 have xV:=jqs s _ w4.drew (dQ.below bG) ok
 have iH:=fun(r:RelD) a b c ca cb cc W=>jmf r a b c ca cb cc W
 have Gy:=hid jr
 have lM:=hid bG
 have Be:=hid A5
 clear IM jr aR bG A4 A5 xM ax
 go_wp2_with fail
 go_region_held3 (fun w'=>w'.cell? (ad w.heap.size 0)=some (iv s.tx)/\w'.cell? (ad w.heap.size 1)=some (.slice a s.now.rules.length ca)/\w'.cell? (ad w.heap.size 2)=some (.slice b s.now.zones.length cb)/\w'.cell? (ad w.heap.size 3)=some (.slice c s.now.links.length cc)/\w'.cell? (ad w.heap.size 4)=some (.slice d s.was.rules.length cd)/\w'.cell? (ad w.heap.size 5)=some (.slice e s.was.zones.length ce)/\w'.cell? (ad w.heap.size 6)=some (.slice f s.was.links.length cf)/\w'.cell? (ad w.heap.size 7)=some (iv s.cur)/\w'.cell? (ad w.heap.size 8)=some (.slice va s.vs.length cv)/\w'.cell? (ad w.heap.size 9)=some (.slice ia s.ix.length ci)) (go_keep) (first|(go_at_call 48;refine xV.mono ?_;rintro q w5 fo;obtain⟨a1,n1,c1,a2,n2,c2,a3,n3,c3,a4,n4,c4,a5,n5,c5,a6,n6,c6,a8,n8,c8,a9,n9,c9,Nj,rfl,Kz⟩:=fo.ex;subst Nj;have GB:Hid (Za w5 a8 8 (s.vs.map VersionD.cs)/\s.vs.length<=c8):=Kz;clear Kz;have aV:=fo.bel;clear fo;obtain⟨Qw,Qz,QA,QB,QD,QE,QI,QJ,QK,QN⟩:=(Be.out.below aV).ten)|(go_at_call 49;have RL:=hb6;refine(iH s.was d e f cd ce cf _).mono ?_;rintro q w7 ff;have yg:=ff.ex;subst yg;have DW:=ff.cache;have ay:=ff.bel;clear ff;obtain⟨PW,PX,PY,Qa,Qc,Qn,Qr,Qu,Qv,La⟩:=(((Be.out.below aV).below hb6).below ay).ten)|(go_at_call 49;refine(iH s.now a b c ca cb cc _).mono ?_;rintro q w6 yy;have Nm:=yy.ex;subst Nm;have mu:=yy.cache;have hb6:=yy.bel;clear yy;obtain⟨Pt,Px,Pz,PA,PF,PO,PQ,PS,PT,PU⟩:=((Be.out.below aV).below hb6).ten))
 all_goals
  have bG:=qtr lM.out aV
  have Hx:=(brf w5.heap.size w5).trans (hb6.mono (nlr _))
  have Hy:=qtr Hx ay
  have b8:=qal w7 (.cells #[iv s.tx,.slice a1 n1 c1,.slice a2 n2 c2,.slice a3 n3 c3,.slice a4 n4 c4,.slice a5 n5 c5,.slice a6 n6 c6,iv s.cur,.slice a8 s.vs.length c8,.slice a9 n9 c9,.map (some lb),.slice a s.now.rules.length ca,.slice b s.now.zones.length cb,.slice c s.now.links.length cc,.map (some (w5.heap.size+1+1)),.slice d s.was.rules.length cd,.slice e s.was.zones.length ce,.slice f s.was.links.length cf,.map (some (w6.heap.size+1+1))] 115)
  have Hz:=qtr Hy b8
  have l5:=aV.size
  have l6:=hb6.size
  have l7:=ay.size
  have ln:=mu.lt
  have lw:=DW.lt
  have ll:=Gy.out.lt
  have K8:=Zh.new w7 [iv s.tx,.slice a1 n1 c1,.slice a2 n2 c2,.slice a3 n3 c3,.slice a4 n4 c4,.slice a5 n5 c5,.slice a6 n6 c6,iv s.cur,.slice a8 s.vs.length c8,.slice a9 n9 c9,.map (some lb),.slice a s.now.rules.length ca,.slice b s.now.zones.length cb,.slice c s.now.links.length cc,.map (some (w5.heap.size+1+1)),.slice d s.was.rules.length cd,.slice e s.was.zones.length ce,.slice f s.was.links.length cf,.map (some (w6.heap.size+1+1))] 115
  have Ia:Zl [(0,iv s.tx),(8,.slice a8 s.vs.length c8)] w5 _ s w7.heap.size lb (w5.heap.size+1+1) (w6.heap.size+1+1) 0 0 a b c d e f ca cb cc cd ce cf:=⟨Hz,K8.c 7 rfl,K8.c 10 rfl,K8.c 11 rfl,K8.c 12 rfl,K8.c 13 rfl,K8.c 14 rfl,K8.c 15 rfl,K8.c 16 rfl,K8.c 17 rfl,K8.c 18 rfl,(mu.below ay).below b8,DW.below b8,by omega,by omega,by omega,fun p hp=>by simp at hp;rcases hp with rfl|rfl;exact K8.c 0 rfl;exact K8.c 8 rfl,_,heap_alloc_new w7 _⟩
  have J2:=(((Gy.out.below aV).below hb6).below ay).below b8
  have tU:=hE.of_below bG
  have si:=HN.out.below bG
  have uL:=HW.out.below bG
  have jy:=jhk hS w5 s w7.heap.size lb (w5.heap.size+1+1) (w6.heap.size+1+1) s.vs.length a b c d e f ca cb cc cd ce cf (jch s.vs) (jan s.vs) _ tU si uL ok.now ok.was oG dC (Ia.below (jab _)) (by omega) (by omega) (J2.below (jab _)) (jga s.vs) (jhr s.vs.length) (by omega)
  have qx:Hid (Zx w5/\Zd w5 (.agg #[.slice a s.now.rules.length ca,.slice b s.now.zones.length cb,.slice c s.now.links.length cc]) s.now/\Zd w5 (.agg #[.slice d s.was.rules.length cd,.slice e s.was.zones.length ce,.slice f s.was.links.length cf]) s.was/\w5.heap.size+1+1≠lb/\w6.heap.size+1+1≠lb/\relB s.now=true/\relB s.was=true/\(jan s.vs).length<=30):=⟨tU,si,uL,by omega,by omega,oG,dC,wY⟩
  have x9:=jaa (jab _) (jaa b8 La)
  have LU:Hid (Za w5 ia 2 (s.ix.map EntryD.cs)):=HX.out.below bG
  have Gm:=hid bG
  have iD:(entF (momB s) (jan s.vs)).length<=30:=Nat.le_trans (jep _ _) wY
  have de:=ok.xl
  obtain⟨X,lC⟩:=qeb (entF (momB s) (jan s.vs))
  rw[lC]at jy iD
  have lh:Hid (storeI s=eqX s.ix X):=by simp only[Hid];rw[<- lC];exact HR.out
  obtain⟨tb,jj⟩:=qeb (eqX s.ix X)
  have uq:Hid (storeI s=tb):=by simp only[Hid];rw[lh.out];exact jj
  have JC:=fun px cx W (h:Za W ia 2 (s.ix.map EntryD.cs)) (h2:Za W px 2 (X.map EntryD.cs))=>jhc s.ix X ia px s.ix.length X.length ci cx W h h2 rfl rfl de (by omega)
  rw[jj]at JC
  clear HR lh lC jj bG Hx Hy b8 Hz K8 Ia J2 tU si uL mu DW aV hb6 ay iH xV Qw Pt PW z0 Qz Px PX z1 QA Pz PY z2 QB PA Qa z3 QD PF Qc z4 QE PO Qn z5 QI PQ Qr z6 QJ PS Qu z7 QK PT Qv z8 PU La z9
  go_wp2_with fail
  go_region_held3 (fun w'=>w'.cell? (ad w.heap.size 9)=some (.slice ia s.ix.length ci)) (go_keep) (first|(go_at_call 51;refine jy.mono ?_;rintro q w9 pY;obtain⟨v9,rfl,eB⟩:=pY.ex;obtain⟨kk,sE,vG⟩:=pY.inv;have bZ:=vG.bel;have N7:=vG.live;have BH:Hid (∀p∈[((0:Nat),iv s.tx),(8,.slice a8 s.vs.length c8)],w9.cell? (ad w7.heap.size p.1)=some p.2):=vG.more;have Gt:Hid (kk<=(jan s.vs).length/\Zl [(0,iv s.tx),(8,.slice a8 s.vs.length c8)] w5 w9 s w7.heap.size lb (w5.heap.size+1+1) (w6.heap.size+1+1) kk kk a b c d e f ca cb cc cd ce cf):=⟨sE,vG⟩;clear sE;have MB:=pY.live;clear vG pY;have eB:=jy6 eB;obtain⟨px,cx,KO,KA,_⟩:=jbe eB jak;rw[llm]at KO;subst KO;clear eB;have Rb:=jaa bZ QN;have Dx:=JC px cx w9 (LU.out.below bZ) KA;clear KA)|(go_at_call 50;refine Dx.mono ?_;rintro q jC ⟨rfl,kT⟩;have SA:=jaa kT Rb;have Ep:=jaa kT N7;have Do:=MB.below kT))
  all_goals
   have G5:=jaa kT (BH.out (0,iv s.tx) (by simp))
   have Na:=jaa kT (BH.out (8,.slice a8 s.vs.length c8) (by simp))
   clear BH
   have fS:=qtr Gm.out bZ
   have D6:=qtr fS kT
   go_wp2
   go_ret2
   exact⟨⟨some (ad w7.heap.size 0),by rw[uq.out];rfl,fun _=>⟨_,lb,_,a8,c8,rfl,Ep,Do,G5,Na,(GB.out.1.below bZ).below kT,GB.out.2,⟨_,_,kk,w5,a,b,c,d,e,f,ca,cb,cc,cd,ce,cf,Gt.out.2.below kT,Nat.le_trans Gt.out.1 qx.out.2.2.2.2.2.2.2,Gm.out,qx.out.1,qx.out.2.1,qx.out.2.2.1,qx.out.2.2.2.1,qx.out.2.2.2.2.1,qx.out.2.2.2.2.2.1,qx.out.2.2.2.2.2.2.1⟩⟩⟩,D6⟩
end
section
open Go.RowKit Go.Sort Go.Lib
def cfX(x y:EntryD):Int:=orI (cmpI x.at_ y.at_) (cmpI x.id y.id)
theorem ltX(x y:EntryD):ltOf cfX x y=jbc x y:=j0j x y
theorem swoX:SWO (ltOf cfX) where
 irrefl x:=by rw[ltX];exact jtk x
 trans x y z h1 h2:=by rw[ltX]at *;exact jir h1 h2
 ntrans x y z h1 h2:=by rw[ltX]at *;exact jns h1 h2
theorem jq6 [Inhabited EntryD](blk off size:Nat)(w:World):CmpLays Tryz.prog 114 #[] EntryD.cs 2 cfX blk off size w:=fun _ _ _ _ x y=>jq4 x y _
theorem j29:SortC:=⟨fun P base v w hO hl=>by
 haveI:Inhabited EntryD:=⟨⟨0,0⟩⟩
 rcases hO.2 with⟨rfl,h0⟩|⟨g,cap,cur,rfl,hb,hh,_⟩
 ·have hP:P=[]:=List.length_eq_zero_iff.mp h0
  subst hP
  refine(Tryz.sortFunc_none none 0 _ w).mono ?_
  rintro e w' ⟨rfl,rfl⟩
  have h:jg9 []=[]:=by simp[jg9]
  rw[h]
  exact⟨rfl,hO,⟨rfl,rfl,rfl,nlr _,fun _ _ _=>rfl⟩⟩
 ·obtain⟨hH,hlt,_⟩:=j3p (enc:=EntryD.cs) (fun _=>rfl) (by decide) hO
  have hC:=Tryz.sortFunc_total 2 Tryz.isAgg57 Tryz.sizeOf57 EntryD.cs (fun _=>rfl) (fun x v hv=>by simp[EntryD.cs]at hv;rcases hv with rfl|rfl<;>rfl) cfX swoX 114 #[] g 0 cap P.toArray w (fun _ _=>by kernel_rfl) (jq6 g 0 P.toArray.size w) hH hlt (by simp;omega) (fun x y h1 h2=>by rw[ltX]at h1 h2;exact jis h1 h2)
  refine Calls.mono (by simpa using hC) ?_
  rintro e w' ⟨rfl,q,os,rfl⟩
  have hs:(P.toArray.toList.mergeSort fun x y=> !(ltOf cfX) y x)=jg9 P:=by
   unfold jg9
   congr 1
   funext x y
   rw[ltX]
  rw[hs]
  have h:=putG (enc:=EntryD.cs) (fun _=>rfl) (by decide) (q:=q) (os:=os) hO (jvh P)
  exact⟨rfl,h.1,h.2⟩⟩
end
theorem jwv(s:StoreD)(v:Value)(w:World)(hE:Zx w)(hv:Jd w v s)(ok:Zr s):
  Cl 7 #[v] w fun e w'=>e=.returned (.bool (storeI s))/\Bw w w':=by
 have dQ:=hv
 obtain⟨a,b,c,d,e,f,va,ia,ca,cb,cc,cd,ce,cf,cv,ci,rfl,_,_,_,_,_,_⟩:=hv.form
 have ag:Bw w (w.alloc (.cells (stA s a b c d e f va ia ca cb cc cd ce cf cv ci).toArray 41)):=qal _ _
 have hO:=ji8 j29 s _ _ (hE.of_below ag) (dQ.below ag) ok
 clear hv dQ hE ok
 unfold Cl;go_in
 go_wp2_with fail
 refine hO.mono ?_
 rintro q w1 hP
 obtain⟨x,rfl,_⟩:=hP.ex
 have hb1:=hP.bel
 go_wp2
 go_ret
 exact⟨rfl,(qtr ag hb1)⟩
