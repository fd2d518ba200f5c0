import Derived.Test.YtmkjofknhdikpaaGreatDoorSHd
import Derived.Test.YtmkjofknhdikpaaGreatDoorShelfX
set_option maxRecDepth 20000
set_option maxHeartbeats 0
set_option linter.unusedSimpArgs false
open Go.RowKit
namespace Go.Proofs.YtmkjofknhdikpaaGreatDoor
variable{w:World}{v:Value}{l:List Up}{t:Int}{a:Option Addr}
section
open Go.RowKit Go.ChangeMaps Go.MapKept Go.WideMaps
def jov(s:Uo):Bool:=jk5 s&&(Yp s.vs s.tx&&(XH s.vs s.vs.length&&jnr s (Uf s.vs)))
def VI(s:Uo):Bool:=jov s&&Yv s.ix (UK (XM s) (Uf s.vs))
theorem jy6{base:Nat}{L:List TZ}(h:Zb w base v L):w.ownsRow base 56 2 v (L.map TZ.cs).length (L.map TZ.cs).flatten:=by rw[U7];exact h
theorem jyh(h:Yp l t=true):∀v∈l,Ww v.ev=true:=λv hv=>by
 have⟨k,hk⟩:=Wq hv;unfold Yp at h;rw[UM]at h;cases hx:YZ l t k v
 .have:=juu hk hx (n:=l.length) (List.getElem?_eq_some_iff.1 hk).1
  rw[h.2]at this;cases this
 .unfold YZ at hx
  simp only[UM]at hx;exact hx.2.2
theorem jq1{e:TD}(h:Ww e=true):(1<=e.id/\e.id<=1000000)/\U6 e.TH=true/\Uk e.Ty (-62135596800) 253402300799=true/\Uk e.TM 0 2=true/\Uk e.TL 0 2=true:=by
 unfold Ww at h;simp only[UM]at h;exact⟨WM h.1,h.2.2⟩
theorem j23(h:Yp l t=true):∀v∈l,1<=v.id/\v.id<=1000000:=λv hv=>(jq1 (jyh h v hv)).1
end
theorem js1{zs:List UE}(h:Zo w a zs):∃rows:List (List Value),rows.length=zs.length/\Za w a 2 rows/\(∀r∈rows,r.length=2)/\(∀u∈rows.flatten,u.oneCell'=true)/\∀(j:Nat) z,zs[j]? =some z->∃v,rows[j]? =some [I z.name,v]/\Jf w v z.TR:=by
 rcases h with rfl|⟨b,o,ha,hc⟩
 .exact⟨[],rfl,.inl rfl,λr hr=>by simp at hr,λu hu=>by simp at hu,λj z hz=>by simp at hz⟩
 have⟨rows,hl,hp⟩:=jfc (P:=λi r=>∃z v,zs[i]? =some z/\r=[I z.name,v]/\w.cell? (O b (o+i*2))=some (I z.name)/\w.cell? (O b (o+i*2+1))=some v/\Jf w v z.TR) zs.length (λi hi=>by
  have hz:zs[i]? =some zs[i]:=Ug hi;have⟨c0,v,c1,hE⟩:=hc i _ hz
  exact⟨_,zs[i],v,hz,rfl,c0,c1,hE⟩)
 refine⟨rows,hl,.inr ⟨b,o,ha,λi j r c hr hj=>?_⟩,λr hr=>?_,λu hu=>?_,λj z hz=>?_⟩
 .obtain⟨z,v,_,rfl,c0,c1,_⟩:=hp i r hr
  match j,hj with
  |0,hj=>simp at hj;subst hj;exact c0
  |1,hj=>simp at hj;subst hj;exact c1
  |j+2,hj=>simp at hj
 .have⟨i,hi⟩:=Wq hr
  obtain⟨z,v,_,rfl,_⟩:=hp i r hi;rfl
 .have⟨r,hr,KL⟩:=List.mem_flatten.mp hu
  have⟨i,hi⟩:=Wq hr;obtain⟨z,v,_,rfl,_,_,a2,c2,rfl,_⟩:=hp i r hi;simp at KL;rcases KL with rfl|rfl<;>rfl
 .have hj:=(List.getElem?_eq_some_iff.1 hz).1
  have hr:rows[j]? =some rows[j]:=Ug Q;have⟨z2,v,aF,he,_,_,hE⟩:=hp j _ hr;rw[hz]at aF;obtain rfl:=Uw aF;exact⟨v,by rw[hr,he],hE⟩
structure vcF(w wr:World)(zs:List UE)(B i:Nat)(v:Value)(n:Nat):Prop where
 own:∃xs,wr.ownsRow B 121 2 v n xs/\∀(j:Nat) z,i<=j->zs[j]? =some z->∃u,xs[j*2+1]? =some u/\Jf w u z.TR
structure veO(w:World)(q:Ending)(w':World):Prop where
 ex:∃a n c a2 n2 c2 a3 n3 c3,q=V (.agg #[U a n c,U a2 n2 c2,U a3 n3 c3])
 TQ:Bw w w'
theorem jc3(r:Un)(a b c:Option Addr)(ca cb cc:Nat)(w:World)(hv:Zd w (.agg #[U a r.Tw.length ca,U b r.TC.length cb,U c r.TG.length cc]) r)(sm:r.small):
  C 80 #[.agg #[U a r.Tw.length ca,U b r.TC.length cb,U c r.TG.length cc]] w (veO w):=by
 have⟨a',b',c',Rf,Rg,Rh,he,hA,hZ,hC⟩:=hv.form;injection he with he
 simp only[List.toArray_inj,List.cons.injEq,Value.slice.injEq,true_and,and_true,Array.mk.injEq]at he;obtain⟨⟨rfl,rfl⟩,⟨rfl,rfl⟩,rfl,rfl⟩:=he;have⟨m1,m2,m3,m4⟩:=sm;obtain⟨rs,zs,ls⟩:=r;simp only at *;have⟨rows,hl,hq,r2,r1,ap⟩:=js1 hZ;have ag:Bw w ((w.alloc (G #[U a rs.length ca,U b zs.length cb,U c ls.length cc] 27)).alloc (G #[nS,nS,nS] 27)):=(TK _ _).alloc M _;have X0:Zh ((w.alloc (G #[U a rs.length ca,U b zs.length cb,U c ls.length cc] 27)).alloc (G #[nS,nS,nS] 27)) w.heap.size [U a rs.length ca,U b zs.length cb,U c ls.length cc]:=(Zh.new w [U a rs.length ca,U b zs.length cb,U c ls.length cc] 27).below (TK _ _);have O0:Zh ((w.alloc (G #[U a rs.length ca,U b zs.length cb,U c ls.length cc] 27)).alloc (G #[nS,nS,nS] 27)) (w.heap.size+1) [nS,nS,nS]:=by
  have h:=Zh.new (w.alloc (G #[U a rs.length ca,U b zs.length cb,U c ls.length cc] 27)) [nS,nS,nS] 27
  simpa using h
 have dP:((w.alloc (G #[U a rs.length ca,U b zs.length cb,U c ls.length cc] 27)).alloc (G #[nS,nS,nS] 27)).heap.size=w.heap.size+1+1:=M;have vE:=λw h=>jt5 rows r2 r1 b zs.length cb w h hl m2
 have vD:=λw h=>jt6 (rs.map Ud.cs) (Yh (cs:=Ud.cs) (λ_=>rfl) rs) js0 a rs.length ca w h M m1
 have Di:=λw h=>jt7 (ls.map UO.cs) (Yh (cs:=UO.cs) (λ_=>rfl) ls) jti c ls.length cc w h M m3
 have HR:=hid ap;have HM:=hid m4;have HA:=hid hA;have HC:=hid hC;have HF:Hid (∀(j:Nat) z v,zs[j]? =some z->rows[j]? =some [I z.name,v]->rows.flatten[j*2+1]? =some v):=λj z v _ hr=>WY r2 hr rfl
 have x1:=X0.c 1 (u:=U b zs.length cb) rfl;have sJ:=hq.below ag;clear hv hZ hA hC ap m4 hq r1 r2 hl;generalize Cq:zs.length=nz at *;have HN:=hid Cq;clear Cq;delta C;go_in;go_wp2_with fail;refine(vE _ sJ).mono ?_;rintro q w1 ⟨zv,rfl,dW,hb1⟩;rw[dP]at dW;obtain⟨pz,mz,cz,rfl⟩:=UY dW;have Ng:mz=nz:=by
  rcases dW.2 with⟨h1,h2⟩|⟨_,_,_,h1,_⟩
  .injection h1 with _ h1 _;omega
  .injection h1
 subst Ng;have aj:=TJ ag hb1;have X1:=X0.below hb1;have O1:=O0.below hb1
 have j8:vcF w w1 zs (w.heap.size+1+1) 0 (U pz mz cz) mz:=⟨_,dW,λj z _ hz=>by
  have⟨v,hr,hE⟩:=HR.out j z hz
  exact⟨v,HF.out j z v hz hr,hE⟩⟩
 have HX:=hid X1;have HO:=hid O1;clear vE sJ dW hb1 x1 X0 O0 dP HR HF X1 O1 ag;go_wp2;go_loopw [4,10] (λ_ mY wr=>∃i:Nat,i<=mz/\mY=J i/\Hid (vcF w wr zs (w.heap.size+1+1) i (U pz mz cz) mz)/\Hid (Zh wr w.heap.size [U a rs.length ca,U b mz cb,U c ls.length cc])/\Hid (Zh wr (w.heap.size+1) [nS,nS,nS])/\Bw w wr/\Hid (w.heap.size+1+1<=wr.heap.size)) (λ_ mY _=>mz-(intOf mY).toNat)
 .exact⟨0,Q,rfl,j8,HX,HO,aj,by have:=TV (HO.out.c 0 (u:=nS) rfl);exact this⟩
 ·
  have⟨wa,dS⟩:=UL wr;subst dS;obtain⟨i,hi,rfl,HZ,uN,xY,iy,HS⟩:=hrel;clear j8 HX HO aj;by_cases hlt:i<mz
  .have a1:(i:Int)<(mz:Int):=Q
   have a0:(0:Int)<=(i:Int):=Q;obtain⟨z,hz⟩:∃z,zs[i]? =some z:=⟨_,Ug (by have:=HN.out;omega)⟩;have⟨xs,hO,hx⟩:=HZ.out.own;have⟨u,hu,ea,ec,NZ,hE⟩:=hx i z (TP _) hz;subst NZ;have vu:∃g,pz=some (O g 0):=by
    rcases hO.2 with⟨h1,h2⟩|⟨g,_,_,h1,_⟩
    .omega
    .injection h1 with h1 _ _;exact⟨g,h1⟩
   obtain⟨g,rfl⟩:=vu;have hc:wa.cell? (O g (i*2+1))=some (U ea z.TR.length ec):=by rw[hO.cellAt (i*2+1) Q];exact hu
   have K7:=(World.ownsRow.lt hO g rfl).1;have vC:=jxr (z.TR.map TX.cs) (Yh (cs:=TX.cs) (λ_=>rfl) z.TR) jxg ea z.TR.length ec wa (hE.below iy) M (HM.out z (UH hz));have LS:=hid hx;have yS:=hid hO;clear hx hO hu hE hz;generalize z.TR.length=ne at *;go_wp2_with fail;refine vC.mono ?_;rintro q w2 ⟨v2,rfl,aW,ac⟩;obtain⟨p2,ui,c2,rfl⟩:=UY aW;have uB:=UG yS.out ac;have cU:=Tx ac hc;have eE:=uB.frozenAt (i*2+1);have ei:=uB.stored (i*2+1) (U p2 ui c2);have an:=TJ iy ac
   have LW:Hid (vcF w (w2.setCell (O g (i*2+1)) (U p2 ui c2)) zs (w.heap.size+1+1) (i+1) (so g mz cz) mz):=⟨_,ei.1,λj z hj hz=>by
    have⟨u,h1,h2⟩:=LS.out j z Q hz
    exact⟨u,by rw[List.getElem?_set_ne Q];exact h1,h2⟩⟩
   have LT:Hid (Zh (w2.setCell (O g (i*2+1)) (U p2 ui c2)) w.heap.size [U a rs.length ca,U b mz cb,U c ls.length cc]):=(uN.out.below ac).other Q _;have BC:Hid (Zh (w2.setCell (O g (i*2+1)) (U p2 ui c2)) (w.heap.size+1) [nS,nS,nS]):=(xY.out.below ac).other Q _;have ax:Bw w (w2.setCell (O g (i*2+1)) (U p2 ui c2)):=an.setCell (show w.heap.size<=g by omega) _;have yU:Hid (w.heap.size+1+1<=(w2.setCell (O g (i*2+1)) (U p2 ui c2)).heap.size):=by have h1:=HS.out;have h2:=ac.size;simp only[Hid,World.size_setCell];omega
   clear ei uB aW ac an iy hc vC uN xY HZ;go_wp2;go_roundw
   .exact⟨i+1,Q,Z7,LW,LT,BC,ax,yU⟩
   .simp[intOf];omega
  .obtain rfl:i=mz:=Q
   have x0:wa.drew.cell? (O w.heap.size 0)=some (U a rs.length ca):=uN.out.c 0 (u:=U a rs.length ca) rfl;have x2:wa.drew.cell? (O w.heap.size 2)=some (U c ls.length cc):=uN.out.c 2 (u:=U c ls.length cc) rfl;have LL:Hid (Zh wa.drew (w.heap.size+1) [nS,nS,nS]):=xY.out.below (UF wa);have bY:Bw w wa.drew:=iy.trans ((UF wa).mono iy.size);have tT:=vD wa.drew (HA.out.below bY);have qs:=hid bY;clear bY iy vD uN xY HZ;go_wp2_with fail;go_region_held3 (λw'=>w'.cell? (O w.heap.size 0)=some (U a rs.length ca)/\w'.cell? (O w.heap.size 2)=some (U c ls.length cc)) (go_keep) (first|(go_at_call 132;refine tT.mono ?_;rintro q w3 ⟨v3,rfl,dE,ar⟩;obtain⟨p3,Fg,c3,rfl⟩:=UY dE;clear dE;have QX:=Tx ar x0;have Ra:=Tx ar x2;have lx:=Di w3 (HC.out.below (TJ qs.out ar)))|(go_at_call 133;refine lx.mono ?_;rintro q w4 ⟨v4,rfl,dX,aD⟩;obtain⟨p4,Fh,c4,rfl⟩:=UY dX;clear dX;have Sx:=Tx aD QX;have Sz:=Tx aD Ra;have O4:=(LL.out.below ar).below aD;have o0:=O4.c 0 (u:=nS) rfl;have o1:=O4.c 1 (u:=nS) rfl;have o2:=O4.c 2 (u:=nS) rfl;have f0:=O4.f 0 (u:=nS) rfl;have f1:=O4.f 1 (u:=nS) rfl;have f2:=O4.f 2 (u:=nS) rfl))
   all_goals
    have ax:=TJ qs.out ar;have aR:=TJ ax aD;have⟨t0,t1,t2⟩:=jne (v0:=U p3 Fg c3) (v1:=U pz i cz) (v2:=U p4 Fh c4) o0 o1 o2;have lM:Hid (Bw w (((w4.setCell (O (w.heap.size+1) 0) (U p3 Fg c3)).setCell (O (w.heap.size+1) 1) (U pz i cz)).setCell (O (w.heap.size+1) 2) (U p4 Fh c4))):=((aR.setCell (vQs _) _).setCell (vQs _) _).setCell (vQs _) _;clear ax aR ar aD lx O4;go_wp2;exact Ue (v:=.agg #[U p3 Fg c3,U pz i cz,U p4 Fh c4]) (by simp[results,Tryz.results80,go_sem,t0,t1,t2]) rfl ⟨⟨_,_,_,_,_,_,_,_,_,rfl⟩,lM.out⟩
theorem Za.set{k b i:Nat}{rows:List (List Value)}(h:Za w a k rows)(hn:∀g o,a=some (O g o)->g≠b):Za (w.setCell (O b i) v) a k rows:=by
 rcases h with h|⟨g,o,rfl,h⟩
 .exact .inl h
 .exact .inr ⟨g,o,rfl,λx y r c hx hy=>(Uh _ _ _ _ (λe=>by injection e with e;exact hn g o rfl e.symm)).trans (h x y r c hx hy)⟩
structure veP(s:Uo)(w:World)(q:Ending)(w':World):Prop where
 ex:∃a1 n1 c1 a2 n2 c2 a3 n3 c3 a4 n4 c4 a5 n5 c5 a6 n6 c6 a8 n8 c8 a9 n9 c9,q=V (.agg #[J s.tx,U a1 n1 c1,U a2 n2 c2,U a3 n3 c3,U a4 n4 c4,U a5 n5 c5,U a6 n6 c6,J s.cur,U a8 n8 c8,U a9 n9 c9])/\n8=s.vs.length/\Za w' a8 8 (s.vs.map Up.cs)/\s.vs.length<=c8
 TQ:Bw w w'
theorem jqs(s:Uo)(v:Value)(w:World)(hv:Jd w v s)(hm:Zr s):
  C 44 #[v] w (veP s w):=by
 obtain⟨a,b,c,d,e,f,va,ia,ca,cb,cc,cd,ce,cf,cv,ci,rfl,hN,hW,hV,hX,_,_⟩:=hv.form;obtain⟨tx,Tz,TE,cur,vs,ix⟩:=s;obtain⟨m1,m2,m3,m4,m5⟩:=hm;simp only at *;have ag:Bw w ((w.alloc (.cells (stA ⟨tx,Tz,TE,cur,vs,ix⟩ a b c d e f va ia ca cb cc cd ce cf cv ci).toArray 31)).alloc (.cells #[J 0,nS,nS,nS,nS,nS,nS,J 0,nS,nS] 31)):=(TK _ _).alloc (by simp) _;have A0:Zh ((w.alloc (.cells (stA ⟨tx,Tz,TE,cur,vs,ix⟩ a b c d e f va ia ca cb cc cd ce cf cv ci).toArray 31)).alloc (.cells #[J 0,nS,nS,nS,nS,nS,nS,J 0,nS,nS] 31)) w.heap.size (stA ⟨tx,Tz,TE,cur,vs,ix⟩ a b c d e f va ia ca cb cc cd ce cf cv ci):=(Zh.new w (stA ⟨tx,Tz,TE,cur,vs,ix⟩ a b c d e f va ia ca cb cc cd ce cf cv ci) 31).below (TK _ _);have R0:Zh ((w.alloc (.cells (stA ⟨tx,Tz,TE,cur,vs,ix⟩ a b c d e f va ia ca cb cc cd ce cf cv ci).toArray 31)).alloc (.cells #[J 0,nS,nS,nS,nS,nS,nS,J 0,nS,nS] 31)) (w.heap.size+1) [J 0,nS,nS,nS,nS,nS,nS,J 0,nS,nS]:=by have h:=Zh.new (w.alloc (.cells (stA ⟨tx,Tz,TE,cur,vs,ix⟩ a b c d e f va ia ca cb cc cd ce cf cv ci).toArray 31)) [J 0,nS,nS,nS,nS,nS,nS,J 0,nS,nS] 31;simpa using h
 have q1:=λw h=>jc3 Tz a b c ca cb cc w h m1.sm
 have q2:=λw h=>jc3 TE d e f cd ce cf w h m2.sm
 have q3:=λw h=>jmp (vs.map Up.cs) (Yh (cs:=Up.cs) (λ_=>rfl) vs) jup va vs.length cv w h (by simp) m4
 have q4:=λw h=>jq7 (ix.map TZ.cs) (Yh (cs:=TZ.cs) (λ_=>rfl) ix) jbn ia ix.length ci w h (by simp) m5
 clear m1 m2 m3 hv;have HN:=hid hN;have HW:=hid hW;have HV:=hid hV;have HX:=hid hX;clear hN hW hV hX;delta C;go_in;have Ah:=A0.c 1 rfl;have oZ:=A0.f 1 rfl;have Ai:=A0.c 2 rfl;have pc:=A0.f 2 rfl;have Aj:=A0.c 3 rfl;have pd:=A0.f 3 rfl;go_wp2_with fail;refine(q1 _ (HN.out.below ag)).mono ?_;rintro e w1 hP;obtain⟨a1,n1,c1,a2,n2,c2,a3,n3,c3,hq⟩:=hP.ex;subst hq;have bg:=hP.TQ;have aj:=TJ ag bg;have A1:=A0.below bg;have R1:=R0.below bg;clear A0 R0 ag bg;clear Ah oZ Ai pc Aj pd;have Ah:=A1.c 1 rfl;have oZ:=A1.f 1 rfl;have Ai:=A1.c 2 rfl;have pc:=A1.f 2 rfl;have Aj:=A1.c 3 rfl;have pd:=A1.f 3 rfl;have IT:=A1.c 4 rfl;have Ap:=A1.f 4 rfl;have IU:=A1.c 5 rfl;have Aq:=A1.f 5 rfl;have IV:=A1.c 6 rfl;have Ar:=A1.f 6 rfl;go_wp2_with fail;clear Ah oZ Ai pc Aj pd IT Ap IU Aq IV Ar;have A2:=(((A1.set (j:=1) (.slice a1 n1 c1)).set (j:=2) (.slice a2 n2 c2)).set (j:=3) (.slice a3 n3 c3));have R2:=(((R1.other (b2:=w.heap.size) (j:=1) (by omega) (.slice a1 n1 c1)).other (b2:=w.heap.size) (j:=2) (by omega) (.slice a2 n2 c2)).other (b2:=w.heap.size) (j:=3) (by omega) (.slice a3 n3 c3));have an:=(VY (w.heap.size) 3 (.slice a3 n3 c3) (by omega) (VY (w.heap.size) 2 (.slice a2 n2 c2) (by omega) (VY (w.heap.size) 1 (.slice a1 n1 c1) (by omega) aj)));clear A1 R1 aj;generalize (((w1.setCell (O w.heap.size 1) (.slice a1 n1 c1)).setCell (O w.heap.size 2) (.slice a2 n2 c2)).setCell (O w.heap.size 3) (.slice a3 n3 c3))=wB at *;refine(q2 _ (HW.out.below an)).mono ?_;rintro e w2 iB;obtain⟨a4,n4,c4,a5,n5,c5,a6,n6,c6,hq⟩:=iB.ex;subst hq;have ac:=iB.TQ;have ax:=TJ an ac;have A3:=A2.below ac;have R3:=R2.below ac;clear A2 R2 an ac;have IN:=A3.c 4 rfl;have Ak:=A3.f 4 rfl;have IP:=A3.c 5 rfl;have Al:=A3.f 5 rfl;have IQ:=A3.c 6 rfl;have Am:=A3.f 6 rfl;have IW:=A3.c 8 rfl;have As:=A3.f 8 rfl;go_wp2_with fail;clear IN Ak IP Al IQ Am IW As;have A4:=(((A3.set (j:=4) (.slice a4 n4 c4)).set (j:=5) (.slice a5 n5 c5)).set (j:=6) (.slice a6 n6 c6));have R4:=(((R3.other (b2:=w.heap.size) (j:=4) (by omega) (.slice a4 n4 c4)).other (b2:=w.heap.size) (j:=5) (by omega) (.slice a5 n5 c5)).other (b2:=w.heap.size) (j:=6) (by omega) (.slice a6 n6 c6));have aR:=(VY (w.heap.size) 6 (.slice a6 n6 c6) (by omega) (VY (w.heap.size) 5 (.slice a5 n5 c5) (by omega) (VY (w.heap.size) 4 (.slice a4 n4 c4) (by omega) ax)));clear A3 R3 ax;generalize (((w2.setCell (O w.heap.size 4) (.slice a4 n4 c4)).setCell (O w.heap.size 5) (.slice a5 n5 c5)).setCell (O w.heap.size 6) (.slice a6 n6 c6))=wC at *;refine(q3 _ (HV.out.below aR)).mono ?_;rintro e w3 ⟨v3,rfl,pm,aD⟩;obtain⟨a8,c8,KM,s8,DX⟩:=Ym (rows:=vs.map Up.cs) (by rw[U7];exact pm) (Yh (cs:=Up.cs) (λ_=>rfl) vs);rw[U7]at KM DX;subst KM;obtain⟨n8,Ez⟩:=TY vs.length;have Gz:Hid (n8=vs.length/\vs.length<=c8):=⟨Ez.symm,DX⟩;rw[Ez]at pm ⊢;have e8:∀g o,a8=some (O g o)->w.heap.size+1<g:=λg o h=>by
  have h1:=(World.ownsRow.lt pm g (by rw[h];rfl)).1;have h2:w.heap.size+1<_:=TV (R4.c 0 rfl);omega
 clear pm Ez DX;have bG:=TJ aR aD;have A5:=A4.below aD;have R5:=R4.below aD;clear A4 R4 aR aD;have IR:=A5.c 8 rfl;have An:=A5.f 8 rfl;have IX:=A5.c 9 rfl;have Au:=A5.f 9 rfl;go_wp2_with fail;clear IR An IX Au;have A6:=(A5.set (j:=8) (.slice a8 n8 c8));have R6:=(R5.other (b2:=w.heap.size) (j:=8) (by omega) (.slice a8 n8 c8));have cp:=(VY (w.heap.size) 8 (.slice a8 n8 c8) (by omega) bG);have S6:=s8.set (b:=w.heap.size) (i:=8) (v:=.slice a8 n8 c8) (λg o h=>by have:=e8 g o h;omega);clear s8;clear A5 R5 bG;generalize (w3.setCell (O w.heap.size 8) (.slice a8 n8 c8))=wD at *;refine(q4 _ (HX.out.below cp)).mono ?_;rintro e w4 ⟨v4,rfl,Ky,hb6⟩;obtain⟨a9,n9,c9,rfl⟩:=UY Ky;clear Ky;have dz:=TJ cp hb6;have A7:=A6.below hb6;have S7:=S6.below hb6;clear S6;have R7:=R6.below hb6;clear A6 R6 cp hb6;have OH:=A7.c 9 rfl;have IS:=A7.f 9 rfl;have OZ:=A7.set (j:=9) (.slice a9 n9 c9);have RZ:=R7.other (b2:=w.heap.size) (j:=9) (by omega) (.slice a9 n9 c9);have z0:=OZ.c 0 rfl;have y0:=RZ.c 0 rfl;have Ns:=RZ.f 0 rfl;have z1:=OZ.c 1 rfl;have y1:=RZ.c 1 rfl;have Nt:=RZ.f 1 rfl;have z2:=OZ.c 2 rfl;have y2:=RZ.c 2 rfl;have Nu:=RZ.f 2 rfl;have z3:=OZ.c 3 rfl;have y3:=RZ.c 3 rfl;have Nv:=RZ.f 3 rfl;have z4:=OZ.c 4 rfl;have y4:=RZ.c 4 rfl;have Nw:=RZ.f 4 rfl;have z5:=OZ.c 5 rfl;have y5:=RZ.c 5 rfl;have Nx:=RZ.f 5 rfl;have z6:=OZ.c 6 rfl;have y6:=RZ.c 6 rfl;have Ny:=RZ.f 6 rfl;have z7:=OZ.c 7 rfl;have y7:=RZ.c 7 rfl;have Nz:=RZ.f 7 rfl;have z8:=OZ.c 8 rfl;have y8:=RZ.c 8 rfl;have NA:=RZ.f 8 rfl;have z9:=OZ.c 9 rfl;have y9:=RZ.c 9 rfl;have NB:=RZ.f 9 rfl;have RF:=((((((((((RZ.set (j:=0) (J tx)).set (j:=1) (.slice a1 n1 c1)).set (j:=2) (.slice a2 n2 c2)).set (j:=3) (.slice a3 n3 c3)).set (j:=4) (.slice a4 n4 c4)).set (j:=5) (.slice a5 n5 c5)).set (j:=6) (.slice a6 n6 c6)).set (j:=7) (J cur)).set (j:=8) (.slice a8 n8 c8)).set (j:=9) (.slice a9 n9 c9));have z8:∀g o,a8=some (O g o)->g≠w.heap.size+1:=λg o h=>by have:=e8 g o h;omega
 have LN:Hid (Za _ a8 8 (vs.map Up.cs)):=((((((((((S7.set (b:=w.heap.size) (i:=9) (v:=.slice a9 n9 c9) (λg o h=>by have:=e8 g o h;omega)).set (b:=w.heap.size+1) (i:=0) (v:=J tx) z8).set (b:=w.heap.size+1) (i:=1) (v:=.slice a1 n1 c1) z8).set (b:=w.heap.size+1) (i:=2) (v:=.slice a2 n2 c2) z8).set (b:=w.heap.size+1) (i:=3) (v:=.slice a3 n3 c3) z8).set (b:=w.heap.size+1) (i:=4) (v:=.slice a4 n4 c4) z8).set (b:=w.heap.size+1) (i:=5) (v:=.slice a5 n5 c5) z8).set (b:=w.heap.size+1) (i:=6) (v:=.slice a6 n6 c6) z8).set (b:=w.heap.size+1) (i:=7) (v:=J cur) z8).set (b:=w.heap.size+1) (i:=8) (v:=.slice a8 n8 c8) z8).set (b:=w.heap.size+1) (i:=9) (v:=.slice a9 n9 c9) z8;have yA:Hid (Bw w _):=(VY (w.heap.size+1) 9 (.slice a9 n9 c9) (by omega) (VY (w.heap.size+1) 8 (.slice a8 n8 c8) (by omega) (VY (w.heap.size+1) 7 (J cur) (by omega) (VY (w.heap.size+1) 6 (.slice a6 n6 c6) (by omega) (VY (w.heap.size+1) 5 (.slice a5 n5 c5) (by omega) (VY (w.heap.size+1) 4 (.slice a4 n4 c4) (by omega) (VY (w.heap.size+1) 3 (.slice a3 n3 c3) (by omega) (VY (w.heap.size+1) 2 (.slice a2 n2 c2) (by omega) (VY (w.heap.size+1) 1 (.slice a1 n1 c1) (by omega) (VY (w.heap.size+1) 0 (J tx) (by omega) (VY (w.heap.size) 9 (.slice a9 n9 c9) (by omega) dz)))))))))));obtain⟨t0,t1,t2,t3,t4,t5,t6,t7,t8,t9⟩:=RF.UA;clear RF OZ RZ A7 R7 dz S7;go_wp2;exact Ue (v:=.agg #[J tx,.slice a1 n1 c1,.slice a2 n2 c2,.slice a3 n3 c3,.slice a4 n4 c4,.slice a5 n5 c5,.slice a6 n6 c6,J cur,.slice a8 n8 c8,.slice a9 n9 c9]) (by simp[results,Tryz.results44,go_sem,t0,t1,t2,t3,t4,t5,t6,t7,t8,t9]) rfl ⟨⟨_,_,_,_,_,_,_,_,_,_,_,_,_,_,_,_,_,_,_,_,_,_,_,_,rfl,Gz.out.1,LN.out,Gz.out.2⟩,yA.out⟩
section
open Go.RowKit Go.ChangeMaps Go.MapKept Go.WideMaps
structure vcw(s:Uo)(w w':World)(bb lb:Nat)(a8:Option Addr)(c8:Nat):Prop where
 ex:∃nm wm k w0 a b c d e f ca cb cc cd ce cf,Zl [(0,J s.tx),(8,U a8 s.vs.length c8)] w0 w' s bb lb nm wm k k a b c d e f ca cb cc cd ce cf/\k<=30/\Bw w w0/\Zx w0/\Zd w0 (.agg #[U a s.Tz.Tw.length ca,U b s.Tz.TC.length cb,U c s.Tz.TG.length cc]) s.Tz/\Zd w0 (.agg #[U d s.TE.Tw.length cd,U e s.TE.TC.length ce,U f s.TE.TG.length cf]) s.TE/\nm≠lb/\wm≠lb/\Um s.Tz=true/\Um s.TE=true
structure veT(s:Uo)(w:World)(q:Ending)(w':World):Prop where
 ex:∃x,q=V (.tuple #[.pointer x,Z (VI s)])/\(VI s=true->∃bb lb n a8 c8,x=some (O bb 0)/\w'.cell? (O bb 10)=some (.map (some lb))/\Zm w' lb n (Wy s.vs)/\w'.cell? (O bb 0)=some (J s.tx)/\w'.cell? (O bb 8)=some (U a8 s.vs.length c8)/\Za w' a8 8 (s.vs.map Up.cs)/\s.vs.length<=c8/\vcw s w w' bb lb a8 c8)
 TQ:Bw w w'
theorem ji8(hS:vaI)(s:Uo)(v:Value)(w:World)(hE:Zx w)(hv:Jd w v s)(ok:Zr s):
  C 19 #[v] w (veT s w):=by
 have dQ:=hv;obtain⟨a,b,c,d,e,f,va,ia,ca,cb,cc,cd,ce,cf,cv,ci,rfl,hN,hW,hV,hX,_,_⟩:=hv.form;have ag:=TK w (G (stA s a b c d e f va ia ca cb cc cd ce cf cv ci).toArray 31);have A0:=Zh.new w (stA s a b c d e f va ia ca cb cc cd ce cf cv ci) 31;have q1:=λw hE h=>jjc s (.agg (stA s a b c d e f va ia ca cb cc cd ce cf cv ci).toArray) w hE h ok
 have q2:=λw h=>jfv s.vs s.tx s.cur a b c d e f va ia s.Tz.Tw.length ca s.Tz.TC.length cb s.Tz.TG.length cc s.TE.Tw.length cd s.TE.TC.length ce s.TE.TG.length cf s.vs.length cv s.ix.length ci w h ok.vs rfl ok.vl
 skip
 have HV:=hid hV;have HX:=hid hX;have HN:=hid hN;have HW:=hid hW;clear hV hX hN hW hv;have⟨x0,x1,x2,x3,x4,x5,x6,x7,x8,x9⟩:=A0.UA;delta C;go_in;go_wp2_with fail;refine(q1 _ (hE.of_below ag) (dQ.below ag)).mono ?_;rintro e1 w1 ⟨rfl,hb1⟩;have aj:=TJ ag hb1;have A1:=A0.below hb1;clear hb1 A0 q1 x0 x1 x2 x3 x4 x5 x6 x7 x8 x9;cases h1:jk5 s
 case false=>
  have HR:Hid (VI s=false):=by simp[Hid,VI,jov,h1]
  go_wp2;go_ret2;exact⟨⟨none,by rw[HR.out];rfl,λh=>by rw[HR.out]at h;cases h⟩,aj⟩
 have hr:Um s.Tz=true/\Um s.TE=true:=by
  unfold jk5 at h1;simp only[UM]at h1;exact h1.2
 have⟨oG,dC⟩:=hr;have⟨x0,x1,x2,x3,x4,x5,x6,x7,x8,x9⟩:=A1.UA;go_wp2_with fail;refine(q2 _ (HV.out.below aj)).mono ?_;rintro e2 w2 ⟨rfl,ac⟩;have an:=TJ aj ac;have A2:=A1.below ac;clear ac A1 q2 x0 x1 x2 x3 x4 x5 x6 x7 x8 x9;cases h2:Yp s.vs s.tx
 case false=>
  have HR:Hid (VI s=false):=by simp[Hid,VI,jov,h1,h2]
  go_wp2;go_ret2;exact⟨⟨none,by rw[HR.out];rfl,λh=>by rw[HR.out]at h;cases h⟩,an⟩
 have q3:=jqn s.vs va s.vs.length cv w2 (HV.out.below an) (j23 h2) rfl ok.vl;have x8:=A2.c 8 rfl;go_wp2_with fail;refine q3.mono ?_;rintro e3 w3 mw;have ar:=mw.TQ;have ax:=TJ an ar;have A3:=A2.below ar;clear ar A2 q3 x8;rcases mw.end_ with⟨h3,iI,gT⟩|⟨h3,iI⟩
 case inr=>
  subst iI;clear mw;have HR:Hid (VI s=false):=by simp[Hid,VI,jov,h1,h2,h3]
  go_wp2;go_ret2;exact⟨⟨none,by rw[HR.out];rfl,λh=>by rw[HR.out]at h;cases h⟩,ax⟩
 subst iI;have N8:=an.size;clear mw an aj ag;have q4:=jkd s _ (Wy s.vs) (Uf s.vs) w2.heap.size s.vs.length w3 (hE.of_below ax) (dQ.below ax) ok gT (jga s.vs) (jhr s.vs.length) ok.vl oG dC;have⟨x0,x1,x2,x3,x4,x5,x6,x7,x8,x9⟩:=A3.UA;go_wp2_with fail;refine q4.mono ?_;rintro e4 w4 ⟨rfl,aD⟩;have IM:=gT.below aD;have aR:=TJ ax aD;have A4:=A3.below aD;clear aD A3 q4 gT x0 x1 x2 x3 x4 x5 x6 x7 x8 x9;cases h4:jnr s (Uf s.vs)
 case false=>
  have HR:Hid (VI s=false):=by simp[Hid,VI,jov,h1,h2,h3,h4]
  go_wp2;go_ret2;exact⟨⟨none,by rw[HR.out];rfl,λh=>by rw[HR.out]at h;cases h⟩,aR⟩
 have HR:Hid (VI s=Yv s.ix (UK (XM s) (Uf s.vs))):=by simp only[Hid,VI,jov,h1,h2,h3,h4,Bool.true_and]
 have wY:(Uf s.vs).length<=30:=by
  unfold jnr at h4;rw[UM]at h4;exact VH h4.1
 clear h1 h2 h3 h4;generalize vf:w2.heap.size=lb at *;clear vf;have xM:=UF w4;have bG:Bw w w4.drew:=TJ aR xM;have jr:=IM.below xM;have A5:=A4.below xM;have⟨z0,z1,z2,z3,z4,z5,z6,z7,z8,z9⟩:=A5.UA;have xV:=jqs s _ w4.drew (dQ.below bG) ok;have iH:=fun(r:Un) a b c ca cb cc W=>jmf r a b c ca cb cc W
 have Gy:=hid jr;have lM:=hid bG;have Be:=hid A5;clear IM jr aR bG A4 A5 xM ax;go_wp2_with fail;go_region_held3 (λw'=>w'.cell? (O w.heap.size 0)=some (J s.tx)/\w'.cell? (O w.heap.size 1)=some (U a s.Tz.Tw.length ca)/\w'.cell? (O w.heap.size 2)=some (U b s.Tz.TC.length cb)/\w'.cell? (O w.heap.size 3)=some (U c s.Tz.TG.length cc)/\w'.cell? (O w.heap.size 4)=some (U d s.TE.Tw.length cd)/\w'.cell? (O w.heap.size 5)=some (U e s.TE.TC.length ce)/\w'.cell? (O w.heap.size 6)=some (U f s.TE.TG.length cf)/\w'.cell? (O w.heap.size 7)=some (J s.cur)/\w'.cell? (O w.heap.size 8)=some (U va s.vs.length cv)/\w'.cell? (O w.heap.size 9)=some (U ia s.ix.length ci)) (go_keep) (first|(go_at_call 44;refine xV.mono ?_;rintro q w5 fo;obtain⟨a1,n1,c1,a2,n2,c2,a3,n3,c3,a4,n4,c4,a5,n5,c5,a6,n6,c6,a8,n8,c8,a9,n9,c9,Nj,rfl,Kz⟩:=fo.ex;subst Nj;have GB:Hid (Za w5 a8 8 (s.vs.map Up.cs)/\s.vs.length<=c8):=Kz;clear Kz;have aV:=fo.TQ;clear fo;have⟨Qw,Qz,QA,QB,QD,QE,QI,QJ,QK,QN⟩:=(Be.out.below aV).UA)|(go_at_call 45;have RL:=hb6;refine(iH s.TE d e f cd ce cf _).mono ?_;rintro q w7 ff;have yg:=ff.ex;subst yg;have DW:=ff.cache;have ay:=ff.TQ;clear ff;have⟨PW,PX,PY,Qa,Qc,Qn,Qr,Qu,Qv,La⟩:=(((Be.out.below aV).below hb6).below ay).UA)|(go_at_call 45;refine(iH s.Tz a b c ca cb cc _).mono ?_;rintro q w6 yy;have Nm:=yy.ex;subst Nm;have mu:=yy.cache;have hb6:=yy.TQ;clear yy;have⟨Pt,Px,Pz,PA,PF,PO,PQ,PS,PT,PU⟩:=((Be.out.below aV).below hb6).UA))
 all_goals
  have bG:=TJ lM.out aV;have Hx:=(Ui w5.heap.size w5).trans (hb6.mono (TP _));have Hy:=TJ Hx ay;have b8:=TK w7 (G #[J s.tx,U a1 n1 c1,U a2 n2 c2,U a3 n3 c3,U a4 n4 c4,U a5 n5 c5,U a6 n6 c6,J s.cur,U a8 s.vs.length c8,U a9 n9 c9,.map (some lb),U a s.Tz.Tw.length ca,U b s.Tz.TC.length cb,U c s.Tz.TG.length cc,.map (some (w5.heap.size+1+1)),U d s.TE.Tw.length cd,U e s.TE.TC.length ce,U f s.TE.TG.length cf,.map (some (w6.heap.size+1+1))] 78);have Hz:=TJ Hy b8;have l5:=aV.size;have l6:=hb6.size;have l7:=ay.size;have ln:=mu.lt;have lw:=DW.lt;have ll:=Gy.out.lt;have K8:=Zh.new w7 [J s.tx,U a1 n1 c1,U a2 n2 c2,U a3 n3 c3,U a4 n4 c4,U a5 n5 c5,U a6 n6 c6,J s.cur,U a8 s.vs.length c8,U a9 n9 c9,.map (some lb),U a s.Tz.Tw.length ca,U b s.Tz.TC.length cb,U c s.Tz.TG.length cc,.map (some (w5.heap.size+1+1)),U d s.TE.Tw.length cd,U e s.TE.TC.length ce,U f s.TE.TG.length cf,.map (some (w6.heap.size+1+1))] 78;have Ia:Zl [(0,J s.tx),(8,U a8 s.vs.length c8)] w5 _ s w7.heap.size lb (w5.heap.size+1+1) (w6.heap.size+1+1) 0 0 a b c d e f ca cb cc cd ce cf:=⟨Hz,K8.c 7 rfl,K8.c 10 rfl,K8.c 11 rfl,K8.c 12 rfl,K8.c 13 rfl,K8.c 14 rfl,K8.c 15 rfl,K8.c 16 rfl,K8.c 17 rfl,K8.c 18 rfl,(mu.below ay).below b8,DW.below b8,Q,Q,Q,λp hp=>by simp at hp;rcases hp with rfl|rfl;exact K8.c 0 rfl;exact K8.c 8 rfl,_,heap_alloc_new w7 _⟩;have J2:=(((Gy.out.below aV).below hb6).below ay).below b8;have tU:=hE.of_below bG;have si:=HN.out.below bG;have uL:=HW.out.below bG;have jy:=jhk hS w5 s w7.heap.size lb (w5.heap.size+1+1) (w6.heap.size+1+1) s.vs.length a b c d e f ca cb cc cd ce cf (Wy s.vs) (Uf s.vs) _ tU si uL ok.Tz ok.TE oG dC (Ia.below (UF _)) Q Q (J2.below (UF _)) (jga s.vs) (jhr s.vs.length) Q;have qx:Hid (Zx w5/\Zd w5 (.agg #[U a s.Tz.Tw.length ca,U b s.Tz.TC.length cb,U c s.Tz.TG.length cc]) s.Tz/\Zd w5 (.agg #[U d s.TE.Tw.length cd,U e s.TE.TC.length ce,U f s.TE.TG.length cf]) s.TE/\w5.heap.size+1+1≠lb/\w6.heap.size+1+1≠lb/\Um s.Tz=true/\Um s.TE=true/\(Uf s.vs).length<=30):=⟨tU,si,uL,Q,Q,oG,dC,wY⟩;have x9:=Tx (UF _) (Tx b8 La);have LU:Hid (Za w5 ia 2 (s.ix.map TZ.cs)):=HX.out.below bG;have Gm:=hid bG;have iD:(UK (XM s) (Uf s.vs)).length<=30:=Nat.le_trans (jep _ _) wY;have de:=ok.xl;have⟨X,lC⟩:=TY (UK (XM s) (Uf s.vs));rw[lC]at jy iD;have lh:Hid (VI s=Yv s.ix X):=by simp only[Hid];rw[<- lC];exact HR.out
  have⟨tb,jj⟩:=TY (Yv s.ix X);have uq:Hid (VI s=tb):=by simp only[Hid];rw[lh.out];exact jj
  have JC:=λpx cx W (h:Za W ia 2 (s.ix.map TZ.cs)) (h2:Za W px 2 (X.map TZ.cs))=>jhc s.ix X ia px s.ix.length X.length ci cx W h h2 rfl rfl de Q
  rw[jj]at JC;clear HR lh lC jj bG Hx Hy b8 Hz K8 Ia J2 tU si uL mu DW aV hb6 ay iH xV Qw Pt PW z0 Qz Px PX z1 QA Pz PY z2 QB PA Qa z3 QD PF Qc z4 QE PO Qn z5 QI PQ Qr z6 QJ PS Qu z7 QK PT Qv z8 PU La z9;go_wp2_with fail;go_region_held3 (λw'=>w'.cell? (O w.heap.size 9)=some (U ia s.ix.length ci)) (go_keep) (first|(go_at_call 47;refine jy.mono ?_;rintro q w9 pY;obtain⟨v9,rfl,eB⟩:=pY.ex;have⟨kk,sE,vG⟩:=pY.inv;have bZ:=vG.TQ;have N7:=vG.live;have BH:Hid (∀p∈[((0:Nat),J s.tx),(8,U a8 s.vs.length c8)],w9.cell? (O w7.heap.size p.1)=some p.2):=vG.more;have Gt:Hid (kk<=(Uf s.vs).length/\Zl [(0,J s.tx),(8,U a8 s.vs.length c8)] w5 w9 s w7.heap.size lb (w5.heap.size+1+1) (w6.heap.size+1+1) kk kk a b c d e f ca cb cc cd ce cf):=⟨sE,vG⟩;clear sE;have MB:=pY.live;clear vG pY;have eB:=jy6 eB;have⟨px,cx,KO,KA,_⟩:=Ym eB Y7;rw[U7]at KO;subst KO;clear eB;have Rb:=Tx bZ QN;have Dx:=JC px cx w9 (LU.out.below bZ) KA;clear KA)|(go_at_call 46;refine Dx.mono ?_;rintro q jC ⟨rfl,kT⟩;have SA:=Tx kT Rb;have Ep:=Tx kT N7;have Do:=MB.below kT))
  all_goals
   have G5:=Tx kT (BH.out (0,J s.tx) M);have Na:=Tx kT (BH.out (8,U a8 s.vs.length c8) M);clear BH;have fS:=TJ Gm.out bZ;have D6:=TJ fS kT;go_wp2;go_ret2;exact⟨⟨some (O w7.heap.size 0),by rw[uq.out];rfl,λ_=>⟨_,lb,_,a8,c8,rfl,Ep,Do,G5,Na,(GB.out.1.below bZ).below kT,GB.out.2,⟨_,_,kk,w5,a,b,c,d,e,f,ca,cb,cc,cd,ce,cf,Gt.out.2.below kT,Nat.le_trans Gt.out.1 qx.out.2.2.2.2.2.2.2,Gm.out,qx.out.1,qx.out.2.1,qx.out.2.2.1,qx.out.2.2.2.1,qx.out.2.2.2.2.1,qx.out.2.2.2.2.2.1,qx.out.2.2.2.2.2.2.1⟩⟩⟩,D6⟩
end
section
open Go.RowKit Go.Sort Go.Lib
def cfX(x y:TZ):Int:=orI (VQ x.at_ y.at_) (VQ x.id y.id)
theorem ltX(x y:TZ):ltOf cfX x y=Vn x y:=j0j x y
theorem vhD:SWO (ltOf cfX) where
 irrefl x:=by rw[ltX];exact jtk x
 trans x y z h1 h2:=by rw[ltX]at *;exact jir h1 h2
 ntrans x y z h1 h2:=by rw[ltX]at *;exact jns h1 h2
theorem jq6[Inhabited TZ](blk off size:Nat)(w:World):CmpLays Tryz.prog 86 #[] TZ.cs 2 cfX blk off size w:=λ_ _ _ _ x y=>jq4 x y _
theorem j29:vaI:=⟨λP base v w hO hl=>by
 haveI:Inhabited TZ:=⟨⟨0,0⟩⟩
 rcases hO.2 with⟨rfl,h0⟩|⟨g,cap,cur,rfl,hb,hh,_⟩
 .have hP:P=[]:=List.length_eq_zero_iff.mp h0
  subst hP;refine(Tryz.sortFunc_none none 0 _ w).mono ?_;rintro e w' ⟨rfl,rfl⟩;have h:ZN []=[]:=by simp[ZN]
  rw[h];exact⟨rfl,hO,⟨rfl,rfl,rfl,TP _,λ_ _ _=>rfl⟩⟩
 .have⟨hH,hlt,_⟩:=j3p (enc:=TZ.cs) (λ_=>rfl) Z5 hO
  have hC:=Tryz.sortFunc_total 2 Tryz.isAgg56 Tryz.sizeOf56 TZ.cs (λ_=>rfl) (λx v hv=>by simp[TZ.cs]at hv;rcases hv with rfl|rfl<;>rfl) cfX vhD 86 #[] g 0 cap P.toArray w (λ_ _=>Z4) (jq6 g 0 P.toArray.size w) hH hlt Z6 (λx y h1 h2=>by rw[ltX]at h1 h2;exact jis h1 h2);refine Calls.mono (by simpa using hC) ?_;rintro e w' ⟨rfl,q,os,rfl⟩;have hs:(P.toArray.toList.mergeSort λx y=> !(ltOf cfX) y x)=ZN P:=by
   unfold ZN
   congr 1
   funext x y
   rw[ltX]
  rw[hs];have h:=vea (enc:=TZ.cs) (λ_=>rfl) Z5 (q:=q) (os:=os) hO (jvh P)
  exact⟨rfl,h.1,h.2⟩⟩
end
theorem jwv(s:Uo)(v:Value)(w:World)(hE:Zx w)(hv:Jd w v s)(ok:Zr s):
  C 8 #[v] w λe w'=>e=V (Z (VI s))/\Bw w w':=by
 have dQ:=hv;obtain⟨a,b,c,d,e,f,va,ia,ca,cb,cc,cd,ce,cf,cv,ci,rfl,_,_,_,_,_,_⟩:=hv.form;have ag:Bw w (w.alloc (G (stA s a b c d e f va ia ca cb cc cd ce cf cv ci).toArray 31)):=TK _ _;have hO:=ji8 j29 s _ _ (hE.of_below ag) (dQ.below ag) ok;clear hv dQ hE ok;delta C;go_in;go_wp2_with fail;refine hO.mono ?_;rintro q w1 hP;obtain⟨x,rfl,_⟩:=hP.ex;have hb1:=hP.TQ;go_wp2;go_ret;exact⟨rfl,(TJ ag hb1)⟩
