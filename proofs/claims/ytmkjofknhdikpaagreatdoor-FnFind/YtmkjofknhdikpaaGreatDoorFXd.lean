import Derived.Test.YtmkjofknhdikpaaGreatDoorSXd
set_option maxRecDepth 20000
set_option maxHeartbeats 0
set_option linter.unusedSimpArgs false
open Go.RowKit Go.Sort
namespace Go.Proofs.YtmkjofknhdikpaaGreatDoor
variable{w:World}{F base cap g i j k n size:Nat}{v:Value}{Tv P:List TZ}{hi lo:Int}{e:TypeId}{x:TZ}{bs:Array Value}
theorem Zb.below{w':World}{L:List TZ}(h:Zb w base v L)(hb:Bw w w'):Zb w' base v L:=UG h hb
theorem Zb.seq(h:Zb w base v P):∃a cap,v=.slice a P.length cap/\Za w a 2 (P.map TZ.cs):=by
 obtain⟨a,cap,h1,h2,h3⟩:=Ym (rows:=P.map TZ.cs) (by rw[U7];exact h) Y7;rw[U7]at h1 h3;exact⟨a,cap,h1,h2⟩
def WJ(lo hi n:Int):Bool:=decide (lo<=n)&&decide (n<=hi)
theorem j3b{n:Int}(h1:lo<=n)(h2:n<=hi):WJ lo hi n=true:=by unfold WJ;rw[Uy h1,Uy h2];rfl
theorem j1t{n:Int}(h:n<lo\/hi<n):WJ lo hi n=false:=by
 unfold WJ;rcases h with h|h
 .rw[dfe Q];rfl
 .rw[dfe (p:=n<=hi) Q];simp
theorem joz:∀(Tv:List TZ) (i:Nat) (x:TZ),((Tv.map TZ.cs).flatten.set (i*2) (J x.at_)).set (i*2+1) (J x.id)=((Tv.set i x).map TZ.cs).flatten
 |[],_,_=>rfl
 |c::Tv,0,x=>rfl
 |c::Tv,i+1,x=>by
  have ih:=joz Tv i x;have e:(i+1)*2=i*2+1+1:=Q;rw[e];simp only[List.map_cons,List.flatten_cons,List.set_cons_succ];rw[<- ih];rfl
theorem Zb.put(h:Zb w base (so g n cap) Tv)(hn:n=Tv.length)(i:Nat)(x:TZ):Zb ((w.setCell (O g (i*2)) (J x.at_)).setCell (O g (i*2+1)) (J x.id)) base (so g n cap) (Tv.set i x):=by
 subst hn;have h2:=World.ownsRow.stored (World.ownsRow.stored h (i*2) (J x.at_)).1 (i*2+1) (J x.id)
 show World.ownsRow _ _ _ _ _ _ _
 rw[List.length_set, <- joz];exact h2.1
theorem jky:∀(L:List Value) (o:Nat) (w:World) (xs:List Value),w.ownsRow base e size (so g n cap) n xs->∃ys,(w.setCells g o L).ownsRow base e size (so g n cap) n ys/\ys.take o=xs.take o/\ys.length=xs.length
 |[],o,w,xs,h=>⟨xs,h,rfl,rfl⟩
 |v::L,o,w,xs,h=>by
  have⟨ys,h1,h2,h3⟩:=jky L (o+1) _ _ (World.ownsRow.stored h o v).1;refine⟨ys,h1,?_,by rw[h3,List.length_set]⟩;have:=congrArg (List.take o) h2;rw[List.take_take,List.take_take,Nat.min_eq_left Q]at this;rw[this,List.take_set_of_le Q]
theorem jvo{xs:List Value}(h:w.ownsRow base e size (so g n cap) n xs)(hi:i<=n):w.ownsRow base e size (so g i cap) i (xs.take (i*size)):=by
 have hl:i*size<=n*size:=Nat.mul_le_mul_right _ hi;refine⟨by rw[List.length_take,h.1];omega,?_⟩;rcases h.2 with⟨e0,_⟩|⟨g',fK,cur,e0,hb,hg,hn,hm,hs,ht⟩
 .cases e0
 .injection e0 with e1 e2 e3
  injection e1 with e1
  injection e1 with e1
  subst e1 e3;exact .inr ⟨g,cap,cur,rfl,hb,hg,Q,hm,hs,by rw[<- ht,List.take_take,Nat.min_eq_left hl]⟩
theorem vhQ(w:World):(zeroValue 56).run Tryz.prog w=.ok (.agg #[J 0,J 0]) w:=Z4
theorem jxs(w:World){base g n cap i:Nat}{xs:List Value}(h:w.ownsRow base 56 2 (so g n cap) n xs)(hi:i<n):∃L,∀ty,(Builtin.clear_ #[29] ty #[U (some (O g (i*2))) (n-i) (cap-i)]).run Tryz.prog w=.ok (.tuple #[]) (w.setCells g (i*2) L):=by
 have hz:(Builtin.zeroCells (Value.agg #[J 0,J 0]).cells (n-i)).toList.length=(n-i)*2:=by simp[Builtin.zeroCells,Value.cells]
 have ei:=run_storeCells_cells (P:=Tryz.prog) g (i*2) (Builtin.zeroCells (Value.agg #[J 0,J 0]).cells (n-i)).toList 0 w (λj hj=>by
   rw[hz]at hj;have h1:i*2+0+j<n*2:=Q;obtain⟨u,hu⟩:∃u,xs[i*2+0+j]? =some u:=⟨_,Ug (by rw[h.1];exact h1)⟩;rw[h.cellAt _ h1,hu];rfl) (λj _=>h.frozenAt _) (λv hv=>by
   simp[Builtin.zeroCells,Value.cells]at hv;obtain⟨k,_,rfl⟩:=hv
   rcases Nat.mod_two_eq_zero_or_one k with e|e<;>simp[e,Value.oneCell'])
 obtain⟨m,hm⟩:∃m,n-i=m+1:=⟨n-i-1,Q⟩;refine⟨(Builtin.zeroCells (Value.agg #[J 0,J 0]).cells (n-i)).toList,λty=>?_⟩;rw[Nat.add_zero]at ei;rw[hm]at ei ⊢;simp[Builtin.clear_,run_underlying Tryz.underlying29,vhQ,ei]
theorem vdz:∀(Tv:List TZ) (i:Nat),(Tv.map TZ.cs).flatten.take (i*2)=((Tv.take i).map TZ.cs).flatten
 |[],_=>M
 |c::Tv,0=>M
 |c::Tv,i+1=>by
  have ih:=vdz Tv i;have e:(i+1)*2=i*2+1+1:=Q;rw[e];simp only[List.map_cons,List.flatten_cons,List.take_succ_cons];rw[<- ih];rfl
structure Jq(lo hi:Int)(P Tv:List TZ)(i j:Nat):Prop where
 len:Tv.length=P.length
 low:Tv.take i=(P.take j).filter λx=>WJ lo hi x.at_
 high:∀m,j<=m->Tv[m]? =P[m]?
theorem jqh(hx:P[k]? =some x)(hr:WJ lo hi x.at_=false)(h:∀j y,j<k->P[j]? =some y->WJ lo hi y.at_=true):Jq lo hi P P k (k+1):=by
 refine⟨rfl,?_,λ_ _=>rfl⟩;rw[List.take_add_one,hx,List.filter_append];simp only[Option.toList_some,List.filter_cons,hr,List.filter_nil];rw[List.filter_eq_self.mpr λy hy=>?_]
 .simp
 .have⟨j,hj⟩:=Wq hy
  have hl:=(Ux hj).1;rw[List.length_take]at hl;rw[List.getElem?_take,if_pos Q]at hj;exact h j y Q hj
theorem Jq.skip(h:Jq lo hi P Tv i j)(hx:P[j]? =some x)(hr:WJ lo hi x.at_=false):Jq lo hi P Tv i (j+1):=by
 refine⟨h.len,?_,λm hm=>h.high m Q⟩;rw[List.take_add_one,hx,List.filter_append,h.low];simp[hr]
theorem Jq.keep(h:Jq lo hi P Tv i j)(hx:P[j]? =some x)(hr:WJ lo hi x.at_=true)(eF:i<j):Jq lo hi P (Tv.set i x) (i+1) (j+1):=by
 have hl:=(Ux hx).1;have FY:i<Tv.length:=by rw[h.len];omega
 refine⟨by rw[List.length_set];exact h.len,?_,λm hm=>?_⟩
 .rw[List.take_add_one,List.getElem?_set_self FY,List.take_set_of_le (TP _),h.low,List.take_add_one,hx,List.filter_append]
  simp[hr]
 .rw[List.getElem?_set_ne Q]
  exact h.high m Q
structure vcx(F:Nat)(bs:Array Value)(p:TD->Bool)(base:Nat)(W0:World):Prop where
 enter:∀args w,(callFunc F args).run Tryz.prog w=.ok (.enter F args) w
 call:∀x W,Below base W0 W->C F (#[x.v]++bs) W λe W'=>e=V (Z (!p x))/\Bw W W'
theorem vfc(w:World){base g n cap i:Nat}{xs:List Value}(h:w.ownsRow base 43 6 (so g n cap) n xs)(hi:i<n):∃L,∀ty,(Builtin.clear_ #[40] ty #[U (some (O g (i*6))) (n-i) (cap-i)]).run Tryz.prog w=.ok (.tuple #[]) (w.setCells g (i*6) L):=by
 have hz:(Builtin.zeroCells (Value.agg #[J 0,ZV,ZV,J 0,J 0,J 0]).cells (n-i)).toList.length=(n-i)*6:=by simp[Builtin.zeroCells,Value.cells]
 have ei:=run_storeCells_cells (P:=Tryz.prog) g (i*6) (Builtin.zeroCells (Value.agg #[J 0,ZV,ZV,J 0,J 0,J 0]).cells (n-i)).toList 0 w (λj hj=>by
   rw[hz]at hj;have h1:i*6+0+j<n*6:=Q;obtain⟨u,hu⟩:∃u,xs[i*6+0+j]? =some u:=⟨_,Ug (by rw[h.1];exact h1)⟩;rw[h.cellAt _ h1,hu];rfl) (λj _=>h.frozenAt _) (λv hv=>by
   simp[Builtin.zeroCells,Value.cells]at hv;obtain⟨k,_,rfl⟩:=hv
   rcases(show k%6=0\/k%6=1\/k%6=2\/k%6=3\/k%6=4\/k%6=5 by omega)with e|e|e|e|e|e<;>simp[e,Value.oneCell'])
 obtain⟨m,hm⟩:∃m,n-i=m+1:=⟨n-i-1,Q⟩;refine⟨(Builtin.zeroCells (Value.agg #[J 0,ZV,ZV,J 0,J 0,J 0]).cells (n-i)).toList,λty=>?_⟩;rw[Nat.add_zero]at ei;rw[hm]at ei ⊢;simp[Builtin.clear_,run_underlying Tryz.underlying40,juf,ei]
theorem vfw(Tv:List TD)(i:Nat)(hi:i<=Tv.length):(Tv.map TD.cs).flatten.take (i*6)=((Tv.take i).map TD.cs).flatten:=by
 conv=>lhs;rw[<- List.take_append_drop i Tv,Vr,List.flatten_append]
 rw[List.take_left'];rw[ZI ZK,U7,List.length_take,Nat.min_eq_left hi]
structure vab(p:TD->Bool)(P Tv:List TD)(i j:Nat):Prop where
 len:Tv.length=P.length
 low:Tv.take i=(P.take j).filter p
 high:∀m,j<=m->Tv[m]? =P[m]?
def vbB(p:TD->Bool)(P:List TD)(k:Nat):Prop:=∀j x,j<k->P[j]? =some x->p x=true
theorem vf0{p:TD->Bool}{P:List TD}{x:TD}(hx:P[k]? =some x)(hr:p x=false)(h:vbB p P k):vab p P P k (k+1):=by
 refine⟨rfl,?_,λ_ _=>rfl⟩;rw[List.take_add_one,hx,List.filter_append];simp only[Option.toList_some,List.filter_cons,hr,List.filter_nil];rw[List.filter_eq_self.mpr λy hy=>?_]
 .simp
 .have⟨j,hj⟩:=Wq hy
  have hl:=(Ux hj).1;rw[List.length_take]at hl;rw[List.getElem?_take,if_pos Q]at hj;exact h j y Q hj
theorem vab.skip{p:TD->Bool}{P Tv:List TD}{x:TD}(h:vab p P Tv i j)(hx:P[j]? =some x)(hr:p x=false):vab p P Tv i (j+1):=by
 refine⟨h.len,?_,λm hm=>h.high m Q⟩;rw[List.take_add_one,hx,List.filter_append,h.low];simp[hr]
theorem vab.keep{p:TD->Bool}{P Tv:List TD}{x:TD}(h:vab p P Tv i j)(hx:P[j]? =some x)(hr:p x=true)(eF:i<j):vab p P (Tv.set i x) (i+1) (j+1):=by
 have hl:=(Ux hx).1;have FY:i<Tv.length:=by rw[h.len];omega
 refine⟨by rw[List.length_set];exact h.len,?_,λm hm=>?_⟩
 .rw[List.take_add_one,List.getElem?_set_self FY,List.take_set_of_le (TP _),h.low,List.take_add_one,hx,List.filter_append]
  simp[hr]
 .rw[List.getElem?_set_ne Q]
  exact h.high m Q
theorem vfq{p:TD->Bool}(P:List TD)(a:Option Addr)(cap:Nat)(W:World)(hA:Za W a 6 (P.map TD.cs))(hK:vcx F bs p W.heap.size W)(hl:P.length<=1000):
  C 62 #[U a P.length cap,.func (.func F) #[] bs] W λe W'=>Bw W W'/\((e=V (J (-1))/\vbB p P P.length)\/∃k x,e=V (J ((k:Nat):Int))/\P[k]? =some x/\p x=false/\vbB p P k):=by
 have⟨n,hn⟩:=TY P.length;have HN:=hid hn;have fi:=hK.enter;rw[hn]at hl ⊢;clear hn;delta C;go_in;go_wp2;go_loopw [5,8] (λ_ t wr=>∃k:Nat,t=J k/\k<=n/\Hid (vbB p P k)/\Bw W wr) (λ_ t _=>n-(intOf t).toNat)
 .exact⟨0,rfl,Q,λj x hj=>Q,Ui _ _⟩
 ·
  obtain⟨k,rfl,hk,HK,hB⟩:=hrel;by_cases hlt:k<n
  .obtain⟨x,hx⟩:∃x,P[k]? =some x:=⟨_,Ug (by rw[HN.out];exact hlt)⟩
   obtain⟨b,o,rfl,hc⟩:=(hA.below hB).at (i:=k) (r:=x.cs) (by rw[Uv,hx];rfl);have c0:wr.cell? (O b (o+k*6))=some (J x.id):=hc 0 _ rfl;have c1:wr.cell? (O b (o+k*6+1))=some (I x.name):=hc 1 _ rfl;have c2:wr.cell? (O b (o+k*6+2))=some (I x.TH):=hc 2 _ rfl;have c3:wr.cell? (O b (o+k*6+3))=some (J x.Ty):=hc 3 _ rfl;have c4:wr.cell? (O b (o+k*6+4))=some (J x.TM):=hc 4 _ rfl;have c5:wr.cell? (O b (o+k*6+5))=some (J x.TL):=hc 5 _ rfl;have hP:=hK.call x wr hB;simp only[TD.v]at hP;have HX:=hid hx;clear hc hx hA;cases hr:p x
   .rw[hr]at hP
    have HR:=hid hr;clear hr;go_wp2_with fail;refine hP.mono ?_;rintro e w1 ⟨rfl,hb1⟩;have aj:=TJ hB hb1;go_wp2;go_ret;exact⟨aj,.inr ⟨k,x,rfl,HX.out,HR.out,HK.out⟩⟩
   .rw[hr]at hP
    have ed:Hid (vbB p P (k+1)):=λj y hj hy=>by
     by_cases e:j=k
     .subst e;rw[HX.out]at hy;obtain rfl:=Uw hy;exact hr
     .exact HK.out j y Q hy
    clear hr;go_wp2_with fail;refine hP.mono ?_;rintro e w1 ⟨rfl,hb1⟩;have aj:=TJ hB hb1;go_wp2;go_roundw
    .exact⟨k+1,Z7,Q,ed,aj⟩
    .simp[intOf];omega
  .obtain rfl:k=n:=Q
   go_wp2;go_ret;exact⟨hB,.inl ⟨rfl,HK.out⟩⟩
theorem vfp{p:TD->Bool}(P:List TD)(base:Nat)(v:Value)(W:World)(hO:Jb W base v P)(hK:vcx F bs p base W)(hb:base<=W.heap.size)(hl:P.length<=1000):
  C 31 #[v,.func (.func F) #[] bs] W λe W'=>∃x,e=V x/\Jb W' base x (P.filter p)/\Below base W W':=by
 obtain⟨a,cap,rfl,hs⟩:=hO.seq;have hI:=vfq P a cap W hs ⟨hK.enter,λx w' h=>hK.call x w' (h.mono hb)⟩ hl;have⟨n,hn⟩:=TY P.length;have HN:=hid hn;have fi:=hK.enter;have HC:=λx w' h=>hK.call x w' h
 rw[hn]at hI hO hl ⊢;clear hn hs hK;delta C;go_in;go_wp2_with fail;refine hI.mono ?_;rintro e w1 ⟨hb1,hr⟩;have aj:Below base W w1:=hb1.mono hb;have dW:=hO.below hb1;have bU:=hb1.size;clear hI hO hb1;rcases hr with⟨rfl,ak⟩|⟨k,x,rfl,hx,hr,hk⟩
 .have HF:Hid ((P.filter p)=P):=List.filter_eq_self.mpr λy hy=>by
   have⟨j,hj⟩:=Wq hy;exact ak j y (by have:=(Ux hj).1;have:=HN.out;omega) hj
  clear ak;go_wp2;go_ret;exact⟨_,rfl,by rw[HF.out];exact dW,aj⟩
 have MY:k<n:=by have:=(Ux hx).1;have:=HN.out;omega
 obtain⟨g,hg⟩:∃g,a=some (O g 0):=by
  rcases dW.2 with⟨_,h0⟩|⟨g,_,_,h0,_⟩
  .have:=HN.out;omega
  .injection h0 with h0 _ _;exact⟨g,h0⟩
 subst hg;have jG:=(World.ownsRow.lt dW g rfl).1;have HS:Hid (vab p P P k (k+1)):=vf0 hx hr hk;have az:((k:Int)== -1)=false:=M;clear hx hr hk;go_wp2;go_loopw [5,6,7] (λs5 s6 _ wr=>∃(i j:Nat) (Tv:List TD),s5=J i/\s6=J j/\j<=n/\i<j/\Hid (vab p P Tv i j)/\Hid (Jb wr base (so g n cap) Tv)/\Below base W wr) (λ_ s6 _ _=>n-(intOf s6).toNat)
 .exact⟨k,k+1,P,rfl,Z7,Q,Q,HS,dW,aj⟩
 ·
  have⟨wa,dS⟩:=UL wr;subst dS;obtain⟨i,j,Tv,rfl,rfl,Vv,eF,HK,HO,hB⟩:=hrel;have pO:Tv.length=n:=by rw[HK.out.len];exact HN.out
  have hsz:=hB.size;clear HS dW aj bU;by_cases hlt:j<n
  .have j1:(j:Int)<(n:Int):=Q
   obtain⟨y,hy⟩:∃y,P[j]? =some y:=⟨_,Ug (by rw[HN.out];exact hlt)⟩;have hO:=HO.out;have⟨c0,c1,c2,c3,c4,c5⟩:=VO hO (i:=j) (x:=y) (by rw[HK.out.high j (TP _)];exact hy);have b1:=TK wa (G #[J y.id,I y.name,I y.TH,J y.Ty,J y.TM,J y.TL] 43);have dW:=hO.below b1;have E:=Zh.new wa [J y.id,I y.name,I y.TH,J y.Ty,J y.TM,J y.TL] 43;have e0:=E.c 0 rfl;have e1:=E.c 1 rfl;have e2:=E.c 2 rfl;have e3:=E.c 3 rfl;have e4:=E.c 4 rfl;have e5:=E.c 5 rfl;have ck:Below base W (wa.alloc (G #[J y.id,I y.name,I y.TH,J y.Ty,J y.TM,J y.TL] 43)):=hB.trans (b1.mono Q);have hP:=HC y _ ck;simp only[TD.v]at hP;have pE:=hid dW;clear hO dW b1 HO;cases hr:p y
   .rw[hr]at hP
    have ed:Hid (vab p P Tv i (j+1)):=HK.out.skip hy hr;clear hy hr HK;go_wp2_with fail;refine hP.mono ?_;rintro e w2 ⟨rfl,ac⟩;have pF:Hid (Jb w2 base (so g n cap) Tv):=pE.out.below ac;have an:=ck.trans (ac.mono (by have:=ck.size;omega));clear ac pE hP e0 e1 e2 e3 e4 e5 E;go_wp2;go_roundw
    .exact⟨i,j+1,Tv,rfl,Z7,Q,Q,ed,pF,an⟩
    .simp[intOf];omega
   .rw[hr]at hP
    have ed:Hid (vab p P (Tv.set i y) (i+1) (j+1)):=HK.out.keep hy hr eF;clear hy hr HK;go_wp2_with fail;refine hP.mono ?_;rintro e w2 ⟨rfl,ac⟩;have aW:=pE.out.below ac;have pF:Hid (Jb ((((((w2.setCell (O g (i*6)) (J y.id)).setCell (O g (i*6+1)) (I y.name)).setCell (O g (i*6+2)) (I y.TH)).setCell (O g (i*6+3)) (J y.Ty)).setCell (O g (i*6+4)) (J y.TM)).setCell (O g (i*6+5)) (J y.TL)) base (so g n cap) (Tv.set i y)):=aW.put pO.symm i Q y;have an:=ck.trans (ac.mono (by have:=ck.size;omega));have ax:Below base W ((((((w2.setCell (O g (i*6)) (J y.id)).setCell (O g (i*6+1)) (I y.name)).setCell (O g (i*6+2)) (I y.TH)).setCell (O g (i*6+3)) (J y.Ty)).setCell (O g (i*6+4)) (J y.TM)).setCell (O g (i*6+5)) (J y.TL)):=jev jG y.cs (i*6) W w2 an;have E2:=E.below ac;have f0:=E2.c 0 rfl;have f1:=E2.c 1 rfl;have f2:=E2.c 2 rfl;have f3:=E2.c 3 rfl;have f4:=E2.c 4 rfl;have f5:=E2.c 5 rfl;have dE:w2.ownsRow base 43 6 (so g n cap) n (Tv.map TD.cs).flatten:=by have h:=aW;unfold Jb at h;rw[pO]at h;exact h
    obtain⟨yi,ue⟩:∃z,Tv[i]? =some z:=⟨_,Ug Q⟩;have⟨z0,z1,z2,z3,z4,z5⟩:=VO aW ue;have q0:=dE.frozenAt (i*6);have q1:=dE.frozenAt (i*6+1);have q2:=dE.frozenAt (i*6+2);have q3:=dE.frozenAt (i*6+3);have q4:=dE.frozenAt (i*6+4);have q5:=dE.frozenAt (i*6+5);have i2:(0:Int)<=(i:Int):=Q;have i3:(i:Int)<(n:Int):=Q;clear ac pE hP e0 e1 e2 e3 e4 e5 E E2 aW dE an ue;go_wp2;go_roundw
    .exact⟨i+1,j+1,Tv.set i y,Z7,Z7,Q,Q,ed,pF,ax⟩
    .simp[intOf];omega
  .obtain rfl:j=n:=Q
   have dE:wa.ownsRow base 43 6 (so g j cap) j (Tv.map TD.cs).flatten:=by have h:=HO.out;unfold Jb at h;rw[pO]at h;exact h
   have⟨L,uQ⟩:=vfc wa dE eF;have eh:j<=cap:=by
    rcases dE.2 with⟨h0,_⟩|⟨_,_,_,h0,_,_,h5,_⟩
    .cases h0
    .injection h0 with _ _ h0;omega
   have HF:Hid (Jb (wa.setCells g (i*6) L) base (so g i cap) (P.filter p)):=by
    have⟨ys,k1,k2,k3⟩:=jky L (i*6) wa _ dE;have k4:=jvo k1 (Nat.le_of_lt eF);have e1:Tv.take i=P.filter p:=by rw[HK.out.low,List.take_of_length_le (by rw[HN.out];exact TP _)]
    have e2:(P.filter p).length=i:=by rw[<- e1,List.length_take];omega
    rw[k2,vfw _ _ Q,e1]at k4
    show World.ownsRow _ _ _ _ _ _ _
    rw[e2];exact k4
   have pJ:Below base W (wa.setCells g (i*6) L):=jev jG L _ W wa hB;have i2:(0:Int)<=(i:Int):=Q;have i3:(i:Int)<=(j:Int):=Q;have i4:(i:Int)<=(cap:Int):=Q;clear dE HO HK;go_wp2;go_ret;exact⟨_,rfl,HF.out,pJ⟩
