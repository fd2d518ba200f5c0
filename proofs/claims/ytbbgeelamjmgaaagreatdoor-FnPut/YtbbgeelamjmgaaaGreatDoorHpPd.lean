import Derived.Test.YtbbgeelamjmgaaaGreatDoorHpQd
set_option maxRecDepth 20000
set_option maxHeartbeats 0
set_option linter.unusedSimpArgs false
open Go.RowKit Go.Sort
namespace Go.Proofs.YtbbgeelamjmgaaaGreatDoor
variable{a b c x y z:ZF}{X Y:List ZF}{base cap f g hp i j k n p t:Nat}{w w' w1 w2:World}{row:Option Nat}
def MU(a b:ZF):Prop:=a.YV<b.YV\/(a.YV=b.YV/\a.place<=b.place)
def ltW(a b:ZF):Bool:=if a.YV=b.YV then decide (a.place<b.place)else decide (a.YV<b.YV)
theorem j18(h:ltW a b=true):MU a b:=by
 unfold ltW at h;unfold MU;split at h
 .have:=Nb h;omega
 .have:=Nb h;omega
theorem jv1(h:ltW a b=false):MU b a:=by
 unfold ltW at h;unfold MU;split at h
 .have:=of_decide_eq_false h;omega
 .have:=of_decide_eq_false h;omega
theorem le_trans(h:MU a b)(h2:MU b c):MU a c:=by unfold MU at *;omega
theorem le_refl(a:ZF):MU a a:=by unfold MU;omega
def Dz(X:List ZF)(i j:Nat)(a b:ZF):List ZF:=(X.set i b).set j a
theorem jei(X:List ZF)(i j:Nat)(a b:ZF):(Dz X i j a b).length=X.length:=by unfold Dz;simp
theorem j00(eF:i≠j)(hi:i<X.length):(Dz X i j a b)[i]? =some b:=by
 unfold Dz;rw[List.getElem?_set_ne Q,List.getElem?_set_self hi]
theorem jrf(hj:j<X.length):(Dz X i j a b)[j]? =some a:=by
 unfold Dz;rw[List.getElem?_set_self (by simpa using hj)]
theorem ju8(h1:k≠i)(h2:k≠j):(Dz X i j a b)[k]? =X[k]? :=by
 unfold Dz;rw[List.getElem?_set_ne Q,List.getElem?_set_ne Q]
theorem jh1(ha:X[i]? =some a)(hb:X[j]? =some b):(Dz X i j a b).Perm X:=by
 obtain⟨h1,rfl⟩:=pO ha;obtain⟨h2,rfl⟩:=pO hb;exact List.set_set_perm h1 h2
def jc1(X:List ZF):Prop:=∀i p c,0<i->X[(i-1) / 2]? =some p->X[i]? =some c->MU p c
theorem jzy(h:jc1 X){x0:ZF}(h0:X[0]? =some x0):∀(n i:Nat) (y:ZF),i<=n->X[i]? =some y->MU x0 y:=by
 intro n
 induction n with
 |zero=>intro i y hi hy;obtain rfl:i=0:=Q;rw[h0]at hy;obtain rfl:=Z9 hy;exact le_refl _
 | succ n ih=>
  intro i y hi hy;by_cases e:i=0
  .subst e;rw[h0]at hy;obtain rfl:=Z9 hy;exact le_refl _
  .have i7:=(pO hy).1
   obtain⟨p,hp⟩:∃p,X[(i-1) / 2]? =some p:=⟨_,ZV Q⟩;exact le_trans (ih _ p Q hp) (h i p y Q hp hy)
structure UpX(X:List ZF)(k:Nat):Prop where
 one:∀i p c,0<i->i≠k->X[(i-1) / 2]? =some p->X[i]? =some c->MU p c
 two:∀i p c,0<i->0<k->(i-1) / 2=k->X[(k-1) / 2]? =some p->X[i]? =some c->MU p c
theorem jyg(h:jc1 X):UpX (X++[x]) X.length:=by
 have low:∀{i:Nat} {c:ZF},i≠X.length->(X++[x])[i]? =some c->i<X.length/\X[i]? =some c:=λ{i c} hi hc=>by
  have hl:=(pO hc).1;rw[FB]at hl;simp at hl;rw[N9 Q]at hc;exact⟨Q,hc⟩
 refine⟨λi p c h0 hk hp hc=>?_,λi p c h0 hk he hp hc=>?_⟩
 .have⟨hl,uP⟩:=low hk hc
  have⟨_,lG⟩:=low Q hp;exact h i p c h0 lG uP
 .have hl:=(pO hc).1
  rw[FB]at hl;simp at hl;omega
theorem j1i(h:UpX X 0):jc1 X:=λi p c h0 hp hc=>h.one i p c h0 Q hp hc
theorem j1g{p:ZF}(h:UpX X k)(hp:X[(k-1) / 2]? =some p)(hc:X[k]? =some c)(cr:MU p c):jc1 X:=λi p' c' h0 lG uP=>by
 by_cases e:i=k
 .subst e
  rw[hp]at lG;rw[hc]at uP;obtain rfl:=Z9 lG;obtain rfl:=Z9 uP;exact cr
 .exact h.one i p' c' h0 e lG uP
theorem j1h{p:ZF}(h:UpX X k)(hk:0<k)(hp:X[(k-1) / 2]? =some p)(hc:X[k]? =some c)(cr:MU c p):UpX (Dz X k ((k-1) / 2) c p) ((k-1) / 2):=by
 have eY:=(pO hc).1;have Ct:(k-1) / 2<k:=Q;have⟨q,hq⟩:=ZL ((k-1) / 2);rw[hq]at hp Ct ⊢;have ek:(Dz X k q c p)[k]? =some p:=j00 Q eY;have eq:(Dz X k q c p)[q]? =some c:=jrf Q;have eo:∀{i:Nat},i≠k->i≠q->(Dz X k q c p)[i]? =X[i]? :=λh1 h2=>ju8 h1 h2
 refine⟨λi a b h0 hi ha hb=>?_,λi a b h0 sJ hi ha hb=>?_⟩
 .by_cases e1:i=k
  .subst e1
   rw[ek]at hb;rw[hq,eq]at ha;obtain rfl:=Z9 ha;obtain rfl:=Z9 hb;exact cr
  .rw[eo e1 hi]at hb
   by_cases e2:(i-1) / 2=k
   .rw[e2,ek]at ha
    obtain rfl:=Z9 ha;exact h.two i p b h0 hk e2 (by rw[hq];exact hp) hb
   .by_cases e3:(i-1) / 2=q
    .rw[e3,eq]at ha
     obtain rfl:=Z9 ha;exact le_trans cr (h.one i p b h0 e1 (by rw[e3];exact hp) hb)
    .rw[eo e2 e3]at ha
     exact h.one i a b h0 e1 ha hb
 .have hg:(q-1) / 2<q:=Q
  rw[eo Q Q]at ha;have FV:=h.one q a p sJ Q ha hp;by_cases e1:i=k
  .subst e1
   rw[ek]at hb;obtain rfl:=Z9 hb;exact FV
  .rw[eo e1 Q]at hb
   exact le_trans FV (h.one i p b h0 e1 (by rw[hi];exact hp) hb)
structure DnX(X:List ZF)(k:Nat):Prop where
 one:∀i p c,0<i->(i-1) / 2≠k->X[(i-1) / 2]? =some p->X[i]? =some c->MU p c
 two:∀i p c,0<i->0<k->(i-1) / 2=k->X[(k-1) / 2]? =some p->X[i]? =some c->MU p c
theorem j2q(h:DnX X k)(hc:∀i p c,0<i->(i-1) / 2=k->X[k]? =some p->X[i]? =some c->MU p c):jc1 X:=λi p c h0 hp fx=>by
 by_cases e:(i-1) / 2=k
 .exact hc i p c h0 e (by rw[<- e];exact hp) fx
 .exact h.one i p c h0 e hp fx
theorem j2r{p:ZF}(h:DnX X k)(gC:0<f)(BZ:(f-1) / 2=k)(hp:X[k]? =some p)(hc:X[f]? =some c)(cr:MU c p)(Ci:∀i y,0<i->(i-1) / 2=k->X[i]? =some y->MU c y):DnX (Dz X k f p c) f:=by
 have hfl:=(pO hc).1;have OY:k<f:=Q;have ek:(Dz X k f p c)[k]? =some c:=j00 Q Q;have ef:(Dz X k f p c)[f]? =some p:=jrf hfl;have eo:∀{i:Nat},i≠k->i≠f->(Dz X k f p c)[i]? =X[i]? :=λh1 h2=>ju8 h1 h2
 refine⟨λi a b h0 hi ha hb=>?_,λi a b h0 _ hi ha hb=>?_⟩
 .by_cases e1:(i-1) / 2=k
  .rw[e1,ek]at ha
   obtain rfl:=Z9 ha;by_cases e2:i=f
   .subst e2
    rw[ef]at hb;obtain rfl:=Z9 hb;exact cr
   .rw[eo Q e2]at hb
    exact Ci i b h0 e1 hb
  .have K9:i≠f:=λe=>e1 (by rw[e];exact BZ)
   rw[eo e1 hi]at ha;by_cases e2:i=k
   .subst e2
    rw[ek]at hb;obtain rfl:=Z9 hb;exact h.two f a c gC h0 BZ ha hc
   .rw[eo e2 K9]at hb
    exact h.one i a b h0 e1 ha hb
 .rw[BZ,ek]at ha
  obtain rfl:=Z9 ha;rw[eo Q Q]at hb;exact h.one i c b h0 Q (by rw[hi];exact hc) hb
theorem j0g(h:jc1 X):DnX ((Dz X 0 n x z).take n) 0:=by
 refine⟨λi p c h0 hi hp hc=>?_,λi p c h0 hk=>Q⟩;have low:∀{i:Nat} {c:ZF},i≠0->((Dz X 0 n x z).take n)[i]? =some c->X[i]? =some c:=λ{i c} hi hc=>by
  have hl:=(pO hc).1;rw[List.length_take]at hl;rw[List.getElem?_take_of_lt Q,ju8 hi Q]at hc;exact hc
 exact h i p c h0 (low hi hp) (low Q hc)
theorem jy3(hn:X.length=n+1)(hx:X[0]? =some x)(hz:X[n]? =some z):X.Perm (x::(Dz X 0 n x z).take n):=by
 have h1:=(jh1 hx hz).symm;have hl:(Dz X 0 n x z).length=n+1:=by rw[jei,hn]
 have iL:(Dz X 0 n x z)[n]? =some x:=jrf Q;have h2:Dz X 0 n x z=(Dz X 0 n x z).take n++[x]:=by
  have:=List.take_append_drop n (Dz X 0 n x z);have hd:(Dz X 0 n x z).drop n=[x]:=by
   rw[List.drop_eq_getElem_cons Q];have⟨_,e⟩:=pO iL;rw[e,List.drop_eq_nil_of_le Q]
  rw[hd]at this;exact this.symm
 have h3:((Dz X 0 n x z).take n++[x]).Perm (x::(Dz X 0 n x z).take n):=List.perm_append_singleton x _;rw[<- h2]at h3;exact h1.trans h3
def ZF.v(x:ZF):Value:=.agg #[J x.YV,J x.place]
theorem jd9(x y:ZF)(w:World):
  C 342 #[x.v,y.v] w λe w'=>e=V (.bool (ltW x y))/\Bw w w':=by
 obtain⟨xw,xp⟩:=x;obtain⟨yw,yp⟩:=y;simp only[ZF.v];by_cases h:xw=yw
 .have HR:Hid (ltW ⟨xw,xp⟩ ⟨yw,yp⟩=decide (xp<yp)):=by simp only[Hid,ltW];rw[if_pos h]
  generalize ltW ⟨xw,xp⟩ ⟨yw,yp⟩=z at *;subst h;unfold C;go_in;go_wp2;go_ret;exact⟨ZG (by rw[HR.out]),(ZA _ _).alloc M _⟩
 .have HR:Hid (ltW ⟨xw,xp⟩ ⟨yw,yp⟩=decide (xw<yw)):=by simp only[Hid,ltW];rw[if_neg h]
  have g:(xw != yw)=true:=by simpa using h
  generalize ltW ⟨xw,xp⟩ ⟨yw,yp⟩=z at *;unfold C;go_in;go_wp2;go_ret;exact⟨ZG HR.out.symm,(ZA _ _).alloc M _⟩
def Zj(w:World)(base:Nat)(v:Value)(P:List ZF):Prop:=w.ownsRow base 317 2 v P.length (P.map ZF.cs).flatten
theorem jsb{q:Nat}:∀{rows:List (List Value)},(∀r∈rows,r.length=q)->∀{i j:Nat} {r:List Value} (c:Value),rows[i]? =some r->j<q->(rows.set i (r.set j c)).flatten=rows.flatten.set (i*q+j) c:=by
 intro rows
 induction rows with
 |nil=>intro _ i j r c h;simp at h
 | cons x rows ih=>
  intro hq i j r c hi hj;have hx:=hq x M;cases i with
  |zero=>
   simp at hi;subst hi;rw[List.set_cons_zero,List.flatten_cons,List.flatten_cons,Nat.zero_mul,Nat.zero_add,List.set_append_left _ _ Q]
  |succ i=>
   rw[List.set_cons_succ,List.flatten_cons,List.flatten_cons,List.set_append_right _ _ (by rw[hx,Nat.add_mul];omega),hx];rw[show(i+1)*q+j-q=i*q+j by rw[Nat.add_mul];omega];rw[ih (λy hy=>hq y (lmc _ hy)) c (by simpa using hi) hj]
theorem jo0{rows:List (List Value)}(hq:∀r∈rows,r.length=2){i:Nat}{r:List Value}(hr:rows[i]? =some r)(c0 c1:Value):(rows.set i [c0,c1]).flatten=(rows.flatten.set (i*2) c0).set (i*2+1) c1:=by
 have hl:=hq r (ui hr);have i7:=(pO hr).1;have e1:=jsb hq (i:=i) (j:=0) c0 hr Q;have hq2:∀r'∈rows.set i (r.set 0 c0),r'.length=2:=λr' h=>by
  rcases List.mem_or_eq_of_mem_set h with h|h
  .exact hq r' h
  .rw[h,List.length_set,hl]
 have e2:=jsb hq2 (i:=i) (j:=1) (r:=r.set 0 c0) c1 (by rw[List.getElem?_set_self i7]) Q;rw[e1]at e2;rw[Nat.add_zero]at e2;rw[<- e2,List.set_set]
 congr 2
 match r,hl with
 |[x,y],_=>rfl
theorem ju9(ha:X[i]? =some a)(hb:X[j]? =some b):((Dz X i j a b).map ZF.cs).flatten=(((((X.map ZF.cs).flatten.set (i*2) (J b.YV)).set (i*2+1) (J b.place)).set (j*2) (J a.YV)).set (j*2+1) (J a.place)):=by
 have i7:=(pO ha).1;have eP:=(pO hb).1;have e1:=jo0 (rows:=X.map ZF.cs) jbo (i:=i) (r:=a.cs) (by rw[Z8,ha];rfl) (J b.YV) (J b.place);have e0:(X.map ZF.cs).set i [J b.YV,J b.place]=(X.set i b).map ZF.cs:=by rw[List.map_set];rfl
 rw[e0]at e1;obtain⟨c,hc⟩:∃c,(X.set i b)[j]? =some c:=⟨_,ZV (by simpa using eP)⟩;have e2:=jo0 (rows:=(X.set i b).map ZF.cs) jbo (i:=j) (r:=c.cs) (by rw[Z8,hc];rfl) (J a.YV) (J a.place);rw[e1]at e2;rw[<- e2];unfold Dz;rw[List.map_set];rfl
theorem jbf(h:w.grownBy w1 row)(h2:w1.grownBy w2 row):w.grownBy w2 row:=
 ⟨h2.os.trans h.os,h2.tape.trans h.tape,h2.output.trans h.output,Nat.le_trans h.size h2.size,λk hk hr=>(h2.block k (Nat.lt_of_lt_of_le hk h.size) hr).trans (h.block k hk hr)⟩
theorem jk4(w:World)(row:Option Nat):w.grownBy w.drew row:=⟨rfl,rfl,rfl,ZD _,λ_ _ _=>rfl⟩
theorem ju7(ai:Zj w base (so g X.length cap) X)(ha:X[i]? =some a)(hb:X[j]? =some b):
  Zj ((((w.setCell (O g (i*2)) (J b.YV)).setCell (O g (i*2+1)) (J b.place)).setCell (O g (j*2)) (J a.YV)).setCell (O g (j*2+1)) (J a.place)).drew base (so g X.length cap) (Dz X i j a b)/\
  w.grownBy ((((w.setCell (O g (i*2)) (J b.YV)).setCell (O g (i*2+1)) (J b.place)).setCell (O g (j*2)) (J a.YV)).setCell (O g (j*2+1)) (J a.place)).drew (some g):=by
 have⟨h1,g1⟩:=World.ownsRow.stored ai (i*2) (J b.YV);have⟨h2,g2⟩:=h1.stored (i*2+1) (J b.place);have⟨h3,g3⟩:=h2.stored (j*2) (J a.YV);have⟨h4,g4⟩:=h3.stored (j*2+1) (J a.place);refine⟨?_,jbf g1 (jbf g2 (jbf g3 (jbf g4 (jk4 _ _))))⟩;unfold Zj;rw[jei,ju9 ha hb];exact h4.drew
structure Fr(S:Nat->Prop)(w w':World):Prop where
 os:w'.os=w.os
 tape:w'.tape=w.tape
 output:w'.output=w.output
 size:w.heap.size<=w'.heap.size
 block:∀b,b<w.heap.size->¬S b->w'.heap[b]? =w.heap[b]?
theorem Fr.refl(S:Nat->Prop)(w:World):Fr S w w:=⟨rfl,rfl,rfl,ZD _,λ_ _ _=>rfl⟩
theorem Fr.trans{S:Nat->Prop}(h:Fr S w w1)(h2:Fr S w1 w2):Fr S w w2:=
 ⟨h2.os.trans h.os,h2.tape.trans h.tape,h2.output.trans h.output,Nat.le_trans h.size h2.size,λb hb hs=>(h2.block b (Nat.lt_of_lt_of_le hb h.size) hs).trans (h.block b hb hs)⟩
theorem Fr.mono{S S2:Nat->Prop}(h:Fr S w w')(hs:∀b,b<w.heap.size->S b->S2 b):Fr S2 w w':=⟨h.os,h.tape,h.output,h.size,λb hb hn=>h.block b hb λhx=>hn (hs b hb hx)⟩
theorem Fr.of_below{S:Nat->Prop}(h:Bw w w'):Fr S w w':=⟨h.os,h.tape,h.output,h.size,λb hb _=>h.block b hb⟩
theorem Fr.vaT(h:w.grownBy w' row):Fr (λb=>row=some b) w w':=⟨h.os,h.tape,h.output,h.size,λb hb hn=>h.block b hb λe=>hn e.symm⟩
theorem Fr.cell{S:Nat->Prop}(h:Fr S w w'){b o:Nat}{v:Value}(hs:¬S b)(hc:w.cell? (O b o)=some v):w'.cell? (O b o)=some v:=by
 rw[World.cell?_of_block (h.block b (ZI hc) hs)];exact hc
theorem Fr.frozen{S:Nat->Prop}(h:Fr S w w'){b o:Nat}(hb:b<w.heap.size)(hs:¬S b):w'.frozen? (O b o)=w.frozen? (O b o):=World.frozen?_of_block (h.block b hb hs)
theorem Fr.below{S:Nat->Prop}{B:Nat}(h:Fr S w w')(hS:∀b,S b->B<=b)(hB:B<=w.heap.size):Below B w w':=⟨h.os,h.tape,h.output,h.size,λk hk=>h.block k Q λhs=>by have:=hS k hs;omega⟩
theorem ji3(X:List ZF)(hp g cap i j base:Nat)(a b:ZF)(w:World)(aE:w.cell? (O hp 0)=some (so g X.length cap))(ai:Zj w base (so g X.length cap) X)(ha:X[i]? =some a)(hb:X[j]? =some b)(eF:i≠j)(az:hp≠g):
  C 298 #[.pointer (some (O hp 0)),J i,J j] w λe w'=>e=V (.tuple #[])/\Zj w' base (so g X.length cap) (Dz X i j a b)/\w.grownBy w' (some g):=by
 have i7:=(pO ha).1;have eP:=(pO hb).1;have fa:∀n c,a.cs[n]? =some c->w.cell? (O g (i*2+n))=some c:=λn c h=>by
  rw[ai.cellAt _ (by have:=(pO h).1;simp[ZF.cs]at this;omega)];exact ja3 jbo (by rw[Z8,ha];rfl) h
 have fb:∀n c,b.cs[n]? =some c->w.cell? (O g (j*2+n))=some c:=λn c h=>by
  rw[ai.cellAt _ (by have:=(pO h).1;simp[ZF.cs]at this;omega)];exact ja3 jbo (by rw[Z8,hb];rfl) h
 have a0:w.cell? (O g (i*2))=some (J a.YV):=fa 0 _ rfl;have a1:w.cell? (O g (i*2+1))=some (J a.place):=fa 1 _ rfl;have b0:w.cell? (O g (j*2))=some (J b.YV):=fb 0 _ rfl;have b1:w.cell? (O g (j*2+1))=some (J b.place):=fb 1 _ rfl;have z0:=ai.frozenAt (i*2);have z1:=ai.frozenAt (i*2+1);have z2:=ai.frozenAt (j*2);have z3:=ai.frozenAt (j*2+1);have bi:(0:Int)<=(i:Int):=Q;have NM:(i:Int)<(X.length:Int):=Q;have bj:(0:Int)<=(j:Int):=Q;have NN:(j:Int)<(X.length:Int):=Q;clear fa fb;unfold C;go_in;go_wp2_with fail;have HO:=ju7 ai ha hb;go_region;exact bodyPost_end (results_none Tryz.results298 _ _ _) rfl ⟨rfl,HO⟩
theorem j2h:(Tryz.prog.info? 317).map (λi=>(i.zero,i.size,i.bytes))=some (some (.agg #[J 0,J 0]),2,16):=RG
theorem Zj.add{v:Value}{P:List ZF}{p:ZF}(h:w.ownsRow base 317 2 v (P.length+1) ((P.map ZF.cs).flatten++p.cs)):Zj w base v (P++[p]):=by
 unfold Zj;rw[FB,MZ,List.flatten_append]
 simpa using h
def Zt(w:World)(hp:Nat)(rb:Option Nat)(X:List ZF):Prop:=∃a c,w.cell? (O hp 0)=some (U a X.length c)/\w.frozen? (O hp 0)=false/\Zj w hp (U a X.length c) X/\some hp≠(U a X.length c).ownBlock/\(U a X.length c).ownBlock=rb
theorem Zt.below{rb:Option Nat}(h:Zt w hp rb X)(hb:Bw w w'):Zt w' hp rb X:=by
 have⟨a,c,h1,h2,h3,h4⟩:=h;have hlt:=ZI h1;exact⟨a,c,YR hb h1,((Z4 hb).2 _ _ hlt).trans h2,uZ h3 hb,h4⟩
theorem Zj.cells(h:Zj w base (so g X.length cap) X){i:Nat}{x:ZF}(hx:X[i]? =some x):w.cell? (O g (i*2))=some (J x.YV)/\w.cell? (O g (i*2+1))=some (J x.place):=by
 have hl:=(pO hx).1;have f:∀n c,x.cs[n]? =some c->w.cell? (O g (i*2+n))=some c:=λn c hc=>by
  rw[World.ownsRow.cellAt h _ (by have:=(pO hc).1;simp[ZF.cs]at this;omega)];exact ja3 jbo (by rw[Z8,hx];rfl) hc
 exact⟨f 0 _ rfl,f 1 _ rfl⟩
theorem jee(n : Nat)(a b : Int)(w : World): (method (n + 1) 317 (.agg #[J a, J b]) "loop.example/g00364/impl.aheadOf").run Tryz.prog w = .ok (342, .agg #[J a, J b]) w := by kernel_rfl
theorem jds(a b : Int)(w : World): (method (Tryz.prog.types.size + Made.depth) 317 (.agg #[J a, J b]) "loop.example/g00364/impl.aheadOf").run Tryz.prog w = .ok (342, .agg #[J a, J b]) w := by kernel_rfl
theorem jck(w:World)(b o:Nat)(v:Value):w.grownBy (w.setCell (O b o) v) (some b):=
 ⟨rfl,rfl,rfl,M,λk _ hk=>heap_setCell_other w (O b o) k v (λe=>hk (by simp[e]))⟩
theorem jnh{g1 aC:Nat}{u:Value}(r1:w1.cell? (O hp 0)=some u)(r2:w1.frozen? (O hp 0)=false)(ai:Zj w1 hp (so g1 n aC) Y)(az:hp≠g1):
  (w1.setCell (O hp 0) (so g1 n aC)).cell? (O hp 0)=some (so g1 n aC)/\(w1.setCell (O hp 0) (so g1 n aC)).frozen? (O hp 0)=false/\Zj (w1.setCell (O hp 0) (so g1 n aC)) hp (so g1 n aC) Y:=by
 refine⟨Bf _ _ _ r1,by rw[World.frozen?_setCell];exact r2,World.ownsRow.kept ai (jck w1 hp 0 _) (.inr λe=>az ?_)⟩
 simpa [Value.ownBlock]using e.symm
theorem jmg(h1:w.cell? (O hp 0)=some (so g Y.length cap))(h2:w.frozen? (O hp 0)=false)(h3:Zj w hp (so g Y.length cap) Y)(az:hp≠g):Zt w hp (some g) Y:=
 ⟨_,_,h1,h2,h3,λe=>az (by simpa [Value.ownBlock]using e),rfl⟩
theorem jok(X:List ZF)(x:ZF)(hp:Nat)(rb:Option Nat)(w:World)(hM:Zt w hp rb X)(hX:jc1 X)(hl:X.length<=4000):
  C 297 #[.pointer (some (O hp 0)),x.v] w λe w'=>e=V (.tuple #[])/\(∃Y gJ,Zt w' hp gJ Y/\jc1 Y/\Y.Perm (X++[x])/\(gJ=rb\/∃k,w.heap.size<=k/\gJ=some k))/\Fr (λb=>b=hp\/rb=some b) w w':=by
 have⟨i0,hi,aG,aH,aF⟩:=info_parts j2h;have⟨a,c,h1,h2,h3,h4,h5⟩:=hM;have hlt:=ZI h1;have HU:Hid (UpX (X++[x]) X.length):=jyg hX;obtain⟨xw,xp⟩:=x;simp only[ZF.v];have k1:(w.alloc (G #[J xw,J xp] 317)).cell? (O hp 0)=some (U a X.length c):=YR (ZA w _) h1;obtain⟨k2,k3⟩:(λz:World=>z.cell? (O w.heap.size 0)=some (J xw)/\z.cell? (O w.heap.size 1)=some (J xp)) (w.alloc (G #[J xw,J xp] 317)):=RQ;have k4:(w.alloc (G #[J xw,J xp] 317)).frozen? (O hp 0)=false:=((Z4 (ZA w _)).2 _ _ hlt).trans h2;have aS:Zj (w.alloc (G #[J xw,J xp] 317)) hp (U a X.length c) X:=nO h3 _;unfold C;go_in;go_wp2_with fail;have⟨wA,cK⟩:=ZL ((w.alloc (G #[J xw,J xp] 317)));have eX:Bw w wA:=by rw[<- cK];exact ZA w _
 rw[cK]at k1 k2 k3 k4 aS ⊢;clear cK;have ji:=eX.size;have CT:(wA.alloc (G #[J xw,J xp] 317)).cell? (O hp 0)=some (U a X.length c):=YR (ZA wA _) k1;go_region_law (refine step_append_lies _ Si (.tmp 10) (.tmp 12) 313 Si hp 317 i0 (.agg #[J 0,J 0]) 2 16 Tryz.underlying313 hi aG aH aF rfl Q (U a X.length c) X.length (X.map ZF.cs).flatten Si (nO (w:=wA.drew) aS _) (O wA.heap.size 0) 1 1 [J xw,J xp] Si rfl (Ka _ _ _) (by intro u hu;simp at hu;rcases hu with rfl|rfl<;>rfl) Q (by unfold maxLen;omega) Q RO _ rfl ?_;intro g1 aC w1 av af bE hlt1;have r1:=af.cell (a:=(O hp 0)) (YR (ZA wA.drew _) k1) h4;have r2:=(af.frozen_far (O hp 0) RO h4).trans (((Z4 (ZA wA.drew _)).2 _ _ RO).trans k4))
 all_goals
  have az:hp≠g1:=λe=>by
   rcases bE with hh|hh
   .exact h4 (by rw[e];exact hh.symm)
   .simp at hh;omega
  have bX:Zj w1 hp (so g1 (X.length+1) aC) (X++[⟨xw,xp⟩]):=Zj.add (p:=⟨xw,xp⟩) av;have⟨s1,s2,s3⟩:=jnh r1 r2 bX az;have aj:Fr (λb=>b=hp\/rb=some b\/b=g1) w w1:=((Fr.of_below eX).trans ((Fr.of_below (ZA wA _)).trans (Fr.of_below (rW _)))).trans ((Fr.vaT af).mono λb _ hb=>.inr (.inl (h5.symm.trans hb)));have an:Fr (λb=>b=hp\/rb=some b\/b=g1) w (w1.setCell (O hp 0) (so g1 (X.length+1) aC)):=aj.trans ((Fr.vaT (jck w1 hp 0 _)).mono λb _ hb=>.inl (by injection hb with hb;exact hb.symm));have HG:Hid (some g1=rb\/∃k,w.heap.size<=k/\some g1=some k):=by
   rcases bE with hh|hh
   .exact .inl (hh.symm.trans h5)
   .exact .inr ⟨g1,by simp at hh;omega,rfl⟩
  have Ef:Hid (∀w',Fr (λb=>b=hp\/rb=some b\/b=g1) w w'->Fr (λb=>b=hp\/rb=some b) w w'):=λw' hf=>hf.mono λb hb hs=>by
   rcases hs with e|e|e
   .exact .inl e
   .exact .inr e
   .rcases HG.out with e2|⟨k,hk,e2⟩
    .exact .inr (by rw[e];exact e2.symm)
    .injection e2 with e2;omega
  clear af bE hlt1 r1 r2 bX av aj aS k1 CT k2 k3 k4 h1 h2 h3 h4 h5 eX ji;generalize w1.setCell (O hp 0) (so g1 (X.length+1) aC)=w2 at *;have kt:(X++[(⟨xw,xp⟩:ZF)]).length=X.length+1:=M;have HP:Hid ((X++[(⟨xw,xp⟩:ZF)]).Perm (X++[⟨xw,xp⟩])):=List.Perm.refl _;have HY:=hid kt;go_wp2;go_loopw [4] (λs4 wr=>∃(k:Nat) (Y:List ZF),s4=J k/\k<X.length+1/\Hid (Y.length=X.length+1)/\wr.cell? (O hp 0)=some (so g1 (X.length+1) aC)/\wr.frozen? (O hp 0)=false/\Zj wr hp (so g1 (X.length+1) aC) Y/\Hid (UpX Y k)/\Hid (Y.Perm (X++[⟨xw,xp⟩]))/\Fr (λb=>b=hp\/rb=some b\/b=g1) w wr) (λs4 _=>(intOf s4).toNat)
  .exact⟨X.length,_,rfl,Q,HY,s1,s2,s3,HU,HP,an⟩
  ·
   clear s1 s2 s3 an HU HP HY kt;obtain⟨k,Y,rfl,eY,HY,s1,s2,s3,HU,HP,aK⟩:=hrel;have mT:Zj wr hp (so g1 Y.length aC) Y:=by rw[HY.out];exact s3
   have GR:wr.cell? (O hp 0)=some (so g1 Y.length aC):=by rw[HY.out];exact s1
   by_cases hk:0<k
   .obtain⟨k',rfl⟩:∃k',k=k'+1:=⟨k-1,Q⟩
    obtain⟨c1,aX⟩:∃x,Y[k'+1]? =some x:=⟨_,ZV (by rw[HY.out];omega)⟩;obtain⟨p1,sI⟩:∃x,Y[k' / 2]? =some x:=⟨_,ZV (by rw[HY.out];omega)⟩;have⟨e1,e2⟩:=mT.cells aX;have⟨e3,e4⟩:=mT.cells sI;have mJ:Y[(k'+1-1) / 2]? =some p1:=sI;have hA:=λw=>jd9 c1 p1 w
    have tk:((k':Int)+1).toNat=k'+1:=Q;have bk:(0:Int)<=(k':Int)+1:=Q;have EL:(k':Int)+1<((X.length:Int)+1):=Q;have tp:((k':Int) / 2).toNat=k' / 2:=Q;have bp:(0:Int)<=(k':Int) / 2:=Q;have NO:(k':Int) / 2<((X.length:Int)+1):=Q;have G6:=jds c1.YV (c1.place:Int);have vj:=λn=>jee n c1.YV (c1.place:Int)
    have q0:=cell_regrown s1;have q1:=cell_regrown e1;have q2:=cell_regrown e2;have q3:=cell_regrown e3;have q4:=cell_regrown e4;cases hlt:ltW c1 p1
    .have HR:Hid (jc1 Y):=j1g HU.out mJ aX (jv1 hlt)
     rw[hlt]at hA;simp only[ZF.v]at hA;have cE:∀dd os,C _ _ (grow (redrawn wr dd) os) λe cW=>e=V (.bool false)/\∃p:Regrown,cW=grow (redrawn wr p.d) p.os:=λ_ _=>Calls.regrown_of (hA _)
     have HM:Hid (Zt wr hp (some g1) Y):=jmg GR s2 mT az;clear hlt aX sI mJ HU;go_wp2_with fail;refine wp_region_quiet_below RG RG ?_
     repeat (quiet_step ((go_at_call 342;exact cE _ _)))
     refine wpQuiet_nil ?_;intro w3 gm;have⟨⟨dq,aQ⟩,cJ⟩:=gm;have ar:Bw wr w3:=cJ ▸ below_regrown wr dq aQ;have ax:Fr (λb=>b=hp\/rb=some b\/b=g1) w w3:=aK.trans (Fr.of_below ar);have Hu:Hid (Zt w3 hp (some g1) Y):=HM.out.below ar;clear cJ ar;go_wp2;exact ZM (results_none Tryz.results297 _ _ _) rfl ⟨rfl,⟨Y,some g1,Hu.out,HR.out,HP.out,HG.out⟩,Ef.out _ ax⟩
    .have I8:Hid (UpX (Dz Y (k'+1) (k' / 2) c1 p1) (k' / 2)):=j1h HU.out Q mJ aX (j18 hlt)
     have ju:Hid ((Dz Y (k'+1) (k' / 2) c1 p1).Perm (X++[⟨xw,xp⟩])):=(jh1 aX sI).trans HP.out;have Ii:Hid ((Dz Y (k'+1) (k' / 2) c1 p1).length=X.length+1):=by simp only[Hid];rw[jei];exact HY.out
     have dA:=λw h1 h2=>ji3 Y hp g1 aC (k'+1) (k' / 2) hp c1 p1 w h1 h2 aX sI Q az
     rw[hlt]at hA;simp only[ZF.v]at hA;rw[HY.out]at dA;have cE:∀dd os,C _ _ (grow (redrawn wr dd) os) λe cW=>e=V (.bool true)/\∃p:Regrown,cW=grow (redrawn wr p.d) p.os:=λ_ _=>Calls.regrown_of (hA _)
     have ow:(((k' / 2:Nat):Nat):Int)=(k':Int) / 2:=Q;have qu:(((k'+1:Nat):Nat):Int)=(k':Int)+1:=Q;rw[ow,qu]at dA;clear hlt aX sI mJ HU HP;generalize Dz Y (k'+1) (k' / 2) c1 p1=vZZ at *;go_wp2_with fail;refine wp_region_quiet_below RG RG ?_
     repeat (quiet_step ((go_at_call 342;exact cE _ _)))
     refine wpQuiet_nil ?_;intro w3 gm;have⟨⟨dq,aQ⟩,cJ⟩:=gm;have ar:Bw wr w3:=cJ ▸ below_regrown wr dq aQ;have ax:Fr (λb=>b=hp\/rb=some b\/b=g1) w w3:=aK.trans (Fr.of_below ar);have t1:=YR ar s1;have t2:=AZ ar s1 s2;have t3:Zj w3 hp (so g1 (X.length+1) aC) Y:=uZ s3 ar;clear cJ ar q0 q1 q2 q3 q4 cE;go_wp2_with fail;refine(dA _ t1 t3).mono ?_;rintro e w4 ⟨rfl,dX,wW⟩;have u1:=wW.cell (a:=(O hp 0)) t1 (λe=>az (by simpa using e));have u2:=(wW.frozen_far (O hp 0) (ZI t1) (λe=>az (by simpa using e))).trans t2;have aR:Fr (λb=>b=hp\/rb=some b\/b=g1) w w4:=ax.trans ((Fr.vaT wW).mono λb _ hb=>.inr (.inr (by injection hb with hb;exact hb.symm)));clear wW t1 t2 t3;go_wp2;go_roundw
     .exact⟨k' / 2,vZZ,by rw[ow],Q,Ii,u1,u2,dX,I8,ju,aR⟩
     .simp[intOf];omega
   .obtain rfl:k=0:=Q
    have HR:Hid (jc1 Y):=j1i HU.out;have HM:Hid (Zt wr hp (some g1) Y):=jmg GR s2 mT az;go_wp2;exact bodyPost_end (results_none Tryz.results297 _ _ _) rfl ⟨rfl,⟨Y,some g1,HM.out,HR.out,HP.out,HG.out⟩,Ef.out _ aK⟩
structure Jr(Y:List ZF)(p t f:Nat):Prop where
 place:f=p\/∃j,j<t/\f=2*p+1+j/\f<Y.length
 top:∀x y,Y[f]? =some x->Y[p]? =some y->MU x y
 low:∀j x y,j<t->Y[f]? =some x->Y[2*p+1+j]? =some y->MU x y
theorem jua(Y:List ZF)(p:Nat):Jr Y p 0 p:=⟨.inl rfl,λx y h1 h2=>by rw[h1]at h2;obtain rfl:=Z9 h2;exact le_refl _,λj x y h=>Q⟩
theorem jsj(h:Jr Y p t f)(hc:Y.length<=2*p+1+t):Jr Y p (t+1) f:=by
 refine⟨?_,h.top,λj x y hj hx hy=>?_⟩
 .rcases h.place with e|⟨j,hj,e,hl⟩
  .exact .inl e
  .exact .inr ⟨j,Q,e,hl⟩
 .by_cases e:j=t
  .subst e;rw[List.getElem?_eq_none hc]at hy;cases hy
  .exact h.low j x y Q hx hy
theorem jxu(h:Jr Y p t f)(hc:Y[2*p+1+t]? =some c)(hf:Y[f]? =some y)(cr:MU y c):Jr Y p (t+1) f:=by
 refine⟨?_,h.top,λj x z hj hx hz=>?_⟩
 .rcases h.place with e|⟨j,hj,e,hl⟩
  .exact .inl e
  .exact .inr ⟨j,Q,e,hl⟩
 .by_cases e:j=t
  .subst e
   rw[hc]at hz;rw[hf]at hx;obtain rfl:=Z9 hz;obtain rfl:=Z9 hx;exact cr
  .exact h.low j x z Q hx hz
theorem jsi(h:Jr Y p t f)(hc:Y[2*p+1+t]? =some c)(hf:Y[f]? =some y)(cr:MU c y):Jr Y p (t+1) (2*p+1+t):=by
 refine⟨.inr ⟨t,Q,rfl,(pO hc).1⟩,λx z hx hz=>?_,λj x z hj hx hz=>?_⟩
 .rw[hc]at hx
  obtain rfl:=Z9 hx;exact le_trans cr (h.top y z hf hz)
 .rw[hc]at hx
  obtain rfl:=Z9 hx;by_cases e:j=t
  .subst e;rw[hc]at hz;obtain rfl:=Z9 hz;exact le_refl _
  .exact le_trans cr (h.low j y z Q hf hz)
theorem vhx(a b:Int)(w:World):(Instr.index 333 (.agg #[J a,J b]) (J 0)).run Tryz.prog w=.ok (J a) w:=RG
theorem vhy(a b:Int)(w:World):(Instr.index 333 (.agg #[J a,J b]) (J 1)).run Tryz.prog w=.ok (J b) w:=RG
theorem kids(h0:0<i)(h:(i-1) / 2=p):i=2*p+1+0\/i=2*p+1+1:=Q
theorem jxv(hD:DnX Y p)(h:Jr Y p 2 p):jc1 Y:=j2q hD λi x y h0 hi hx hy=>by
 rcases kids h0 hi with e|e
 .exact h.low 0 x y Q hx (by rw[<- e];exact hy)
 .exact h.low 1 x y Q hx (by rw[<- e];exact hy)
theorem jxt(hD:DnX Y p)(h:Jr Y p 2 f)(qB:f≠p)(hx:Y[p]? =some x)(hc:Y[f]? =some c):DnX (Dz Y p f x c) f:=by
 rcases h.place with e|⟨j,hj,e,hl⟩
 .exact absurd e qB
 .refine j2r hD Q Q hx hc (h.top c x hc hx) λi y h0 hi hy=>?_
  rcases kids h0 hi with e2|e2
  .exact h.low 0 c y Q hc (by rw[<- e2];exact hy)
  .exact h.low 1 c y Q hc (by rw[<- e2];exact hy)
theorem jwu(X:List ZF)(hp g cap n:Nat)(w:World)(h1:w.cell? (O hp 0)=some (so g n cap))(h2:w.frozen? (O hp 0)=false)(h3:Zj w hp (so g n cap) X)(hn:X.length=n)(az:hp≠g)(hD:DnX X 0)(hl:n<=4000):
  C 299 #[.pointer (some (O hp 0)),J 0] w λe w'=>e=V (.tuple #[])/\(∃Y,jc1 Y/\Y.Perm X/\Y.length=n/\w'.cell? (O hp 0)=some (so g n cap)/\w'.frozen? (O hp 0)=false/\Zj w' hp (so g n cap) Y)/\Fr (λb=>b=g) w w':=by
 have sU:=hid hD;have El:=hid hn;have rR:Hid (X.Perm X):=List.Perm.refl _;clear hD hn;unfold C;go_in;go_wp2;go_loopw [1] (λs1 wr=>∃(p:Nat) (Y:List ZF),s1=J p/\(p<n\/p=0)/\Hid (Y.length=n)/\wr.cell? (O hp 0)=some (so g n cap)/\wr.frozen? (O hp 0)=false/\Zj wr hp (so g n cap) Y/\Hid (DnX Y p)/\Hid (Y.Perm X)/\Fr (λb=>b=g) w wr) (λs1 _=>n-(intOf s1).toNat)
 .exact⟨0,X,rfl,.inr rfl,El,h1,h2,h3,sU,rR,Fr.refl _ _⟩
 ·
  clear h1 h2 h3 El sU rR;obtain⟨p,Y,rfl,Gh,HN,h1,h2,h3,HD,HP,hB⟩:=hrel;have Eb:Hid (Jr Y p 0 p):=jua Y p;have Pc:p<=4000:=Q;go_wp2;go_loopw [4,15] (λs4 rh wr=>∃(f t:Nat),s4=J f/\rh=J t/\t<=2/\f<=10000/\Hid (Jr Y p t f)/\wr.cell? (O hp 0)=some (so g n cap)/\wr.frozen? (O hp 0)=false/\Zj wr hp (so g n cap) Y/\Fr (λb=>b=g) w wr) (λ_ rh _=>2-(intOf rh).toNat)
  .exact⟨p,0,rfl,rfl,Q,Q,Eb,h1,h2,h3,hB⟩
  ·
   clear h1 h2 h3 hB Eb;obtain⟨f,t,rfl,rfl,eH,oy,HC,h1,h2,h3,hB⟩:=hrel;have i0:=vhx (2*(p:Int)+1) (2*(p:Int)+2);have i1:=vhy (2*(p:Int)+1) (2*(p:Int)+2);have sc:Zj wr hp (so g Y.length cap) Y:=by rw[HN.out];exact h3
   rcases(show t=0\/t=1\/t=2 by omega)with rfl|rfl|rfl
   .by_cases uQ:2*p+1+0<n
    .obtain⟨c,hc⟩:∃c,Y[2*p+1+0]? =some c:=⟨_,ZV (by rw[HN.out];exact uQ)⟩
     have uV:f<n:=by
      rcases HC.out.place with e|⟨j,hj,e,fG⟩
      .omega
      .rw[HN.out]at fG;exact fG
     obtain⟨y,hy⟩:∃y,Y[f]? =some y:=⟨_,ZV (by rw[HN.out];exact uV)⟩;have⟨e1,e2⟩:=sc.cells hc;have⟨e3,e4⟩:=sc.cells hy;rw[show(2*p+1+0)*2=(2*p+1)*2 by omega]at e1 e2;have hA:=λw=>jd9 c y w
     have G6:=jds c.YV (c.place:Int);have vj:=λn=>jee n c.YV (c.place:Int)
     have q0:=cell_regrown h1;have q1:=cell_regrown e1;have q2:=cell_regrown e2;have q3:=cell_regrown e3;have q4:=cell_regrown e4;have dc:decide (2*(p:Int)+1<(n:Int))=true:=RO;have tc:(2*(p:Int)+1).toNat=2*p+1:=Q;have bc:(0:Int)<=2*(p:Int)+1:=Q;have Io:2*(p:Int)+1<(n:Int):=Q;have bf:(0:Int)<=(f:Int):=Q;have Ip:(f:Int)<(n:Int):=Q;cases hlt:ltW c y
     .have iq:Hid (Jr Y p (0+1) f):=jxu HC.out hc hy (jv1 hlt)
      rw[hlt]at hA;simp only[ZF.v]at hA;have cE:∀dd os,C _ _ (grow (redrawn wr dd) os) λe cW=>e=V (.bool false)/\∃p:Regrown,cW=grow (redrawn wr p.d) p.os:=λ_ _=>Calls.regrown_of (hA _)
      clear hlt hc hy HC;go_wp2_with fail;refine wp_region_quiet_below RG RG ?_
      repeat (quiet_step ((go_at_call 342;exact cE _ _)))
      refine wpQuiet_nil ?_;intro w3 gm;have⟨⟨dq,aQ⟩,cJ⟩:=gm;have ar:Bw wr w3:=cJ ▸ below_regrown wr dq aQ;have hsz:=ZI h1;have ax:Fr (λb=>b=g) w w3:=hB.trans (Fr.of_below ar);have t1:=YR ar h1;have t2:=((Z4 ar).2 _ _ hsz).trans h2;have t3:Zj w3 hp (so g n cap) Y:=uZ h3 ar;clear cJ ar q0 q1 q2 q3 q4 cE;go_wp2;go_roundw
      .exact⟨f,0+1,rfl,rfl,Q,Q,iq,t1,t2,t3,ax⟩
      .simp[intOf]
     .have iq:Hid (Jr Y p (0+1) (2*p+1+0)):=jsi HC.out hc hy (j18 hlt)
      rw[hlt]at hA;simp only[ZF.v]at hA;have cE:∀dd os,C _ _ (grow (redrawn wr dd) os) λe cW=>e=V (.bool true)/\∃p:Regrown,cW=grow (redrawn wr p.d) p.os:=λ_ _=>Calls.regrown_of (hA _)
      clear hlt hc hy HC;go_wp2_with fail;refine wp_region_quiet_below RG RG ?_
      repeat (quiet_step ((go_at_call 342;exact cE _ _)))
      refine wpQuiet_nil ?_;intro w3 gm;have⟨⟨dq,aQ⟩,cJ⟩:=gm;have ar:Bw wr w3:=cJ ▸ below_regrown wr dq aQ;have hsz:=ZI h1;have ax:Fr (λb=>b=g) w w3:=hB.trans (Fr.of_below ar);have t1:=YR ar h1;have t2:=((Z4 ar).2 _ _ hsz).trans h2;have t3:Zj w3 hp (so g n cap) Y:=uZ h3 ar;clear cJ ar q0 q1 q2 q3 q4 cE;go_wp2;go_roundw
      .exact⟨2*p+1+0,0+1,by congr 1,rfl,Q,Q,iq,t1,t2,t3,ax⟩
      .simp[intOf]
    .have iq:Hid (Jr Y p (0+1) f):=jsj HC.out (by rw[HN.out];omega)
     have dc:decide (2*(p:Int)+1<(n:Int))=false:=RO;clear HC;go_wp2_with fail;go_quiet (fail);go_wp2;go_roundw
     .exact⟨f,0+1,rfl,rfl,Q,oy,iq,h1,h2,uZ h3 (below_drewN (ZU _ _) _),hB.trans (Fr.of_below (below_drewN (ZU _ _) _))⟩
     .simp[intOf]
   .by_cases uQ:2*p+1+1<n
    .obtain⟨c,hc⟩:∃c,Y[2*p+1+1]? =some c:=⟨_,ZV (by rw[HN.out];exact uQ)⟩
     have uV:f<n:=by
      rcases HC.out.place with e|⟨j,hj,e,fG⟩
      .omega
      .rw[HN.out]at fG;exact fG
     obtain⟨y,hy⟩:∃y,Y[f]? =some y:=⟨_,ZV (by rw[HN.out];exact uV)⟩;have⟨e1,e2⟩:=sc.cells hc;have⟨e3,e4⟩:=sc.cells hy;rw[show(2*p+1+1)*2=(2*p+2)*2 by omega]at e1 e2;have hA:=λw=>jd9 c y w
     have G6:=jds c.YV (c.place:Int);have vj:=λn=>jee n c.YV (c.place:Int)
     have q0:=cell_regrown h1;have q1:=cell_regrown e1;have q2:=cell_regrown e2;have q3:=cell_regrown e3;have q4:=cell_regrown e4;have dc:decide (2*(p:Int)+2<(n:Int))=true:=RO;have tc:(2*(p:Int)+2).toNat=2*p+2:=Q;have bc:(0:Int)<=2*(p:Int)+2:=Q;have Io:2*(p:Int)+2<(n:Int):=Q;have bf:(0:Int)<=(f:Int):=Q;have Ip:(f:Int)<(n:Int):=Q;cases hlt:ltW c y
     .have iq:Hid (Jr Y p (1+1) f):=jxu HC.out hc hy (jv1 hlt)
      rw[hlt]at hA;simp only[ZF.v]at hA;have cE:∀dd os,C _ _ (grow (redrawn wr dd) os) λe cW=>e=V (.bool false)/\∃p:Regrown,cW=grow (redrawn wr p.d) p.os:=λ_ _=>Calls.regrown_of (hA _)
      clear hlt hc hy HC;go_wp2_with fail;refine wp_region_quiet_below RG RG ?_
      repeat (quiet_step ((go_at_call 342;exact cE _ _)))
      refine wpQuiet_nil ?_;intro w3 gm;have⟨⟨dq,aQ⟩,cJ⟩:=gm;have ar:Bw wr w3:=cJ ▸ below_regrown wr dq aQ;have hsz:=ZI h1;have ax:Fr (λb=>b=g) w w3:=hB.trans (Fr.of_below ar);have t1:=YR ar h1;have t2:=((Z4 ar).2 _ _ hsz).trans h2;have t3:Zj w3 hp (so g n cap) Y:=uZ h3 ar;clear cJ ar q0 q1 q2 q3 q4 cE;go_wp2;go_roundw
      .exact⟨f,1+1,rfl,rfl,Q,Q,iq,t1,t2,t3,ax⟩
      .simp[intOf]
     .have iq:Hid (Jr Y p (1+1) (2*p+1+1)):=jsi HC.out hc hy (j18 hlt)
      rw[hlt]at hA;simp only[ZF.v]at hA;have cE:∀dd os,C _ _ (grow (redrawn wr dd) os) λe cW=>e=V (.bool true)/\∃p:Regrown,cW=grow (redrawn wr p.d) p.os:=λ_ _=>Calls.regrown_of (hA _)
      clear hlt hc hy HC;go_wp2_with fail;refine wp_region_quiet_below RG RG ?_
      repeat (quiet_step ((go_at_call 342;exact cE _ _)))
      refine wpQuiet_nil ?_;intro w3 gm;have⟨⟨dq,aQ⟩,cJ⟩:=gm;have ar:Bw wr w3:=cJ ▸ below_regrown wr dq aQ;have hsz:=ZI h1;have ax:Fr (λb=>b=g) w w3:=hB.trans (Fr.of_below ar);have t1:=YR ar h1;have t2:=((Z4 ar).2 _ _ hsz).trans h2;have t3:Zj w3 hp (so g n cap) Y:=uZ h3 ar;clear cJ ar q0 q1 q2 q3 q4 cE;go_wp2;go_roundw
      .exact⟨2*p+1+1,1+1,by congr 1,rfl,Q,Q,iq,t1,t2,t3,ax⟩
      .simp[intOf]
    .have iq:Hid (Jr Y p (1+1) f):=jsj HC.out (by rw[HN.out];omega)
     have dc:decide (2*(p:Int)+2<(n:Int))=false:=RO;clear HC;go_wp2_with fail;go_quiet (fail);go_wp2;go_roundw
     .exact⟨f,1+1,rfl,rfl,Q,oy,iq,h1,h2,uZ h3 (below_drewN (ZU _ _) _),hB.trans (Fr.of_below (below_drewN (ZU _ _) _))⟩
     .simp[intOf]
   .by_cases qB:f=p
    .subst qB
     have HR:Hid (jc1 Y):=jxv HD.out HC.out;have ge:((f:Int)==(f:Int))=true:=M;go_wp2;exact ZM (results_none Tryz.results299 _ _ _) rfl ⟨rfl,⟨Y,HR.out,HP.out,HN.out,h1,h2,h3⟩,hB⟩
    .have hfl:p<f/\f<n:=by
      rcases HC.out.place with e|⟨j,hj,e,fG⟩
      .exact absurd e qB
      .rw[HN.out]at fG;omega
     obtain⟨x,hx⟩:∃x,Y[p]? =some x:=⟨_,ZV (by rw[HN.out];omega)⟩;obtain⟨c,hc⟩:∃c,Y[f]? =some c:=⟨_,ZV (by rw[HN.out];omega)⟩;have Hi:Hid (DnX (Dz Y p f x c) f):=jxt HD.out HC.out qB hx hc;have ju:Hid ((Dz Y p f x c).Perm X):=(jh1 hx hc).trans HP.out;have gK:Hid ((Dz Y p f x c).length=n):=by simp only[Hid];rw[jei];exact HN.out
     have dA:=λw h1 h2=>ji3 Y hp g cap p f hp x c w h1 h2 hx hc Q az
     rw[HN.out]at dA;have ge:((f:Int)==(p:Int))=false:=RO;clear hx hc HD HP HC;generalize Dz Y p f x c=vZZ at *;go_wp2_with fail;refine(dA _ h1 h3).mono ?_;rintro e w4 ⟨rfl,dX,wW⟩;have u1:=wW.cell (a:=(O hp 0)) h1 (λe=>az (by simpa using e));have u2:=(wW.frozen_far (O hp 0) (ZI h1) (λe=>az (by simpa using e))).trans h2;have aR:Fr (λb=>b=g) w w4:=hB.trans ((Fr.vaT wW).mono λb _ hb=>by injection hb with hb;exact hb.symm);clear wW;go_wp2;go_roundw
     .exact⟨f,vZZ,rfl,.inl Q,gK,u1,u2,dX,Hi,ju,aR⟩
     .simp[intOf];omega
theorem jy5(h:Zj w base (so g (n+1) cap) Y)(hn:Y.length=n+1):Zj w base (so g n cap) (Y.take n):=by
 unfold Zj at h ⊢;rw[hn]at h;have hl:(Y.take n).length=n:=by rw[List.length_take];omega
 rw[hl];have hfl:((Y.take n).map ZF.cs).flatten=(Y.map ZF.cs).flatten.take (n*2):=by
  have e:Y=Y.take n++Y.drop n:=(List.take_append_drop n Y).symm;have e2:(Y.map ZF.cs).flatten=((Y.take n).map ZF.cs).flatten++((Y.drop n).map ZF.cs).flatten:=by
   conv=>lhs;rw[e,MZ,List.flatten_append]
  rw[e2,List.take_append_of_le_length (by rw[jbx jbo,BX,hl];exact ZD _)];exact(List.take_of_length_le (by rw[jbx jbo,BX,hl];exact ZD _)).symm
 rw[hfl];rcases h.2 with⟨h',_⟩|⟨g',fK,cur,h',hb,hg,sG,qw,rB,ht⟩
 .cases h'
 .simp only[Value.slice.injEq,Option.some.injEq,Addr.mk.injEq,and_true,true_and]at h'
  obtain⟨rfl,rfl⟩:=h';refine⟨?_,.inr ⟨g,cap,cur,rfl,hb,hg,Q,qw,rB,?_⟩⟩
  .rw[List.length_take,h.1];omega
  .rw[<- ht,List.take_take,Nat.min_eq_left Q]
theorem jtr(hp g cap base:Nat)(a:ZF)(w:World)(aE:w.cell? (O hp 0)=some (so g 1 cap))(ai:Zj w base (so g 1 cap) [a]):
  C 298 #[.pointer (some (O hp 0)),J 0,J 0] w λe w'=>e=V (.tuple #[])/\Zj w' base (so g 1 cap) [a]/\w.grownBy w' (some g):=by
 have⟨a0,a1⟩:=Zj.cells (X:=[a]) (i:=0) ai rfl;have z0:=World.ownsRow.frozenAt ai 0;have z1:=World.ownsRow.frozenAt ai 1;have NI:w.cell? (O g 0)=some (J a.YV):=by simpa using a0
 have NJ:w.cell? (O g 1)=some (J a.place):=by simpa using a1
 have⟨h1,g1⟩:=World.ownsRow.stored ai 0 (J a.YV);have⟨h2,g2⟩:=h1.stored 1 (J a.place);have⟨h3,g3⟩:=h2.stored 0 (J a.YV);have⟨h4,g4⟩:=h3.stored 1 (J a.place);have HO:Zj ((((w.setCell (O g 0) (J a.YV)).setCell (O g 1) (J a.place)).setCell (O g 0) (J a.YV)).setCell (O g 1) (J a.place)).drew base (so g 1 cap) [a]:=h4.drew;have HG:=jbf g1 (jbf g2 (jbf g3 (jbf g4 (jk4 _ _))));clear h1 h2 h3 h4 g1 g2 g3 g4 a0 a1;unfold C;go_in;go_wp2_with fail;go_region;exact bodyPost_end (results_none Tryz.results298 _ _ _) rfl ⟨rfl,HO,HG⟩
theorem jva(X:List ZF)(n hp g cap base:Nat)(x z:ZF)(w:World)(hn:X.length=n+1)(aE:w.cell? (O hp 0)=some (so g (n+1) cap))(ai:Zj w base (so g (n+1) cap) X)(hx:X[0]? =some x)(hz:X[n]? =some z)(az:hp≠g):
  C 298 #[.pointer (some (O hp 0)),J 0,J n] w λe w'=>e=V (.tuple #[])/\Zj w' base (so g (n+1) cap) (Dz X 0 n x z)/\w.grownBy w' (some g):=by
 by_cases h0:n=0
 .subst h0
  match X,hn with
  |[a],_=>
   simp at hx hz;subst hx;subst hz;exact jtr hp g cap base a w aE ai
 .have:=ji3 X hp g cap 0 n base x z w (by rw[hn];exact aE) (by rw[hn];exact ai) hx hz Q az
  rw[hn]at this;exact this
theorem jyq(h:jc1 X){x:ZF}(hx:X[0]? =some x):∀y∈X,MU x y:=λy hy=>by
 have⟨i,hi⟩:=lgo hy;exact jzy h hx i i y (ZD _) hi
theorem jzw(X:List ZF)(n hp g cap:Nat)(w:World)(h1:w.cell? (O hp 0)=some (so g (n+1) cap))(h2:w.frozen? (O hp 0)=false)(h3:Zj w hp (so g (n+1) cap) X)(hn:X.length=n+1)(az:hp≠g)(hX:jc1 X)(hl:n+1<=4000)(eh:n+1<=cap):
  C 281 #[.pointer (some (O hp 0))] w λe w'=>∃x Y,e=.returned x.v/\jc1 Y/\X.Perm (x::Y)/\(∀y∈Y,MU x y)/\Y.length=n/\w'.cell? (O hp 0)=some (so g n cap)/\w'.frozen? (O hp 0)=false/\Zj w' hp (so g n cap) Y/\Fr (λb=>b=hp\/b=g) w w':=by
 obtain⟨x,hx⟩:∃x,X[0]? =some x:=⟨_,ZV (by omega)⟩;obtain⟨z,hz⟩:∃z,X[n]? =some z:=⟨_,ZV (by omega)⟩;have hsz:=ZI h1;have FU:=(h3.lt g rfl).2;have dA:=λw h1 h2=>jva X n hp g cap hp x z w hn h1 h2 hx hz az
 have HJ:Hid (X.Perm (x::(Dz X 0 n x z).take n)):=jy3 hn hx hz;have Hj:Hid (DnX ((Dz X 0 n x z).take n) 0):=j0g hX;have xt:Hid ((Dz X 0 n x z).length=n+1):=by simp only[Hid];rw[jei,hn]
 have I7:Hid (((Dz X 0 n x z).take n).length=n):=by simp only[Hid];rw[List.length_take,jei];omega
 have Hr:Hid ((Dz X 0 n x z)[n]? =some x):=jrf (by omega);have yz:Hid (∀y∈X,MU x y):=jyq hX hx;clear hx hz hX hn;generalize Dz X 0 n x z=vZZ at *;have k1:(w.alloc (.cells #[J 0,J 0] 317)).cell? (O hp 0)=some (so g (n+1) cap):=YR (ZA w _) h1;have k2:(w.alloc (.cells #[J 0,J 0] 317)).frozen? (O hp 0)=false:=((Z4 (ZA w _)).2 _ _ hsz).trans h2;have k3:Zj (w.alloc (.cells #[J 0,J 0] 317)) hp (so g (n+1) cap) X:=nO h3 _;obtain⟨D0,D1⟩:(λz:World=>z.cell? (O w.heap.size 0)=some (J 0)/\z.cell? (O w.heap.size 1)=some (J 0)) (w.alloc (.cells #[J 0,J 0] 317)):=(by simp[go_sem]);have kf:∀i,(w.alloc (.cells #[J 0,J 0] 317)).frozen? (O w.heap.size i)=false:=λi=>(by simp[go_sem])
 have Lb:(w.alloc (.cells #[J 0,J 0] 317)).heap.size=w.heap.size+1:=(by simp);have fA:Fr (λb=>b=hp\/b=g) w (w.alloc (.cells #[J 0,J 0] 317)):=Fr.of_below (ZA w _);have bn:IntKind.i64.wrap ((n:Int)+1-1)=n:=by rw[show(n:Int)+1-1=n by omega];exact wrap_small _ (by omega) (by omega)
 have b1:(0:Int)<=(n:Int):=(by omega);have b2:(n:Int)<(n:Int)+1:=(by omega);have b3:(n:Int)<=(cap:Int):=(by omega);unfold C;go_in;go_wp2_with fail;obtain⟨wA,cK⟩:=ZL ((w.alloc (.cells #[J 0,J 0] 317)));rw[cK]at k1 k2 k3 D0 D1 kf Lb fA ⊢;clear cK h1 h2 h3;refine(dA _ k1 k3).mono ?_;rintro e w1 ⟨rfl,dW,cQ⟩;have ng:w.heap.size≠g:=(by omega);have f1:=(Fr.vaT cQ).mono (S2:=λb=>b=hp\/b=g) λb _ hb=>.inr (by injection hb with hb;exact hb.symm)
 have l1:=cQ.cell (a:=(O hp 0)) k1 (λe=>az (by simpa using e));have l2:=(cQ.frozen_far (O hp 0) (by show hp<_;omega) (λe=>az (by simpa using e))).trans k2;have D2:=cQ.cell (a:=(O w.heap.size 0)) D0 (λe=>ng (by simpa using e));have GE:=cQ.cell (a:=(O w.heap.size 1)) D1 (λe=>ng (by simpa using e));have lf:∀i,w1.frozen? (O w.heap.size i)=false:=λi=>(cQ.frozen_far (O w.heap.size i) (by show w.heap.size<_;omega) (λe=>ng (by simpa using e))).trans (kf i)
 have fB:=fA.trans f1;have bU:=cQ.size;obtain⟨c0,c1⟩:=Zj.cells (X:=vZZ) (cap:=cap) (by rw[xt.out];exact dW) Hr.out;have hcut:=jy5 dW xt.out;clear cQ f1 fA k1 k2 k3 D0 D1 kf dA dW;have j9:=ZA w1 (.cells #[J x.YV,J x.place] 317);have m1:=YR j9 l1;have m2:=AZ j9 l1 l2;have GG:=YR j9 D2;have GH:=YR j9 GE;have mf:∀i,(w1.alloc (.cells #[J x.YV,J x.place] 317)).frozen? (O w.heap.size i)=false:=λi=>((Z4 j9).2 _ _ (ZI D2)).trans (lf i)
 obtain⟨Li,Lj⟩:(λz:World=>z.cell? (O w1.heap.size 0)=some (J x.YV)/\z.cell? (O w1.heap.size 1)=some (J x.place)) (w1.alloc (.cells #[J x.YV,J x.place] 317)):=(by simp[go_sem]);have mc:Zj (w1.alloc (.cells #[J x.YV,J x.place] 317)) hp (so g n cap) (vZZ.take n):=nO hcut _;have fC:=fB.trans (Fr.of_below j9);obtain⟨p1,p2,p3⟩:=jnh m1 m2 mc az;have gs:=jck (w1.alloc (.cells #[J x.YV,J x.place] 317)) hp 0 (so g n cap);have nb:w.heap.size≠hp:=(by omega);have D5:w1.heap.size≠hp:=(by omega);have yo:w1.heap.size≠g:=(by omega);have GL:=gs.cell (a:=(O w.heap.size 0)) GG (λe=>nb (by simpa using e));have LH:=gs.cell (a:=(O w.heap.size 1)) GH (λe=>nb (by simpa using e));have LI:=gs.cell (a:=(O w1.heap.size 0)) Li (λe=>D5 (by simpa using e));have LJ:=gs.cell (a:=(O w1.heap.size 1)) Lj (λe=>D5 (by simpa using e));have pf:∀i,((w1.alloc (.cells #[J x.YV,J x.place] 317)).setCell (O hp 0) (so g n cap)).frozen? (O w.heap.size i)=false:=λi=>by rw[World.frozen?_setCell];exact mf i
 have fD:=fC.trans ((Fr.vaT gs).mono (S2:=λb=>b=hp\/b=g) λb _ hb=>.inl (by injection hb with hb;exact hb.symm));have Fu:=jwu (vZZ.take n) hp g cap n _ p1 p2 p3 I7.out az Hj.out (by omega);clear gs mc GG GH mf j9 l2 D2 GE lf fB fC hcut;go_wp2_with fail;refine Fu.mono ?_;rintro e w4 ⟨rfl,⟨Y,hY,FG,kt,s1,s2,s3⟩,pg⟩;have HR:Hid (jc1 Y/\X.Perm (x::Y)/\(∀y∈Y,MU x y)/\Y.length=n):=by
  have Ge:X.Perm (x::Y):=HJ.out.trans (List.Perm.cons x FG.symm);exact⟨hY,Ge,λy hy=>yz.out y (Ge.mem_iff.mpr (lmc _ hy)),kt⟩
 have fE:=fD.trans (pg.mono (S2:=λb=>b=hp\/b=g) λb _ hb=>.inr hb);have t0:=pg.cell (b:=w.heap.size) (o:=0) ng GL;have t1:=pg.cell (b:=w.heap.size) (o:=1) ng LH;have t2:=pg.cell (b:=w1.heap.size) (o:=0) yo LI;have t3:=pg.cell (b:=w1.heap.size) (o:=1) yo LJ;have tf:∀i,w4.frozen? (O w.heap.size i)=false:=λi=>(pg.frozen (ZI GL) ng).trans (pf i)
 have PM:=tf 0;have PN:=tf 1;have OM:=ZI t0;have gA:=jck w4 w.heap.size 0 (J x.YV);have gB:=jck (w4.setCell (O w.heap.size 0) (J x.YV)) w.heap.size 1 (J x.place);have lT:=jbf gA gB;have r0:((w4.setCell (O w.heap.size 0) (J x.YV)).setCell (O w.heap.size 1) (J x.place)).cell? (O w.heap.size 0)=some (J x.YV):=by
  rw[ZT _ _ _ _ (by intro e;injection e with _ e2;omega)];exact Bf _ _ _ t0
 have jp:(w4.setCell (O w.heap.size 0) (J x.YV)).cell? (O w.heap.size 1)=some (J 0):=by
  rw[ZT _ _ _ _ (by intro e;injection e with _ e2;omega)];exact t1
 have r1:=Bf (w4.setCell (O w.heap.size 0) (J x.YV)) _ (J x.place) jp;have v1:=lT.cell (a:=(O hp 0)) s1 (λe=>nb (by simpa using e.symm));have v2:=(lT.frozen_far (O hp 0) (ZI s1) (λe=>nb (by simpa using e.symm))).trans s2;have v3:Zj ((w4.setCell (O w.heap.size 0) (J x.YV)).setCell (O w.heap.size 1) (J x.place)) hp (so g n cap) Y:=World.ownsRow.kept s3 lT (.inr λe=>ng (by simpa [Value.ownBlock]using e.symm));have fF:Fr (λb=>b=hp\/b=g) w ((w4.setCell (O w.heap.size 0) (J x.YV)).setCell (O w.heap.size 1) (J x.place)):=by
  refine⟨lT.os.trans fE.os,lT.tape.trans fE.tape,lT.output.trans fE.output,Nat.le_trans fE.size lT.size,λb hb hs=>(lT.block b (Nat.lt_of_lt_of_le hb fE.size) λe=>?_).trans (fE.block b hb hs)⟩;have:b=w.heap.size:=by simpa using e
  omega
 clear gA gB lT fE pg Fu s1 s2 s3 hY FG kt;go_wp2;exact ZM (v:=.agg #[J x.YV,J x.place]) (by simp[results,Tryz.results281,go_sem,r0,r1]) rfl ⟨x,Y,rfl,HR.out.1,HR.out.2.1,HR.out.2.2.1,HR.out.2.2.2,v1,v2,v3,fF⟩
