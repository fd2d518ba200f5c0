import Derived.Deep.CutRange
import Derived.Test.YtbbgeelamjmgaaaGreatDoorOwn1d
import Derived.Deep.RegionHeld3
set_option maxRecDepth 100000
set_option maxHeartbeats 0
set_option linter.unusedSimpArgs false
open Go.RowKit
namespace Go.Proofs.YtbbgeelamjmgaaaGreatDoor
variable{l:List ZN}{base k q:Nat}{v:ZN}{e:Ze}{L:List Ze}{rows:List (List Value)}{w:World}
def ZN.ev(v:ZN):Ze:=⟨v.id,v.name,v.YZ,v.YV,v.Zz,v.Zu⟩
def vaN(l:List ZN)(id:Int):Nat->Option Nat
 |0=>none
 |k+1=>match l[k]? with
  |some v=>if v.id=id then some k else vaN l id k
  |none=>vaN l id k
def jci(l:List ZN)(id:Int):Option Nat:=vaN l id l.length
def vbX(o:Option Nat):Int:=match o with
 |some i=>i
 |none=> -1
theorem jiz{id:Int}(h:l[k]? =some v)(hv:v.id=id):vaN l id (k+1)=some k:=by rw[vaN,h];simp only;rw[if_pos hv]
theorem jgc{id:Int}(h:l[k]? =some v)(hv:v.id≠id):vaN l id (k+1)=vaN l id k:=by rw[vaN,h];simp only;rw[if_neg hv]
theorem jdc{id:Int}:∀{k j:Nat},vaN l id k=some j->j<k/\(∃v,l[j]? =some v/\v.id=id)/\∀i v,j<i->i<k->l[i]? =some v->v.id≠id:=by
 intro k
 induction k with
 |zero=>intro j h;cases h
 |succ k ih=>
  intro j h;cases hk:l[k]? with
  | none=>
   rw[vaN,hk]at h;have⟨a,b,c⟩:=ih h
   exact⟨Q,b,λi v h1 h2 h3=>by
    by_cases e:i=k
    .subst e;rw[hk]at h3;cases h3
    .exact c i v h1 Q h3⟩
  |some v=>
   by_cases hv:v.id=id
   .rw[jiz hk hv]at h
    obtain rfl:=Z9 h;exact⟨Q,⟨v,hk,hv⟩,λi x h1 h2=>Q⟩
   .rw[jgc hk hv]at h
    have⟨a,b,c⟩:=ih h
    exact⟨Q,b,λi x h1 h2 h3=>by
     by_cases e:i=k
     .subst e;rw[hk]at h3;obtain rfl:=Z9 h3;exact hv
     .exact c i x h1 Q h3⟩
theorem j2v{id:Int}:∀{k:Nat},vaN l id k=none->∀i v,i<k->l[i]? =some v->v.id≠id:=by
 intro k
 induction k with
 |zero=>intro _ i v h;omega
 |succ k ih=>
  intro h i v hi hv;cases hk:l[k]? with
  |none=>
   rw[vaN,hk]at h;by_cases e:i=k
   .subst e;rw[hk]at hv;cases hv
   .exact ih h i v Q hv
  | some x=>
   by_cases hx:x.id=id
   .rw[jiz hk hx]at h;cases h
   .rw[jgc hk hx]at h
    by_cases e:i=k
    .subst e;rw[hk]at hv;obtain rfl:=Z9 hv;exact hx
    .exact ih h i v Q hv
def AY(l:List ZN)(id:Int):Option Ze:=match jci l id with
 |some k=>(match l[k]? with
  |some v=>if v.gone=true then none else some v.ev
  |none=>none)
 |none=>none
theorem jto(l:List ZN)(v:ZN)(id:Int):jci (l++[v]) id=if v.id=id then some l.length else jci l id:=by
 have hp:∀k,k<=l.length->vaN (l++[v]) id k=vaN l id k:=by
  intro k
  induction k with
  |zero=>intro _;rfl
  |succ k ih=>
   intro hk;rw[vaN,vaN,N9 Q,ih Q]
 unfold jci;rw[FB,List.length_singleton,vaN];rw[List.getElem?_append_right (ZD _)];simp only[Nat.sub_self,List.getElem?_cons_zero];rw[hp _ (ZD _)]
theorem jtf(l:List ZN)(v:ZN)(id:Int):AY (l++[v]) id=if v.id=id then(if v.gone=true then none else some v.ev)else AY l id:=by
 unfold AY;rw[jto];by_cases h:v.id=id
 .rw[if_pos h,if_pos h]
  simp only[List.getElem?_append_right (ZD _),Nat.sub_self,List.getElem?_cons_zero]
 .rw[if_neg h,if_neg h]
  cases hk:jci l id with
  |none=>rfl
  |some k=>
   have hl:=(jdc hk).1;simp only;rw[N9 hl]
def Rc:List Ze->Ze->List Ze
 |[],e=>[e]
 |x::l,e=>if x.id<e.id then x::Rc l e else e::x::l
theorem veb{l:List Ze}{x:Ze}:x∈Rc l e↔x=e\/x∈l:=by
 induction l with
 |nil=>simp[Rc]
 |cons a l ih=>
  rw[Rc];split
  .simp only[List.mem_cons,ih]
   constructor
   .rintro(h|h|h)
    .exact .inr (.inl h)
    .exact .inl h
    .exact .inr (.inr h)
   .rintro(h|h|h)
    .exact .inr (.inl h)
    .exact .inl h
    .exact .inr (.inr h)
  .simp only[List.mem_cons]
theorem j2e{l:List Ze}(h:l.Pairwise λx y=>x.id<y.id)(hn:∀x∈l,x.id≠e.id):(Rc l e).Pairwise λx y=>x.id<y.id:=by
 induction l with
 |nil=>simp[Rc]
 | cons a l ih=>
  have h':=List.pairwise_cons.mp h;rw[Rc];split
  .rename_i ha
   refine List.pairwise_cons.mpr ⟨λx hx=>?_,ih h'.2 λx hx=>hn x (lmc _ hx)⟩;rcases veb.mp hx with rfl|hx
   .exact ha
   .exact h'.1 x hx
  .rename_i ha
   have su:e.id<a.id:=by have:=hn a M;omega
   refine List.pairwise_cons.mpr ⟨λx hx=>?_,h⟩;rcases List.mem_cons.mp hx with rfl|hx
   .exact su
   .have:=h'.1 x hx;omega
def jju(l:List Ze)(id:Int):Nat:=(l.takeWhile λx=>decide (x.id<id)).length
theorem jwl(l:List Ze)(e:Ze):Rc l e=l.take (jju l e.id)++[e]++l.drop (jju l e.id):=by
 induction l with
 |nil=>rfl
 | cons a l ih=>
  unfold jju at *;rw[Rc];by_cases h:a.id<e.id
  .rw[if_pos h,ih]
   simp[h]
  .rw[if_neg h]
   simp[h]
def jca(l:List ZN):Nat->List Ze
 |0=>[]
 |k+1=>match l[k]? with
  |some v=>if jci l v.id=some k/\v.gone=false then Rc (jca l k) v.ev else jca l k
  |none=>jca l k
def ZJ(l:List ZN):List Ze:=jca l l.length
theorem vfE:∀{k:Nat},e∈jca l k↔∃j v,j<k/\l[j]? =some v/\jci l v.id=some j/\v.gone=false/\v.ev=e:=by
 intro k
 induction k with
 |zero=>simp[jca]
 |succ k ih=>
  have jk:(∃j v,j<k/\l[j]? =some v/\jci l v.id=some j/\v.gone=false/\v.ev=e)->∃j v,j<k+1/\l[j]? =some v/\jci l v.id=some j/\v.gone=false/\v.ev=e:=λ⟨j,v,h1,h2⟩=>⟨j,v,Q,h2⟩
  rw[jca];cases hk:l[k]? with
  |none=>
   simp only;rw[ih];refine⟨jk,λ⟨j,v,h1,h2,h3⟩=>⟨j,v,?_,h2,h3⟩⟩;by_cases e1:j=k
   .subst e1;rw[hk]at h2;cases h2
   .omega
  |some v=>
   simp only;split
   .rename_i hc
    rw[veb,ih];constructor
    .rintro(rfl|h)
     .exact⟨k,v,Q,hk,hc.1,hc.2,rfl⟩
     .exact jk h
    .rintro⟨j,x,h1,h2,h3,h4,h5⟩
     by_cases e1:j=k
     .subst e1;rw[hk]at h2;obtain rfl:=Z9 h2;exact .inl h5.symm
     .exact .inr ⟨j,x,Q,h2,h3,h4,h5⟩
   .rename_i hc
    rw[ih];refine⟨jk,λ⟨j,x,h1,h2,h3,h4,h5⟩=>⟨j,x,?_,h2,h3,h4,h5⟩⟩;by_cases e1:j=k
    .subst e1;rw[hk]at h2;obtain rfl:=Z9 h2;exact absurd ⟨h3,h4⟩ hc
    .omega
theorem jhr:∀k,(jca l k).Pairwise λx y=>x.id<y.id:=by
 intro k
 induction k with
 |zero=>simp[jca]
 |succ k ih=>
  rw[jca];cases hk:l[k]? with
  |none=>exact ih
  | some v=>
   simp only;split
   .rename_i hc
    refine j2e ih λx hx he=>?_
    have⟨j,y,h1,h2,h3,_,h5⟩:=vfE.mp hx;have e2:y.id=v.id:=by rw[<- h5]at he;exact he
    rw[e2,hc.1]at h3;have:=Z9 h3;omega
   .exact ih
theorem jwf(l:List ZN):∀k,(jca l k).length<=k:=by
 have hi:∀(L:List Ze) e,(Rc L e).length=L.length+1:=by
  intro L e
  induction L with
  |nil=>rfl
  |cons a L ih=>rw[Rc];split<;>simp[ih]
 intro k
 induction k with
 |zero=>simp[jca]
 | succ k ih=>
  rw[jca];split
  .split
   .rw[hi];omega
   .omega
  .omega
theorem va8:e∈ZJ l↔AY l e.id=some e:=by
 unfold ZJ;rw[vfE];constructor
 .rintro⟨j,v,_,h2,h3,h4,rfl⟩
  show AY l v.id=_
  unfold AY;rw[h3];simp only;rw[h2];simp[h4]
 .intro h
  unfold AY at h;cases hk:jci l e.id with
  |none=>rw[hk]at h;cases h
  |some k=>
   rw[hk]at h;simp only at h;cases hv:l[k]? with
   |none=>rw[hv]at h;cases h
   | some v=>
    rw[hv]at h;simp only at h;split at h
    .cases h
    .rename_i hg
     obtain rfl:=Z9 h;exact⟨k,v,(jdc hk).1,hv,hk,by simpa using hg,rfl⟩
theorem veD{vMM:List Ze}(hL:L.Pairwise λx y=>x.id<y.id)(hM:vMM.Pairwise λx y=>x.id<y.id)(h:∀e,e∈L↔e∈vMM):L=vMM:=by
 induction L generalizing vMM with
 |nil=>
  cases vMM with
  |nil=>rfl
  |cons y vMM=>exact absurd ((h y).mpr M) M
 |cons x L ih=>
  cases vMM with
  |nil=>exact absurd ((h x).mp M) M
  |cons y vMM=>
   have km:=List.pairwise_cons.mp hL;have xI:=List.pairwise_cons.mp hM;have gI:x=y:=by
    rcases List.mem_cons.mp ((h x).mp M)with e|e
    .exact e
    .rcases List.mem_cons.mp ((h y).mpr M)with e2|e2
     .exact e2.symm
     .have:=xI.1 x e;have:=km.1 y e2;omega
   subst gI;rw[ih km.2 xI.2 λe=>?_];constructor
   .intro he
    rcases List.mem_cons.mp ((h e).mp (lmc _ he))with e2|e2
    .subst e2;have:=km.1 _ he;omega
    .exact e2
   .intro he
    rcases List.mem_cons.mp ((h e).mpr (lmc _ he))with e2|e2
    .subst e2;have:=xI.1 _ he;omega
    .exact e2
theorem jgn(l:List ZN)(a:Option Addr)(n cap:Nat)(id:Int)(w:World)(hA:Za w a 8 (l.map ZN.cs))(hn:l.length=n)(hl:n<=1048576):
  C 63 #[U a n cap,J id] w λe w'=>e=V (J (vbX (jci l id)))/\w'=w:=by
 have HN:=hid hn;clear hn;have q0:IntKind.i64.wrap ((n:Int)-1)=(n:Int)-1:=by rw[IntKind.wrap_i64];omega
 unfold C;go_in;go_wp2;go_loop [5] (λs=>∃k:Nat,k<=n/\s=J ((k:Int)-1)/\Hid (jci l id=vaN l id k)) (λs=>(intOf s+1).toNat)
 .exact⟨n,ZD _,rfl,by simp only[Hid];unfold jci;rw[HN.out]⟩
 ·
  obtain⟨k,hk,rfl,HK⟩:=hrel;cases k with
  |zero=>
   have h0:¬(0:Int)<=((0:Nat):Int)-1:=Q;go_wp2;go_ret;exact⟨Fh (by rw[HK.out];rfl),rfl⟩
  | succ m=>
   obtain⟨v,hv⟩:∃v,l[m]? =some v:=⟨_,ZV (by have:=HN.out;omega)⟩;have ap:(l.map ZN.cs)[m]? =some v.cs:=by rw[Z8,hv];rfl
   obtain⟨b,o,rfl,hc⟩:=hA.at (i:=m) ap;have c2:w.cell? (O b (o+m*8+2))=some (J v.id):=hc 2 _ rfl;have e1:((m+1:Nat):Int)-1=(m:Int):=Q;rw[e1];have s0:(0:Int)<=(m:Int):=Q;have s1:(m:Int)<(n:Int):=Q;have s2:IntKind.i64.wrap ((m:Int)-1)=(m:Int)-1:=by rw[IntKind.wrap_i64];omega
   by_cases hid:v.id=id
   .have HR:Hid (jci l id=some m):=by simp only[Hid];rw[HK.out,jiz hv hid]
    have C8:(v.id==id)=true:=by simp[hid]
    clear hv ap hc hid HK;go_wp2;go_ret;exact⟨Fh (by rw[HR.out];rfl),rfl⟩
   .have HR:Hid (jci l id=vaN l id m):=by simp only[Hid];rw[HK.out,jgc hv hid]
    have C8:(v.id==id)=false:=by simp[hid]
    clear hv ap hc hid HK;go_wp2;go_round
    .exact⟨m,Q,rfl,HR⟩
    .simp[intOf]
theorem jk9(rows:List (List Value))(k:Nat):rows.flatten=(rows.take k).flatten++(rows.drop k).flatten:=by rw[<- List.flatten_append,List.take_append_drop]
theorem ja6:∀{rows:List (List Value)},(∀r∈rows,r.length=q)->rows.flatten.length=rows.length*q
 |[],_=>M
 |r::rows,h=>by
  rw[List.flatten_cons,FB,h r M,ja6 λx hx=>h x (lmc _ hx),List.length_cons,Nat.add_mul];omega
theorem jfy{j:Nat}{u:Value}(h:(rows.take k).flatten[j]? =some u):rows.flatten[j]? =some u:=by
 rw[jk9 rows k,N9 (pO h).1];exact h
theorem jfx(hq:∀r∈rows,r.length=q){k j:Nat}{u:Value}(hk:k<=rows.length)(h:(rows.drop k).flatten[j]? =some u):rows.flatten[k*q+j]? =some u:=by
 have hl:(rows.take k).flatten.length=k*q:=by rw[ja6 λr hr=>hq r (List.mem_of_mem_take hr),List.length_take,Nat.min_eq_left hk]
 rw[jk9 rows k,List.getElem?_append_right Q,hl,show k*q+j-k*q=j by omega];exact h
theorem jbl:∀r∈L.map Ze.cs,r.length=6:=λr hr=>by
 obtain⟨x,_,rfl⟩:=List.mem_map.1 hr;rfl
theorem jcx:∀u∈(L.map Ze.cs).flatten,u.oneCell'=true:=λu hu=>by
 simp only[List.mem_flatten,List.mem_map]at hu;obtain⟨r,⟨t,_,rfl⟩,hr⟩:=hu;simp[Ze.cs]at hr;rcases hr with rfl|rfl|rfl|rfl|rfl|rfl<;>rfl
theorem blN(w:World)(n:Nat):Bw w (w.drewN n):=⟨rfl,rfl,rfl,ZD _,λ_ _=>rfl⟩
def Jb(w:World)(base:Nat)(v:Value)(L:List Ze):Prop:=w.ownsRow base 33 6 v L.length (L.map Ze.cs).flatten
theorem Jb.cell{g n cap:Nat}(h:Jb w base (so g n cap) L){j:Nat}{u:Value}(hu:(L.map Ze.cs).flatten[j]? =some u):w.cell? (O g j)=some u:=by
 have h':w.ownsRow base 33 6 (so g n cap) L.length (L.map Ze.cs).flatten:=h;have hl:=(List.getElem?_eq_some_iff.1 hu).1;rcases h'.2 with⟨hv,_⟩|⟨g2,c2,cur,hv,_⟩
 .cases hv
 .injection hv with e1 e2 e3
  subst e2;rw[h'.cellAt j (by rw[ja6 jbl,BX]at hl;omega)];exact hu
theorem Jb.shape{v:Value}(h:Jb w base v L)(hn:0<L.length):∃g cap,v=so g L.length cap/\L.length<=cap:=by
 rcases h.2 with⟨_,h0⟩|⟨g,cap,cur,hv,hb,hg,hc,_⟩
 .omega
 .exact⟨g,cap,hv,hc⟩
theorem jpf{id:Int}(h1:∀(j:Nat) x,j<k->L[j]? =some x->x.id<id)(h2:∀x,L[k]? =some x->¬x.id<id)(hk:k<=L.length):jju L id=k:=by
 induction L generalizing k with
 |nil=>simp at hk;subst hk;rfl
 | cons a L ih=>
  unfold jju at *;cases k with
  |zero=>have:=h2 a rfl;simp[this]
  |succ k=>
   have h0:=h1 0 a Q rfl;have:=ih (k:=k) (λj x hj hx=>h1 (j+1) x Q (by simpa using hx)) (λx hx=>h2 x (by simpa using hx)) (by simp at hk;omega);simp[h0,this]
theorem vbU(L:List Ze)(e:Ze):(Rc L e).length=L.length+1:=by
 induction L with
 |nil=>rfl
 |cons a L ih=>rw[Rc];split<;>simp[ih]
theorem jtp:∃i:TypeInfo,Tryz.prog.info? 33=some i/\i.zero=some (.agg #[J 0,Rn,Rn,J 0,J 0,J 0])/\i.size=6/\i.bytes=64:=⟨_,rfl,rfl,rfl,rfl⟩
theorem jd1(l:List ZN)(a:Option Addr)(n cap:Nat)(w:World)(hA:Za w a 8 (l.map ZN.cs))(hn:l.length=n)(hl:n<=1000):
  C 26 #[U a n cap] w λe w'=>∃v,e=V v/\Jb w' w.heap.size v (ZJ l)/\Bw w w':=by
 have⟨i0,hi,aG,aH,aF⟩:=jtp;have HN:=hid hn;clear hn;unfold C;go_in;go_wp2;go_loopw [3,4,5,6] (λv s _ _ wr=>∃(i g m c:Nat),i<=n/\s=J i/\v=so g m c/\m<=i/\m<=c/\Hid ((jca l i).length=m)/\Jb wr w.heap.size (so g m c) (jca l i)/\Bw w wr) (λ_ s _ _ _=>n-(intOf s).toNat)
 .exact⟨0,w.heap.size,0,0,Q,rfl,rfl,Q,Q,rfl,ja5 w 33 6,ZA _ _⟩
 ·
  have⟨wa,dS⟩:=wL wr;subst dS;obtain⟨i,g,m,c,hin,rfl,rfl,P8,vi,HM,hO,hB⟩:=hrel;have iu:=hA.below hB;by_cases hlt:i<n
  .have s1:(i:Int)<(n:Int):=Q
   have s0:(0:Int)<=(i:Int):=Q;obtain⟨v,hv⟩:∃v,l[i]? =some v:=⟨_,ZV (by have:=HN.out;omega)⟩;have ap:(l.map ZN.cs)[i]? =some v.cs:=by rw[Z8,hv];rfl
   obtain⟨b,ob,rfl,hc⟩:=iu.at (i:=i) ap;have c1:wa.cell? (O b (ob+i*8+1))=some (.bool v.gone):=hc 1 _ rfl;have c2:wa.cell? (O b (ob+i*8+2))=some (J v.id):=hc 2 _ rfl;have c3:wa.cell? (O b (ob+i*8+3))=some (I v.name):=hc 3 _ rfl;have c4:wa.cell? (O b (ob+i*8+4))=some (I v.YZ):=hc 4 _ rfl;have c5:wa.cell? (O b (ob+i*8+5))=some (J v.YV):=hc 5 _ rfl;have c6:wa.cell? (O b (ob+i*8+6))=some (J v.Zz):=hc 6 _ rfl;have c7:wa.cell? (O b (ob+i*8+7))=some (J v.Zu):=hc 7 _ rfl;have fT:=λid=>jgn l (some (O b ob)) n cap id wa iu HN.out Q
   clear hc ap;have HK:Hid (jca l (i+1)=if jci l v.id=some i/\v.gone=false then Rc (jca l i) v.ev else jca l i):=by simp only[Hid];rw[jca,hv]
   clear hv;by_cases hla:jci l v.id=some i
   case neg=>
    have ed:Hid (jca l (i+1)=jca l i):=by simp only[Hid];rw[HK.out,if_neg (λh=>hla h.1)]
    have az:(vbX (jci l v.id) != (i:Int))=true:=by
     cases hx:jci l v.id with
     |none=>simp[vbX]<;>omega
     |some j=>rw[hx]at hla;simp[vbX]at hla ⊢;omega
    have hL:=fT v.id;generalize vbX (jci l v.id)=nz at *;clear HK hla fT;go_wp2_with fail;refine hL.mono ?_;rintro e wx ⟨rfl,bC⟩;have dl:=bC.symm;clear bC;subst dl;clear hL;go_wp2;go_roundw
    .exact⟨i+1,g,m,c,Q,RP,rfl,Q,vi,by simp only[Hid];rw[ed.out];exact HM.out,by rw[ed.out];exact hO,hB⟩
    .simp[intOf];omega
   have hL:=fT v.id;rw[hla]at hL;have az:((i:Int) != (i:Int))=false:=M;cases hg:v.gone with
   |true=>
    have ed:Hid (jca l (i+1)=jca l i):=by simp only[Hid];rw[HK.out,if_neg (λh=>by rw[hg]at h;cases h.2)]
    rw[hg]at c1;clear HK hla fT hg;go_wp2_with fail;refine hL.mono ?_;rintro e wx ⟨rfl,bC⟩;have dl:=bC.symm;clear bC;subst dl;clear hL;simp only[vbX];go_wp2;go_roundw
    .exact⟨i+1,g,m,c,Q,RP,rfl,Q,vi,by simp only[Hid];rw[ed.out];exact HM.out,by rw[ed.out];exact hO,hB⟩
    .simp[intOf];omega
   |false=>
    have ed:Hid (jca l (i+1)=Rc (jca l i) v.ev):=by simp only[Hid];rw[HK.out,if_pos ⟨hla,hg⟩]
    rw[hg]at c1;have⟨L,j4⟩:=ZL (jca l i);rw[j4]at hO HM ed;clear HK hla fT hg j4;have HC:Hid (∀(j:Nat) u,(L.map Ze.cs).flatten[j]? =some u->wa.cell? (O g j)=some u):=λj u hu=>hO.cell hu
    go_wp2_with fail;refine hL.mono ?_;rintro e wx ⟨rfl,bC⟩;have dl:=bC.symm;clear bC;subst dl;clear hL;simp only[vbX];go_wp2;go_loopw [5] (λs wr=>∃k:Nat,k<=m/\s=J k/\Hid (∀(j:Nat) x,j<k->L[j]? =some x->x.id<v.id)/\Bw wa wr) (λs _=>m+1-(intOf s).toNat)
    .exact⟨0,Q,rfl,λj x hj=>Q,ZU _ _⟩
    ·
     have⟨wb,mQ⟩:=wL wr;subst mQ;obtain⟨k,hk,rfl,HS,ck⟩:=hrel;have fW:Jb wb w.heap.size (so g m c) L:=uZ hO ck;have d2:=YR ck c2;have d3:=YR ck c3;have d4:=YR ck c4;have d5:=YR ck c5;have d6:=YR ck c6;have d7:=YR ck c7;have k0:(0:Int)<=(k:Int):=Q;clear hO c1 c2 c3 c4 c5 c6 c7 HC;go_upto_region 7 with fail
     go_cut [48]from 31 to 50 (λuy wx=>∃bb:Bool,uy=.bool bb/\Hid (Bw wb wx)/\Hid (if bb=true then k<m/\∀(j:Nat) y,j<k+1->L[j]? =some y->y.id<v.id else jju L v.ev.id=k))
     case first=>
      by_cases je:k<m
      .have k1:(k:Int)<(m:Int):=Q
       obtain⟨x,hx⟩:∃x,L[k]? =some x:=⟨_,ZV (by have:=HM.out;omega)⟩;have vN:(L.map Ze.cs)[k]? =some x.cs:=by rw[Z8,hx];rfl
       have cx:wb.cell? (O g (k*6))=some (J x.id):=fW.cell (ja3 (q:=6) jbl (j:=0) vN rfl);clear vN;by_cases qD:x.id<v.id
       .have jM:Hid (∀(j:Nat) y,j<k+1->L[j]? =some y->y.id<v.id):=λj y hj hy=>by
         by_cases e1:j=k
         .subst e1;rw[hx]at hy;obtain rfl:=Z9 hy;exact qD
         .exact HS.out j y Q hy
        clear hx HS fW d3 d4 d5 d6 d7;have q0:decide ((k:Int)<(m:Int))=true:=rT k1;have q1:decide (x.id<v.id)=true:=rT qD;go_wp2_with fail;go_quiet (fail);go_wp2;go_meet;exact⟨true,rfl,blN wb nq,(by simp only[Hid];exact⟨je,jM.out⟩)⟩
       .have HA:Hid (jju L v.ev.id=k):=jpf (id:=v.ev.id) HS.out (λy hy=>by rw[hx]at hy;obtain rfl:=Z9 hy;exact qD) (by have:=HM.out;omega)
        clear hx;have q0:decide ((k:Int)<(m:Int))=true:=rT k1;have q1:decide (x.id<v.id)=false:=dfe qD;go_wp2_with fail;go_quiet (fail);go_wp2;go_meet;exact⟨false,rfl,blN wb nq,(by simp only[Hid];exact HA.out)⟩
      .have k1:¬(k:Int)<(m:Int):=Q
       have HA:Hid (jju L v.ev.id=k):=jpf (id:=v.ev.id) HS.out (λy hy=>by have:=(pO hy).1;have:=HM.out;omega) (by have:=HM.out;omega);have q0:decide ((k:Int)<(m:Int))=false:=dfe k1;go_wp2_with fail;go_quiet (fail);go_wp2;go_meet;exact⟨false,rfl,blN wb nq,(by simp only[Hid];exact HA.out)⟩
     obtain⟨bb,rfl,hW,HB⟩:=hcut;have⟨wq,qQ⟩:=wL wc;subst qQ;have hW:=hW.out;cases bb
     case true=>
      obtain⟨je,jM⟩:k<m/\Hid (∀(j:Nat) y,j<k+1->L[j]? =some y->y.id<v.id):=by simpa [Hid]using HB
      clear HB HS fW d3 d4 d5 d6 d7;go_wp2;go_roundw
      .exact⟨k+1,Q,RP,jM,(Zp ck hW)⟩
      .simp[intOf];omega
     case false=>
      have HA:Hid (jju L v.ev.id=k):=by simpa [Hid]using HB
      clear HB;have bI:Jb wq w.heap.size (so g m c) L:=uZ fW hW;have dt:Bw w wq:=(Zp hB ck).trans (hW.mono (Zp hB ck).size);have e2:=YR hW d2;have e3:=YR hW d3;have e4:=YR hW d4;have e5:=YR hW d5;have e6:=YR hW d6;have e7:=YR hW d7;clear fW hB ck d2 d3 d4 d5 d6 d7 HS hW;have lk:(L.take k).length=k:=by rw[List.length_take,HM.out];omega
      have ld:(L.drop k).length=m-k:=by rw[List.length_drop,HM.out]
      have iN:(L.map Ze.cs).take k=(L.take k).map Ze.cs:=List.map_take.symm;have iM:(L.map Ze.cs).drop k=(L.drop k).map Ze.cs:=List.map_drop.symm;have t1:((L.take k).map Ze.cs).flatten.length=k*6:=by rw[ja6 jbl,BX,lk]
      have t2:((L.drop k).map Ze.cs).flatten.length=(m-k)*6:=by rw[ja6 jbl,BX,ld]
      have n1:∀j u,((L.take k).map Ze.cs).flatten[j]? =some u->(wq.alloc (G #[] 33)).cell? (((O g 0):Addr).add j)=some u:=λj u hj=>by
       rw[vby,Nat.zero_add];exact YR (ZA wq _) (bI.cell (jfy (k:=k) (by rw[iN];exact hj)))
      have HD:Hid (∀w2,Bw wq w2->∀j u,((L.drop k).map Ze.cs).flatten[j]? =some u->w2.cell? (O g (k*6+j))=some u):=λw2 hb j u hj=>YR hb (bI.cell (jfx jbl (by rw[BX,HM.out];omega) (by rw[iM];exact hj)))
      have HE:Hid (Rc L v.ev=(L.take k++[v.ev])++L.drop k):=by simp only[Hid];rw[jwl,HA.out]
      have hE:=ja5 wq 33 6;have k2:(k:Int)<=(c:Int):=Q;have k3:(k:Int)<=(m:Int):=Q;clear bI iN iM;go_wp2_with (first|(at_builtin;refine wpList_append_own _ rfl _ _ 40 rfl wq.heap.size 33 i0 (.agg #[J 0,Rn,Rn,J 0,J 0,J 0]) 6 64 Tryz.underlying40 hi aG aH aF rfl RN _ _ _ rfl hE (O g 0) k c ((L.take k).map Ze.cs).flatten rfl t1 n1 jcx ?a3 ?a4 ?a5 ?_)|fail)
      case a3=>unfold maxLen;omega
      case a4=>omega
      case a5=>simp
      intro v1 w1 av aP _;have aj:Bw wq w1:=(ZA wq _).grown aP M (λj hj=>(hE.lt j hj).1);obtain⟨a1,m1,x1,rfl⟩:=Dt av;have bU:=aj.size;have f2:=YR aj e2;have f3:=YR aj e3;have f4:=YR aj e4;have f5:=YR aj e5;have f6:=YR aj e6;have f7:=YR aj e7;clear aP hE n1 t1 e2 e3 e4 e5 e6 e7;go_wp2_with (first|(at_builtin;refine wpList_append_own _ rfl _ _ 40 rfl wq.heap.size 33 i0 (.agg #[J 0,Rn,Rn,J 0,J 0,J 0]) 6 64 Tryz.underlying40 hi aG aH aF rfl RN _ _ _ rfl (nO av _) (O w1.heap.size 0) 1 1 [J v.id,I v.name,I v.YZ,J v.YV,J v.Zz,J v.Zu] rfl rfl ?b1 ?b2 ?b3 ?b4 ?b5 ?_)|fail)
      case b1=>exact Ka _ [J v.id,I v.name,I v.YZ,J v.YV,J v.Zz,J v.Zu] _
      case b2=>intro u hu;simp at hu;rcases hu with rfl|rfl|rfl|rfl|rfl|rfl<;>rfl
      case b3=>unfold maxLen;omega
      case b4=>omega
      case b5=>simp;omega
      intro v2 w2 aw aU _;have an:Bw wq w2:=(aj.alloc aj.size _).grown aU RO (λj hj=>(av.lt j hj).1);obtain⟨a2,m2,x2,rfl⟩:=Dt aw;have dR:=an.size;have n2:=HD.out w2 an;clear aU av aj f2 f3 f4 f5 f6 f7;by_cases iH:c=k
      .have qF:k=m:=Q
       have qv:k=c:=iH.symm;clear iH;subst qv;subst qF;have t2:((L.drop k).map Ze.cs).flatten.length=0*6:=by rw[t2];simp
       have n3:∀j u,((L.drop k).map Ze.cs).flatten[j]? =some u->w2.cell? (((O g 0):Addr).add j)=some u:=λj u hj=>by have h1:=(List.getElem?_eq_some_iff.1 hj).1;rw[t2]at h1;omega
       go_wp2_with (first|(at_builtin;refine wpList_append_own _ rfl _ _ 40 rfl wq.heap.size 33 i0 (.agg #[J 0,Rn,Rn,J 0,J 0,J 0]) 6 64 Tryz.underlying40 hi aG aH aF rfl RN _ _ _ rfl aw (O g 0) 0 0 ((L.drop k).map Ze.cs).flatten rfl t2 n3 jcx ?g3 ?g4 ?g5 ?_)|fail)
       case g3=>unfold maxLen;omega
       case g4=>omega
       case g5=>omega
       intro v3 w3 aI aJ _;have ax:Bw wq w3:=an.grown aJ Q (λj hj=>(aw.lt j hj).1);have HO:Hid (Jb w3 w.heap.size v3 (Rc L v.ev)):=by
        simp only[Hid];have h9:w3.ownsRow wq.heap.size 33 6 v3 (Rc L v.ev).length ((Rc L v.ev).map Ze.cs).flatten:=by
         rw[vbU,HM.out,HE.out,MZ,MZ,List.flatten_append,List.flatten_append];have hx:k+1+0=k+1:=Q;rw[hx]at aI
         simpa [ZN.ev,Ze.cs]using aI
        exact Ez h9 dt.size
       have⟨g3,x3,eS,eI⟩:=HO.out.shape (by rw[vbU];omega);rw[vbU,HM.out]at eS eI;subst eS;have cR:Bw w w3:=Zp dt ax;clear aJ aI aw an ax n2 n3 t2 HD;go_wp2;go_roundw
       .exact⟨i+1,g3,k+1,x3,Q,RP,rfl,Q,eI,by simp only[Hid];rw[ed.out,vbU,HM.out],by rw[ed.out];exact HO.out,cR⟩
       .simp[intOf];omega
      .skip
       have n3:∀j u,((L.drop k).map Ze.cs).flatten[j]? =some u->w2.cell? (((O g (k*6)):Addr).add j)=some u:=λj u hj=>by rw[vby];exact n2 j u hj
       go_wp2_with (first|(at_builtin;refine wpList_append_own _ rfl _ _ 40 rfl wq.heap.size 33 i0 (.agg #[J 0,Rn,Rn,J 0,J 0,J 0]) 6 64 Tryz.underlying40 hi aG aH aF rfl RN _ _ _ rfl aw (O g (k*6)) (m-k) (c-k) ((L.drop k).map Ze.cs).flatten rfl t2 n3 jcx ?g3 ?g4 ?g5 ?_)|fail)
       case g3=>unfold maxLen;omega
       case g4=>omega
       case g5=>omega
       intro v3 w3 aI aJ _;have ax:Bw wq w3:=an.grown aJ Q (λj hj=>(aw.lt j hj).1);have HO:Hid (Jb w3 w.heap.size v3 (Rc L v.ev)):=by
        simp only[Hid];have h9:w3.ownsRow wq.heap.size 33 6 v3 (Rc L v.ev).length ((Rc L v.ev).map Ze.cs).flatten:=by
         rw[vbU,HM.out,HE.out,MZ,MZ,List.flatten_append,List.flatten_append];have hx:k+1+(m-k)=m+1:=Q;rw[hx]at aI
         simpa [ZN.ev,Ze.cs]using aI
        exact Ez h9 dt.size
       have⟨g3,x3,eS,eI⟩:=HO.out.shape (by rw[vbU];omega);rw[vbU,HM.out]at eS eI;subst eS;have cR:Bw w w3:=Zp dt ax;clear aJ aI aw an ax n2 n3 t2 HD;go_wp2;go_roundw
       .exact⟨i+1,g3,m+1,x3,Q,RP,rfl,Q,eI,by simp only[Hid];rw[ed.out,vbU,HM.out],by rw[ed.out];exact HO.out,cR⟩
       .simp[intOf];omega
  .have hE:i=n:=Q
   subst hE;have HE:Hid (jca l i=ZJ l):=by simp only[Hid];unfold ZJ;rw[HN.out]
   have s1:¬(i:Int)<(i:Int):=Q;clear iu;go_wp2;go_ret;exact⟨_,rfl,by rw[<- HE.out];exact hO,hB⟩
