import Derived.Deep.CutRange
import Derived.Test.YtmkjofknhdikpaaGreatDoorOwn1d
import Derived.Deep.RegionHeld3
set_option maxRecDepth 100000
set_option maxHeartbeats 0
set_option linter.unusedSimpArgs false
open Go.RowKit
namespace Go.Proofs.YtmkjofknhdikpaaGreatDoor
variable{l:List Up}{base k q:Nat}{v:Up}{e:TD}{L:List TD}{rows:List (List Value)}{w:World}
def Up.ev(v:Up):TD:=⟨v.id,v.name,v.TH,v.Ty,v.TM,v.TL⟩
def XJ(l:List Up)(id:Int):Nat->Option Nat
 |0=>none
 |k+1=>match l[k]? with
  |some v=>if v.id=id then some k else XJ l id k
  |none=>XJ l id k
def WI(l:List Up)(id:Int):Option Nat:=XJ l id l.length
def vaD(o:Option Nat):Int:=match o with
 |some i=>i
 |none=> -1
theorem jiz{id:Int}(h:l[k]? =some v)(hv:v.id=id):XJ l id (k+1)=some k:=by rw[XJ,h];simp only;rw[if_pos hv]
theorem jgc{id:Int}(h:l[k]? =some v)(hv:v.id≠id):XJ l id (k+1)=XJ l id k:=by rw[XJ,h];simp only;rw[if_neg hv]
theorem jdc{id:Int}:∀{k j:Nat},XJ l id k=some j->j<k/\(∃v,l[j]? =some v/\v.id=id)/\∀i v,j<i->i<k->l[i]? =some v->v.id≠id:=by
 intro k
 induction k with
 |zero=>intro j h;cases h
 |succ k ih=>
  intro j h;cases hk:l[k]? with
  | none=>
   rw[XJ,hk]at h;have⟨a,b,c⟩:=ih h
   exact⟨Q,b,λi v h1 h2 h3=>by
    by_cases e:i=k
    .subst e;rw[hk]at h3;cases h3
    .exact c i v h1 Q h3⟩
  |some v=>
   by_cases hv:v.id=id
   .rw[jiz hk hv]at h
    obtain rfl:=Uw h;exact⟨Q,⟨v,hk,hv⟩,λi x h1 h2=>Q⟩
   .rw[jgc hk hv]at h
    have⟨a,b,c⟩:=ih h
    exact⟨Q,b,λi x h1 h2 h3=>by
     by_cases e:i=k
     .subst e;rw[hk]at h3;obtain rfl:=Uw h3;exact hv
     .exact c i x h1 Q h3⟩
theorem j2v{id:Int}:∀{k:Nat},XJ l id k=none->∀i v,i<k->l[i]? =some v->v.id≠id:=by
 intro k
 induction k with
 |zero=>intro _ i v h;omega
 |succ k ih=>
  intro h i v hi hv;cases hk:l[k]? with
  |none=>
   rw[XJ,hk]at h;by_cases e:i=k
   .subst e;rw[hk]at hv;cases hv
   .exact ih h i v Q hv
  | some x=>
   by_cases hx:x.id=id
   .rw[jiz hk hx]at h;cases h
   .rw[jgc hk hx]at h
    by_cases e:i=k
    .subst e;rw[hk]at hv;obtain rfl:=Uw hv;exact hx
    .exact ih h i v Q hv
def Wy(l:List Up)(id:Int):Option TD:=match WI l id with
 |some k=>(match l[k]? with
  |some v=>if v.gone=true then none else some v.ev
  |none=>none)
 |none=>none
theorem jto(l:List Up)(v:Up)(id:Int):WI (l++[v]) id=if v.id=id then some l.length else WI l id:=by
 have hp:∀k,k<=l.length->XJ (l++[v]) id k=XJ l id k:=by
  intro k
  induction k with
  |zero=>intro _;rfl
  |succ k ih=>
   intro hk;rw[XJ,XJ,VS Q,ih Q]
 unfold WI;rw[Vq,List.length_singleton,XJ];rw[List.getElem?_append_right (TP _)];simp only[Nat.sub_self,List.getElem?_cons_zero];rw[hp _ (TP _)]
theorem jtf(l:List Up)(v:Up)(id:Int):Wy (l++[v]) id=if v.id=id then(if v.gone=true then none else some v.ev)else Wy l id:=by
 unfold Wy;rw[jto];by_cases h:v.id=id
 .rw[if_pos h,if_pos h]
  simp only[List.getElem?_append_right (TP _),Nat.sub_self,List.getElem?_cons_zero]
 .rw[if_neg h,if_neg h]
  cases hk:WI l id with
  |none=>rfl
  |some k=>
   have hl:=(jdc hk).1;simp only;rw[VS hl]
def WX:List TD->TD->List TD
 |[],e=>[e]
 |x::l,e=>if x.id<e.id then x::WX l e else e::x::l
theorem vdL{l:List TD}{x:TD}:x∈WX l e↔x=e\/x∈l:=by
 induction l with
 |nil=>simp[WX]
 |cons a l ih=>
  rw[WX];split
  .simp only[List.mem_cons,ih]
   constructor
   .rintro(h|h|h)
    .exact .inr (.inl h)
    .exact .inl h
    .exact .inr (.inr h)
   .rintro(h|h|h)
    .exact .inr (.inl h)
    .exact .inl h
    .exact .inr (.inr h)
  .simp only[List.mem_cons]
theorem j2e{l:List TD}(h:l.Pairwise λx y=>x.id<y.id)(hn:∀x∈l,x.id≠e.id):(WX l e).Pairwise λx y=>x.id<y.id:=by
 induction l with
 |nil=>simp[WX]
 | cons a l ih=>
  have h':=List.pairwise_cons.mp h;rw[WX];split
  .rename_i ha
   refine List.pairwise_cons.mpr ⟨λx hx=>?_,ih h'.2 λx hx=>hn x (VW _ hx)⟩;rcases vdL.mp hx with rfl|hx
   .exact ha
   .exact h'.1 x hx
  .rename_i ha
   have su:e.id<a.id:=by have:=hn a M;omega
   refine List.pairwise_cons.mpr ⟨λx hx=>?_,h⟩;rcases List.mem_cons.mp hx with rfl|hx
   .exact su
   .have:=h'.1 x hx;omega
def jju(l:List TD)(id:Int):Nat:=(l.takeWhile λx=>decide (x.id<id)).length
theorem jwl(l:List TD)(e:TD):WX l e=l.take (jju l e.id)++[e]++l.drop (jju l e.id):=by
 induction l with
 |nil=>rfl
 | cons a l ih=>
  unfold jju at *;rw[WX];by_cases h:a.id<e.id
  .rw[if_pos h,ih]
   simp[h]
  .rw[if_neg h]
   simp[h]
def Wx(l:List Up):Nat->List TD
 |0=>[]
 |k+1=>match l[k]? with
  |some v=>if WI l v.id=some k/\v.gone=false then WX (Wx l k) v.ev else Wx l k
  |none=>Wx l k
def Uf(l:List Up):List TD:=Wx l l.length
theorem vd1:∀{k:Nat},e∈Wx l k↔∃j v,j<k/\l[j]? =some v/\WI l v.id=some j/\v.gone=false/\v.ev=e:=by
 intro k
 induction k with
 |zero=>simp[Wx]
 |succ k ih=>
  have jk:(∃j v,j<k/\l[j]? =some v/\WI l v.id=some j/\v.gone=false/\v.ev=e)->∃j v,j<k+1/\l[j]? =some v/\WI l v.id=some j/\v.gone=false/\v.ev=e:=λ⟨j,v,h1,h2⟩=>⟨j,v,Q,h2⟩
  rw[Wx];cases hk:l[k]? with
  |none=>
   simp only;rw[ih];refine⟨jk,λ⟨j,v,h1,h2,h3⟩=>⟨j,v,?_,h2,h3⟩⟩;by_cases e1:j=k
   .subst e1;rw[hk]at h2;cases h2
   .omega
  |some v=>
   simp only;split
   .rename_i hc
    rw[vdL,ih];constructor
    .rintro(rfl|h)
     .exact⟨k,v,Q,hk,hc.1,hc.2,rfl⟩
     .exact jk h
    .rintro⟨j,x,h1,h2,h3,h4,h5⟩
     by_cases e1:j=k
     .subst e1;rw[hk]at h2;obtain rfl:=Uw h2;exact .inl h5.symm
     .exact .inr ⟨j,x,Q,h2,h3,h4,h5⟩
   .rename_i hc
    rw[ih];refine⟨jk,λ⟨j,x,h1,h2,h3,h4,h5⟩=>⟨j,x,?_,h2,h3,h4,h5⟩⟩;by_cases e1:j=k
    .subst e1;rw[hk]at h2;obtain rfl:=Uw h2;exact absurd ⟨h3,h4⟩ hc
    .omega
theorem jhr:∀k,(Wx l k).Pairwise λx y=>x.id<y.id:=by
 intro k
 induction k with
 |zero=>simp[Wx]
 |succ k ih=>
  rw[Wx];cases hk:l[k]? with
  |none=>exact ih
  | some v=>
   simp only;split
   .rename_i hc
    refine j2e ih λx hx he=>?_
    have⟨j,y,h1,h2,h3,_,h5⟩:=vd1.mp hx;have e2:y.id=v.id:=by rw[<- h5]at he;exact he
    rw[e2,hc.1]at h3;have:=Uw h3;omega
   .exact ih
theorem jwf(l:List Up):∀k,(Wx l k).length<=k:=by
 have hi:∀(L:List TD) e,(WX L e).length=L.length+1:=by
  intro L e
  induction L with
  |nil=>rfl
  |cons a L ih=>rw[WX];split<;>simp[ih]
 intro k
 induction k with
 |zero=>simp[Wx]
 | succ k ih=>
  rw[Wx];split
  .split
   .rw[hi];omega
   .omega
  .omega
theorem vbh:e∈Uf l↔Wy l e.id=some e:=by
 unfold Uf;rw[vd1];constructor
 .rintro⟨j,v,_,h2,h3,h4,rfl⟩
  show Wy l v.id=_
  unfold Wy;rw[h3];simp only;rw[h2];simp[h4]
 .intro h
  unfold Wy at h;cases hk:WI l e.id with
  |none=>rw[hk]at h;cases h
  |some k=>
   rw[hk]at h;simp only at h;cases hv:l[k]? with
   |none=>rw[hv]at h;cases h
   | some v=>
    rw[hv]at h;simp only at h;split at h
    .cases h
    .rename_i hg
     obtain rfl:=Uw h;exact⟨k,v,(jdc hk).1,hv,hk,by simpa using hg,rfl⟩
theorem vhM{lH:List TD}(hL:L.Pairwise λx y=>x.id<y.id)(hM:lH.Pairwise λx y=>x.id<y.id)(h:∀e,e∈L↔e∈lH):L=lH:=by
 induction L generalizing lH with
 |nil=>
  cases lH with
  |nil=>rfl
  |cons y lH=>exact absurd ((h y).mpr M) M
 |cons x L ih=>
  cases lH with
  |nil=>exact absurd ((h x).mp M) M
  |cons y lH=>
   have km:=List.pairwise_cons.mp hL;have xI:=List.pairwise_cons.mp hM;have gI:x=y:=by
    rcases List.mem_cons.mp ((h x).mp M)with e|e
    .exact e
    .rcases List.mem_cons.mp ((h y).mpr M)with e2|e2
     .exact e2.symm
     .have:=xI.1 x e;have:=km.1 y e2;omega
   subst gI;rw[ih km.2 xI.2 λe=>?_];constructor
   .intro he
    rcases List.mem_cons.mp ((h e).mp (VW _ he))with e2|e2
    .subst e2;have:=km.1 _ he;omega
    .exact e2
   .intro he
    rcases List.mem_cons.mp ((h e).mpr (VW _ he))with e2|e2
    .subst e2;have:=xI.1 _ he;omega
    .exact e2
theorem jgn(l:List Up)(a:Option Addr)(n cap:Nat)(id:Int)(w:World)(hA:Za w a 8 (l.map Up.cs))(hn:l.length=n)(hl:n<=1048576):
  C 52 #[U a n cap,J id] w λe w'=>e=V (J (vaD (WI l id)))/\w'=w:=by
 have HN:=hid hn;clear hn;have q0:IntKind.i64.wrap ((n:Int)-1)=(n:Int)-1:=by rw[IntKind.wrap_i64];omega
 delta C;go_in;go_wp2;go_loop [5] (λs=>∃k:Nat,k<=n/\s=J ((k:Int)-1)/\Hid (WI l id=XJ l id k)) (λs=>(intOf s+1).toNat)
 .exact⟨n,TP _,rfl,by simp only[Hid];unfold WI;rw[HN.out]⟩
 ·
  obtain⟨k,hk,rfl,HK⟩:=hrel;cases k with
  |zero=>
   have h0:¬(0:Int)<=((0:Nat):Int)-1:=Q;go_wp2;go_ret;exact⟨Vh (by rw[HK.out];rfl),rfl⟩
  | succ m=>
   obtain⟨v,hv⟩:∃v,l[m]? =some v:=⟨_,Ug (by have:=HN.out;omega)⟩;have ap:(l.map Up.cs)[m]? =some v.cs:=by rw[Uv,hv];rfl
   obtain⟨b,o,rfl,hc⟩:=hA.at (i:=m) ap;have c2:w.cell? (O b (o+m*8+2))=some (J v.id):=hc 2 _ rfl;have e1:((m+1:Nat):Int)-1=(m:Int):=Q;rw[e1];have s0:(0:Int)<=(m:Int):=Q;have s1:(m:Int)<(n:Int):=Q;have s2:IntKind.i64.wrap ((m:Int)-1)=(m:Int)-1:=by rw[IntKind.wrap_i64];omega
   by_cases hid:v.id=id
   .have HR:Hid (WI l id=some m):=by simp only[Hid];rw[HK.out,jiz hv hid]
    have C8:(v.id==id)=true:=by simp[hid]
    clear hv ap hc hid HK;go_wp2;go_ret;exact⟨Vh (by rw[HR.out];rfl),rfl⟩
   .have HR:Hid (WI l id=XJ l id m):=by simp only[Hid];rw[HK.out,jgc hv hid]
    have C8:(v.id==id)=false:=by simp[hid]
    clear hv ap hc hid HK;go_wp2;go_round
    .exact⟨m,Q,rfl,HR⟩
    .simp[intOf]
theorem jk9(rows:List (List Value))(k:Nat):rows.flatten=(rows.take k).flatten++(rows.drop k).flatten:=by rw[<- List.flatten_append,List.take_append_drop]
theorem ZI:∀{rows:List (List Value)},(∀r∈rows,r.length=q)->rows.flatten.length=rows.length*q
 |[],_=>M
 |r::rows,h=>by
  rw[List.flatten_cons,Vq,h r M,ZI λx hx=>h x (VW _ hx),List.length_cons,Nat.add_mul];omega
theorem jfy{j:Nat}{u:Value}(h:(rows.take k).flatten[j]? =some u):rows.flatten[j]? =some u:=by
 rw[jk9 rows k,VS (Ux h).1];exact h
theorem jfx(hq:∀r∈rows,r.length=q){k j:Nat}{u:Value}(hk:k<=rows.length)(h:(rows.drop k).flatten[j]? =some u):rows.flatten[k*q+j]? =some u:=by
 have hl:(rows.take k).flatten.length=k*q:=by rw[ZI λr hr=>hq r (List.mem_of_mem_take hr),List.length_take,Nat.min_eq_left hk]
 rw[jk9 rows k,List.getElem?_append_right Q,hl,show k*q+j-k*q=j by omega];exact h
theorem ZK:∀r∈L.map TD.cs,r.length=6:=λr hr=>by
 obtain⟨x,_,rfl⟩:=List.mem_map.1 hr;rfl
theorem jcx:∀u∈(L.map TD.cs).flatten,u.oneCell'=true:=λu hu=>by
 simp only[List.mem_flatten,List.mem_map]at hu;obtain⟨r,⟨t,_,rfl⟩,hr⟩:=hu;simp[TD.cs]at hr;rcases hr with rfl|rfl|rfl|rfl|rfl|rfl<;>rfl
theorem YJ(w:World)(n:Nat):Bw w (w.drewN n):=⟨rfl,rfl,rfl,TP _,λ_ _=>rfl⟩
def Jb(w:World)(base:Nat)(v:Value)(L:List TD):Prop:=w.ownsRow base 43 6 v L.length (L.map TD.cs).flatten
theorem Jb.cell{g n cap:Nat}(h:Jb w base (so g n cap) L){j:Nat}{u:Value}(hu:(L.map TD.cs).flatten[j]? =some u):w.cell? (O g j)=some u:=by
 have h':w.ownsRow base 43 6 (so g n cap) L.length (L.map TD.cs).flatten:=h;have hl:=(List.getElem?_eq_some_iff.1 hu).1;rcases h'.2 with⟨hv,_⟩|⟨g2,c2,cur,hv,_⟩
 .cases hv
 .injection hv with e1 e2 e3
  subst e2;rw[h'.cellAt j (by rw[ZI ZK,U7]at hl;omega)];exact hu
theorem Jb.shape{v:Value}(h:Jb w base v L)(hn:0<L.length):∃g cap,v=so g L.length cap/\L.length<=cap:=by
 rcases h.2 with⟨_,h0⟩|⟨g,cap,cur,hv,hb,hg,hc,_⟩
 .omega
 .exact⟨g,cap,hv,hc⟩
theorem jpf{id:Int}(h1:∀(j:Nat) x,j<k->L[j]? =some x->x.id<id)(h2:∀x,L[k]? =some x->¬x.id<id)(hk:k<=L.length):jju L id=k:=by
 induction L generalizing k with
 |nil=>simp at hk;subst hk;rfl
 | cons a L ih=>
  unfold jju at *;cases k with
  |zero=>have:=h2 a rfl;simp[this]
  |succ k=>
   have h0:=h1 0 a Q rfl;have:=ih (k:=k) (λj x hj hx=>h1 (j+1) x Q (by simpa using hx)) (λx hx=>h2 x (by simpa using hx)) (by simp at hk;omega);simp[h0,this]
theorem vaN(L:List TD)(e:TD):(WX L e).length=L.length+1:=by
 induction L with
 |nil=>rfl
 |cons a L ih=>rw[WX];split<;>simp[ih]
theorem jtp:∃i:TypeInfo,Tryz.prog.info? 43=some i/\i.zero=some (.agg #[J 0,ZV,ZV,J 0,J 0,J 0])/\i.size=6/\i.bytes=64:=⟨_,rfl,rfl,rfl,rfl⟩
theorem jd1(l:List Up)(a:Option Addr)(n cap:Nat)(w:World)(hA:Za w a 8 (l.map Up.cs))(hn:l.length=n)(hl:n<=1000):
  C 21 #[U a n cap] w λe w'=>∃v,e=V v/\Jb w' w.heap.size v (Uf l)/\Bw w w':=by
 have⟨i0,hi,aG,aH,aF⟩:=jtp;have HN:=hid hn;clear hn;delta C;go_in;go_wp2;go_loopw [3,4,5,6] (λv s _ _ wr=>∃(i g m c:Nat),i<=n/\s=J i/\v=so g m c/\m<=i/\m<=c/\Hid ((Wx l i).length=m)/\Jb wr w.heap.size (so g m c) (Wx l i)/\Bw w wr) (λ_ s _ _ _=>n-(intOf s).toNat)
 .exact⟨0,w.heap.size,0,0,Q,rfl,rfl,Q,Q,rfl,Yy w 43 6,TK _ _⟩
 ·
  have⟨wa,dS⟩:=UL wr;subst dS;obtain⟨i,g,m,c,hin,rfl,rfl,P8,vi,HM,hO,hB⟩:=hrel;have iu:=hA.below hB;by_cases hlt:i<n
  .have s1:(i:Int)<(n:Int):=Q
   have s0:(0:Int)<=(i:Int):=Q;obtain⟨v,hv⟩:∃v,l[i]? =some v:=⟨_,Ug (by have:=HN.out;omega)⟩;have ap:(l.map Up.cs)[i]? =some v.cs:=by rw[Uv,hv];rfl
   obtain⟨b,ob,rfl,hc⟩:=iu.at (i:=i) ap;have c1:wa.cell? (O b (ob+i*8+1))=some (Z v.gone):=hc 1 _ rfl;have c2:wa.cell? (O b (ob+i*8+2))=some (J v.id):=hc 2 _ rfl;have c3:wa.cell? (O b (ob+i*8+3))=some (I v.name):=hc 3 _ rfl;have c4:wa.cell? (O b (ob+i*8+4))=some (I v.TH):=hc 4 _ rfl;have c5:wa.cell? (O b (ob+i*8+5))=some (J v.Ty):=hc 5 _ rfl;have c6:wa.cell? (O b (ob+i*8+6))=some (J v.TM):=hc 6 _ rfl;have c7:wa.cell? (O b (ob+i*8+7))=some (J v.TL):=hc 7 _ rfl;have fT:=λid=>jgn l (some (O b ob)) n cap id wa iu HN.out Q
   clear hc ap;have HK:Hid (Wx l (i+1)=if WI l v.id=some i/\v.gone=false then WX (Wx l i) v.ev else Wx l i):=by simp only[Hid];rw[Wx,hv]
   clear hv;by_cases hla:WI l v.id=some i
   case neg=>
    have ed:Hid (Wx l (i+1)=Wx l i):=by simp only[Hid];rw[HK.out,if_neg (λh=>hla h.1)]
    have az:(vaD (WI l v.id) != (i:Int))=true:=by
     cases hx:WI l v.id with
     |none=>simp[vaD]<;>omega
     |some j=>rw[hx]at hla;simp[vaD]at hla ⊢;omega
    have hL:=fT v.id;generalize vaD (WI l v.id)=nz at *;clear HK hla fT;go_wp2_with fail;refine hL.mono ?_;rintro e wx ⟨rfl,bC⟩;have dl:=bC.symm;clear bC;subst dl;clear hL;go_wp2;go_roundw
    .exact⟨i+1,g,m,c,Q,Z7,rfl,Q,vi,by simp only[Hid];rw[ed.out];exact HM.out,by rw[ed.out];exact hO,hB⟩
    .simp[intOf];omega
   have hL:=fT v.id;rw[hla]at hL;have az:((i:Int) != (i:Int))=false:=M;cases hg:v.gone with
   |true=>
    have ed:Hid (Wx l (i+1)=Wx l i):=by simp only[Hid];rw[HK.out,if_neg (λh=>by rw[hg]at h;cases h.2)]
    rw[hg]at c1;clear HK hla fT hg;go_wp2_with fail;refine hL.mono ?_;rintro e wx ⟨rfl,bC⟩;have dl:=bC.symm;clear bC;subst dl;clear hL;simp only[vaD];go_wp2;go_roundw
    .exact⟨i+1,g,m,c,Q,Z7,rfl,Q,vi,by simp only[Hid];rw[ed.out];exact HM.out,by rw[ed.out];exact hO,hB⟩
    .simp[intOf];omega
   |false=>
    have ed:Hid (Wx l (i+1)=WX (Wx l i) v.ev):=by simp only[Hid];rw[HK.out,if_pos ⟨hla,hg⟩]
    rw[hg]at c1;have⟨L,j4⟩:=TY (Wx l i);rw[j4]at hO HM ed;clear HK hla fT hg j4;have HC:Hid (∀(j:Nat) u,(L.map TD.cs).flatten[j]? =some u->wa.cell? (O g j)=some u):=λj u hu=>hO.cell hu
    go_wp2_with fail;refine hL.mono ?_;rintro e wx ⟨rfl,bC⟩;have dl:=bC.symm;clear bC;subst dl;clear hL;simp only[vaD];go_wp2;go_loopw [5] (λs wr=>∃k:Nat,k<=m/\s=J k/\Hid (∀(j:Nat) x,j<k->L[j]? =some x->x.id<v.id)/\Bw wa wr) (λs _=>m+1-(intOf s).toNat)
    .exact⟨0,Q,rfl,λj x hj=>Q,Ui _ _⟩
    ·
     have⟨wb,mQ⟩:=UL wr;subst mQ;obtain⟨k,hk,rfl,HS,ck⟩:=hrel;have fW:Jb wb w.heap.size (so g m c) L:=UG hO ck;have d2:=Tx ck c2;have d3:=Tx ck c3;have d4:=Tx ck c4;have d5:=Tx ck c5;have d6:=Tx ck c6;have d7:=Tx ck c7;have k0:(0:Int)<=(k:Int):=Q;clear hO c1 c2 c3 c4 c5 c6 c7 HC;go_upto_region 7 with fail
     go_cut [48]from 31 to 50 (λuy wx=>∃bb:Bool,uy=Z bb/\Hid (Bw wb wx)/\Hid (if bb=true then k<m/\∀(j:Nat) y,j<k+1->L[j]? =some y->y.id<v.id else jju L v.ev.id=k))
     case first=>
      by_cases je:k<m
      .have k1:(k:Int)<(m:Int):=Q
       obtain⟨x,hx⟩:∃x,L[k]? =some x:=⟨_,Ug (by have:=HM.out;omega)⟩;have vN:(L.map TD.cs)[k]? =some x.cs:=by rw[Uv,hx];rfl
       have cx:wb.cell? (O g (k*6))=some (J x.id):=fW.cell (WY (q:=6) ZK (j:=0) vN rfl);clear vN;by_cases qD:x.id<v.id
       .have jM:Hid (∀(j:Nat) y,j<k+1->L[j]? =some y->y.id<v.id):=λj y hj hy=>by
         by_cases e1:j=k
         .subst e1;rw[hx]at hy;obtain rfl:=Uw hy;exact qD
         .exact HS.out j y Q hy
        clear hx HS fW d3 d4 d5 d6 d7;have q0:decide ((k:Int)<(m:Int))=true:=Uy k1;have q1:decide (x.id<v.id)=true:=Uy qD;go_wp2_with fail;go_quiet (fail);go_wp2;go_meet;exact⟨true,rfl,YJ wb nq,(by simp only[Hid];exact⟨je,jM.out⟩)⟩
       .have HA:Hid (jju L v.ev.id=k):=jpf (id:=v.ev.id) HS.out (λy hy=>by rw[hx]at hy;obtain rfl:=Uw hy;exact qD) (by have:=HM.out;omega)
        clear hx;have q0:decide ((k:Int)<(m:Int))=true:=Uy k1;have q1:decide (x.id<v.id)=false:=dfe qD;go_wp2_with fail;go_quiet (fail);go_wp2;go_meet;exact⟨false,rfl,YJ wb nq,(by simp only[Hid];exact HA.out)⟩
      .have k1:¬(k:Int)<(m:Int):=Q
       have HA:Hid (jju L v.ev.id=k):=jpf (id:=v.ev.id) HS.out (λy hy=>by have:=(Ux hy).1;have:=HM.out;omega) (by have:=HM.out;omega);have q0:decide ((k:Int)<(m:Int))=false:=dfe k1;go_wp2_with fail;go_quiet (fail);go_wp2;go_meet;exact⟨false,rfl,YJ wb nq,(by simp only[Hid];exact HA.out)⟩
     obtain⟨bb,rfl,hW,HB⟩:=hcut;have⟨wq,qQ⟩:=UL wc;subst qQ;have hW:=hW.out;cases bb
     case true=>
      obtain⟨je,jM⟩:k<m/\Hid (∀(j:Nat) y,j<k+1->L[j]? =some y->y.id<v.id):=by simpa [Hid]using HB
      clear HB HS fW d3 d4 d5 d6 d7;go_wp2;go_roundw
      .exact⟨k+1,Q,Z7,jM,(TJ ck hW)⟩
      .simp[intOf];omega
     case false=>
      have HA:Hid (jju L v.ev.id=k):=by simpa [Hid]using HB
      clear HB;have bI:Jb wq w.heap.size (so g m c) L:=UG fW hW;have dt:Bw w wq:=(TJ hB ck).trans (hW.mono (TJ hB ck).size);have e2:=Tx hW d2;have e3:=Tx hW d3;have e4:=Tx hW d4;have e5:=Tx hW d5;have e6:=Tx hW d6;have e7:=Tx hW d7;clear fW hB ck d2 d3 d4 d5 d6 d7 HS hW;have lk:(L.take k).length=k:=by rw[List.length_take,HM.out];omega
      have ld:(L.drop k).length=m-k:=by rw[List.length_drop,HM.out]
      have iN:(L.map TD.cs).take k=(L.take k).map TD.cs:=List.map_take.symm;have iM:(L.map TD.cs).drop k=(L.drop k).map TD.cs:=List.map_drop.symm;have t1:((L.take k).map TD.cs).flatten.length=k*6:=by rw[ZI ZK,U7,lk]
      have t2:((L.drop k).map TD.cs).flatten.length=(m-k)*6:=by rw[ZI ZK,U7,ld]
      have n1:∀j u,((L.take k).map TD.cs).flatten[j]? =some u->(wq.alloc (G #[] 43)).cell? (((O g 0):Addr).add j)=some u:=λj u hj=>by
       rw[Y4,Nat.zero_add];exact Tx (TK wq _) (bI.cell (jfy (k:=k) (by rw[iN];exact hj)))
      have HD:Hid (∀w2,Bw wq w2->∀j u,((L.drop k).map TD.cs).flatten[j]? =some u->w2.cell? (O g (k*6+j))=some u):=λw2 hb j u hj=>Tx hb (bI.cell (jfx ZK (by rw[U7,HM.out];omega) (by rw[iM];exact hj)))
      have HE:Hid (WX L v.ev=(L.take k++[v.ev])++L.drop k):=by simp only[Hid];rw[jwl,HA.out]
      have hE:=Yy wq 43 6;have k2:(k:Int)<=(c:Int):=Q;have k3:(k:Int)<=(m:Int):=Q;clear bI iN iM;go_wp2_with (first|(at_builtin;refine wpList_append_own _ rfl _ _ 40 rfl wq.heap.size 43 i0 (.agg #[J 0,ZV,ZV,J 0,J 0,J 0]) 6 64 Tryz.underlying40 hi aG aH aF rfl Z5 _ _ _ rfl hE (O g 0) k c ((L.take k).map TD.cs).flatten rfl t1 n1 jcx ?a3 ?a4 ?a5 ?_)|fail)
      case a3=>unfold maxLen;omega
      case a4=>omega
      case a5=>simp
      intro v1 w1 av aP _;have aj:Bw wq w1:=(TK wq _).grown aP M (λj hj=>(hE.lt j hj).1);obtain⟨a1,m1,x1,rfl⟩:=UY av;have bU:=aj.size;have f2:=Tx aj e2;have f3:=Tx aj e3;have f4:=Tx aj e4;have f5:=Tx aj e5;have f6:=Tx aj e6;have f7:=Tx aj e7;clear aP hE n1 t1 e2 e3 e4 e5 e6 e7;go_wp2_with (first|(at_builtin;refine wpList_append_own _ rfl _ _ 40 rfl wq.heap.size 43 i0 (.agg #[J 0,ZV,ZV,J 0,J 0,J 0]) 6 64 Tryz.underlying40 hi aG aH aF rfl Z5 _ _ _ rfl (UC av _) (O w1.heap.size 0) 1 1 [J v.id,I v.name,I v.TH,J v.Ty,J v.TM,J v.TL] rfl rfl ?b1 ?b2 ?b3 ?b4 ?b5 ?_)|fail)
      case b1=>exact Vy _ [J v.id,I v.name,I v.TH,J v.Ty,J v.TM,J v.TL] _
      case b2=>intro u hu;simp at hu;rcases hu with rfl|rfl|rfl|rfl|rfl|rfl<;>rfl
      case b3=>unfold maxLen;omega
      case b4=>omega
      case b5=>simp;omega
      intro v2 w2 aw aU _;have an:Bw wq w2:=(aj.alloc aj.size _).grown aU Z6 (λj hj=>(av.lt j hj).1);obtain⟨a2,m2,x2,rfl⟩:=UY aw;have dR:=an.size;have n2:=HD.out w2 an;clear aU av aj f2 f3 f4 f5 f6 f7;by_cases iH:c=k
      .have qF:k=m:=Q
       have qv:k=c:=iH.symm;clear iH;subst qv;subst qF;have t2:((L.drop k).map TD.cs).flatten.length=0*6:=by rw[t2];simp
       have n3:∀j u,((L.drop k).map TD.cs).flatten[j]? =some u->w2.cell? (((O g 0):Addr).add j)=some u:=λj u hj=>by have h1:=(List.getElem?_eq_some_iff.1 hj).1;rw[t2]at h1;omega
       go_wp2_with (first|(at_builtin;refine wpList_append_own _ rfl _ _ 40 rfl wq.heap.size 43 i0 (.agg #[J 0,ZV,ZV,J 0,J 0,J 0]) 6 64 Tryz.underlying40 hi aG aH aF rfl Z5 _ _ _ rfl aw (O g 0) 0 0 ((L.drop k).map TD.cs).flatten rfl t2 n3 jcx ?g3 ?g4 ?g5 ?_)|fail)
       case g3=>unfold maxLen;omega
       case g4=>omega
       case g5=>omega
       intro v3 w3 aI aJ _;have ax:Bw wq w3:=an.grown aJ Q (λj hj=>(aw.lt j hj).1);have HO:Hid (Jb w3 w.heap.size v3 (WX L v.ev)):=by
        simp only[Hid];have h9:w3.ownsRow wq.heap.size 43 6 v3 (WX L v.ev).length ((WX L v.ev).map TD.cs).flatten:=by
         rw[vaN,HM.out,HE.out,Vr,Vr,List.flatten_append,List.flatten_append];have hx:k+1+0=k+1:=Q;rw[hx]at aI
         simpa [Up.ev,TD.cs]using aI
        exact U4 h9 dt.size
       have⟨g3,x3,eS,eI⟩:=HO.out.shape (by rw[vaN];omega);rw[vaN,HM.out]at eS eI;subst eS;have cR:Bw w w3:=TJ dt ax;clear aJ aI aw an ax n2 n3 t2 HD;go_wp2;go_roundw
       .exact⟨i+1,g3,k+1,x3,Q,Z7,rfl,Q,eI,by simp only[Hid];rw[ed.out,vaN,HM.out],by rw[ed.out];exact HO.out,cR⟩
       .simp[intOf];omega
      .skip
       have n3:∀j u,((L.drop k).map TD.cs).flatten[j]? =some u->w2.cell? (((O g (k*6)):Addr).add j)=some u:=λj u hj=>by rw[Y4];exact n2 j u hj
       go_wp2_with (first|(at_builtin;refine wpList_append_own _ rfl _ _ 40 rfl wq.heap.size 43 i0 (.agg #[J 0,ZV,ZV,J 0,J 0,J 0]) 6 64 Tryz.underlying40 hi aG aH aF rfl Z5 _ _ _ rfl aw (O g (k*6)) (m-k) (c-k) ((L.drop k).map TD.cs).flatten rfl t2 n3 jcx ?g3 ?g4 ?g5 ?_)|fail)
       case g3=>unfold maxLen;omega
       case g4=>omega
       case g5=>omega
       intro v3 w3 aI aJ _;have ax:Bw wq w3:=an.grown aJ Q (λj hj=>(aw.lt j hj).1);have HO:Hid (Jb w3 w.heap.size v3 (WX L v.ev)):=by
        simp only[Hid];have h9:w3.ownsRow wq.heap.size 43 6 v3 (WX L v.ev).length ((WX L v.ev).map TD.cs).flatten:=by
         rw[vaN,HM.out,HE.out,Vr,Vr,List.flatten_append,List.flatten_append];have hx:k+1+(m-k)=m+1:=Q;rw[hx]at aI
         simpa [Up.ev,TD.cs]using aI
        exact U4 h9 dt.size
       have⟨g3,x3,eS,eI⟩:=HO.out.shape (by rw[vaN];omega);rw[vaN,HM.out]at eS eI;subst eS;have cR:Bw w w3:=TJ dt ax;clear aJ aI aw an ax n2 n3 t2 HD;go_wp2;go_roundw
       .exact⟨i+1,g3,m+1,x3,Q,Z7,rfl,Q,eI,by simp only[Hid];rw[ed.out,vaN,HM.out],by rw[ed.out];exact HO.out,cR⟩
       .simp[intOf];omega
  .have hE:i=n:=Q
   subst hE;have HE:Hid (Wx l i=Uf l):=by simp only[Hid];unfold Uf;rw[HN.out]
   have s1:¬(i:Int)<(i:Int):=Q;clear iu;go_wp2;go_ret;exact⟨_,rfl,by rw[<- HE.out];exact hO,hB⟩
