import Derived.Deep.CutRange
import Derived.Test.YtpejeokacilebaaGreatDoorOwn1d
import Derived.Deep.RegionHeld3
set_option maxRecDepth 100000
set_option maxHeartbeats 0
set_option linter.unusedSimpArgs false
open Go.RowKit
namespace Go.Proofs.YtpejeokacilebaaGreatDoor
def VersionD.ev(v:VersionD):EventD:=⟨v.id,v.name,v.zone,v.wall,v.gap,v.fold⟩
def lastK(l:List VersionD)(id:Int):Nat->Option Nat
 |0=>none
 |k+1=>match l[k]? with
  |some v=>if v.id=id then some k else lastK l id k
  |none=>lastK l id k
def jci(l:List VersionD)(id:Int):Option Nat:=lastK l id l.length
def numI(o:Option Nat):Int:=match o with
 |some i=>i
 |none=> -1
theorem jiz{l:List VersionD}{id:Int}{k:Nat}{v:VersionD}(h:l[k]? =some v)(hv:v.id=id):lastK l id (k+1)=some k:=by rw[lastK,h];simp only;rw[if_pos hv]
theorem jgc{l:List VersionD}{id:Int}{k:Nat}{v:VersionD}(h:l[k]? =some v)(hv:v.id≠id):lastK l id (k+1)=lastK l id k:=by rw[lastK,h];simp only;rw[if_neg hv]
theorem jdc{l:List VersionD}{id:Int}:∀{k j:Nat},lastK l id k=some j->j<k/\(∃v,l[j]? =some v/\v.id=id)/\∀i v,j<i->i<k->l[i]? =some v->v.id≠id:=by
 intro k
 induction k with
 |zero=>intro j h;cases h
 |succ k ih=>
  intro j h
  cases hk:l[k]? with
  | none=>
   rw[lastK,hk]at h
   obtain⟨a,b,c⟩:=ih h
   exact⟨by omega,b,fun i v h1 h2 h3=>by
    by_cases e:i=k
    ·subst e;rw[hk]at h3;cases h3
    ·exact c i v h1 (by omega) h3⟩
  |some v=>
   by_cases hv:v.id=id
   ·rw[jiz hk hv]at h
    obtain rfl:=osi h
    exact⟨by omega,⟨v,hk,hv⟩,fun i x h1 h2=>by omega⟩
   ·rw[jgc hk hv]at h
    obtain⟨a,b,c⟩:=ih h
    exact⟨by omega,b,fun i x h1 h2 h3=>by
     by_cases e:i=k
     ·subst e;rw[hk]at h3;obtain rfl:=osi h3;exact hv
     ·exact c i x h1 (by omega) h3⟩
theorem j2v{l:List VersionD}{id:Int}:∀{k:Nat},lastK l id k=none->∀i v,i<k->l[i]? =some v->v.id≠id:=by
 intro k
 induction k with
 |zero=>intro _ i v h;omega
 |succ k ih=>
  intro h i v hi hv
  cases hk:l[k]? with
  |none=>
   rw[lastK,hk]at h
   by_cases e:i=k
   ·subst e;rw[hk]at hv;cases hv
   ·exact ih h i v (by omega) hv
  | some x=>
   by_cases hx:x.id=id
   ·rw[jiz hk hx]at h;cases h
   ·rw[jgc hk hx]at h
    by_cases e:i=k
    ·subst e;rw[hk]at hv;obtain rfl:=osi hv;exact hx
    ·exact ih h i v (by omega) hv
def jch(l:List VersionD)(id:Int):Option EventD:=match jci l id with
 |some k=>(match l[k]? with
  |some v=>if v.gone=true then none else some v.ev
  |none=>none)
 |none=>none
theorem jto(l:List VersionD)(v:VersionD)(id:Int):jci (l++[v]) id=if v.id=id then some l.length else jci l id:=by
 have hp:∀k,k<=l.length->lastK (l++[v]) id k=lastK l id k:=by
  intro k
  induction k with
  |zero=>intro _;rfl
  |succ k ih=>
   intro hk
   rw[lastK,lastK,lgl (by omega),ih (by omega)]
 unfold jci
 rw[lla,List.length_singleton,lastK]
 rw[List.getElem?_append_right (nlr _)]
 simp only[Nat.sub_self,List.getElem?_cons_zero]
 rw[hp _ (nlr _)]
theorem jtf(l:List VersionD)(v:VersionD)(id:Int):jch (l++[v]) id=if v.id=id then(if v.gone=true then none else some v.ev)else jch l id:=by
 unfold jch
 rw[jto]
 by_cases h:v.id=id
 ·rw[if_pos h,if_pos h]
  simp only[List.getElem?_append_right (nlr _),Nat.sub_self,List.getElem?_cons_zero]
 ·rw[if_neg h,if_neg h]
  cases hk:jci l id with
  |none=>rfl
  |some k=>
   have hl:=(jdc hk).1
   simp only
   rw[lgl hl]
def insE:List EventD->EventD->List EventD
 |[],e=>[e]
 |x::l,e=>if x.id<e.id then x::insE l e else e::x::l
theorem insE_mem{l:List EventD}{e x:EventD}:x∈insE l e↔x=e\/x∈l:=by
 induction l with
 |nil=>simp[insE]
 |cons a l ih=>
  rw[insE]
  split
  ·simp only[List.mem_cons,ih]
   constructor
   ·rintro(h|h|h)
    ·exact .inr (.inl h)
    ·exact .inl h
    ·exact .inr (.inr h)
   ·rintro(h|h|h)
    ·exact .inr (.inl h)
    ·exact .inl h
    ·exact .inr (.inr h)
  ·simp only[List.mem_cons]
theorem j2e{l:List EventD}{e:EventD}(h:l.Pairwise fun x y=>x.id<y.id)(hn:∀x∈l,x.id≠e.id):(insE l e).Pairwise fun x y=>x.id<y.id:=by
 induction l with
 |nil=>simp[insE]
 | cons a l ih=>
  have h':=List.pairwise_cons.mp h
  rw[insE]
  split
  ·rename_i ha
   refine List.pairwise_cons.mpr ⟨fun x hx=>?_,ih h'.2 fun x hx=>hn x (lmc _ hx)⟩
   rcases insE_mem.mp hx with rfl|hx
   ·exact ha
   ·exact h'.1 x hx
  ·rename_i ha
   have su:e.id<a.id:=by have:=hn a (by simp);omega
   refine List.pairwise_cons.mpr ⟨fun x hx=>?_,h⟩
   rcases List.mem_cons.mp hx with rfl|hx
   ·exact su
   ·have:=h'.1 x hx;omega
def jju(l:List EventD)(id:Int):Nat:=(l.takeWhile fun x=>decide (x.id<id)).length
theorem jwl(l:List EventD)(e:EventD):insE l e=l.take (jju l e.id)++[e]++l.drop (jju l e.id):=by
 induction l with
 |nil=>rfl
 | cons a l ih=>
  unfold jju at *
  rw[insE]
  by_cases h:a.id<e.id
  ·rw[if_pos h,ih]
   simp[h]
  ·rw[if_neg h]
   simp[h]
def jca(l:List VersionD):Nat->List EventD
 |0=>[]
 |k+1=>match l[k]? with
  |some v=>if jci l v.id=some k/\v.gone=false then insE (jca l k) v.ev else jca l k
  |none=>jca l k
def jan(l:List VersionD):List EventD:=jca l l.length
theorem liveK_mem{l:List VersionD}{e:EventD}:∀{k:Nat},e∈jca l k↔∃j v,j<k/\l[j]? =some v/\jci l v.id=some j/\v.gone=false/\v.ev=e:=by
 intro k
 induction k with
 |zero=>simp[jca]
 |succ k ih=>
  have jk:(∃j v,j<k/\l[j]? =some v/\jci l v.id=some j/\v.gone=false/\v.ev=e)->∃j v,j<k+1/\l[j]? =some v/\jci l v.id=some j/\v.gone=false/\v.ev=e:=fun⟨j,v,h1,h2⟩=>⟨j,v,by omega,h2⟩
  rw[jca]
  cases hk:l[k]? with
  |none=>
   simp only
   rw[ih]
   refine⟨jk,fun⟨j,v,h1,h2,h3⟩=>⟨j,v,?_,h2,h3⟩⟩
   by_cases e1:j=k
   ·subst e1;rw[hk]at h2;cases h2
   ·omega
  |some v=>
   simp only
   split
   ·rename_i hc
    rw[insE_mem,ih]
    constructor
    ·rintro(rfl|h)
     ·exact⟨k,v,by omega,hk,hc.1,hc.2,rfl⟩
     ·exact jk h
    ·rintro⟨j,x,h1,h2,h3,h4,h5⟩
     by_cases e1:j=k
     ·subst e1;rw[hk]at h2;obtain rfl:=osi h2;exact .inl h5.symm
     ·exact .inr ⟨j,x,by omega,h2,h3,h4,h5⟩
   ·rename_i hc
    rw[ih]
    refine⟨jk,fun⟨j,x,h1,h2,h3,h4,h5⟩=>⟨j,x,?_,h2,h3,h4,h5⟩⟩
    by_cases e1:j=k
    ·subst e1;rw[hk]at h2;obtain rfl:=osi h2;exact absurd ⟨h3,h4⟩ hc
    ·omega
theorem jhr{l:List VersionD}:∀k,(jca l k).Pairwise fun x y=>x.id<y.id:=by
 intro k
 induction k with
 |zero=>simp[jca]
 |succ k ih=>
  rw[jca]
  cases hk:l[k]? with
  |none=>exact ih
  | some v=>
   simp only
   split
   ·rename_i hc
    refine j2e ih fun x hx he=>?_
    obtain⟨j,y,h1,h2,h3,_,h5⟩:=liveK_mem.mp hx
    have e2:y.id=v.id:=by rw[<- h5]at he;exact he
    rw[e2,hc.1]at h3
    have:=osi h3
    omega
   ·exact ih
theorem liveL_mem{l:List VersionD}{e:EventD}:e∈jan l↔jch l e.id=some e:=by
 unfold jan
 rw[liveK_mem]
 constructor
 ·rintro⟨j,v,_,h2,h3,h4,rfl⟩
  show jch l v.id=_
  unfold jch
  rw[h3]
  simp only
  rw[h2]
  simp[h4]
 ·intro h
  unfold jch at h
  cases hk:jci l e.id with
  |none=>rw[hk]at h;cases h
  |some k=>
   rw[hk]at h
   simp only at h
   cases hv:l[k]? with
   |none=>rw[hv]at h;cases h
   | some v=>
    rw[hv]at h
    simp only at h
    split at h
    ·cases h
    ·rename_i hg
     obtain rfl:=osi h
     exact⟨k,v,(jdc hk).1,hv,hk,by simpa using hg,rfl⟩
theorem up_one{L M:List EventD}(hL:L.Pairwise fun x y=>x.id<y.id)(hM:M.Pairwise fun x y=>x.id<y.id)(h:∀e,e∈L↔e∈M):L=M:=by
 induction L generalizing M with
 |nil=>
  cases M with
  |nil=>rfl
  |cons y M=>exact absurd ((h y).mpr (by simp)) (by simp)
 |cons x L ih=>
  cases M with
  |nil=>exact absurd ((h x).mp (by simp)) (by simp)
  |cons y M=>
   have km:=List.pairwise_cons.mp hL
   have cP:=List.pairwise_cons.mp hM
   have gI:x=y:=by
    rcases List.mem_cons.mp ((h x).mp (by simp))with e|e
    ·exact e
    ·rcases List.mem_cons.mp ((h y).mpr (by simp))with e2|e2
     ·exact e2.symm
     ·have:=cP.1 x e;have:=km.1 y e2;omega
   subst gI
   rw[ih km.2 cP.2 fun e=>?_]
   constructor
   ·intro he
    rcases List.mem_cons.mp ((h e).mp (lmc _ he))with e2|e2
    ·subst e2;have:=km.1 _ he;omega
    ·exact e2
   ·intro he
    rcases List.mem_cons.mp ((h e).mpr (lmc _ he))with e2|e2
    ·subst e2;have:=cP.1 _ he;omega
    ·exact e2
theorem jgn(l:List VersionD)(a:Option Addr)(n cap:Nat)(id:Int)(w:World)(hA:Za w a 8 (l.map VersionD.cs))(hn:l.length=n)(hl:n<=1048576):
  Cl 34 #[.slice a n cap,iv id] w fun e w'=>e=.returned (iv (numI (jci l id)))/\w'=w:=by
 have HN:=hid hn
 clear hn
 have q0:IntKind.i64.wrap ((n:Int)-1)=(n:Int)-1:=by rw[IntKind.wrap_i64];omega
 unfold Cl;go_in
 go_wp2
 go_loop [5] (fun s=>∃k:Nat,k<=n/\s=iv ((k:Int)-1)/\Hid (jci l id=lastK l id k)) (fun s=>(intOf s+1).toNat)
 case atStart=>exact⟨n,nlr _,rfl,by simp only[Hid];unfold jci;rw[HN.out]⟩
 case round=>
  obtain⟨k,hk,rfl,HK⟩:=hrel
  cases k with
  |zero=>
   have h0:¬(0:Int)<=((0:Nat):Int)-1:=by omega
   go_wp2
   go_ret
   exact⟨ret_int (by rw[HK.out];rfl),rfl⟩
  | succ m=>
   obtain⟨v,hv⟩:∃v,l[m]? =some v:=⟨_,lgg (by have:=HN.out;omega)⟩
   have ap:(l.map VersionD.cs)[m]? =some v.cs:=by rw[lgm,hv];rfl
   obtain⟨b,o,rfl,hc⟩:=hA.at (i:=m) ap
   have c2:w.cell? (ad b (o+m*8+2))=some (iv v.id):=hc 2 _ rfl
   have e1:((m+1:Nat):Int)-1=(m:Int):=by omega
   rw[e1]
   have s0:(0:Int)<=(m:Int):=by omega
   have s1:(m:Int)<(n:Int):=by omega
   have s2:IntKind.i64.wrap ((m:Int)-1)=(m:Int)-1:=by rw[IntKind.wrap_i64];omega
   by_cases hid:v.id=id
   ·have HR:Hid (jci l id=some m):=by simp only[Hid];rw[HK.out,jiz hv hid]
    have C8:(v.id==id)=true:=by simp[hid]
    clear hv ap hc hid HK
    go_wp2
    go_ret
    exact⟨ret_int (by rw[HR.out];rfl),rfl⟩
   ·have HR:Hid (jci l id=lastK l id m):=by simp only[Hid];rw[HK.out,jgc hv hid]
    have C8:(v.id==id)=false:=by simp[hid]
    clear hv ap hc hid HK
    go_wp2
    go_round
    case rel=>exact⟨m,by omega,rfl,HR⟩
    case measure=>simp[intOf]
theorem jk9(rows:List (List Value))(k:Nat):rows.flatten=(rows.take k).flatten++(rows.drop k).flatten:=by rw[<- List.flatten_append,List.take_append_drop]
theorem ja6{q:Nat}:∀{rows:List (List Value)},(∀r∈rows,r.length=q)->rows.flatten.length=rows.length*q
 |[],_=>by simp
 |r::rows,h=>by
  rw[List.flatten_cons,lla,h r (by simp),ja6 fun x hx=>h x (lmc _ hx),List.length_cons,Nat.add_mul]
  omega
theorem jfy{rows:List (List Value)}{k j:Nat}{u:Value}(h:(rows.take k).flatten[j]? =some u):rows.flatten[j]? =some u:=by
 rw[jk9 rows k,lgl (lgs h).1];exact h
theorem jfx{q:Nat}{rows:List (List Value)}(hq:∀r∈rows,r.length=q){k j:Nat}{u:Value}(hk:k<=rows.length)(h:(rows.drop k).flatten[j]? =some u):rows.flatten[k*q+j]? =some u:=by
 have hl:(rows.take k).flatten.length=k*q:=by rw[ja6 fun r hr=>hq r (List.mem_of_mem_take hr),List.length_take,Nat.min_eq_left hk]
 rw[jk9 rows k,List.getElem?_append_right (by omega),hl,show k*q+j-k*q=j by omega];exact h
theorem jbl{L:List EventD}:∀r∈L.map EventD.cs,r.length=6:=fun r hr=>by
 obtain⟨x,_,rfl⟩:=List.mem_map.1 hr
 rfl
theorem jcx{L:List EventD}:∀u∈(L.map EventD.cs).flatten,u.oneCell'=true:=fun u hu=>by
 simp only[List.mem_flatten,List.mem_map]at hu
 obtain⟨r,⟨t,_,rfl⟩,hr⟩:=hu
 simp[EventD.cs]at hr
 rcases hr with rfl|rfl|rfl|rfl|rfl|rfl<;>rfl
theorem blN(w:World)(n:Nat):Bw w (w.drewN n):=⟨rfl,rfl,rfl,nlr _,fun _ _=>rfl⟩
def Jb(w:World)(base:Nat)(v:Value)(L:List EventD):Prop:=w.ownsRow base 54 6 v L.length (L.map EventD.cs).flatten
theorem Jb.cell{w:World}{base g n cap:Nat}{L:List EventD}(h:Jb w base (so g n cap) L){j:Nat}{u:Value}(hu:(L.map EventD.cs).flatten[j]? =some u):w.cell? (ad g j)=some u:=by
 have h':w.ownsRow base 54 6 (so g n cap) L.length (L.map EventD.cs).flatten:=h
 have hl:=(List.getElem?_eq_some_iff.1 hu).1
 rcases h'.2 with⟨hv,_⟩|⟨g2,c2,cur,hv,_⟩
 ·cases hv
 ·injection hv with e1 e2 e3
  subst e2
  rw[h'.cellAt j (by rw[ja6 jbl,llm]at hl;omega)]
  exact hu
theorem Jb.shape{w:World}{base:Nat}{v:Value}{L:List EventD}(h:Jb w base v L)(hn:0<L.length):∃g cap,v=so g L.length cap/\L.length<=cap:=by
 rcases h.2 with⟨_,h0⟩|⟨g,cap,cur,hv,hb,hg,hc,_⟩
 ·omega
 ·exact⟨g,cap,hv,hc⟩
theorem jpf{L:List EventD}{id:Int}{k:Nat}(h1:∀(j:Nat) x,j<k->L[j]? =some x->x.id<id)(h2:∀x,L[k]? =some x->¬x.id<id)(hk:k<=L.length):jju L id=k:=by
 induction L generalizing k with
 |nil=>simp at hk;subst hk;rfl
 | cons a L ih=>
  unfold jju at *
  cases k with
  |zero=>have:=h2 a rfl;simp[this]
  |succ k=>
   have h0:=h1 0 a (by omega) rfl
   have:=ih (k:=k) (fun j x hj hx=>h1 (j+1) x (by omega) (by simpa using hx)) (fun x hx=>h2 x (by simpa using hx)) (by simp at hk;omega)
   simp[h0,this]
theorem insE_len(L:List EventD)(e:EventD):(insE L e).length=L.length+1:=by
 induction L with
 |nil=>rfl
 |cons a L ih=>rw[insE];split<;>simp[ih]
theorem jtp:∃i:TypeInfo,Tryz.prog.info? 54=some i/\i.zero=some (.agg #[iv 0,.string ⟨#[]⟩,.string ⟨#[]⟩,iv 0,iv 0,iv 0])/\i.size=6/\i.bytes=64:=⟨_,rfl,rfl,rfl,rfl⟩
theorem jd1(l:List VersionD)(a:Option Addr)(n cap:Nat)(w:World)(hA:Za w a 8 (l.map VersionD.cs))(hn:l.length=n)(hl:n<=1000):
  Cl 16 #[.slice a n cap] w fun e w'=>∃v,e=.returned v/\Jb w' w.heap.size v (jan l)/\Bw w w':=by
 obtain⟨i0,hi,aG,aH,aF⟩:=jtp
 have HN:=hid hn
 clear hn
 unfold Cl;go_in
 go_wp2
 go_loopw [3,4,5,6] (fun v s _ _ wr=>∃(i g m c:Nat),i<=n/\s=iv i/\v=so g m c/\m<=i/\m<=c/\Hid ((jca l i).length=m)/\Jb wr w.heap.size (so g m c) (jca l i)/\Bw w wr) (fun _ s _ _ _=>n-(intOf s).toNat)
 case atStart=>exact⟨0,w.heap.size,0,0,by omega,rfl,rfl,by omega,by omega,rfl,ja5 w 54 6,qal _ _⟩
 case round=>
  obtain⟨wa,dS⟩:=qea wr
  subst dS
  obtain⟨i,g,m,c,hin,rfl,rfl,P8,vi,HM,hO,hB⟩:=hrel
  have iu:=hA.below hB
  by_cases hlt:i<n
  ·have s1:(i:Int)<(n:Int):=by omega
   have s0:(0:Int)<=(i:Int):=by omega
   obtain⟨v,hv⟩:∃v,l[i]? =some v:=⟨_,lgg (by have:=HN.out;omega)⟩
   have ap:(l.map VersionD.cs)[i]? =some v.cs:=by rw[lgm,hv];rfl
   obtain⟨b,ob,rfl,hc⟩:=iu.at (i:=i) ap
   have c1:wa.cell? (ad b (ob+i*8+1))=some (.bool v.gone):=hc 1 _ rfl
   have c2:wa.cell? (ad b (ob+i*8+2))=some (iv v.id):=hc 2 _ rfl
   have c3:wa.cell? (ad b (ob+i*8+3))=some (.string v.name):=hc 3 _ rfl
   have c4:wa.cell? (ad b (ob+i*8+4))=some (.string v.zone):=hc 4 _ rfl
   have c5:wa.cell? (ad b (ob+i*8+5))=some (iv v.wall):=hc 5 _ rfl
   have c6:wa.cell? (ad b (ob+i*8+6))=some (iv v.gap):=hc 6 _ rfl
   have c7:wa.cell? (ad b (ob+i*8+7))=some (iv v.fold):=hc 7 _ rfl
   have fT:=fun id=>jgn l (some (ad b ob)) n cap id wa iu HN.out (by omega)
   clear hc ap
   have HK:Hid (jca l (i+1)=if jci l v.id=some i/\v.gone=false then insE (jca l i) v.ev else jca l i):=by simp only[Hid];rw[jca,hv]
   clear hv
   by_cases hla:jci l v.id=some i
   case neg=>
    have ed:Hid (jca l (i+1)=jca l i):=by simp only[Hid];rw[HK.out,if_neg (fun h=>hla h.1)]
    have az:(numI (jci l v.id) != (i:Int))=true:=by
     cases hx:jci l v.id with
     |none=>simp[numI]<;>omega
     |some j=>rw[hx]at hla;simp[numI]at hla ⊢;omega
    have hL:=fT v.id
    generalize numI (jci l v.id)=nz at *
    clear HK hla fT
    go_wp2_with fail
    refine hL.mono ?_
    rintro e wx ⟨rfl,bC⟩
    have dl:=bC.symm
    clear bC
    subst dl
    clear hL
    go_wp2
    go_roundw
    case rel=>exact⟨i+1,g,m,c,by omega,by go_num,rfl,by omega,vi,by simp only[Hid];rw[ed.out];exact HM.out,by rw[ed.out];exact hO,hB⟩
    case measure=>simp[intOf];omega
   have hL:=fT v.id
   rw[hla]at hL
   have az:((i:Int) != (i:Int))=false:=by simp
   cases hg:v.gone with
   |true=>
    have ed:Hid (jca l (i+1)=jca l i):=by simp only[Hid];rw[HK.out,if_neg (fun h=>by rw[hg]at h;cases h.2)]
    rw[hg]at c1
    clear HK hla fT hg
    go_wp2_with fail
    refine hL.mono ?_
    rintro e wx ⟨rfl,bC⟩
    have dl:=bC.symm
    clear bC
    subst dl
    clear hL
    simp only[numI]
    go_wp2
    go_roundw
    case rel=>exact⟨i+1,g,m,c,by omega,by go_num,rfl,by omega,vi,by simp only[Hid];rw[ed.out];exact HM.out,by rw[ed.out];exact hO,hB⟩
    case measure=>simp[intOf];omega
   |false=>
    have ed:Hid (jca l (i+1)=insE (jca l i) v.ev):=by simp only[Hid];rw[HK.out,if_pos ⟨hla,hg⟩]
    rw[hg]at c1
    obtain⟨L,j4⟩:=qeb (jca l i)
    rw[j4]at hO HM ed
    clear HK hla fT hg j4
    have HC:Hid (∀(j:Nat) u,(L.map EventD.cs).flatten[j]? =some u->wa.cell? (ad g j)=some u):=fun j u hu=>hO.cell hu
    go_wp2_with fail
    refine hL.mono ?_
    rintro e wx ⟨rfl,bC⟩
    have dl:=bC.symm
    clear bC
    subst dl
    clear hL
    simp only[numI]
    go_wp2
    go_loopw [5] (fun s wr=>∃k:Nat,k<=m/\s=iv k/\Hid (∀(j:Nat) x,j<k->L[j]? =some x->x.id<v.id)/\Bw wa wr) (fun s _=>m+1-(intOf s).toNat)
    case atStart=>exact⟨0,by omega,rfl,fun j x hj=>by omega,brf _ _⟩
    case round=>
     obtain⟨wb,mQ⟩:=qea wr
     subst mQ
     obtain⟨k,hk,rfl,HS,ck⟩:=hrel
     have fW:Jb wb w.heap.size (so g m c) L:=jac hO ck
     have d2:=jaa ck c2
     have d3:=jaa ck c3
     have d4:=jaa ck c4
     have d5:=jaa ck c5
     have d6:=jaa ck c6
     have d7:=jaa ck c7
     have k0:(0:Int)<=(k:Int):=by omega
     clear hO c1 c2 c3 c4 c5 c6 c7 HC
     go_upto_region 7 with fail
     go_cut [48]from 31 to 50 (fun uy wx=>∃bb:Bool,uy=.bool bb/\Hid (Bw wb wx)/\Hid (if bb=true then k<m/\∀(j:Nat) y,j<k+1->L[j]? =some y->y.id<v.id else jju L v.ev.id=k))
     case first=>
      by_cases je:k<m
      ·have k1:(k:Int)<(m:Int):=by omega
       obtain⟨x,hx⟩:∃x,L[k]? =some x:=⟨_,lgg (by have:=HM.out;omega)⟩
       have vN:(L.map EventD.cs)[k]? =some x.cs:=by rw[lgm,hx];rfl
       have cx:wb.cell? (ad g (k*6))=some (iv x.id):=fW.cell (ja3 (q:=6) jbl (j:=0) vN rfl)
       clear vN
       by_cases qD:x.id<v.id
       ·have jM:Hid (∀(j:Nat) y,j<k+1->L[j]? =some y->y.id<v.id):=fun j y hj hy=>by
         by_cases e1:j=k
         ·subst e1;rw[hx]at hy;obtain rfl:=osi hy;exact qD
         ·exact HS.out j y (by omega) hy
        clear hx HS fW d3 d4 d5 d6 d7
        have q0:decide ((k:Int)<(m:Int))=true:=dte k1
        have q1:decide (x.id<v.id)=true:=dte qD
        go_wp2_with fail
        go_quiet (fail)
        go_wp2
        go_meet
        exact⟨true,rfl,blN wb nq,(by simp only[Hid];exact⟨je,jM.out⟩)⟩
       ·have HA:Hid (jju L v.ev.id=k):=jpf (id:=v.ev.id) HS.out (fun y hy=>by rw[hx]at hy;obtain rfl:=osi hy;exact qD) (by have:=HM.out;omega)
        clear hx
        have q0:decide ((k:Int)<(m:Int))=true:=dte k1
        have q1:decide (x.id<v.id)=false:=dfe qD
        go_wp2_with fail
        go_quiet (fail)
        go_wp2
        go_meet
        exact⟨false,rfl,blN wb nq,(by simp only[Hid];exact HA.out)⟩
      ·have k1:¬(k:Int)<(m:Int):=by omega
       have HA:Hid (jju L v.ev.id=k):=jpf (id:=v.ev.id) HS.out (fun y hy=>by have:=(lgs hy).1;have:=HM.out;omega) (by have:=HM.out;omega)
       have q0:decide ((k:Int)<(m:Int))=false:=dfe k1
       go_wp2_with fail
       go_quiet (fail)
       go_wp2
       go_meet
       exact⟨false,rfl,blN wb nq,(by simp only[Hid];exact HA.out)⟩
     obtain⟨bb,rfl,hW,HB⟩:=hcut
     obtain⟨wq,qQ⟩:=qea wc
     subst qQ
     have hW:=hW.out
     cases bb
     case true=>
      obtain⟨je,jM⟩:k<m/\Hid (∀(j:Nat) y,j<k+1->L[j]? =some y->y.id<v.id):=by simpa [Hid]using HB
      clear HB HS fW d3 d4 d5 d6 d7
      go_wp2
      go_roundw
      case rel=>exact⟨k+1,by omega,by go_num,jM,(qtr ck hW)⟩
      case measure=>simp[intOf];omega
     case false=>
      have HA:Hid (jju L v.ev.id=k):=by simpa [Hid]using HB
      clear HB
      have bI:Jb wq w.heap.size (so g m c) L:=jac fW hW
      have dt:Bw w wq:=(qtr hB ck).trans (hW.mono (qtr hB ck).size)
      have e2:=jaa hW d2
      have e3:=jaa hW d3
      have e4:=jaa hW d4
      have e5:=jaa hW d5
      have e6:=jaa hW d6
      have e7:=jaa hW d7
      clear fW hB ck d2 d3 d4 d5 d6 d7 HS hW
      have lk:(L.take k).length=k:=by rw[List.length_take,HM.out];omega
      have ld:(L.drop k).length=m-k:=by rw[List.length_drop,HM.out]
      have iN:(L.map EventD.cs).take k=(L.take k).map EventD.cs:=List.map_take.symm
      have iM:(L.map EventD.cs).drop k=(L.drop k).map EventD.cs:=List.map_drop.symm
      have t1:((L.take k).map EventD.cs).flatten.length=k*6:=by rw[ja6 jbl,llm,lk]
      have t2:((L.drop k).map EventD.cs).flatten.length=(m-k)*6:=by rw[ja6 jbl,llm,ld]
      have n1:∀j u,((L.take k).map EventD.cs).flatten[j]? =some u->(wq.alloc (.cells #[] 54)).cell? (((ad g 0):Addr).add j)=some u:=fun j u hj=>by
       rw[addP,Nat.zero_add]
       exact jaa (qal wq _) (bI.cell (jfy (k:=k) (by rw[iN];exact hj)))
      have HD:Hid (∀w2,Bw wq w2->∀j u,((L.drop k).map EventD.cs).flatten[j]? =some u->w2.cell? (ad g (k*6+j))=some u):=fun w2 hb j u hj=>jaa hb (bI.cell (jfx jbl (by rw[llm,HM.out];omega) (by rw[iM];exact hj)))
      have HE:Hid (insE L v.ev=(L.take k++[v.ev])++L.drop k):=by simp only[Hid];rw[jwl,HA.out]
      have hE:=ja5 wq 54 6
      have k2:(k:Int)<=(c:Int):=by omega
      have k3:(k:Int)<=(m:Int):=by omega
      clear bI iN iM
      go_wp2_with (first|(at_builtin;refine wpList_append_own _ rfl _ _ 50 rfl wq.heap.size 54 i0 (.agg #[iv 0,.string ⟨#[]⟩,.string ⟨#[]⟩,iv 0,iv 0,iv 0]) 6 64 Tryz.underlying50 hi aG aH aF rfl (by decide) _ _ _ rfl hE (ad g 0) k c ((L.take k).map EventD.cs).flatten rfl t1 n1 jcx ?a3 ?a4 ?a5 ?_)|fail)
      case a3=>unfold maxLen;omega
      case a4=>omega
      case a5=>simp
      intro v1 w1 av aP _
      have aj:Bw wq w1:=(qal wq _).grown aP (by simp) (fun j hj=>(hE.lt j hj).1)
      obtain⟨a1,m1,x1,rfl⟩:=jad av
      have bU:=aj.size
      have f2:=jaa aj e2
      have f3:=jaa aj e3
      have f4:=jaa aj e4
      have f5:=jaa aj e5
      have f6:=jaa aj e6
      have f7:=jaa aj e7
      clear aP hE n1 t1 e2 e3 e4 e5 e6 e7
      go_wp2_with (first|(at_builtin;refine wpList_append_own _ rfl _ _ 50 rfl wq.heap.size 54 i0 (.agg #[iv 0,.string ⟨#[]⟩,.string ⟨#[]⟩,iv 0,iv 0,iv 0]) 6 64 Tryz.underlying50 hi aG aH aF rfl (by decide) _ _ _ rfl (woa av _) (ad w1.heap.size 0) 1 1 [iv v.id,.string v.name,.string v.zone,iv v.wall,iv v.gap,iv v.fold] rfl rfl ?b1 ?b2 ?b3 ?b4 ?b5 ?_)|fail)
      case b1=>exact jah _ [iv v.id,.string v.name,.string v.zone,iv v.wall,iv v.gap,iv v.fold] _
      case b2=>intro u hu;simp at hu;rcases hu with rfl|rfl|rfl|rfl|rfl|rfl<;>rfl
      case b3=>unfold maxLen;omega
      case b4=>omega
      case b5=>simp;omega
      intro v2 w2 aw aU _
      have an:Bw wq w2:=(aj.alloc aj.size _).grown aU (by simp;omega) (fun j hj=>(av.lt j hj).1)
      obtain⟨a2,m2,x2,rfl⟩:=jad aw
      have dR:=an.size
      have n2:=HD.out w2 an
      clear aU av aj f2 f3 f4 f5 f6 f7
      by_cases iH:c=k
      ·have qF:k=m:=by omega
       have qv:k=c:=iH.symm
       clear iH
       subst qv
       subst qF
       have t2:((L.drop k).map EventD.cs).flatten.length=0*6:=by rw[t2];simp
       have n3:∀j u,((L.drop k).map EventD.cs).flatten[j]? =some u->w2.cell? (((ad g 0):Addr).add j)=some u:=fun j u hj=>by have h1:=(List.getElem?_eq_some_iff.1 hj).1;rw[t2]at h1;omega
       go_wp2_with (first|(at_builtin;refine wpList_append_own _ rfl _ _ 50 rfl wq.heap.size 54 i0 (.agg #[iv 0,.string ⟨#[]⟩,.string ⟨#[]⟩,iv 0,iv 0,iv 0]) 6 64 Tryz.underlying50 hi aG aH aF rfl (by decide) _ _ _ rfl aw (ad g 0) 0 0 ((L.drop k).map EventD.cs).flatten rfl t2 n3 jcx ?g3 ?g4 ?g5 ?_)|fail)
       case g3=>unfold maxLen;omega
       case g4=>omega
       case g5=>omega
       intro v3 w3 aI aJ _
       have ax:Bw wq w3:=an.grown aJ (by omega) (fun j hj=>(aw.lt j hj).1)
       have HO:Hid (Jb w3 w.heap.size v3 (insE L v.ev)):=by
        simp only[Hid]
        have h9:w3.ownsRow wq.heap.size 54 6 v3 (insE L v.ev).length ((insE L v.ev).map EventD.cs).flatten:=by
         rw[insE_len,HM.out,HE.out,lma,lma,List.flatten_append,List.flatten_append]
         have hx:k+1+0=k+1:=by omega
         rw[hx]at aI
         simpa [VersionD.ev,EventD.cs]using aI
        exact jaj h9 dt.size
       obtain⟨g3,x3,eS,eI⟩:=HO.out.shape (by rw[insE_len];omega)
       rw[insE_len,HM.out]at eS eI
       subst eS
       have cR:Bw w w3:=qtr dt ax
       clear aJ aI aw an ax n2 n3 t2 HD
       go_wp2
       go_roundw
       case rel=>exact⟨i+1,g3,k+1,x3,by omega,by go_num,rfl,by omega,eI,by simp only[Hid];rw[ed.out,insE_len,HM.out],by rw[ed.out];exact HO.out,cR⟩
       case measure=>simp[intOf];omega
      ·skip
       have n3:∀j u,((L.drop k).map EventD.cs).flatten[j]? =some u->w2.cell? (((ad g (k*6)):Addr).add j)=some u:=fun j u hj=>by rw[addP];exact n2 j u hj
       go_wp2_with (first|(at_builtin;refine wpList_append_own _ rfl _ _ 50 rfl wq.heap.size 54 i0 (.agg #[iv 0,.string ⟨#[]⟩,.string ⟨#[]⟩,iv 0,iv 0,iv 0]) 6 64 Tryz.underlying50 hi aG aH aF rfl (by decide) _ _ _ rfl aw (ad g (k*6)) (m-k) (c-k) ((L.drop k).map EventD.cs).flatten rfl t2 n3 jcx ?g3 ?g4 ?g5 ?_)|fail)
       case g3=>unfold maxLen;omega
       case g4=>omega
       case g5=>omega
       intro v3 w3 aI aJ _
       have ax:Bw wq w3:=an.grown aJ (by omega) (fun j hj=>(aw.lt j hj).1)
       have HO:Hid (Jb w3 w.heap.size v3 (insE L v.ev)):=by
        simp only[Hid]
        have h9:w3.ownsRow wq.heap.size 54 6 v3 (insE L v.ev).length ((insE L v.ev).map EventD.cs).flatten:=by
         rw[insE_len,HM.out,HE.out,lma,lma,List.flatten_append,List.flatten_append]
         have hx:k+1+(m-k)=m+1:=by omega
         rw[hx]at aI
         simpa [VersionD.ev,EventD.cs]using aI
        exact jaj h9 dt.size
       obtain⟨g3,x3,eS,eI⟩:=HO.out.shape (by rw[insE_len];omega)
       rw[insE_len,HM.out]at eS eI
       subst eS
       have cR:Bw w w3:=qtr dt ax
       clear aJ aI aw an ax n2 n3 t2 HD
       go_wp2
       go_roundw
       case rel=>exact⟨i+1,g3,m+1,x3,by omega,by go_num,rfl,by omega,eI,by simp only[Hid];rw[ed.out,insE_len,HM.out],by rw[ed.out];exact HO.out,cR⟩
       case measure=>simp[intOf];omega
  ·have hE:i=n:=by omega
   subst hE
   have HE:Hid (jca l i=jan l):=by simp only[Hid];unfold jan;rw[HN.out]
   have s1:¬(i:Int)<(i:Int):=by omega
   clear iu
   go_wp2
   go_ret
   exact⟨_,rfl,by rw[<- HE.out];exact hO,hB⟩
