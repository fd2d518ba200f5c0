/- Packed. -/
import Derived.Test.YtofdpfpdocpbpaaGreatDoorBasePd
import Derived.RegionTactic
import Derived.BigRegion
import Derived.OpenShut
import Derived.Lib.BufferOwn
import Derived.Lib.HexFns2
import Derived.Deep.AppendLies
import Derived.Test.YtofdpfpdocpbpaaGreatDoorTabPd
import Derived.Laws.AppendOwn
import Derived.OwnWalk
import Derived.Deep.CutRange
import Derived.BigQuiet
import Derived.Deep.RegionHeld3
import Derived.Test.YtofdpfpdocpbpaaGreatDoorOffPd
import Derived.Test.YtofdpfpdocpbpaaGreatDoorRightQd
import Derived.Test.YtofdpfpdocpbpaaGreatDoorOnPd
import Derived.Deep.Cut
import Derived.Test.YtofdpfpdocpbpaaGreatDoorRightWd
set_option maxHeartbeats 20000000
set_option linter.unusedSimpArgs false
namespace Go.Proofs.YtofdpfpdocpbpaaGreatDoor
section
open Go.RowKit
def j7c(w:World)(a:Option Addr)(len:Nat):Prop:=len=0\/∃b o,a=some ⟨b,o,none⟩/\∀i,i<len->∃z:Int,w.cell? ⟨b,o+i,none⟩=some (.int .u8 z)/\0<=z/\z<=255
end
section
open Go.RowKit
def VersionD.ev(v:VersionD):EventD:=⟨v.id,v.name,v.zone,v.wall,v.gap,v.fold⟩
def lastK(l:List VersionD)(id:Int):Nat->Option Nat
 |0=>none
 |k+1=>match l[k]? with
  |some v=>if v.id=id then some k else lastK l id k
  |none=>lastK l id k
def jiy(l:List VersionD)(id:Int):Option Nat:=lastK l id l.length
def numI(o:Option Nat):Int:=match o with
 |some i=>i
 |none=> -1
theorem jns{l:List VersionD}{id:Int}{k:Nat}{v:VersionD}(h:l[k]? =some v)(hv:v.id=id):lastK l id (k+1)=some k:=by rw[lastK,h];simp only;rw[if_pos hv]
theorem jld{l:List VersionD}{id:Int}{k:Nat}{v:VersionD}(h:l[k]? =some v)(hv:v.id≠id):lastK l id (k+1)=lastK l id k:=by rw[lastK,h];simp only;rw[if_neg hv]
theorem jgt{l:List VersionD}{id:Int}:∀{k j:Nat},lastK l id k=some j->j<k/\(∃v,l[j]? =some v/\v.id=id)/\∀i v,j<i->i<k->l[i]? =some v->v.id≠id:=by
 intro k
 induction k with
 |zero=>intro j h;cases h
 |succ k ih=>
  intro j h
  cases hk:l[k]? with
  | none=>
   rw[lastK,hk]at h
   obtain⟨a,b,c⟩:=ih h
   exact⟨by omega,b,fun i v h1 h2 h3=>by
    by_cases e:i=k
    ·subst e;rw[hk]at h3;cases h3
    ·exact c i v h1 (by omega) h3⟩
  |some v=>
   by_cases hv:v.id=id
   ·rw[jns hk hv]at h
    obtain rfl:=Option.some.inj h
    exact⟨by omega,⟨v,hk,hv⟩,fun i x h1 h2=>by omega⟩
   ·rw[jld hk hv]at h
    obtain⟨a,b,c⟩:=ih h
    exact⟨by omega,b,fun i x h1 h2 h3=>by
     by_cases e:i=k
     ·subst e;rw[hk]at h3;obtain rfl:=Option.some.inj h3;exact hv
     ·exact c i x h1 (by omega) h3⟩
theorem j7d{l:List VersionD}{id:Int}:∀{k:Nat},lastK l id k=none->∀i v,i<k->l[i]? =some v->v.id≠id:=by
 intro k
 induction k with
 |zero=>intro _ i v h;omega
 |succ k ih=>
  intro h i v hi hv
  cases hk:l[k]? with
  |none=>
   rw[lastK,hk]at h
   by_cases e:i=k
   ·subst e;rw[hk]at hv;cases hv
   ·exact ih h i v (by omega) hv
  | some x=>
   by_cases hx:x.id=id
   ·rw[jns hk hx]at h;cases h
   ·rw[jld hk hx]at h
    by_cases e:i=k
    ·subst e;rw[hk]at hv;obtain rfl:=Option.some.inj hv;exact hx
    ·exact ih h i v (by omega) hv
def jbk(l:List VersionD)(id:Int):Option EventD:=match jiy l id with
 |some k=>(match l[k]? with
  |some v=>if v.gone=true then none else some v.ev
  |none=>none)
 |none=>none
theorem jtv(l:List VersionD)(v:VersionD)(id:Int):jiy (l++[v]) id=if v.id=id then some l.length else jiy l id:=by
 have hp:∀k,k<=l.length->lastK (l++[v]) id k=lastK l id k:=by
  intro k
  induction k with
  |zero=>intro _;rfl
  |succ k ih=>
   intro hk
   rw[lastK,lastK,List.getElem?_append_left (by omega),ih (by omega)]
 unfold jiy
 rw[List.length_append,List.length_singleton,lastK]
 rw[List.getElem?_append_right (Nat.le_refl _)]
 simp only[Nat.sub_self,List.getElem?_cons_zero]
 rw[hp _ (Nat.le_refl _)]
theorem jtq(l:List VersionD)(v:VersionD)(id:Int):jbk (l++[v]) id=if v.id=id then(if v.gone=true then none else some v.ev)else jbk l id:=by
 unfold jbk
 rw[jtv]
 by_cases h:v.id=id
 ·rw[if_pos h,if_pos h]
  simp only[List.getElem?_append_right (Nat.le_refl _),Nat.sub_self,List.getElem?_cons_zero]
 ·rw[if_neg h,if_neg h]
  cases hk:jiy l id with
  |none=>rfl
  |some k=>
   have hl:=(jgt hk).1
   simp only
   rw[List.getElem?_append_left hl]
def insE:List EventD->EventD->List EventD
 |[],e=>[e]
 |x::l,e=>if x.id<e.id then x::insE l e else e::x::l
theorem insE_mem{l:List EventD}{e x:EventD}:x∈insE l e↔x=e\/x∈l:=by
 induction l with
 |nil=>simp[insE]
 |cons a l ih=>
  rw[insE]
  split
  ·simp only[List.mem_cons,ih]
   constructor
   ·rintro(h|h|h)
    ·exact .inr (.inl h)
    ·exact .inl h
    ·exact .inr (.inr h)
   ·rintro(h|h|h)
    ·exact .inr (.inl h)
    ·exact .inl h
    ·exact .inr (.inr h)
  ·simp only[List.mem_cons]
theorem j59{l:List EventD}{e:EventD}(h:l.Pairwise fun x y=>x.id<y.id)(hn:∀x∈l,x.id≠e.id):(insE l e).Pairwise fun x y=>x.id<y.id:=by
 induction l with
 |nil=>simp[insE]
 | cons a l ih=>
  have h':=List.pairwise_cons.mp h
  rw[insE]
  split
  ·rename_i ha
   refine List.pairwise_cons.mpr ⟨fun x hx=>?_,ih h'.2 fun x hx=>hn x (List.mem_cons_of_mem _ hx)⟩
   rcases insE_mem.mp hx with rfl|hx
   ·exact ha
   ·exact h'.1 x hx
  ·rename_i ha
   have hae:e.id<a.id:=by have:=hn a (by simp);omega
   refine List.pairwise_cons.mpr ⟨fun x hx=>?_,h⟩
   rcases List.mem_cons.mp hx with rfl|hx
   ·exact hae
   ·have:=h'.1 x hx;omega
def jgq(l:List VersionD):Nat->List EventD
 |0=>[]
 |k+1=>match l[k]? with
  |some v=>if jiy l v.id=some k/\v.gone=false then insE (jgq l k) v.ev else jgq l k
  |none=>jgq l k
def jai(l:List VersionD):List EventD:=jgq l l.length
theorem liveK_mem{l:List VersionD}{e:EventD}:∀{k:Nat},e∈jgq l k↔∃j v,j<k/\l[j]? =some v/\jiy l v.id=some j/\v.gone=false/\v.ev=e:=by
 intro k
 induction k with
 |zero=>simp[jgq]
 |succ k ih=>
  have hup:(∃j v,j<k/\l[j]? =some v/\jiy l v.id=some j/\v.gone=false/\v.ev=e)->∃j v,j<k+1/\l[j]? =some v/\jiy l v.id=some j/\v.gone=false/\v.ev=e:=fun⟨j,v,h1,h2⟩=>⟨j,v,by omega,h2⟩
  rw[jgq]
  cases hk:l[k]? with
  |none=>
   simp only
   rw[ih]
   refine⟨hup,fun⟨j,v,h1,h2,h3⟩=>⟨j,v,?_,h2,h3⟩⟩
   by_cases e1:j=k
   ·subst e1;rw[hk]at h2;cases h2
   ·omega
  |some v=>
   simp only
   split
   ·rename_i hc
    rw[insE_mem,ih]
    constructor
    ·rintro(rfl|h)
     ·exact⟨k,v,by omega,hk,hc.1,hc.2,rfl⟩
     ·exact hup h
    ·rintro⟨j,x,h1,h2,h3,h4,h5⟩
     by_cases e1:j=k
     ·subst e1;rw[hk]at h2;obtain rfl:=Option.some.inj h2;exact .inl h5.symm
     ·exact .inr ⟨j,x,by omega,h2,h3,h4,h5⟩
   ·rename_i hc
    rw[ih]
    refine⟨hup,fun⟨j,x,h1,h2,h3,h4,h5⟩=>⟨j,x,?_,h2,h3,h4,h5⟩⟩
    by_cases e1:j=k
    ·subst e1;rw[hk]at h2;obtain rfl:=Option.some.inj h2;exact absurd ⟨h3,h4⟩ hc
    ·omega
theorem jck{l:List VersionD}:∀k,(jgq l k).Pairwise fun x y=>x.id<y.id:=by
 intro k
 induction k with
 |zero=>simp[jgq]
 |succ k ih=>
  rw[jgq]
  cases hk:l[k]? with
  |none=>exact ih
  | some v=>
   simp only
   split
   ·rename_i hc
    refine j59 ih fun x hx he=>?_
    obtain⟨j,y,h1,h2,h3,_,h5⟩:=liveK_mem.mp hx
    have e2:y.id=v.id:=by rw[<- h5]at he;exact he
    rw[e2,hc.1]at h3
    have:=Option.some.inj h3
    omega
   ·exact ih
theorem jxi(l:List VersionD):∀k,(jgq l k).length<=k:=by
 have hi:∀(L:List EventD) e,(insE L e).length=L.length+1:=by
  intro L e
  induction L with
  |nil=>rfl
  |cons a L ih=>rw[insE];split<;>simp[ih]
 intro k
 induction k with
 |zero=>simp[jgq]
 | succ k ih=>
  rw[jgq]
  split
  ·split
   ·rw[hi];omega
   ·omega
  ·omega
theorem jxh{l:List VersionD}{e:EventD}:e∈jai l↔jbk l e.id=some e:=by
 unfold jai
 rw[liveK_mem]
 constructor
 ·rintro⟨j,v,_,h2,h3,h4,rfl⟩
  show jbk l v.id=_
  unfold jbk
  rw[h3]
  simp only
  rw[h2]
  simp[h4]
 ·intro h
  unfold jbk at h
  cases hk:jiy l e.id with
  |none=>rw[hk]at h;cases h
  |some k=>
   rw[hk]at h
   simp only at h
   cases hv:l[k]? with
   |none=>rw[hv]at h;cases h
   | some v=>
    rw[hv]at h
    simp only at h
    split at h
    ·cases h
    ·rename_i hg
     obtain rfl:=Option.some.inj h
     exact⟨k,v,(jgt hk).1,hv,hk,by simpa using hg,rfl⟩
theorem j7o{L M:List EventD}(hL:L.Pairwise fun x y=>x.id<y.id)(hM:M.Pairwise fun x y=>x.id<y.id)(h:∀e,e∈L↔e∈M):L=M:=by
 induction L generalizing M with
 |nil=>
  cases M with
  |nil=>rfl
  |cons y M=>exact absurd ((h y).mpr (by simp)) (by simp)
 |cons x L ih=>
  cases M with
  |nil=>exact absurd ((h x).mp (by simp)) (by simp)
  |cons y M=>
   have hL':=List.pairwise_cons.mp hL
   have hM':=List.pairwise_cons.mp hM
   have hxy:x=y:=by
    rcases List.mem_cons.mp ((h x).mp (by simp))with e|e
    ·exact e
    ·rcases List.mem_cons.mp ((h y).mpr (by simp))with e2|e2
     ·exact e2.symm
     ·have:=hM'.1 x e;have:=hL'.1 y e2;omega
   subst hxy
   rw[ih hL'.2 hM'.2 fun e=>?_]
   constructor
   ·intro he
    rcases List.mem_cons.mp ((h e).mp (List.mem_cons_of_mem _ he))with e2|e2
    ·subst e2;have:=hL'.1 _ he;omega
    ·exact e2
   ·intro he
    rcases List.mem_cons.mp ((h e).mpr (List.mem_cons_of_mem _ he))with e2|e2
    ·subst e2;have:=hM'.1 _ he;omega
    ·exact e2
end
section
open Go.RowKit
theorem jbl{q:Nat}:∀{rows:List (List Value)},(∀r∈rows,r.length=q)->∀{i j:Nat} {r:List Value} {c:Value},rows[i]? =some r->r[j]? =some c->rows.flatten[i*q+j]? =some c:=by
 intro rows
 induction rows with
 |nil=>intro _ i j r c h;simp at h
 | cons x rows ih=>
  intro hq i j r c hi hj
  have hx:=hq x (by simp)
  cases i with
  |zero=>
   simp at hi
   subst hi
   rw[List.flatten_cons,Nat.zero_mul,Nat.zero_add,List.getElem?_append_left (List.getElem?_eq_some_iff.mp hj).1]
   exact hj
  |succ i=>
   rw[List.flatten_cons,List.getElem?_append_right (by rw[hx,Nat.add_mul];omega),hx]
   rw[show(i+1)*q+j-q=i*q+j by rw[Nat.add_mul];omega]
   exact ih (fun y hy=>hq y (List.mem_cons_of_mem _ hy)) (by simpa using hi) hj
theorem jga{q:Nat}:∀{rows:List (List Value)},(∀r∈rows,r.length=q)->rows.flatten.length=rows.length*q:=by
 intro rows
 induction rows with
 |nil=>intro _;simp
 |cons x rows ih=>
  intro hq
  rw[List.flatten_cons,List.length_append,hq x (by simp),ih fun y hy=>hq y (List.mem_cons_of_mem _ hy),List.length_cons,Nat.add_mul]
  omega
theorem jav{w:World}{base:Nat}{e:TypeId}{q:Nat}{v:Value}{rows:List (List Value)}(h:w.ownsRow base e q v rows.length rows.flatten)(hq:∀r∈rows,r.length=q):∃a cap,v=.slice a rows.length cap/\Zd w a q rows/\rows.length<=cap:=by
 rcases h.2 with⟨hv,h0⟩|⟨g,cap,cur,hv,hb,hg,hc,_,_,_⟩
 ·exact⟨none,0,by rw[hv,h0],.inl (List.length_eq_zero_iff.mp h0),by omega⟩
 ·refine⟨_,cap,hv,.inr ⟨g,0,rfl,fun i j r c hi hj=>?_⟩,hc⟩
  rw[hv]at h
  have hl:=jbl hq hi hj
  have hlt:=(List.getElem?_eq_some_iff.mp hl).1
  rw[jga hq]at hlt
  rw[Nat.zero_add,h.cellAt _ hlt,hl]
theorem ja3(w:World)(cs:List Value)(t:TypeId):∀j u,cs[j]? =some u->(w.alloc (.cells cs.toArray t)).cell? ((⟨w.heap.size,0,none⟩:Addr).add j)=some u:=fun j u h=>World.news_of_block (heap_alloc_new w _) j u (by simpa using h)
theorem jab{w w':World}(hb:Below w.heap.size w w'){b o:Nat}{v:Value}(h:w.cell? ⟨b,o,none⟩=some v):w'.cell? ⟨b,o,none⟩=some v:=qce hb h h
theorem jaa(w:World):Below w.heap.size w w.drew:=⟨rfl,rfl,rfl,Nat.le_refl _,fun _ _=>rfl⟩
theorem addP(b o j:Nat):(⟨b,o,none⟩:Addr).add j=⟨b,o+j,none⟩:=by unfold Addr.add;split<;>simp_all
theorem jaq{w:World}{base:Nat}{e:TypeId}{size:Nat}{v:Value}{n:Nat}{xs:List Value}(h:w.ownsRow base e size v n xs):∃a m c,v=.slice a m c:=by
 rcases h.2 with⟨hv,_⟩|⟨g,cap,cur,hv,_⟩
 ·exact⟨_,_,_,hv⟩
 ·exact⟨_,_,_,hv⟩
theorem jb8{w:World}{base base':Nat}{e:TypeId}{size:Nat}{v:Value}{n:Nat}{xs:List Value}(h:w.ownsRow base e size v n xs)(hb:base'<=base):w.ownsRow base' e size v n xs:=by
 refine⟨h.1,?_⟩
 rcases h.2 with h|⟨g,cap,cur,e1,e2,e3⟩
 ·exact .inl h
 ·exact .inr ⟨g,cap,cur,e1,by omega,e3⟩
theorem jad{w w':World}{base:Nat}{e:TypeId}{size:Nat}{v:Value}{n:Nat}{xs:List Value}(h:w.ownsRow base e size v n xs)(hb:Below w.heap.size w w'):w'.ownsRow base e size v n xs:=by
 refine⟨h.1,?_⟩
 rcases h.2 with h|⟨g,cap,cur,e1,e2,e3,e4⟩
 ·exact .inl h
 ·exact .inr ⟨g,cap,cur,e1,e2,(hb.block g (Array.getElem?_eq_some_iff.1 e3).1).trans e3,e4⟩
theorem Zd.take{w:World}{a:Option Addr}{k:Nat}{rows:List (List Value)}(h:Zd w a k rows)(m:Nat):Zd w a k (rows.take m):=by
 rcases h with h|⟨b,o,rfl,h⟩
 ·exact .inl (by rw[h];simp)
 ·refine .inr ⟨b,o,rfl,fun i j r c hi hj=>?_⟩
  rw[List.getElem?_take]at hi
  split at hi
  ·exact h i j r c hi hj
  ·cases hi
theorem Zd.flat{w:World}{b o q:Nat}{rows:List (List Value)}(h:Zd w (some ⟨b,o,none⟩) q rows)(hq:∀r∈rows,r.length=q):∀j u,rows.flatten[j]? =some u->w.cell? ((⟨b,o,none⟩:Addr).add j)=some u:=fun j u hj=>by
 have hlt:=(List.getElem?_eq_some_iff.mp hj).1
 rw[jga hq]at hlt
 have hq0:0<q:=by
  rcases Nat.eq_zero_or_pos q with e|e
  ·subst e;simp at hlt
  ·exact e
 have hi:j / q<rows.length:=Nat.div_lt_of_lt_mul (by rw[Nat.mul_comm];exact hlt)
 obtain⟨r,hr⟩:∃r,rows[j / q]? =some r:=⟨_,List.getElem?_eq_getElem hi⟩
 have hrl:=hq r (List.mem_of_getElem? hr)
 obtain⟨c,hc⟩:∃c,r[j%q]? =some c:=⟨_,List.getElem?_eq_getElem (by rw[hrl];exact Nat.mod_lt _ hq0)⟩
 have e1:=jbl hq hr hc
 rw[show j / q*q+j%q=j by rw[Nat.mul_comm];exact Nat.div_add_mod j q]at e1
 rw[hj]at e1
 obtain rfl:=Option.some.inj e1
 rw[addP]
 rcases h with h|⟨b',o',e,h⟩
 ·rw[h]at hr;simp at hr
 ·injection e with e
  injection e with u1 u2
  subst u1 u2
  have:=h (j / q) (j%q) r u hr hc
  rw[show o+j / q*q+j%q=o+j by have:=Nat.div_add_mod j q;rw[Nat.mul_comm]at this;omega]at this
  exact this
end
section
open Go.RowKit
theorem jen{q:Nat}:∀{rows:List (List Value)},(∀r∈rows,r.length=q)->rows.flatten.length=rows.length*q
 |[],_=>by simp
 |r::rows,h=>by
  rw[List.flatten_cons,List.length_append,h r (by simp),jen fun x hx=>h x (List.mem_cons_of_mem _ hx),List.length_cons,Nat.add_mul]
  omega
theorem jd5{L:List EventD}:∀r∈L.map EventD.cs,r.length=6:=fun r hr=>by
 obtain⟨x,_,rfl⟩:=List.mem_map.1 hr
 rfl
def Zq(w:World)(base:Nat)(v:Value)(L:List EventD):Prop:=w.ownsRow base 99 6 v L.length (L.map EventD.cs).flatten
theorem Zq.cell{w:World}{base g n cap:Nat}{L:List EventD}(h:Zq w base (.slice (some ⟨g,0,none⟩) n cap) L){j:Nat}{u:Value}(hu:(L.map EventD.cs).flatten[j]? =some u):w.cell? ⟨g,j,none⟩=some u:=by
 have h':w.ownsRow base 99 6 (.slice (some ⟨g,0,none⟩) n cap) L.length (L.map EventD.cs).flatten:=h
 have hl:=(List.getElem?_eq_some_iff.1 hu).1
 rcases h'.2 with⟨hv,_⟩|⟨g2,c2,cur,hv,_⟩
 ·cases hv
 ·injection hv with e1 e2 e3
  subst e2
  rw[h'.cellAt j (by rw[jen jd5,List.length_map]at hl;omega)]
  exact hu
set_option maxRecDepth 100000 in
theorem jtx:∃i:TypeInfo,Tryz.prog.info? 99=some i/\i.zero=some (.agg #[.int .i64 0,.string ⟨#[]⟩,.string ⟨#[]⟩,.int .i64 0,.int .i64 0,.int .i64 0])/\i.size=6/\i.bytes=64:=⟨_,rfl,rfl,rfl,rfl⟩
end
section
open Go.RowKit
structure WallD where
 wall:Int
 place:Nat
def WallD.cs(x:WallD):List Value:=[.int .i64 x.wall,.int .i64 x.place]
theorem jdy{l:List WallD}:∀r∈l.map WallD.cs,r.length=2:=fun r hr=>by
 obtain⟨x,_,rfl⟩:=List.mem_map.mp hr;rfl
def atW(t:Int)(l:List WallD):List WallD:=l.filter fun x=>decide (x.wall=t)
theorem atW_append(t:Int)(a b:List WallD):atW t (a++b)=atW t a++atW t b:=List.filter_append ..
theorem jcu{t:Int}{x:WallD}(l:List WallD)(h:x.wall=t):atW t (x::l)=x::atW t l:=List.filter_cons_of_pos (by simpa using h)
theorem jew{t:Int}{x:WallD}(l:List WallD)(h:x.wall≠t):atW t (x::l)=atW t l:=List.filter_cons_of_neg (by simpa using h)
theorem jmu{t:Int}{l:List WallD}(h:∀x∈l,t<x.wall):atW t l=[]:=by
 unfold atW
 rw[List.filter_eq_nil_iff]
 intro x hx
 have:=h x hx
 simp
 omega
def UpW(l:List WallD):Prop:=l.Pairwise fun a b=>a.wall<=b.wall
structure SrtOf(l s:List WallD):Prop where
 up:UpW s
 at_:∀t,atW t s=atW t l
 len:s.length=l.length
theorem jm7{l:List WallD}(h:l.length<2):SrtOf l l:=by
 refine⟨?_,fun _=>rfl,rfl⟩
 match l,h with
 |[],_=>exact List.Pairwise.nil
 |[x],_=>exact List.pairwise_singleton _ _
def mergeWA(x:WallD)(f:List WallD->List WallD):List WallD->List WallD
 |[]=>x::f []
 |y::b=>if x.wall<=y.wall then x::f (y::b)else y::mergeWA x f b
def jc3:List WallD->List WallD->List WallD
 |[],b=>b
 |x::a,b=>mergeWA x (jc3 a) b
theorem jfr(b:List WallD):jc3 [] b=b:=rfl
theorem jla(a:List WallD):jc3 a []=a:=by
 induction a with
 |nil=>rfl
 |cons x a ih=>rw[jc3,mergeWA,ih]
theorem jlb{x y:WallD}{a b:List WallD}(h:x.wall<=y.wall):jc3 (x::a) (y::b)=x::jc3 a (y::b):=by rw[jc3,mergeWA,if_pos h]
theorem jit{x y:WallD}{a b:List WallD}(h:¬x.wall<=y.wall):jc3 (x::a) (y::b)=y::jc3 (x::a) b:=by rw[jc3,mergeWA,if_neg h,jc3]
theorem jnk:∀{n:Nat} {a b:List WallD} {z:WallD},a.length+b.length<=n->(z∈jc3 a b↔z∈a\/z∈b):=by
 intro n
 induction n with
 |zero=>
  intro a b z h
  obtain rfl:a=[]:=List.length_eq_zero_iff.mp (by omega)
  rw[jfr];simp
 |succ n ih=>
  intro a b z h
  match a,b with
  |[],b=>rw[jfr];simp
  |x::a,[]=>rw[jla];simp
  |x::a,y::b=>
   by_cases hc:x.wall<=y.wall
   ·rw[jlb hc,List.mem_cons,ih (by simp at h ⊢;omega),List.mem_cons,List.mem_cons]
    constructor
    ·rintro(h|h|h)
     ·exact .inl (.inl h)
     ·exact .inl (.inr h)
     ·exact .inr h
    ·rintro((h|h)|h)
     ·exact .inl h
     ·exact .inr (.inl h)
     ·exact .inr (.inr h)
   ·rw[jit hc,List.mem_cons,ih (by simp at h ⊢;omega),List.mem_cons,List.mem_cons]
    constructor
    ·rintro(h|h|h)
     ·exact .inr (.inl h)
     ·exact .inl h
     ·exact .inr (.inr h)
    ·rintro(h|h|h)
     ·exact .inr (.inl h)
     ·exact .inl h
     ·exact .inr (.inr h)
theorem jxa:∀{n:Nat} {a b:List WallD},a.length+b.length<=n->UpW a->UpW b->SrtOf (a++b) (jc3 a b):=by
 intro n
 induction n with
 |zero=>
  intro a b h ha hb
  obtain rfl:a=[]:=List.length_eq_zero_iff.mp (by omega)
  rw[jfr]
  exact⟨hb,fun _=>rfl,rfl⟩
 |succ n ih=>
  intro a b h ha hb
  match a,b with
  |[],b=>rw[jfr];exact⟨hb,fun _=>rfl,rfl⟩
  |x::a,[]=>rw[jla,List.append_nil];exact⟨ha,fun _=>rfl,rfl⟩
  |x::a,y::b=>
   have ha':=List.pairwise_cons.mp ha
   have hb':=List.pairwise_cons.mp hb
   by_cases hc:x.wall<=y.wall
   ·have:=ih (a:=a) (b:=y::b) (by simp at h ⊢;omega) ha'.2 hb
    rw[jlb hc]
    refine⟨List.pairwise_cons.mpr ⟨fun z hz=>?_,this.up⟩,fun t=>?_,by simp[this.len]⟩
    ·rcases(jnk (Nat.le_refl _)).mp hz with e|e
     ·exact ha'.1 z e
     ·rcases List.mem_cons.mp e with e|e
      ·subst e;exact hc
      ·have:=hb'.1 z e;omega
    ·rw[List.cons_append]
     by_cases ht:x.wall=t
     ·rw[jcu _ ht,jcu _ ht,this.at_]
     ·rw[jew _ ht,jew _ ht,this.at_]
   ·have:=ih (a:=x::a) (b:=b) (by simp at h ⊢;omega) ha hb'.2
    rw[jit hc]
    refine⟨List.pairwise_cons.mpr ⟨fun z hz=>?_,this.up⟩,fun t=>?_,by simp[this.len];omega⟩
    ·rcases(jnk (Nat.le_refl _)).mp hz with e|e
     ·rcases List.mem_cons.mp e with e|e
      ·subst e;omega
      ·have:=ha'.1 z e;omega
     ·exact hb'.1 z e
    ·by_cases ht:y.wall=t
     ·rw[jcu _ ht,this.at_,atW_append,atW_append,jcu _ ht,jmu (l:=x::a)]
      ·rfl
      ·intro z hz
       rcases List.mem_cons.mp hz with e|e
       ·subst e;omega
       ·have:=ha'.1 z e;omega
     ·rw[jew _ ht,this.at_,atW_append,atW_append,jew _ ht]
theorem jwc{l1 l2 s1 s2:List WallD}(h1:SrtOf l1 s1)(h2:SrtOf l2 s2):SrtOf (l1++l2) (jc3 s1 s2):=by
 have h:=jxa (Nat.le_refl _) h1.up h2.up
 refine⟨h.up,fun t=>?_,by rw[h.len,List.length_append,List.length_append,h1.len,h2.len]⟩
 rw[h.at_,atW_append,atW_append,h1.at_,h2.at_]
theorem j48:∀{s1 s2:List WallD},UpW s1->UpW s2->(∀t,atW t s1=atW t s2)->s1=s2:=by
 intro s1
 induction s1 with
 |nil=>
  intro s2 _ _ h
  cases s2 with
  |nil=>rfl
  |cons y s2=>have:=h y.wall;rw[jcu _ rfl]at this;simp[atW]at this
 |cons x s1 ih=>
  intro s2 h1 h2 h
  have h1':=List.pairwise_cons.mp h1
  cases s2 with
  |nil=>have:=h x.wall;rw[jcu _ rfl]at this;simp[atW]at this
  |cons y s2=>
   have h2':=List.pairwise_cons.mp h2
   have hw:x.wall=y.wall:=by
    rcases Int.lt_trichotomy x.wall y.wall with e|e|e
    ·have:=h x.wall
     rw[jcu _ rfl,jmu (l:=y::s2)]at this
     ·cases this
     ·intro z hz
      rcases List.mem_cons.mp hz with e2|e2
      ·subst e2;exact e
      ·have:=h2'.1 z e2;omega
    ·exact e
    ·have:=h y.wall
     rw[jcu (x:=y) _ rfl,jmu (l:=x::s1)]at this
     ·cases this
     ·intro z hz
      rcases List.mem_cons.mp hz with e2|e2
      ·subst e2;exact e
      ·have:=h1'.1 z e2;omega
   have hxy:=h x.wall
   rw[jcu _ rfl,jcu _ hw.symm]at hxy
   injection hxy with e1 e2
   subst e1
   rw[ih h1'.2 h2'.2 fun t=>?_]
   have:=h t
   by_cases ht:x.wall=t
   ·rw[jcu _ ht,jcu _ ht]at this
    injection this
   ·rw[jew _ ht,jew _ ht]at this
    exact this
end
section
open Go.RowKit
def jec(i:Nat)(x:RuleD)(y:Int):List WallD:=if moV y x.month x.on= -1000000 then []else [⟨86400*moV y x.month x.on+x.at_,i⟩]
def wallsN(i:Nat)(x:RuleD)(y:Int):Nat->List WallD
 |0=>[]
 |n+1=>wallsN i x y n++jec i x (y+n)
def yrs(x:RuleD):Nat:=(min x.hi 2037-max x.lo 1960+1).toNat
def jd7(i:Nat)(x:RuleD):List WallD:=wallsN i x (max x.lo 1960) (yrs x)
def jb1(nm:ByteArray)(l:List RuleD):Nat->List WallD
 |0=>[]
 |k+1=>jb1 nm l k++(match l[k]? with|some x=>if (x.name.toList==nm.toList)=true then jd7 k x else []|none=>[])
theorem ju9{i:Nat}{x:RuleD}{y:Int}(h:moV y x.month x.on= -1000000):jec i x y=[]:=by unfold jec;rw[if_pos h]
theorem js4{i:Nat}{x:RuleD}{y:Int}(h:moV y x.month x.on≠ -1000000):jec i x y=[⟨86400*moV y x.month x.on+x.at_,i⟩]:=by unfold jec;rw[if_neg h]
theorem js5{nm:ByteArray}{l:List RuleD}{k:Nat}{x:RuleD}(hx:l[k]? =some x)(h:(x.name.toList==nm.toList)=true):jb1 nm l (k+1)=jb1 nm l k++jd7 k x:=by rw[jb1,hx];simp only[h,if_true]
theorem jvb{nm:ByteArray}{l:List RuleD}{k:Nat}{x:RuleD}(hx:l[k]? =some x)(h:(x.name.toList==nm.toList)=false):jb1 nm l (k+1)=jb1 nm l k:=by rw[jb1,hx];simp[h]
theorem jkx(i:Nat)(x:RuleD)(y:Int):∀n,(wallsN i x y n).length<=n:=by
 intro n
 induction n with
 |zero=>simp[wallsN]
 |succ n ih=>
  rw[wallsN,List.length_append]
  have:(jec i x (y+n)).length<=1:=by unfold jec;split<;>simp
  omega
theorem j3j(x:RuleD):yrs x<=78:=by unfold yrs;omega
structure RuleR(x:RuleD):Prop where
 month:1<=x.month/\x.month<=12
 at_:0<=x.at_/\x.at_<=604800
 save: -7200<=x.save/\x.save<=7200
theorem j3x{x:RuleD}(h:jbm x=true):RuleR x:=by
 unfold jbm at h
 simp only[Bool.and_eq_true]at h
 obtain⟨_,_,_,hm,_,ha,_,hs,_⟩:=h
 exact⟨jbw hm,jbw ha,jbw hs⟩
theorem j8i{y m:Int}{s:ByteArray}(hy:ymB y m=true):moV y m s= -1000000\/(-800000<=moV y m s/\moV y m s<=3000000):=by
 have:=j4r (y:=y) (m:=m) (s:=s)
 unfold jbp at this
 rw[hy,if_pos rfl,jlz hy]at this
 exact this
theorem j4f{y m:Int}(h1:1960<=y)(h2:y<=2037)(h3:1<=m)(h4:m<=12):ymB y m=true:=by
 unfold ymB
 simp
 omega
def j9i(r:RelD)(nm:ByteArray)(s:List WallD)(b:Bool):Prop:=((jb1 nm r.rules r.rules.length).length<=2000/\b=true/\SrtOf (jb1 nm r.rules r.rules.length) s)\/(¬(jb1 nm r.rules r.rules.length).length<=2000/\b=false/\s=[])
end
section
open Go.RowKit
def jf7(x:RuleD)(wall off save:Int):HapD:=⟨if (x.of.toList==[115])=true then wall-off else if (x.of.toList==[119])=true then wall-off-save else wall,x.save,x.letter⟩
theorem j8z{x:RuleD}{wall off save:Int}(h:(x.of.toList==[115])=true):jf7 x wall off save=⟨wall-off,x.save,x.letter⟩:=by unfold jf7;rw[if_pos h]
theorem j8x{x:RuleD}{wall off save:Int}(h:(x.of.toList==[115])=false)(h2:(x.of.toList==[119])=true):jf7 x wall off save=⟨wall-off-save,x.save,x.letter⟩:=by unfold jf7;rw[if_neg (by rw[h];simp),if_pos h2]
theorem j8y{x:RuleD}{wall off save:Int}(h:(x.of.toList==[115])=false)(h2:(x.of.toList==[119])=false):jf7 x wall off save=⟨wall,x.save,x.letter⟩:=by unfold jf7;rw[if_neg (by rw[h];simp),if_neg (by rw[h2];simp)]
def jd0(l:List RuleD)(off:Int)(st:List HapD × Int)(m:WallD):List HapD × Int:=match l[m.place]? with
 |some x=>(st.1++[jf7 x m.wall off st.2],x.save)
 |none=>st
def jcg(l:List RuleD)(off:Int)(s:List WallD):List HapD × Int:=s.foldl (jd0 l off) ([],0)
theorem jll{l:List RuleD}{off:Int}{s:List WallD}{k:Nat}{m:WallD}{x:RuleD}(hm:s[k]? =some m)(hx:l[m.place]? =some x):jcg l off (s.take (k+1))=((jcg l off (s.take k)).1++[jf7 x m.wall off (jcg l off (s.take k)).2],x.save):=by
 unfold jcg
 rw[List.take_add_one,hm,List.foldl_append]
 show jd0 l off _ m=_
 unfold jd0
 rw[hx]
theorem jyk{l:List RuleD}{off:Int}{s:List WallD}(h:∀m∈s,m.place<l.length):∀k,k<=s.length->(jcg l off (s.take k)).1.length=k:=by
 intro k
 induction k with
 |zero=>intro _;rfl
 |succ k ih=>
  intro hk
  obtain⟨m,hm⟩:∃m,s[k]? =some m:=⟨_,List.getElem?_eq_getElem (by omega)⟩
  obtain⟨x,hx⟩:∃x,l[m.place]? =some x:=⟨_,List.getElem?_eq_getElem (h m (List.mem_of_getElem? hm))⟩
  rw[jll hm hx,List.length_append,ih (by omega)];rfl
theorem jud{l:List RuleD}{off:Int}{s:List WallD}(h:∀m∈s,m.place<l.length)(hs:∀x∈l, -7200<=x.save/\x.save<=7200):∀k,k<=s.length-> -7200<=(jcg l off (s.take k)).2/\(jcg l off (s.take k)).2<=7200:=by
 intro k
 induction k with
 |zero=>intro _;exact⟨by simp[jcg],by simp[jcg]⟩
 |succ k ih=>
  intro hk
  obtain⟨m,hm⟩:∃m,s[k]? =some m:=⟨_,List.getElem?_eq_getElem (by omega)⟩
  obtain⟨x,hx⟩:∃x,l[m.place]? =some x:=⟨_,List.getElem?_eq_getElem (h m (List.mem_of_getElem? hm))⟩
  rw[jll hm hx]
  exact hs x (List.mem_of_getElem? hx)
theorem js6{i:Nat}{x:RuleD}{y:Int}(hx:RuleR x){m:WallD}:∀{n:Nat},1960<=y->y+n<=2038->m∈wallsN i x y n->m.place=i/\ -100000000000<=m.wall/\m.wall<=300000000000:=by
 intro n
 induction n with
 |zero=>intro _ _ h;simp[wallsN]at h
 |succ n ih=>
  intro h1 h2 h
  rw[wallsN,List.mem_append]at h
  rcases h with h|h
  ·exact ih h1 (by omega) h
  ·have hb:=j8i (s:=x.on) (j4f (y:=y+n) (m:=x.month) (by omega) (by omega) hx.month.1 hx.month.2)
   have ha:=hx.at_
   unfold jec at h
   split at h
   ·simp at h
   ·rename_i hne
    simp at h
    subst h
    refine⟨rfl,?_,?_⟩
    ·show -100000000000<=86400*moV (y+n) x.month x.on+x.at_
     omega
    ·show 86400*moV (y+n) x.month x.on+x.at_<=300000000000
     omega
theorem j49{l s:List WallD}(h:SrtOf l s){m:WallD}(hm:m∈s):m∈l:=by
 have:m∈atW m.wall s:=List.mem_filter.mpr ⟨hm,by simp⟩
 rw[h.at_]at this
 exact(List.mem_filter.mp this).1
theorem j1r:(Tryz.prog.info? 358).map (fun i=>(i.zero,i.size,i.bytes))=some (some (.agg #[.int .i64 0,.int .i64 0,.string ⟨#[]⟩]),3,32):=by kernel_rfl
theorem j6g{P:List HapD}:∀r∈P.map HapD.cs,r.length=3:=fun r hr=>by
 obtain⟨x,_,rfl⟩:=List.mem_map.mp hr;rfl
def Jf(w:World)(base:Nat)(v:Value)(P:List HapD):Prop:=w.ownsRow base 358 3 v P.length (P.map HapD.cs).flatten
theorem Jf.add{w:World}{base:Nat}{v:Value}{P:List HapD}{p:HapD}(h:w.ownsRow base 358 3 v (P.length+1) ((P.map HapD.cs).flatten++p.cs)):Jf w base v (P++[p]):=by
 unfold Jf
 rw[List.length_append,List.map_append,List.flatten_append]
 simpa using h
def j9m(r:RelD)(nm:ByteArray)(off:Int)(H:List HapD)(b:Bool):Prop:=∃s,j9i r nm s b/\H=(jcg r.rules off s).1
end
end Go.Proofs.YtofdpfpdocpbpaaGreatDoor
