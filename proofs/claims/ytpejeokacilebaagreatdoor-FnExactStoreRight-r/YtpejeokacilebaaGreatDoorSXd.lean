import Derived.Test.YtpejeokacilebaaGreatDoorSGd
import Derived.Test.YtpejeokacilebaaGreatDoorSLd
set_option maxHeartbeats 0
set_option linter.unusedSimpArgs false
open Go.RowKit Go.Sort
namespace Go.Proofs.YtpejeokacilebaaGreatDoor
def TOut.cs(t:TOut):List Value:=[.slice t.a t.n t.c,iv t.code]
theorem jkr{L:List TOut}:∀r∈L.map TOut.cs,r.length=2:=fun r hr=>by
 obtain⟨x,_,rfl⟩:=List.mem_map.1 hr
 rfl
def InC(p:Nat)(zv tv:Value)(g:Nat):Prop:=g=p\/zv.ownBlock=some g\/tv.ownBlock=some g
structure Zk(w:World)(B p:Nat)(r:RelD)(a b c:Option Addr)(ca cb cc:Nat)(zv tv:Value)(zs:List ByteArray)(ts:List TOut):Prop where
 v:Zh w p [.slice a r.rules.length ca,.slice b r.zones.length cb,.slice c r.links.length cc,zv,tv]
 typ:∃cs,w.heap[p]? =some (.cells cs 94 (0,0))
 hp:B<=p
 zo:w.ownsRow B 9 1 zv zs.length (zs.map Value.string)
 to_:w.ownsRow B 140 2 tv ts.length (ts.map TOut.cs).flatten
 tab:∀(i:Nat) z t,zs[i]? =some z->ts[i]? =some t->Jg w t (tabD r z)
theorem jby{w:World}{base g:Nat}{e:TypeId}{size:Nat}{v:Value}{n:Nat}{xs:List Value}(h:w.ownsRow base e size v n xs)(hg:v.ownBlock=some g):∃cs,w.heap[g]? =some (.cells cs e (0,0)):=by
 rcases h.2 with⟨rfl,_⟩|⟨g2,cap,cur,rfl,_,hh,_⟩
 ·cases hg
 ·injection hg with hg
  have h3:g2=g:=hg
  subst h3
  exact⟨cur,hh⟩
theorem jeu{w:World}{p q:Nat}{s t:TypeId}(h:∃cs,w.heap[p]? =some (.cells cs s (0,0)))(h2:∃cs,w.heap[q]? =some (.cells cs t (0,0)))(az:s≠t):p≠q:=by
 rintro rfl
 obtain⟨c1,h1⟩:=h
 obtain⟨c2,h2⟩:=h2
 rw[h1]at h2
 injection h2 with h2
 injection h2 with _ h3
 exact az h3
theorem jkq{w:World}{p:Nat}{t:TypeId}(h:∃cs,w.heap[p]? =some (.cells cs t (0,0))):p<w.heap.size:=by
 obtain⟨cs,h⟩:=h
 exact(Array.getElem?_eq_some_iff.1 h).1
theorem jrb{S:Nat->Prop}{w w':World}{p:Nat}{t:TypeId}(h:∃cs,w.heap[p]? =some (.cells cs t (0,0)))(hf:Fr S w w')(hs:¬S p):∃cs,w'.heap[p]? =some (.cells cs t (0,0)):=by
 have hl:=jkq h
 obtain⟨cs,h⟩:=h
 exact⟨cs,(hf.block p hl hs).trans h⟩
theorem Zk.kind{w:World}{B p:Nat}{r:RelD}{a b c:Option Addr}{ca cb cc:Nat}{zv tv:Value}{zs:List ByteArray}{ts:List TOut}(h:Zk w B p r a b c ca cb cc zv tv zs ts){g:Nat}(hg:InC p zv tv g):∃t,(∃cs,w.heap[g]? =some (.cells cs t (0,0)))/\(t=94\/t=9\/t=140):=by
 rcases hg with rfl|hg|hg
 ·exact⟨_,h.typ,.inl rfl⟩
 ·exact⟨_,jby h.zo hg,.inr (.inl rfl)⟩
 ·exact⟨_,jby h.to_ hg,.inr (.inr rfl)⟩
theorem Zk.low{w:World}{B p:Nat}{r:RelD}{a b c:Option Addr}{ca cb cc:Nat}{zv tv:Value}{zs:List ByteArray}{ts:List TOut}(h:Zk w B p r a b c ca cb cc zv tv zs ts){g:Nat}(hg:InC p zv tv g):B<=g:=by
 rcases hg with rfl|hg|hg
 ·exact h.hp
 ·exact(World.ownsRow.lt h.zo g hg).1
 ·exact(World.ownsRow.lt h.to_ g hg).1
theorem Zk.not{w:World}{B p:Nat}{r:RelD}{a b c:Option Addr}{ca cb cc:Nat}{zv tv:Value}{zs:List ByteArray}{ts:List TOut}(h:Zk w B p r a b c ca cb cc zv tv zs ts){g:Nat}{t:TypeId}(hg:∃cs,w.heap[g]? =some (.cells cs t (0,0)))(h1:t≠94)(h2:t≠9)(h3:t≠140):¬InC p zv tv g:=fun hi=>by
 obtain⟨t2,hc,hk⟩:=h.kind hi
 rcases hk with rfl|rfl|rfl
 ·exact jeu hg hc h1 rfl
 ·exact jeu hg hc h2 rfl
 ·exact jeu hg hc h3 rfl
theorem Zh.fr{S:Nat->Prop}{w w':World}{b:Nat}{l:List Value}(h:Zh w b l)(hf:Fr S w w')(hs:¬S b):Zh w' b l:=fun i u hu=>by
 obtain⟨h1,h2⟩:=h i u hu
 exact⟨hf.cell hs h1,(hf.frozen (qbl h1) hs).trans h2⟩
theorem Jg.fr{S:Nat->Prop}{w w':World}{t:TOut}{x:Int × List TurnD}(h:Jg w t x)(hf:Fr S w w')(az:∀b,(∃cs,w.heap[b]? =some (.cells cs 167 (0,0)))->¬S b):Jg w' t x:=by
 refine⟨h.code,h.n,?_,fun b o hb=>jrb (h.typ b o hb) hf (az b (h.typ b o hb))⟩
 rcases h.seq with h0|⟨b,o,ha,hc⟩
 ·exact .inl h0
 ·exact .inr ⟨b,o,ha,fun i j r c hr hj=>hf.cell (az b (h.typ b o ha)) (hc i j r c hr hj)⟩
theorem Zk.fr{S:Nat->Prop}{w w':World}{B p:Nat}{r:RelD}{a b c:Option Addr}{ca cb cc:Nat}{zv tv:Value}{zs:List ByteArray}{ts:List TOut}(h:Zk w B p r a b c ca cb cc zv tv zs ts)(hf:Fr S w w')(hd:∀g,InC p zv tv g->¬S g)(ht:∀g,(∃cs,w.heap[g]? =some (.cells cs 167 (0,0)))->¬S g):Zk w' B p r a b c ca cb cc zv tv zs ts:=
 ⟨h.v.fr hf (hd p (.inl rfl)),jrb h.typ hf (hd p (.inl rfl)),h.hp,jcm h.zo hf (fun g hg=>hd g (.inr (.inl hg))),jcm h.to_ hf (fun g hg=>hd g (.inr (.inr hg))),fun i z t hz eH=>(h.tab i z t hz eH).fr hf ht⟩
theorem Zk.below{w w':World}{B p:Nat}{r:RelD}{a b c:Option Addr}{ca cb cc:Nat}{zv tv:Value}{zs:List ByteArray}{ts:List TOut}(h:Zk w B p r a b c ca cb cc zv tv zs ts)(hb:Bw w w'):Zk w' B p r a b c ca cb cc zv tv zs ts:=
 h.fr (Fr.of_below (S:=fun _=>False) hb) (fun _ _=>id) (fun _ _=>id)
theorem jvi{w:World}{p o:Nat}{t:TypeId}{v:Value}(h:∃cs,w.heap[p]? =some (.cells cs t (0,0))):∃cs,(w.setCell (ad p o) v).heap[p]? =some (.cells cs t (0,0)):=by
 obtain⟨cs,hc⟩:=h
 exact⟨_,heap_setCell_same w p o cs t v hc⟩
theorem jgv{w:World}{base p:Nat}{e t:TypeId}{size:Nat}{v:Value}{n:Nat}{xs:List Value}(h:w.ownsRow base e size v n xs)(hp:∃cs,w.heap[p]? =some (.cells cs t (0,0)))(az:e≠t):some p≠v.ownBlock:=fun hg=>jeu (jby h hg.symm) hp az rfl
theorem jw6{S:Nat->Prop}{w w':World}{p o:Nat}{v:Value}(h:Fr S w w')(hp:S p\/w.heap.size<=p):Fr S w (w'.setCell (ad p o) v):=by
 refine⟨h.os,h.tape,h.output,by rw[World.size_setCell];exact h.size,fun b hb hs=>?_⟩
 rw[Below.heap_setCell _ _ _ _ (fun e=>?_)]
 ·exact h.block b hb hs
 ·have e2:b=p:=e
  subst e2
  rcases hp with hp|hp
  ·exact hs hp
  ·omega
theorem Zk.pushZ{w w1:World}{B p:Nat}{r:RelD}{a b c:Option Addr}{ca cb cc:Nat}{zv oO tv:Value}{zs:List ByteArray}{ts:List TOut}{z:ByteArray}(h:Zk w B p r a b c ca cb cc zv tv zs ts)(hl:ts.length=zs.length)(hg:w.grownBy w1 zv.ownBlock)(ho:w1.ownsRow B 9 1 oO (zs.length+1) (zs.map Value.string++[.string z])):
  Zk (w1.setCell (ad p 3) oO) B p r a b c ca cb cc oO tv (zs++[z]) ts/\Fr (InC p zv tv) w (w1.setCell (ad p 3) oO):=by
 have f1:=Fr.of_grown hg
 have np:¬zv.ownBlock=some p:=fun e=>jgv h.zo h.typ (by decide) e.symm
 have t1:=jrb h.typ f1 np
 have v1:=h.v.fr f1 np
 have o1:=jcm h.to_ f1 (fun g hg e=>jeu (jby h.to_ hg) (jby h.zo e) (by decide) rfl)
 have T1:∀(i:Nat) z t,zs[i]? =some z->ts[i]? =some t->Jg w1 t (tabD r z):=fun i z t hz ht=>(h.tab i z t hz ht).fr f1 (fun g hg e=>jeu hg (jby h.zo e) (by decide) rfl)
 have G:=jem w1 p 3 oO
 refine⟨⟨v1.set _,jvi t1,h.hp,?_,World.ownsRow.kept o1 G (.inr (Ne.symm (jgv o1 t1 (by decide)))),fun i z2 t hz ht=>?_⟩,jw6 (f1.mono fun g _ e=>.inr (.inl e)) (.inl (.inl rfl))⟩
 ·have:=World.ownsRow.kept ho G (.inr (Ne.symm (jgv ho t1 (by decide))))
  simpa using this
 ·have hi:i<ts.length:=(List.getElem?_eq_some_iff.1 ht).1
  rw[lgl (by omega)]at hz
  exact(T1 i z2 t hz ht).fr (Fr.of_grown G) (fun g hg e=>jeu hg t1 (by decide) (by injection e with e;exact e.symm))
theorem Zk.pushT{w w1:World}{B p:Nat}{r:RelD}{a b c:Option Addr}{ca cb cc:Nat}{zv tv nk:Value}{zs:List ByteArray}{ts:List TOut}{z:ByteArray}{t:TOut}(h:Zk w B p r a b c ca cb cc zv tv (zs++[z]) ts)(hl:ts.length=zs.length)(hE:Jg w t (tabD r z))(hg:w.grownBy w1 tv.ownBlock)(ho:w1.ownsRow B 140 2 nk (ts.length+1) ((ts.map TOut.cs).flatten++t.cs)):
  Zk (w1.setCell (ad p 4) nk) B p r a b c ca cb cc zv nk (zs++[z]) (ts++[t])/\Fr (InC p zv tv) w (w1.setCell (ad p 4) nk):=by
 have f1:=Fr.of_grown hg
 have np:¬tv.ownBlock=some p:=fun e=>jgv h.to_ h.typ (by decide) e.symm
 have t1:=jrb h.typ f1 np
 have v1:=h.v.fr f1 np
 have o1:=jcm h.zo f1 (fun g hg e=>jeu (jby h.zo hg) (jby h.to_ e) (by decide) rfl)
 have K1:∀{t:TOut} {x:Int × List TurnD},Jg w t x->Jg w1 t x:=fun hE=>hE.fr f1 (fun g hg e=>jeu hg (jby h.to_ e) (by decide) rfl)
 have G:=jem w1 p 4 nk
 have K2:∀{t:TOut} {x:Int × List TurnD},Jg w1 t x->Jg (w1.setCell (ad p 4) nk) t x:=fun hE=>hE.fr (Fr.of_grown G) (fun g hg e=>jeu hg t1 (by decide) (by injection e with e;exact e.symm))
 refine⟨⟨v1.set _,jvi t1,h.hp,World.ownsRow.kept o1 G (.inr (Ne.symm (jgv o1 t1 (by decide)))),?_,fun i z2 t2 hz ht=>?_⟩,jw6 (f1.mono fun g _ e=>.inr (.inr e)) (.inl (.inl rfl))⟩
 ·have:=World.ownsRow.kept ho G (.inr (Ne.symm (jgv ho t1 (by decide))))
  rw[lla,lma,List.flatten_append]
  simpa using this
 ·rcases Nat.lt_or_ge i ts.length with hi|hi
  ·rw[lgl hi]at ht
   exact K2 (K1 (h.tab i z2 t2 hz ht))
  ·rw[List.getElem?_append_right hi]at ht
   rw[List.getElem?_append_right (by omega)]at hz
   have e0:i-ts.length=0:=by
    rcases Nat.eq_zero_or_pos (i-ts.length)with e|e
    ·exact e
    ·rw[List.getElem?_eq_none (by simp;omega)]at ht;cases ht
   rw[e0]at ht
   rw[<- hl,e0]at hz
   simp only[List.getElem?_cons_zero,Option.some.injEq]at ht hz
   subst ht hz
   exact K2 (K1 hE)
def jet(zs:List ByteArray)(z:ByteArray):Nat->Int
 |0=> -1
 |k+1=>match zs[k]? with
  |some y=>if (y.toList==z.toList)=true then(k:Int)else jet zs z k
  |none=>jet zs z k
theorem job{zs:List ByteArray}{z y:ByteArray}{k:Nat}(hy:zs[k]? =some y)(h:(y.toList==z.toList)=true):jet zs z (k+1)=k:=by rw[jet,hy];simp only;rw[if_pos h]
theorem jr0{zs:List ByteArray}{z y:ByteArray}{k:Nat}(hy:zs[k]? =some y)(h:(y.toList==z.toList)=false):jet zs z (k+1)=jet zs z k:=by rw[jet,hy];simp only;rw[if_neg (by rw[h];simp)]
theorem jl9(zs:List ByteArray)(z:ByteArray):∀n,jet zs z n= -1\/∃j:Nat,jet zs z n=j/\zs[j]? =some z
 |0=>.inl rfl
 |n+1=>by
  cases hy:zs[n]? with
  |none=>
   rw[jet,hy]
   exact jl9 zs z n
  | some y=>
   cases hb:(y.toList==z.toList)
   ·rw[jr0 hy hb]
    exact jl9 zs z n
   ·refine .inr ⟨n,job hy hb,?_⟩
    have e:=eq_of_beq hb
    rw[toList_dataA,toList_dataA]at e
    rw[hy,j0m e]
structure InstP(B p:Nat)(r:RelD)(a b c:Option Addr)(ca cb cc:Nat)(zv tv:Value)(zs:List ByteArray)(e:EventD)(w:World)(q:Ending)(w':World):Prop where
 ex:q=.returned (.tuple #[iv (momR r e).1,.bool (momR r e).2])
 cache:∃oO nk DU GX,Zk w' B p r a b c ca cb cc oO nk DU GX/\GX.length=DU.length/\DU.length<=zs.length+1/\∀g,InC p oO nk g->InC p zv tv g\/w.heap.size<=g
 fr:Fr (InC p zv tv) w w'
theorem Jb.below{w w':World}{base:Nat}{v:Value}{L:List EventD}(h:Jb w base v L)(hb:Bw w w'):Jb w' base v L:=jac h hb
theorem Jb.seq{w:World}{base:Nat}{v:Value}{P:List EventD}(h:Jb w base v P):∃a cap,v=.slice a P.length cap/\Za w a 6 (P.map EventD.cs):=by
 obtain⟨a,cap,h1,h2,h3⟩:=jbe (rows:=P.map EventD.cs) (by rw[llm];exact h) jbl
 rw[llm]at h1 h3
 exact⟨a,cap,h1,h2⟩
theorem jf0{w:World}{B g n c:Nat}{L:List EventD}(h:Jb w B (so g n c) L){i:Nat}{x:EventD}(hx:L[i]? =some x):w.cell? (ad g (i*6))=some (iv x.id)/\w.cell? (ad g (i*6+1))=some (.string x.name)/\w.cell? (ad g (i*6+2))=some (.string x.zone)/\w.cell? (ad g (i*6+3))=some (iv x.wall)/\w.cell? (ad g (i*6+4))=some (iv x.gap)/\w.cell? (ad g (i*6+5))=some (iv x.fold):=by
 have hr:(L.map EventD.cs)[i]? =some x.cs:=by rw[lgm,hx];rfl
 have hl:∀r∈L.map EventD.cs,r.length=6:=fun r hr=>by obtain⟨y,_,rfl⟩:=List.mem_map.1 hr;rfl
 exact⟨h.cell (ja3 hl (i:=i) (j:=0) hr rfl),h.cell (ja3 hl (i:=i) (j:=1) hr rfl),h.cell (ja3 hl (i:=i) (j:=2) hr rfl),h.cell (ja3 hl (i:=i) (j:=3) hr rfl),h.cell (ja3 hl (i:=i) (j:=4) hr rfl),h.cell (ja3 hl (i:=i) (j:=5) hr rfl)⟩
theorem jev{base g:Nat}(hg:base<=g):∀(L:List Value) (o:Nat) (w w':World),Below base w w'->Below base w (w'.setCells g o L)
 |[],_,_,_,h=>h
 |v::L,o,w,_,h=>jev hg L (o+1) w _ (h.setCell (p:=⟨g,o,none⟩) hg v)
theorem owns_puts{e:TypeId}{size base g n cap:Nat}:∀(L:List Value) (o:Nat) (w:World) (A B C:List Value),w.ownsRow base e size (so g n cap) n (A++B++C)->A.length=o->B.length=L.length->(w.setCells g o L).ownsRow base e size (so g n cap) n (A++L++C)
 |[],o,w,A,B,C,h,_,hB=>by
  obtain rfl:B=[]:=List.length_eq_zero_iff.mp hB
  exact h
 |v::L,o,w,A,[],C,h,_,hB=>by simp at hB
 |v::L,o,w,A,b::B,C,h,hA,hB=>by
  have h2:=(World.ownsRow.stored h o v).1
  rw[show(A++b::B++C).set o v=A++[v]++B++C by subst hA;simp]at h2
  have:=owns_puts L (o+1) _ (A++[v]) B C h2 (by simp[hA]) (by simpa using hB)
  rw[show A++v::L++C=A++[v]++L++C by simp]
  exact this
theorem Jb.put{w:World}{base g n cap:Nat}{C:List EventD}(h:Jb w base (so g n cap) C)(hn:n=C.length)(i:Nat)(hi:i<n)(y:EventD):Jb (w.setCells g (i*6) y.cs) base (so g n cap) (C.set i y):=by
 subst hn
 have hs:C=C.take i++C[i]::C.drop (i+1):=by simp
 have h1:w.ownsRow base 54 6 (so g C.length cap) C.length (((C.take i).map EventD.cs).flatten++(C[i]).cs++((C.drop (i+1)).map EventD.cs).flatten):=by
  have h2:=h
  unfold Jb at h2
  rw[show(C.map EventD.cs).flatten=((C.take i).map EventD.cs).flatten++(C[i]).cs++((C.drop (i+1)).map EventD.cs).flatten by
   conv=>lhs;rw[hs,lma,List.flatten_append,List.map_cons,List.flatten_cons]
   rw[List.append_assoc]]at h2
  exact h2
 have h3:=owns_puts y.cs (i*6) w _ _ _ h1 (by rw[ja6 jbl,llm,List.length_take,Nat.min_eq_left (Nat.le_of_lt hi)]) rfl
 show World.ownsRow _ _ _ _ _ _ _
 rw[List.length_set,List.set_eq_take_append_cons_drop,if_pos hi]
 simpa using h3
theorem jjq{w2:World}{B p:Nat}{r:RelD}{a b c:Option Addr}{ca cb cc:Nat}(hv:Zh w2 p [.slice a r.rules.length ca,.slice b r.zones.length cb,.slice c r.links.length cc,nS,nS])(ht:∃cs,w2.heap[p]? =some (.cells cs 94 (0,0)))(hp:B<=p):Zk w2 B p r a b c ca cb cc nS nS [] []:=
 ⟨hv,ht,hp,World.ownsRow_nil _ _ _ _,World.ownsRow_nil _ _ _ _,fun i z t hz=>by simp at hz⟩
theorem hidE{p:Prop}(h:p):Hid p:=h
theorem j06(w:World)(o p:Obj):(w.alloc o).heap.size=w.heap.size+1/\((w.alloc o).alloc p).heap.size=w.heap.size+1+1/\Bw w ((w.alloc o).alloc p):=⟨by simp,by simp,(qal _ _).alloc (by simp) _⟩
theorem juv(w:World)(L:List Value)(t:TypeId):∃x,(w.alloc (.cells L.toArray t)).alloc (.cells #[] 57)=x/\Bw w x/\Zh x w.heap.size L/\Zb x (w.heap.size+1) (.slice (some (ad (w.heap.size+1) 0)) 0 0) []/\x.heap.size=w.heap.size+1+1:=by
 obtain⟨e,z,b⟩:=j06 w (.cells L.toArray t) (.cells #[] 57)
 have h:=ja5 (w.alloc (.cells L.toArray t)) 57 2
 rw[e]at h
 exact⟨_,rfl,b,(Zh.new w L t).below (qal _ _),h,z⟩
theorem jkx{w:World}{base:Nat}{e:TypeId}{size:Nat}{v:Value}{n:Nat}{xs:List Value}(h:w.ownsRow base e size v n xs):∃a c,v=.slice a n c/\(0<n->∃g,a=some (ad g 0)):=by
 rcases h.2 with⟨rfl,rfl⟩|⟨g,cap,cur,rfl,_⟩
 ·exact⟨none,0,rfl,fun h=>by omega⟩
 ·exact⟨_,cap,rfl,fun _=>⟨g,rfl⟩⟩
theorem jvv(w:World)(L:List Value):∃x,w.alloc (.cells L.toArray 94)=x/\Bw w x/\Zh x w.heap.size L/\(∃cs,x.heap[w.heap.size]? =some (.cells cs 94 (0,0)))/\x.heap.size=w.heap.size+1:=
 ⟨_,rfl,qal _ _,Zh.new w L _,⟨_,heap_alloc_new w _⟩,by simp⟩
