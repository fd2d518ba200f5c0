import Derived.Test.YtbbgeelamjmgaaaGreatDoorSGd
import Derived.Test.YtbbgeelamjmgaaaGreatDoorSLd
set_option maxHeartbeats 0
set_option linter.unusedSimpArgs false
open Go.RowKit Go.Sort
namespace Go.Proofs.YtbbgeelamjmgaaaGreatDoor
variable{L:List Ze}{w w' w1:World}{B base ca cap cb cc g k n o p size:Nat}{e t:TypeId}{tv v zv:Value}{xs:List Value}{r:ZW}{a b c:Option Addr}{zs:List ByteArray}{ts:List MW}{y z:ByteArray}
def MW.cs(t:MW):List Value:=[U t.a t.n t.c,J t.code]
theorem jkr{L:List MW}:∀r∈L.map MW.cs,r.length=2:=λr hr=>by
 obtain⟨x,_,rfl⟩:=List.mem_map.1 hr;rfl
def InC(p:Nat)(zv tv:Value)(g:Nat):Prop:=g=p\/zv.ownBlock=some g\/tv.ownBlock=some g
structure Zk(w:World)(B p:Nat)(r:ZW)(a b c:Option Addr)(ca cb cc:Nat)(zv tv:Value)(zs:List ByteArray)(ts:List MW):Prop where
 v:Zh w p [U a r.Vv.length ca,U b r.YU.length cb,U c r.YW.length cc,zv,tv]
 typ:∃cs,w.heap[p]? =some (G cs 127 (0,0))
 hp:B<=p
 zo:w.ownsRow B 9 1 zv zs.length (zs.map Value.string)
 vR:w.ownsRow B 160 2 tv ts.length (ts.map MW.cs).flatten
 tab:∀(i:Nat) z t,zs[i]? =some z->ts[i]? =some t->Jg w t (uC r z)
theorem jby(h:w.ownsRow base e size v n xs)(hg:v.ownBlock=some g):∃cs,w.heap[g]? =some (G cs e (0,0)):=by
 rcases h.2 with⟨rfl,_⟩|⟨g2,cap,cur,rfl,_,hh,_⟩
 .cases hg
 .injection hg with hg
  have h3:g2=g:=hg;subst h3;exact⟨cur,hh⟩
theorem jeu{q:Nat}{s:TypeId}(h:∃cs,w.heap[p]? =some (G cs s (0,0)))(h2:∃cs,w.heap[q]? =some (G cs t (0,0)))(az:s≠t):p≠q:=by
 rintro rfl;have⟨c1,h1⟩:=h;have⟨c2,h2⟩:=h2;rw[h1]at h2;injection h2 with h2
 injection h2 with _ h3
 exact az h3
theorem jkq(h:∃cs,w.heap[p]? =some (G cs t (0,0))):p<w.heap.size:=by
 have⟨cs,h⟩:=h;exact(Array.getElem?_eq_some_iff.1 h).1
theorem jrb{S:Nat->Prop}(h:∃cs,w.heap[p]? =some (G cs t (0,0)))(hf:Fr S w w')(hs:¬S p):∃cs,w'.heap[p]? =some (G cs t (0,0)):=by
 have hl:=jkq h;have⟨cs,h⟩:=h;exact⟨cs,(hf.block p hl hs).trans h⟩
theorem Zk.kind(h:Zk w B p r a b c ca cb cc zv tv zs ts){g:Nat}(hg:InC p zv tv g):∃t,(∃cs,w.heap[g]? =some (G cs t (0,0)))/\(t=127\/t=9\/t=160):=by
 rcases hg with rfl|hg|hg
 .exact⟨_,h.typ,.inl rfl⟩
 .exact⟨_,jby h.zo hg,.inr (.inl rfl)⟩
 .exact⟨_,jby h.vR hg,.inr (.inr rfl)⟩
theorem Zk.low(h:Zk w B p r a b c ca cb cc zv tv zs ts){g:Nat}(hg:InC p zv tv g):B<=g:=by
 rcases hg with rfl|hg|hg
 .exact h.hp
 .exact(World.ownsRow.lt h.zo g hg).1
 .exact(World.ownsRow.lt h.vR g hg).1
theorem Zk.not(h:Zk w B p r a b c ca cb cc zv tv zs ts){g:Nat}{t:TypeId}(hg:∃cs,w.heap[g]? =some (G cs t (0,0)))(h1:t≠127)(h2:t≠9)(h3:t≠160):¬InC p zv tv g:=λhi=>by
 have⟨t2,hc,hk⟩:=h.kind hi;rcases hk with rfl|rfl|rfl
 .exact jeu hg hc h1 rfl
 .exact jeu hg hc h2 rfl
 .exact jeu hg hc h3 rfl
theorem Zh.fr{S:Nat->Prop}{b:Nat}{l:List Value}(h:Zh w b l)(hf:Fr S w w')(hs:¬S b):Zh w' b l:=λi u hu=>by
 have⟨h1,h2⟩:=h i u hu;exact⟨hf.cell hs h1,(hf.frozen (ZI h1) hs).trans h2⟩
theorem Jg.fr{S:Nat->Prop}{t:MW}{x:Int × List ZK}(h:Jg w t x)(hf:Fr S w w')(az:∀b,(∃cs,w.heap[b]? =some (G cs 195 (0,0)))->¬S b):Jg w' t x:=by
 refine⟨h.code,h.n,?_,λb o hb=>jrb (h.typ b o hb) hf (az b (h.typ b o hb))⟩;rcases h.seq with h0|⟨b,o,ha,hc⟩
 .exact .inl h0
 .exact .inr ⟨b,o,ha,λi j r c hr hj=>hf.cell (az b (h.typ b o ha)) (hc i j r c hr hj)⟩
theorem Zk.fr{S:Nat->Prop}(h:Zk w B p r a b c ca cb cc zv tv zs ts)(hf:Fr S w w')(hd:∀g,InC p zv tv g->¬S g)(ht:∀g,(∃cs,w.heap[g]? =some (G cs 195 (0,0)))->¬S g):Zk w' B p r a b c ca cb cc zv tv zs ts:=
 ⟨h.v.fr hf (hd p (.inl rfl)),jrb h.typ hf (hd p (.inl rfl)),h.hp,jcm h.zo hf (λg hg=>hd g (.inr (.inl hg))),jcm h.vR hf (λg hg=>hd g (.inr (.inr hg))),λi z t hz eH=>(h.tab i z t hz eH).fr hf ht⟩
theorem Zk.below(h:Zk w B p r a b c ca cb cc zv tv zs ts)(hb:Bw w w'):Zk w' B p r a b c ca cb cc zv tv zs ts:=
 h.fr (Fr.of_below (S:=λ_=>False) hb) (λ_ _=>id) (λ_ _=>id)
theorem jvi(h:∃cs,w.heap[p]? =some (G cs t (0,0))):∃cs,(w.setCell (O p o) v).heap[p]? =some (G cs t (0,0)):=by
 have⟨cs,hc⟩:=h;exact⟨_,heap_setCell_same w p o cs t v hc⟩
theorem jgv(h:w.ownsRow base e size v n xs)(hp:∃cs,w.heap[p]? =some (G cs t (0,0)))(az:e≠t):some p≠v.ownBlock:=λhg=>jeu (jby h hg.symm) hp az rfl
theorem jw6{S:Nat->Prop}(h:Fr S w w')(hp:S p\/w.heap.size<=p):Fr S w (w'.setCell (O p o) v):=by
 refine⟨h.os,h.tape,h.output,by rw[World.size_setCell];exact h.size,λb hb hs=>?_⟩;rw[Below.heap_setCell _ _ _ _ (λe=>?_)]
 .exact h.block b hb hs
 .have e2:b=p:=e
  subst e2;rcases hp with hp|hp
  .exact hs hp
  .omega
theorem Zk.vh5{oO:Value}(h:Zk w B p r a b c ca cb cc zv tv zs ts)(hl:ts.length=zs.length)(hg:w.grownBy w1 zv.ownBlock)(ho:w1.ownsRow B 9 1 oO (zs.length+1) (zs.map Value.string++[I z])):
  Zk (w1.setCell (O p 3) oO) B p r a b c ca cb cc oO tv (zs++[z]) ts/\Fr (InC p zv tv) w (w1.setCell (O p 3) oO):=by
 have f1:=Fr.vaT hg;have np:¬zv.ownBlock=some p:=λe=>jgv h.zo h.typ RN e.symm
 have t1:=jrb h.typ f1 np;have v1:=h.v.fr f1 np;have o1:=jcm h.vR f1 (λg hg e=>jeu (jby h.vR hg) (jby h.zo e) RN rfl);have T1:∀(i:Nat) z t,zs[i]? =some z->ts[i]? =some t->Jg w1 t (uC r z):=λi z t hz ht=>(h.tab i z t hz ht).fr f1 (λg hg e=>jeu hg (jby h.zo e) RN rfl)
 have vGG:=jem w1 p 3 oO;refine⟨⟨v1.set _,jvi t1,h.hp,?_,World.ownsRow.kept o1 vGG (.inr (Ne.symm (jgv o1 t1 RN))),λi z2 t hz ht=>?_⟩,jw6 (f1.mono λg _ e=>.inr (.inl e)) (.inl (.inl rfl))⟩
 .have:=World.ownsRow.kept ho vGG (.inr (Ne.symm (jgv ho t1 RN)))
  simpa using this
 .have hi:i<ts.length:=(List.getElem?_eq_some_iff.1 ht).1
  rw[N9 Q]at hz;exact(T1 i z2 t hz ht).fr (Fr.vaT vGG) (λg hg e=>jeu hg t1 RN (by injection e with e;exact e.symm))
theorem Zk.vh4{nk:Value}{t:MW}(h:Zk w B p r a b c ca cb cc zv tv (zs++[z]) ts)(hl:ts.length=zs.length)(hE:Jg w t (uC r z))(hg:w.grownBy w1 tv.ownBlock)(ho:w1.ownsRow B 160 2 nk (ts.length+1) ((ts.map MW.cs).flatten++t.cs)):
  Zk (w1.setCell (O p 4) nk) B p r a b c ca cb cc zv nk (zs++[z]) (ts++[t])/\Fr (InC p zv tv) w (w1.setCell (O p 4) nk):=by
 have f1:=Fr.vaT hg;have np:¬tv.ownBlock=some p:=λe=>jgv h.vR h.typ RN e.symm
 have t1:=jrb h.typ f1 np;have v1:=h.v.fr f1 np;have o1:=jcm h.zo f1 (λg hg e=>jeu (jby h.zo hg) (jby h.vR e) RN rfl);have K1:∀{t:MW} {x:Int × List ZK},Jg w t x->Jg w1 t x:=λhE=>hE.fr f1 (λg hg e=>jeu hg (jby h.vR e) RN rfl)
 have vGG:=jem w1 p 4 nk;have K2:∀{t:MW} {x:Int × List ZK},Jg w1 t x->Jg (w1.setCell (O p 4) nk) t x:=λhE=>hE.fr (Fr.vaT vGG) (λg hg e=>jeu hg t1 RN (by injection e with e;exact e.symm))
 refine⟨⟨v1.set _,jvi t1,h.hp,World.ownsRow.kept o1 vGG (.inr (Ne.symm (jgv o1 t1 RN))),?_,λi z2 t2 hz ht=>?_⟩,jw6 (f1.mono λg _ e=>.inr (.inr e)) (.inl (.inl rfl))⟩
 .have:=World.ownsRow.kept ho vGG (.inr (Ne.symm (jgv ho t1 RN)))
  rw[FB,MZ,List.flatten_append]
  simpa using this
 .rcases Nat.lt_or_ge i ts.length with hi|hi
  .rw[N9 hi]at ht
   exact K2 (K1 (h.tab i z2 t2 hz ht))
  .rw[List.getElem?_append_right hi]at ht
   rw[List.getElem?_append_right Q]at hz;have e0:i-ts.length=0:=by
    rcases Nat.eq_zero_or_pos (i-ts.length)with e|e
    .exact e
    .rw[List.getElem?_eq_none RO]at ht;cases ht
   rw[e0]at ht;rw[<- hl,e0]at hz;simp only[List.getElem?_cons_zero,Option.some.injEq]at ht hz;subst ht hz;exact K2 (K1 hE)
def jet(zs:List ByteArray)(z:ByteArray):Nat->Int
 |0=> -1
 |k+1=>match zs[k]? with
  |some y=>if (y.toList==z.toList)=true then(k:Int)else jet zs z k
  |none=>jet zs z k
theorem job(hy:zs[k]? =some y)(h:(y.toList==z.toList)=true):jet zs z (k+1)=k:=by rw[jet,hy];simp only;rw[if_pos h]
theorem jr0(hy:zs[k]? =some y)(h:(y.toList==z.toList)=false):jet zs z (k+1)=jet zs z k:=by rw[jet,hy];simp only;rw[if_neg (by rw[h];simp)]
theorem jl9(zs:List ByteArray)(z:ByteArray):∀n,jet zs z n= -1\/∃j:Nat,jet zs z n=j/\zs[j]? =some z
 |0=>.inl rfl
 |n+1=>by
  cases hy:zs[n]? with
  |none=>
   rw[jet,hy];exact jl9 zs z n
  | some y=>
   cases hb:(y.toList==z.toList)
   .rw[jr0 hy hb]
    exact jl9 zs z n
   .refine .inr ⟨n,job hy hb,?_⟩
    have e:=eq_of_beq hb;rw[vbh,vbh]at e;rw[hy,j0m e]
structure vcs(B p:Nat)(r:ZW)(a b c:Option Addr)(ca cb cc:Nat)(zv tv:Value)(zs:List ByteArray)(e:Ze)(w:World)(q:Ending)(w':World):Prop where
 ex:q=V (.tuple #[J (vai r e).1,.bool (vai r e).2])
 cache:∃oO nk DU GX,Zk w' B p r a b c ca cb cc oO nk DU GX/\GX.length=DU.length/\DU.length<=zs.length+1/\∀g,InC p oO nk g->InC p zv tv g\/w.heap.size<=g
 fr:Fr (InC p zv tv) w w'
theorem Jb.below(h:Jb w base v L)(hb:Bw w w'):Jb w' base v L:=uZ h hb
theorem Jb.seq{P:List Ze}(h:Jb w base v P):∃a cap,v=.slice a P.length cap/\Za w a 6 (P.map Ze.cs):=by
 obtain⟨a,cap,h1,h2,h3⟩:=jbe (rows:=P.map Ze.cs) (by rw[BX];exact h) jbl;rw[BX]at h1 h3;exact⟨a,cap,h1,h2⟩
theorem jf0{c:Nat}(h:Jb w B (so g n c) L){i:Nat}{x:Ze}(hx:L[i]? =some x):w.cell? (O g (i*6))=some (J x.id)/\w.cell? (O g (i*6+1))=some (I x.name)/\w.cell? (O g (i*6+2))=some (I x.YZ)/\w.cell? (O g (i*6+3))=some (J x.YV)/\w.cell? (O g (i*6+4))=some (J x.Zz)/\w.cell? (O g (i*6+5))=some (J x.Zu):=by
 have hr:(L.map Ze.cs)[i]? =some x.cs:=by rw[Z8,hx];rfl
 have hl:∀r∈L.map Ze.cs,r.length=6:=λr hr=>by obtain⟨y,_,rfl⟩:=List.mem_map.1 hr;rfl
 exact⟨h.cell (ja3 hl (i:=i) (j:=0) hr rfl),h.cell (ja3 hl (i:=i) (j:=1) hr rfl),h.cell (ja3 hl (i:=i) (j:=2) hr rfl),h.cell (ja3 hl (i:=i) (j:=3) hr rfl),h.cell (ja3 hl (i:=i) (j:=4) hr rfl),h.cell (ja3 hl (i:=i) (j:=5) hr rfl)⟩
theorem jev(hg:base<=g):∀(L:List Value) (o:Nat) (w w':World),Below base w w'->Below base w (w'.setCells g o L)
 |[],_,_,_,h=>h
 |v::L,o,w,_,h=>jev hg L (o+1) w _ (h.setCell (p:=⟨g,o,none⟩) hg v)
theorem vfN:∀(L:List Value) (o:Nat) (w:World) (A B vCC:List Value),w.ownsRow base e size (so g n cap) n (A++B++vCC)->A.length=o->B.length=L.length->(w.setCells g o L).ownsRow base e size (so g n cap) n (A++L++vCC)
 |[],o,w,A,B,vCC,h,_,hB=>by
  obtain rfl:B=[]:=List.length_eq_zero_iff.mp hB;exact h
 |v::L,o,w,A,[],vCC,h,_,hB=>by simp at hB
 |v::L,o,w,A,b::B,vCC,h,hA,hB=>by
  have h2:=(World.ownsRow.stored h o v).1;rw[show(A++b::B++vCC).set o v=A++[v]++B++vCC by subst hA;simp]at h2;have:=vfN L (o+1) _ (A++[v]) B vCC h2 (by simp[hA]) (by simpa using hB);rw[show A++v::L++vCC=A++[v]++L++vCC by simp];exact this
theorem Jb.put{vCC:List Ze}(h:Jb w base (so g n cap) vCC)(hn:n=vCC.length)(i:Nat)(hi:i<n)(y:Ze):Jb (w.setCells g (i*6) y.cs) base (so g n cap) (vCC.set i y):=by
 subst hn;have hs:vCC=vCC.take i++vCC[i]::vCC.drop (i+1):=M;have h1:w.ownsRow base 33 6 (so g vCC.length cap) vCC.length (((vCC.take i).map Ze.cs).flatten++(vCC[i]).cs++((vCC.drop (i+1)).map Ze.cs).flatten):=by
  have h2:=h;unfold Jb at h2
  rw[show(vCC.map Ze.cs).flatten=((vCC.take i).map Ze.cs).flatten++(vCC[i]).cs++((vCC.drop (i+1)).map Ze.cs).flatten by
   conv=>lhs;rw[hs,MZ,List.flatten_append,List.map_cons,List.flatten_cons]
   rw[List.append_assoc]]at h2
  exact h2
 have h3:=vfN y.cs (i*6) w _ _ _ h1 (by rw[ja6 jbl,BX,List.length_take,Nat.min_eq_left (Nat.le_of_lt hi)]) rfl
 show World.ownsRow _ _ _ _ _ _ _
 rw[List.length_set,List.set_eq_take_append_cons_drop,if_pos hi]
 simpa using h3
theorem jjq{w2:World}(hv:Zh w2 p [U a r.Vv.length ca,U b r.YU.length cb,U c r.YW.length cc,nS,nS])(ht:∃cs,w2.heap[p]? =some (G cs 127 (0,0)))(hp:B<=p):Zk w2 B p r a b c ca cb cc nS nS [] []:=
 ⟨hv,ht,hp,World.ownsRow_nil _ _ _ _,World.ownsRow_nil _ _ _ _,λi z t hz=>by simp at hz⟩
theorem vd9{p:Prop}(h:p):Hid p:=h
theorem j06(w:World)(o p:Obj):(w.alloc o).heap.size=w.heap.size+1/\((w.alloc o).alloc p).heap.size=w.heap.size+1+1/\Bw w ((w.alloc o).alloc p):=⟨M,M,(ZA _ _).alloc M _⟩
theorem juv(w:World)(L:List Value)(t:TypeId):∃x,(w.alloc (G L.toArray t)).alloc (G #[] 76)=x/\Bw w x/\Zh x w.heap.size L/\Zb x (w.heap.size+1) (U (some (O (w.heap.size+1) 0)) 0 0) []/\x.heap.size=w.heap.size+1+1:=by
 have⟨e,z,b⟩:=j06 w (G L.toArray t) (G #[] 76);have h:=ja5 (w.alloc (G L.toArray t)) 76 2;rw[e]at h;exact⟨_,rfl,b,(Zh.new w L t).below (ZA _ _),h,z⟩
theorem jkx(h:w.ownsRow base e size v n xs):∃a c,v=U a n c/\(0<n->∃g,a=some (O g 0)):=by
 rcases h.2 with⟨rfl,rfl⟩|⟨g,cap,cur,rfl,_⟩
 .exact⟨none,0,rfl,λh=>Q⟩
 .exact⟨_,cap,rfl,λ_=>⟨g,rfl⟩⟩
theorem jvv(w:World)(L:List Value):∃x,w.alloc (G L.toArray 127)=x/\Bw w x/\Zh x w.heap.size L/\(∃cs,x.heap[w.heap.size]? =some (G cs 127 (0,0)))/\x.heap.size=w.heap.size+1:=
 ⟨_,rfl,ZA _ _,Zh.new w L _,⟨_,heap_alloc_new w _⟩,M⟩
