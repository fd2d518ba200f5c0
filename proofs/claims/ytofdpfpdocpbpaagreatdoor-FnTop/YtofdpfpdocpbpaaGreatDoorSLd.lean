/- Packed. -/
import Derived.Test.YtofdpfpdocpbpaaGreatDoorSBd
import Derived.Test.YtofdpfpdocpbpaaGreatDoorTabPd
import Derived.Sort.Row
import Derived.Test.YtofdpfpdocpbpaaGreatDoorBasePd
import Derived.Laws.IdiomStrings
import Derived.Lib.QuietBelow
import Derived.Test.YtofdpfpdocpbpaaGreatDoorSAd
import Derived.Deep.Slices
import Derived.ProofKit
import Derived.OpenShut
import Derived.ShutString
import Derived.Lib.SmallJoins
set_option maxHeartbeats 20000000
set_option linter.unusedSimpArgs false
namespace Go.Proofs.YtofdpfpdocpbpaaGreatDoor
section
open Go.RowKit
structure Zz(S:Nat->Prop)(w w':World):Prop where
 os:w'.os=w.os
 tape:w'.tape=w.tape
 output:w'.output=w.output
 size:w.heap.size<=w'.heap.size
 block:∀b,b<w.heap.size->¬S b->w'.heap[b]? =w.heap[b]?
 room:∀g m,Room w g m->Room w' g m
theorem Zz.refl(S:Nat->Prop)(w:World):Zz S w w:=⟨rfl,rfl,rfl,Nat.le_refl _,fun _ _ _=>rfl,fun _ _ h=>h⟩
theorem Zz.set{S:Nat->Prop}{w w':World}(h:Zz S w w'){g o:Nat}(hg:S g)(v:Value):Zz S w (w'.setCell ⟨g,o,none⟩ v):=by
 refine⟨h.os,h.tape,h.output,by simpa using h.size,fun b hb hn=>?_,fun _ _ hr=>(h.room _ _ hr).set _ _⟩
 rw[<- h.block b hb hn,Go.Sort.setCell_eq]
 have hne:g≠b:=fun e=>hn (e ▸ hg)
 simp[Go.Sort.mapBlock,Array.getElem?_modify,hne]
end
section
open Go.RowKit Go.Sort
def zc(l:List ZoneD):Nat:=(l.map fun z=>1+6*z.eras.length).sum
end
section
open Go.RowKit
abbrev stA(s:Za)(a b c d e f va ia:Option Addr)(ca cb cc cd ce cf cv ci:Nat):List Value:=[.int .i64 s.tx,.slice a s.now.rules.length ca,.slice b s.now.zones.length cb,.slice c s.now.links.length cc,.slice d s.was.rules.length cd,.slice e s.was.zones.length ce,.slice f s.was.links.length cf,.int .i64 s.cur,.slice va s.vs.length cv,.slice ia s.ix.length ci]
def Zc(w:World)(b:Nat)(l:List Value):Prop:=∀(i:Nat) u,l[i]? =some u->w.cell? ⟨b,i,none⟩=some u/\w.frozen? ⟨b,i,none⟩=false
theorem Zc.below{w w':World}{b:Nat}{l:List Value}(h:Zc w b l)(hb:Below w.heap.size w w'):Zc w' b l:=fun i u hu=>by
 obtain⟨h1,h2⟩:=h i u hu
 exact⟨jab hb h1,(qfz hb h1 h2)⟩
theorem Zc.set{w:World}{b j:Nat}{l:List Value}(h:Zc w b l)(v:Value):Zc (w.setCell ⟨b,j,none⟩ v) b (l.set j v):=fun i u hu=>by
 rw[List.getElem?_set]at hu
 split at hu
 ·rename_i e
  subst e
  split at hu
  ·rename_i hl
   obtain rfl:=Option.some.inj hu
   obtain⟨x,hx⟩:=qgg hl
   obtain⟨h1,h2⟩:=h j x hx
   exact⟨World.cell?_setCell_same _ _ _ h1,by rw[World.frozen?_setCell];exact h2⟩
  ·cases hu
 ·rename_i e
  obtain⟨h1,h2⟩:=h i u hu
  exact⟨by rw[World.cell?_setCell_other _ _ _ _ (by intro h;injection h with _ h;exact e h)];exact h1,by rw[World.frozen?_setCell];exact h2⟩
theorem Zc.other{w:World}{b b2 j:Nat}{l:List Value}(h:Zc w b l)(hne:b≠b2)(v:Value):Zc (w.setCell ⟨b2,j,none⟩ v) b l:=fun i u hu=>by
 obtain⟨h1,h2⟩:=h i u hu
 exact⟨by rw[World.cell?_setCell_other _ _ _ _ (jpt (Ne.symm hne))];exact h1,by rw[World.frozen?_setCell];exact h2⟩
theorem Zc.new(w:World)(l:List Value)(t:TypeId):Zc (w.alloc (.cells l.toArray t)) w.heap.size l:=fun i u hu=>by
 have h:=ja3 w l t i u hu
 rw[addP,Nat.zero_add]at h
 have hh:=heap_alloc_new w (.cells l.toArray t)
 exact⟨h,by unfold World.frozen?;rw[hh];simp⟩
theorem bst{n:Nat}{w w2:World}(g i:Nat)(v:Value)(hg:n<=g)(h:Below n w w2):Below n w (w2.setCell ⟨g,i,none⟩ v):=h.setCell hg v
theorem Zc.c{w:World}{b:Nat}{l:List Value}(h:Zc w b l)(i:Nat){u:Value}(hu:l[i]? =some u):w.cell? ⟨b,i,none⟩=some u:=(h i u hu).1
theorem Zc.ten{w:World}{b:Nat}{p0 p1 p2 p3 p4 p5 p6 p7 p8 p9:Value}{l:List Value}(h:Zc w b (p0::p1::p2::p3::p4::p5::p6::p7::p8::p9::l)):w.cell? ⟨b,0,none⟩=some p0/\w.cell? ⟨b,1,none⟩=some p1/\w.cell? ⟨b,2,none⟩=some p2/\w.cell? ⟨b,3,none⟩=some p3/\w.cell? ⟨b,4,none⟩=some p4/\w.cell? ⟨b,5,none⟩=some p5/\w.cell? ⟨b,6,none⟩=some p6/\w.cell? ⟨b,7,none⟩=some p7/\w.cell? ⟨b,8,none⟩=some p8/\w.cell? ⟨b,9,none⟩=some p9:=⟨h.c 0 rfl,h.c 1 rfl,h.c 2 rfl,h.c 3 rfl,h.c 4 rfl,h.c 5 rfl,h.c 6 rfl,h.c 7 rfl,h.c 8 rfl,h.c 9 rfl⟩
theorem Zc.f{w:World}{b:Nat}{l:List Value}(h:Zc w b l)(i:Nat){u:Value}(hu:l[i]? =some u):w.frozen? ⟨b,i,none⟩=false:=(h i u hu).2
end
section
open Go.RowKit
theorem jo4{α:Type}{cs:α->List Value}{k:Nat}(h:∀x,(cs x).length=k)(L:List α):∀r∈L.map cs,r.length=k:=fun r hr=>by
 obtain⟨x,_,rfl⟩:=List.mem_map.1 hr
 exact h x
theorem jb2{w:World}{base:Nat}{e:TypeId}{q:Nat}{v:Value}{n:Nat}{xs:List Value}(h:w.ownsRow base e q v n xs):∃a c,v=.slice a n c:=by
 rcases h.2 with⟨h1,h2⟩|⟨_,_,_,h1,_⟩
 ·exact⟨_,_,by rw[h1,h2]⟩
 ·exact⟨_,_,h1⟩
theorem hidP{p:Prop}(h:p):Hid p:=h
theorem jti{L:List RuleD}:∀u∈(L.map RuleD.cs).flatten,u.oneCell'=true:=fun u hu=>by
 simp only[List.mem_flatten,List.mem_map]at hu
 obtain⟨r,⟨t,_,rfl⟩,hr⟩:=hu
 simp[RuleD.cs]at hr
 rcases hr with rfl|rfl|rfl|rfl|rfl|rfl|rfl|rfl|rfl<;>rfl
theorem jtr{L:List LinkD}:∀u∈(L.map LinkD.cs).flatten,u.oneCell'=true:=fun u hu=>by
 simp only[List.mem_flatten,List.mem_map]at hu
 obtain⟨r,⟨t,_,rfl⟩,hr⟩:=hu
 simp[LinkD.cs]at hr
 rcases hr with rfl|rfl<;>rfl
theorem jyt{L:List EraD}:∀u∈(L.map EraD.cs).flatten,u.oneCell'=true:=fun u hu=>by
 simp only[List.mem_flatten,List.mem_map]at hu
 obtain⟨r,⟨t,_,rfl⟩,hr⟩:=hu
 simp[EraD.cs]at hr
 rcases hr with rfl|rfl|rfl|rfl|rfl|rfl<;>rfl
theorem jvk{L:List VersionD}:∀u∈(L.map VersionD.cs).flatten,u.oneCell'=true:=fun u hu=>by
 simp only[List.mem_flatten,List.mem_map]at hu
 obtain⟨r,⟨t,_,rfl⟩,hr⟩:=hu
 simp[VersionD.cs]at hr
 rcases hr with rfl|rfl|rfl|rfl|rfl|rfl|rfl|rfl<;>rfl
def jpf(t:Int)(g:Bool)(e:EventD):VersionD:=⟨t,g,e.id,e.name,e.zone,e.wall,e.gap,e.fold⟩
def zeroS:Za:=⟨0,⟨[],[],[]⟩,⟨[],[],[]⟩,0,[],[]⟩
end
section
open Go.RowKit Go.Sort
structure Jh(w:World)(B U:Nat)(t:TypeId)(q:Nat)(v:Value)(rows:List (List Value)):Prop where
 own:w.ownsRow B t q v rows.length rows.flatten
 top:∀g,v.ownBlock=some g->g<U
theorem Jh.below{w w':World}{B U:Nat}{t:TypeId}{q:Nat}{v:Value}{rows:List (List Value)}(h:Jh w B U t q v rows)(hb:Below w.heap.size w w'):Jh w' B U t q v rows:=⟨jad h.own hb,h.top⟩
theorem Jh.wide{w:World}{B U B' U':Nat}{t:TypeId}{q:Nat}{v:Value}{rows:List (List Value)}(h:Jh w B U t q v rows)(hB:B'<=B)(hU:U<=U'):Jh w B' U' t q v rows:=⟨jb8 h.own hB,fun g hg=>Nat.lt_of_lt_of_le (h.top g hg) hU⟩
theorem Jh.touch{S:Nat->Prop}{w w':World}{B U:Nat}{t:TypeId}{q:Nat}{v:Value}{rows:List (List Value)}(h:Jh w B U t q v rows)(ht:Zz S w w')(hS:∀b,B<=b->b<U->¬S b):Jh w' B U t q v rows:=by
 obtain⟨⟨hl,hv⟩,h2⟩:=h
 refine⟨⟨hl,?_⟩,h2⟩
 rcases hv with h|⟨g,cap,cur,rfl,hB,hg,hr⟩
 ·exact .inl h
 ·exact .inr ⟨g,cap,cur,rfl,hB,(ht.block g (Array.getElem?_eq_some_iff.mp hg).1 (hS g hB (h2 g rfl))).trans hg,hr⟩
end
section
open Go.RowKit Go.Sort
structure EraC(w:World)(Z U:Nat)(zr:List (List Value))(zs:List ZoneD):Prop where
 len:zr.length=zs.length
 at_:∀(i:Nat) (z:ZoneD),zs[i]? =some z->∃e c,zr[i]? =some [.string z.name,.slice e z.eras.length c]/\Jh w Z U 148 6 (.slice e z.eras.length c) (z.eras.map EraD.cs)
 inc:∀(i j:Nat) (ni nj:Value) (gi gj ki kj ci cj:Nat),i<j->zr[i]? =some [ni,.slice (some ⟨gi,0,none⟩) ki ci]->zr[j]? =some [nj,.slice (some ⟨gj,0,none⟩) kj cj]->gi<gj
theorem EraC.below{w w':World}{Z U:Nat}{zr:List (List Value)}{zs:List ZoneD}(h:EraC w Z U zr zs)(hb:Below w.heap.size w w'):EraC w' Z U zr zs:=⟨h.len,fun i z hz=>by
 obtain⟨e,c,h1,h2⟩:=h.at_ i z hz
 exact⟨e,c,h1,h2.below hb⟩,h.inc⟩
theorem EraC.touch{S:Nat->Prop}{w w':World}{Z U:Nat}{zr:List (List Value)}{zs:List ZoneD}(h:EraC w Z U zr zs)(ht:Zz S w w')(hS:∀b,Z<=b->b<U->¬S b):EraC w' Z U zr zs:=⟨h.len,fun i z hz=>by
 obtain⟨e,c,h1,h2⟩:=h.at_ i z hz
 exact⟨e,c,h1,h2.touch ht hS⟩,h.inc⟩
end
section
open Go.RowKit Go.Sort
structure Jr(w:World)(B U:Nat)(va vb vc:Value)(r:RelD):Prop where
 ex:∃Z R L zr,(B<=Z/\Z<=R/\R<=L/\L<=U)/\Jh w B Z 136 2 vb zr/\EraC w Z R zr r.zones/\(∀x∈zr,x.length=2)/\Jh w R L 131 9 va (r.rules.map RuleD.cs)/\Jh w L U 140 2 vc (r.links.map LinkD.cs)
theorem Jr.below{w w':World}{B U:Nat}{va vb vc:Value}{r:RelD}(h:Jr w B U va vb vc r)(hb:Below w.heap.size w w'):Jr w' B U va vb vc r:=by
 obtain⟨Z,R,L,zr,h1,h2,h3,h4,h5,h6⟩:=h.ex
 exact⟨Z,R,L,zr,h1,h2.below hb,h3.below hb,h4,h5.below hb,h6.below hb⟩
theorem Jr.touch{S:Nat->Prop}{w w':World}{B U:Nat}{va vb vc:Value}{r:RelD}(h:Jr w B U va vb vc r)(ht:Zz S w w')(hS:∀b,B<=b->b<U->¬S b):Jr w' B U va vb vc r:=by
 obtain⟨Z,R,L,zr,⟨k1,k2,k3,k4⟩,h2,h3,h4,h5,h6⟩:=h.ex
 exact⟨Z,R,L,zr,⟨k1,k2,k3,k4⟩,h2.touch ht fun b p q=>hS b p (by omega),h3.touch ht fun b p q=>hS b (by omega) (by omega),h4,h5.touch ht fun b p q=>hS b (by omega) (by omega),h6.touch ht fun b p q=>hS b (by omega) q⟩
def rc(r:RelD):Nat:=9*r.rules.length+zc r.zones+2*r.links.length
end
section
open Go.ChangeShapes Go.WideShapes Go.ChangeAt Go.RowKit Go.Deep
theorem j5v{α:Type}{P:Nat->α->Prop}:∀n,(∀i,i<n->∃r,P i r)->∃l:List α,l.length=n/\∀i r,l[i]? =some r->P i r:=by
 intro n
 induction n with
 |zero=>intro _;exact⟨[],rfl,fun i r h=>by simp at h⟩
 |succ n ih=>
  intro h
  obtain⟨l,hl,hp⟩:=ih fun i hi=>h i (by omega)
  obtain⟨r,hr⟩:=h n (by omega)
  refine⟨l++[r],by simp[hl],fun i x hx=>?_⟩
  rcases Nat.lt_or_ge i l.length with hi|hi
  ·rw[List.getElem?_append_left hi]at hx;exact hp i x hx
  ·rw[List.getElem?_append_right hi]at hx
   have e:i-l.length=0:=by
    rcases Nat.eq_zero_or_pos (i-l.length)with e|e
    ·exact e
    ·rw[List.getElem?_eq_none (by simp;omega)]at hx;cases hx
   rw[e]at hx
   simp at hx
   subst hx
   have:i=n:=by omega
   subst this;exact hr
section
variable {H : Type} {enc : TypeId × Value -> H} {w : World} {spare : Nat -> Bool} {held : Bool}
end
end
section
open Go.RowKit Go.Sort
structure StC(w:World)(B U:Nat)(v:Value)(s:Za):Prop where
 form:∃a b c d e f va ia ca cb cc cd ce cf cv ci M1 M2 M3,v=.agg (stA s a b c d e f va ia ca cb cc cd ce cf cv ci).toArray/\(B<=M1/\M1<=M2/\M2<=M3/\M3<=U)/\Jr w B M1 (.slice a s.now.rules.length ca) (.slice b s.now.zones.length cb) (.slice c s.now.links.length cc) s.now/\Jr w M1 M2 (.slice d s.was.rules.length cd) (.slice e s.was.zones.length ce) (.slice f s.was.links.length cf) s.was/\Jh w M2 M3 101 8 (.slice va s.vs.length cv) (s.vs.map VersionD.cs)/\Jh w M3 U 108 2 (.slice ia s.ix.length ci) (s.ix.map EntryD.cs)
end
section
open Go.RowKit Go.Sort
def stl(b:Nat):World->List (Nat × Value)->World
 |w,[]=>w
 |w,(j,v)::l=>stl b (w.setCell ⟨b,j,none⟩ v) l
def lst:List Value->List (Nat × Value)->List Value
 |l,[]=>l
 |l,(j,v)::m=>lst (l.set j v) m
structure SetsOf(b:Nat)(w x:World)(L:List (Nat × Value)):Prop where
 var:∀l,Zc w b l->Zc x b (lst l L)
 oth:∀b2 l,b2≠b->Zc w b2 l->Zc x b2 l
 bel:∀(n:Nat) (u:World),n<=b->Below n u w->Below n u x
 size:x.heap.size=w.heap.size
 frm:∀B,b<B->From B w x
 blk:∀k,k≠b->x.heap[k]? =w.heap[k]?
 tch:∀(S:Nat->Prop) (u:World),S b->Zz S u w->Zz S u x
theorem jwh(b:Nat):∀(L:List (Nat × Value)) (w:World),SetsOf b w (stl b w L) L
 |[],w=>⟨fun _ h=>h,fun _ _ _ h=>h,fun _ _ _ h=>h,rfl,fun B _=>From.refl B w,fun _ _=>rfl,fun _ _ _ h=>h⟩
 |(j,v)::L,w=>by
  have h:=jwh b L (w.setCell ⟨b,j,none⟩ v)
  refine⟨fun l0 h0=>h.var _ (h0.set v),fun b2 l0 hne h0=>h.oth b2 l0 hne (h0.other hne v),fun n u hn hb=>h.bel n u hn (bst b j v hn hb),h.size.trans (World.size_setCell _ _ _),fun B hB g x hg=>?_,fun k hk=>(h.blk k hk).trans (heap_setCell_other w ⟨b,j,none⟩ k v (by simpa using hk)),fun S u hS hT=>h.tch S u hS (hT.set hS (o:=j) v)⟩
  have k:=(From.refl B w).set (i:=j) hB v g x hg
  have m:=h.frm B hB g x hg
  exact⟨m.1.trans k.1,m.2.trans k.2⟩
theorem jin(b:Nat)(w:World)(L:List (Nat × Value)):∃x,stl b w L=x/\SetsOf b w x L:=⟨_,rfl,jwh b L w⟩
theorem Zc.tenF{w:World}{b:Nat}{p0 p1 p2 p3 p4 p5 p6 p7 p8 p9:Value}{l:List Value}(h:Zc w b (p0::p1::p2::p3::p4::p5::p6::p7::p8::p9::l)):w.frozen? ⟨b,0,none⟩=false/\w.frozen? ⟨b,1,none⟩=false/\w.frozen? ⟨b,2,none⟩=false/\w.frozen? ⟨b,3,none⟩=false/\w.frozen? ⟨b,4,none⟩=false/\w.frozen? ⟨b,5,none⟩=false/\w.frozen? ⟨b,6,none⟩=false/\w.frozen? ⟨b,7,none⟩=false/\w.frozen? ⟨b,8,none⟩=false/\w.frozen? ⟨b,9,none⟩=false:=⟨h.f 0 rfl,h.f 1 rfl,h.f 2 rfl,h.f 3 rfl,h.f 4 rfl,h.f 5 rfl,h.f 6 rfl,h.f 7 rfl,h.f 8 rfl,h.f 9 rfl⟩
theorem jvp(w:World)(L M:List Value)(t u:TypeId):∃x,(w.alloc (.cells L.toArray t)).alloc (.cells M.toArray u)=x/\Below w.heap.size w x/\Zc x w.heap.size L/\Zc x (w.heap.size+1) M/\x.heap.size=w.heap.size+1+1:=by
 refine⟨_,rfl,(qal _ _).alloc (by simp) _,(Zc.new w L t).below (qal _ _),?_,by simp⟩
 have h:=Zc.new (w.alloc (.cells L.toArray t)) M u
 rw[World.size_alloc]at h
 exact h
end
end Go.Proofs.YtofdpfpdocpbpaaGreatDoor
