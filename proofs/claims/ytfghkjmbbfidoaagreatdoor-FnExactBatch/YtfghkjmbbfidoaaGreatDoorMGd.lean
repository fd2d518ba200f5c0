import Derived.Test.YtfghkjmbbfidoaaGreatDoorSLd
set_option maxRecDepth 20000
set_option maxHeartbeats 0
set_option linter.unusedSimpArgs false
open Go.RowKit Go.Sort
namespace Go.Proofs.YtfghkjmbbfidoaaGreatDoor
theorem jlb{α:Type}{cs:α->List Value}{k:Nat}(h:∀x,(cs x).length=k)(L:List α):∀r∈L.map cs,r.length=k:=fun r hr=>by
 obtain⟨x,_,rfl⟩:=List.mem_map.1 hr
 exact h x
structure RowC(w:World)(B U:Nat)(t:TypeId)(q:Nat)(v:Value)(rows:List (List Value)):Prop where
 own:w.ownsRow B t q v rows.length rows.flatten
 top:∀g,v.ownBlock=some g->g<U
theorem RowC.nil(w:World)(B U:Nat)(t:TypeId)(q:Nat):RowC w B U t q nS []:=⟨World.ownsRow_nil _ _ _ _,fun g h=>by simp[Value.ownBlock]at h⟩
theorem RowC.shape{w:World}{B U:Nat}{t:TypeId}{q:Nat}{v:Value}{rows:List (List Value)}(h:RowC w B U t q v rows):∃a cap,v=.slice a rows.length cap:=by
 rcases h.own.2 with⟨h1,h2⟩|⟨g,cap,_,h1,_⟩
 ·exact⟨none,0,by rw[h1,h2]⟩
 ·exact⟨_,_,h1⟩
theorem RowC.below{w w':World}{B U:Nat}{t:TypeId}{q:Nat}{v:Value}{rows:List (List Value)}(h:RowC w B U t q v rows)(hb:Bw w w'):RowC w' B U t q v rows:=⟨jac h.own hb,h.top⟩
theorem RowC.wide{w:World}{B U B' U':Nat}{t:TypeId}{q:Nat}{v:Value}{rows:List (List Value)}(h:RowC w B U t q v rows)(hB:B'<=B)(hU:U<=U'):RowC w B' U' t q v rows:=⟨jaj h.own hB,fun g hg=>Nat.lt_of_lt_of_le (h.top g hg) hU⟩
theorem RowC.touch{S:Nat->Prop}{w w':World}{B U:Nat}{t:TypeId}{q:Nat}{v:Value}{rows:List (List Value)}(h:RowC w B U t q v rows)(ht:Zc S w w')(hS:∀b,B<=b->b<U->¬S b):RowC w' B U t q v rows:=by
 obtain⟨⟨hl,hv⟩,h2⟩:=h
 refine⟨⟨hl,?_⟩,h2⟩
 rcases hv with h|⟨g,cap,cur,rfl,hB,hg,hr⟩
 ·exact .inl h
 ·exact .inr ⟨g,cap,cur,rfl,hB,(ht.block g (Array.getElem?_eq_some_iff.mp hg).1 (hS g hB (h2 g rfl))).trans hg,hr⟩
theorem RowC.seq{w:World}{B U:Nat}{t:TypeId}{q:Nat}{a:Option Addr}{n cap:Nat}{rows:List (List Value)}(h:RowC w B U t q (.slice a n cap) rows)(hq:∀r∈rows,r.length=q):Za w a q rows:=by
 obtain⟨a',c',he,hs,_⟩:=jbe h.own hq
 injection he with h1
 rw[h1];exact hs
def RowU(w:World)(B U:Nat)(a:Option Addr)(n q:Nat):Prop:=0<n->∃g,a=some (ad g 0)/\B<=g/\g<U/\Zg w g (n*q)
theorem RowU.touch{S:Nat->Prop}{w w':World}{B U:Nat}{a:Option Addr}{n q:Nat}(h:RowU w B U a n q)(ht:Zc S w w'):RowU w' B U a n q:=fun hn=>by
 obtain⟨g,h1,h2,h3,h4⟩:=h hn
 exact⟨g,h1,h2,h3,ht.room _ _ h4⟩
theorem RowU.set{w:World}{B U:Nat}{a:Option Addr}{n q:Nat}(h:RowU w B U a n q)(x:Addr)(v:Value):RowU (w.setCell x v) B U a n q:=fun hn=>by
 obtain⟨g,h1,h2,h3,h4⟩:=h hn
 exact⟨g,h1,h2,h3,h4.set _ _⟩
theorem RowC.room{w:World}{B U:Nat}{t:TypeId}{q:Nat}{a:Option Addr}{n cap:Nat}{rows:List (List Value)}(h:RowC w B U t q (.slice a n cap) rows)(hl:rows.length=n):RowU w B U a n q:=fun hn=>by
 obtain⟨⟨h0,hv⟩,h2⟩:=h
 rcases hv with⟨h1,_⟩|⟨g,c,cur,he,hB,hg,h3,h4,h5,h6⟩
 ·injection h1;omega
 ·injection he with e1 e2 e3
  subst e1 e2 e3
  exact⟨g,rfl,hB,h2 g rfl,jnf (xs:=rows.flatten) ⟨h0,.inr ⟨g,cap,cur,rfl,hB,hg,h3,h4,h5,h6⟩⟩⟩
def MSeq(w:World)(B U:Nat)(a:Option Addr)(q:Nat)(rows:List (List Value)):Prop:=rows=[]\/∃g,a=some (ad g 0)/\B<=g/\g<U/\Za w (some (ad g 0)) q rows
theorem MSeq.seq{w:World}{B U:Nat}{a:Option Addr}{q:Nat}{rows:List (List Value)}(h:MSeq w B U a q rows):Za w a q rows:=by
 rcases h with h|⟨g,rfl,_,_,h⟩
 ·exact .inl h
 ·exact h
theorem MSeq.below{w w':World}{B U:Nat}{a:Option Addr}{q:Nat}{rows:List (List Value)}(h:MSeq w B U a q rows)(hb:Bw w w'):MSeq w' B U a q rows:=by
 rcases h with h|⟨g,h1,h2,h3,h⟩
 ·exact .inl h
 ·exact .inr ⟨g,h1,h2,h3,h.below hb⟩
theorem MSeq.touch{S:Nat->Prop}{w w':World}{B U:Nat}{a:Option Addr}{q:Nat}{rows:List (List Value)}(h:MSeq w B U a q rows)(ht:Zc S w w')(hS:∀g,a=some (ad g 0)->B<=g->g<U->¬S g):MSeq w' B U a q rows:=by
 rcases h with h|⟨g,h1,h2,h3,h⟩
 ·exact .inl h
 ·exact .inr ⟨g,h1,h2,h3,h.touch ht (hS g h1 h2 h3)⟩
theorem mark0Rule(a:Option Addr)(cap k:Nat)(w:World):
  Cl 68 #[.slice a 0 cap,iv k] w fun e w'=>e=.returned (iv (k:Int))/\w'=w:=by
 unfold Cl;go_in
 go_wp2
 go_loopw [1,5] (fun s t wr=>s=iv (k:Int)/\t=iv 0/\wr=w) (fun _ _ _=>0)
 case atStart=>exact⟨rfl,rfl,rfl⟩
 case round=>
  obtain⟨rfl,rfl,rfl⟩:=hrel
  go_wp2
  go_ret
  exact⟨rfl,rfl⟩
theorem markRuleU(n cap k B U:Nat)(a:Option Addr)(w:World)(h:RowU w B U a n 9)(h0:0<k)(h1:k+9*n<1000000000):
  Cl 68 #[.slice a n cap,iv k] w fun e w'=>e=.returned (iv ((k+9*n:Nat):Int))/\MSeq w' B U a 9 (jdj k n)/\Zc (fun b=>a=some (ad b 0)/\B<=b/\b<U) w w':=by
 rcases Nat.eq_zero_or_pos n with rfl|hn
 ·exact(mark0Rule a cap k w).mono fun e w' ⟨he,hw⟩=>⟨he,.inl rfl,hw ▸ Zc.refl _ _⟩
 ·obtain⟨g,rfl,hB,hU,hR⟩:=h hn
  exact(jj4 n g cap k w hR h0 h1).mono fun e w' ⟨he,hs,_,ht⟩=>⟨he,.inr ⟨g,rfl,hB,hU,hs⟩,ht.mono fun b _ hb=>by have e1:b=g:=hb.1;subst e1;exact⟨rfl,hB,hU⟩⟩
theorem mark0Era(a:Option Addr)(cap k:Nat)(w:World):
  Cl 110 #[.slice a 0 cap,iv k] w fun e w'=>e=.returned (iv (k:Int))/\w'=w:=by
 unfold Cl;go_in
 go_wp2
 go_loopw [1,5] (fun s t wr=>s=iv (k:Int)/\t=iv 0/\wr=w) (fun _ _ _=>0)
 case atStart=>exact⟨rfl,rfl,rfl⟩
 case round=>
  obtain⟨rfl,rfl,rfl⟩:=hrel
  go_wp2
  go_ret
  exact⟨rfl,rfl⟩
theorem markEraU(n cap k B U:Nat)(a:Option Addr)(w:World)(h:RowU w B U a n 6)(h0:0<k)(h1:k+6*n<1000000000):
  Cl 110 #[.slice a n cap,iv k] w fun e w'=>e=.returned (iv ((k+6*n:Nat):Int))/\MSeq w' B U a 6 (jfq k n)/\Zc (fun b=>a=some (ad b 0)/\B<=b/\b<U) w w':=by
 rcases Nat.eq_zero_or_pos n with rfl|hn
 ·exact(mark0Era a cap k w).mono fun e w' ⟨he,hw⟩=>⟨he,.inl rfl,hw ▸ Zc.refl _ _⟩
 ·obtain⟨g,rfl,hB,hU,hR⟩:=h hn
  exact(jl8 n g cap k w hR h0 h1).mono fun e w' ⟨he,hs,_,ht⟩=>⟨he,.inr ⟨g,rfl,hB,hU,hs⟩,ht.mono fun b _ hb=>by have e1:b=g:=hb.1;subst e1;exact⟨rfl,hB,hU⟩⟩
theorem mark0Link(a:Option Addr)(cap k:Nat)(w:World):
  Cl 70 #[.slice a 0 cap,iv k] w fun e w'=>e=.returned (iv (k:Int))/\w'=w:=by
 unfold Cl;go_in
 go_wp2
 go_loopw [1,5] (fun s t wr=>s=iv (k:Int)/\t=iv 0/\wr=w) (fun _ _ _=>0)
 case atStart=>exact⟨rfl,rfl,rfl⟩
 case round=>
  obtain⟨rfl,rfl,rfl⟩:=hrel
  go_wp2
  go_ret
  exact⟨rfl,rfl⟩
theorem markLinkU(n cap k B U:Nat)(a:Option Addr)(w:World)(h:RowU w B U a n 2)(h0:0<k)(h1:k+2*n<1000000000):
  Cl 70 #[.slice a n cap,iv k] w fun e w'=>e=.returned (iv ((k+2*n:Nat):Int))/\MSeq w' B U a 2 (jdk k n)/\Zc (fun b=>a=some (ad b 0)/\B<=b/\b<U) w w':=by
 rcases Nat.eq_zero_or_pos n with rfl|hn
 ·exact(mark0Link a cap k w).mono fun e w' ⟨he,hw⟩=>⟨he,.inl rfl,hw ▸ Zc.refl _ _⟩
 ·obtain⟨g,rfl,hB,hU,hR⟩:=h hn
  exact(jj5 n g cap k w hR h0 h1).mono fun e w' ⟨he,hs,_,ht⟩=>⟨he,.inr ⟨g,rfl,hB,hU,hs⟩,ht.mono fun b _ hb=>by have e1:b=g:=hb.1;subst e1;exact⟨rfl,hB,hU⟩⟩
theorem mark0Version(a:Option Addr)(cap k:Nat)(w:World):
  Cl 32 #[.slice a 0 cap,iv k] w fun e w'=>e=.returned (iv (k:Int))/\w'=w:=by
 unfold Cl;go_in
 go_wp2
 go_loopw [1,5] (fun s t wr=>s=iv (k:Int)/\t=iv 0/\wr=w) (fun _ _ _=>0)
 case atStart=>exact⟨rfl,rfl,rfl⟩
 case round=>
  obtain⟨rfl,rfl,rfl⟩:=hrel
  go_wp2
  go_ret
  exact⟨rfl,rfl⟩
theorem markVersionU(n cap k B U:Nat)(a:Option Addr)(w:World)(h:RowU w B U a n 8)(h0:0<k)(h1:k+8*n<1000000000):
  Cl 32 #[.slice a n cap,iv k] w fun e w'=>e=.returned (iv ((k+8*n:Nat):Int))/\MSeq w' B U a 8 (jbq k n)/\Zc (fun b=>a=some (ad b 0)/\B<=b/\b<U) w w':=by
 rcases Nat.eq_zero_or_pos n with rfl|hn
 ·exact(mark0Version a cap k w).mono fun e w' ⟨he,hw⟩=>⟨he,.inl rfl,hw ▸ Zc.refl _ _⟩
 ·obtain⟨g,rfl,hB,hU,hR⟩:=h hn
  exact(jgb n g cap k w hR h0 h1).mono fun e w' ⟨he,hs,_,ht⟩=>⟨he,.inr ⟨g,rfl,hB,hU,hs⟩,ht.mono fun b _ hb=>by have e1:b=g:=hb.1;subst e1;exact⟨rfl,hB,hU⟩⟩
theorem mark0Entry(a:Option Addr)(cap k:Nat)(w:World):
  Cl 33 #[.slice a 0 cap,iv k] w fun e w'=>e=.returned (iv (k:Int))/\w'=w:=by
 unfold Cl;go_in
 go_wp2
 go_loopw [1,5] (fun s t wr=>s=iv (k:Int)/\t=iv 0/\wr=w) (fun _ _ _=>0)
 case atStart=>exact⟨rfl,rfl,rfl⟩
 case round=>
  obtain⟨rfl,rfl,rfl⟩:=hrel
  go_wp2
  go_ret
  exact⟨rfl,rfl⟩
theorem markEntryU(n cap k B U:Nat)(a:Option Addr)(w:World)(h:RowU w B U a n 2)(h0:0<k)(h1:k+2*n<1000000000):
  Cl 33 #[.slice a n cap,iv k] w fun e w'=>e=.returned (iv ((k+2*n:Nat):Int))/\MSeq w' B U a 2 (jb6 k n)/\Zc (fun b=>a=some (ad b 0)/\B<=b/\b<U) w w':=by
 rcases Nat.eq_zero_or_pos n with rfl|hn
 ·exact(mark0Entry a cap k w).mono fun e w' ⟨he,hw⟩=>⟨he,.inl rfl,hw ▸ Zc.refl _ _⟩
 ·obtain⟨g,rfl,hB,hU,hR⟩:=h hn
  exact(jd7 n g cap k w hR h0 h1).mono fun e w' ⟨he,hs,_,ht⟩=>⟨he,.inr ⟨g,rfl,hB,hU,hs⟩,ht.mono fun b _ hb=>by have e1:b=g:=hb.1;subst e1;exact⟨rfl,hB,hU⟩⟩
structure EraC(w:World)(Z U:Nat)(zr:List (List Value))(zs:List ZoneD):Prop where
 len:zr.length=zs.length
 at_:∀(i:Nat) (z:ZoneD),zs[i]? =some z->∃e c,zr[i]? =some [.string z.name,.slice e z.eras.length c]/\RowC w Z U 187 6 (.slice e z.eras.length c) (z.eras.map EraD.cs)
 inc:∀(i j:Nat) (ni nj:Value) (gi gj ki kj ci cj:Nat),i<j->zr[i]? =some [ni,so gi ki ci]->zr[j]? =some [nj,so gj kj cj]->gi<gj
theorem EraC.below{w w':World}{Z U:Nat}{zr:List (List Value)}{zs:List ZoneD}(h:EraC w Z U zr zs)(hb:Bw w w'):EraC w' Z U zr zs:=⟨h.len,fun i z hz=>by
 obtain⟨e,c,h1,h2⟩:=h.at_ i z hz
 exact⟨e,c,h1,h2.below hb⟩,h.inc⟩
theorem EraC.touch{S:Nat->Prop}{w w':World}{Z U:Nat}{zr:List (List Value)}{zs:List ZoneD}(h:EraC w Z U zr zs)(ht:Zc S w w')(hS:∀b,Z<=b->b<U->¬S b):EraC w' Z U zr zs:=⟨h.len,fun i z hz=>by
 obtain⟨e,c,h1,h2⟩:=h.at_ i z hz
 exact⟨e,c,h1,h2.touch ht hS⟩,h.inc⟩
def MZ(w:World)(B Z U:Nat)(b:Option Addr)(k:Nat)(zr:List (List Value))(zs:List ZoneD)(m:Nat):Prop:=∀(i:Nat) (z:ZoneD),i<m->zs[i]? =some z->∃g e c,b=some (ad g 0)/\(B<=g/\g<Z)/\zr[i]? =some [.string z.name,.slice e z.eras.length c]/\w.cell? (ad g (i*2))=some (.string (mtB (k+zc (zs.take i))))/\w.cell? (ad g (i*2+1))=some (.slice e z.eras.length c)/\MSeq w Z U e 6 (jfq (k+zc (zs.take i)+1) z.eras.length)
theorem MZ.touch{S:Nat->Prop}{w w':World}{B Z U:Nat}{b:Option Addr}{k:Nat}{zr:List (List Value)}{zs:List ZoneD}{m:Nat}(h:MZ w B Z U b k zr zs m)(ht:Zc S w w')(hS:∀x,B<=x->x<Z->¬S x)(hE:∀(i:Nat) (z:ZoneD) (e:Option Addr) (c g:Nat),i<m->zs[i]? =some z->zr[i]? =some [.string z.name,.slice e z.eras.length c]->e=some (ad g 0)->Z<=g->g<U->¬S g):MZ w' B Z U b k zr zs m:=fun i z hi hz=>by
 obtain⟨g,e,c,h1,h2,h3,h4,h5,h6⟩:=h i z hi hz
 have hg:=hS g h2.1 h2.2
 exact⟨g,e,c,h1,h2,h3,ht.cell hg h4,ht.cell hg h5,h6.touch ht fun x hx=>hE i z e c x hi hz h3 hx⟩
theorem MZ.below{w w':World}{B Z U:Nat}{b:Option Addr}{k:Nat}{zr:List (List Value)}{zs:List ZoneD}{m:Nat}(h:MZ w B Z U b k zr zs m)(hb:Bw w w'):MZ w' B Z U b k zr zs m:=h.touch (Zc.of_below (S:=fun _=>False) hb) (fun _ _ _ h=>h) (fun _ _ _ _ _ _ _ _ _ _ _ h=>h)
theorem MZ.store{w:World}{B Z U g:Nat}{k:Nat}{zr:List (List Value)}{zs:List ZoneD}{m:Nat}(h:MZ w B Z U (some (ad g 0)) k zr zs m)(v:Value):MZ (w.setCell (ad g (m*2)) v) B Z U (some (ad g 0)) k zr zs m:=fun i z hi hz=>by
 obtain⟨g',e,c,h1,h2,h3,h4,h5,h6⟩:=h i z hi hz
 obtain rfl:g=g':=by injection h1 with h1;injection h1
 refine⟨g,e,c,rfl,h2,h3,?_,?_,?_⟩
 ·rw[wco]
  ·exact h4
  ·intro e;injection e with _ e2;omega
 ·rw[wco]
  ·exact h5
  ·intro e;injection e with _ e2;omega
 ·rcases h6 with h6|⟨x,hx,h7,h8,h6⟩
  ·exact .inl h6
  ·refine .inr ⟨x,hx,h7,h8,?_⟩
   rcases h6 with h6|⟨b,o,VU,hc⟩
   ·exact .inl h6
   ·obtain⟨rfl,rfl⟩:x=b/\0=o:=by injection VU with VU;injection VU with e1 e2;exact⟨e1,e2⟩
    exact .inr ⟨x,0,rfl,fun i j r c hr hj=>by
     rw[wco]
     ·exact hc i j r c hr hj
     ·intro e;injection e with e2;omega⟩
def EZ(w:World)(Z U g:Nat)(zr:List (List Value))(zs:List ZoneD):Prop:=∀(i:Nat) (z:ZoneD),zs[i]? =some z->∃e c,zr[i]? =some [.string z.name,.slice e z.eras.length c]/\w.cell? (ad g (i*2+1))=some (.slice e z.eras.length c)/\RowU w Z U e z.eras.length 6
theorem EZ.touch{S:Nat->Prop}{w w':World}{Z U g:Nat}{zr:List (List Value)}{zs:List ZoneD}(h:EZ w Z U g zr zs)(ht:Zc S w w')(hS:¬S g):EZ w' Z U g zr zs:=fun i z hz=>by
 obtain⟨e,c,h1,h2,h3⟩:=h i z hz
 exact⟨e,c,h1,ht.cell hS h2,h3.touch ht⟩
theorem EZ.store{w:World}{Z U g:Nat}{zr:List (List Value)}{zs:List ZoneD}(h:EZ w Z U g zr zs)(m:Nat)(v:Value):EZ (w.setCell (ad g (m*2)) v) Z U g zr zs:=fun i z hz=>by
 obtain⟨e,c,h1,h2,h3⟩:=h i z hz
 refine⟨e,c,h1,?_,h3.set _ _⟩
 rw[wco]
 ·exact h2
 ·intro e;injection e with _ e2;omega
theorem mark0Zone(a:Option Addr)(cap k:Nat)(w:World):
  Cl 69 #[.slice a 0 cap,iv k] w fun e w'=>e=.returned (iv (k:Int))/\w'=w:=by
 unfold Cl;go_in
 go_wp2
 go_loopw [1,5] (fun s t wr=>s=iv (k:Int)/\t=iv 0/\wr=w) (fun _ _ _=>0)
 case atStart=>exact⟨rfl,rfl,rfl⟩
 case round=>
  obtain⟨rfl,rfl,rfl⟩:=hrel
  go_wp2
  go_ret
  exact⟨rfl,rfl⟩
theorem markZoneU(zs:List ZoneD)(zr:List (List Value))(b:Option Addr)(cap k B Z U:Nat)(w:World)(hz:RowC w B Z 153 2 (.slice b zs.length cap) zr)(he:EraC w Z U zr zs)(Kx:∀r∈zr,r.length=2)(RN:Z<=U)(h0:0<k)(h1:k+zc zs<900000000)(hn:zs.length<=1048576):
  Cl 69 #[.slice b zs.length cap,iv k] w fun e w'=>e=.returned (iv ((k+zc zs:Nat):Int))/\MZ w' B Z U b k zr zs zs.length/\Zc (fun x=>B<=x/\x<U) w w':=by
 rcases Nat.eq_zero_or_pos zs.length with aG|mK
 ·obtain rfl:=List.length_eq_zero_iff.mp aG
  exact(mark0Zone b cap k w).mono fun e w' ⟨h1,h2⟩=>⟨h1,fun i z hi=>by simp at hi,h2 ▸ Zc.refl _ _⟩
 obtain⟨g,rfl,hB,PR,bJ⟩:=hz.room he.len mK
 have uN:EZ w Z U g zr zs:=fun i z hi=>by
  obtain⟨e,c,h1,h2⟩:=he.at_ i z hi
  obtain⟨b',o',VU,hc⟩:=(hz.seq Kx).at h1
  injection VU with VU
  injection VU with e1 e2
  subst e1 e2
  exact⟨e,c,h1,by simpa using hc 1 _ rfl,h2.room (by simp)⟩
 have HI:=hid he.inc
 clear hz he
 unfold Cl;go_in
 go_wp2
 go_loopw [1,5] (fun s t wr=>∃i:Nat,i<=zs.length/\t=iv i/\s=iv ((k+zc (zs.take i):Nat):Int)/\Zg wr g (zs.length*2)/\EZ wr Z U g zr zs/\Hid (MZ wr B Z U (some (ad g 0)) k zr zs i)/\Zc (fun x=>B<=x/\x<U) w wr) (fun _ t _=>zs.length-(intOf t).toNat)
 case atStart=>exact⟨0,by omega,rfl,by simp[zc],bJ,uN,fun i z hi=>by omega,Zc.refl _ _⟩
 case round=>
  clear bJ uN
  obtain⟨i,hi,rfl,rfl,bJ,uN,xh,dv⟩:=hrel
  by_cases hlt:i<zs.length
  ·obtain⟨z,hz⟩:=qgg hlt
   have ht:=j1d hz
   have cr:=zc_le zs (i+1)
   have HK:Hid (k+zc (zs.take (i+1))=(k+zc (zs.take i))+1+6*z.eras.length):=by simp only[Hid];omega
   have kA:0<k+zc (zs.take i):=by omega
   have aX:k+zc (zs.take i)+1+6*z.eras.length<900000000:=by omega
   obtain⟨c,fx⟩:=qeb (k+zc (zs.take i))
   have HC:=hid fx
   rw[fx]at HK kA aX ⊢
   clear ht cr fx
   have hM:=fun w=>jam c w kA (by omega)
   go_wp2_with fail
   refine(hM _).mono ?_
   rintro e w1 ⟨rfl,hb1⟩
   have dn:=bJ.below hb1
   have t1:=Zc.of_below (S:=fun x=>B<=x/\x<U) hb1
   have j8:=uN.touch (Zc.of_below (S:=fun _=>False) hb1) id
   have dG:=dv.trans t1
   have oQ:=xh.out.below hb1
   obtain⟨⟨u0,iR⟩,gC⟩:=dn (i*2) (by omega)
   have mE:(w1.setCell (ad g (i*2)) (.string (mtB c))).cell? (ad g (i*2))=some (.string (mtB c)):=wcs _ _ _ iR
   have aM:Zg (w1.setCell (ad g (i*2)) (.string (mtB c))) g (zs.length*2):=dn.set _ _
   have FH:EZ (w1.setCell (ad g (i*2)) (.string (mtB c))) Z U g zr zs:=j8.store i _
   have eO:Zc (fun x=>B<=x/\x<U) w (w1.setCell (ad g (i*2)) (.string (mtB c))):=dG.set (show B<=g/\g<U by omega) _
   have yJ:Hid (MZ (w1.setCell (ad g (i*2)) (.string (mtB c))) B Z U (some (ad g 0)) k zr zs i):=oQ.store _
   clear hM hb1 bJ uN dv dn j8 dG t1 xh oQ
   obtain⟨e,ce,CQ,c1,hr⟩:=FH i z hz
   have hE:=markEraU z.eras.length ce (c+1) Z U e (w1.setCell (ad g (i*2)) (.string (mtB c))) hr (by omega) (by omega)
   rw[show((c+1:Nat):Int)=(c:Int)+1 by omega]at hE
   have L4:=hid CQ
   have El:=hid mE
   have Hz:=hid hz
   clear CQ mE hr hz
   go_wp2_with fail
   refine hE.mono ?_
   rintro e3 w3 ⟨rfl,kN,Cz⟩
   have DL:¬(e=some (ad g 0)/\Z<=g/\g<U):=fun h=>by have:=h.2.1;omega
   have ks:=Cz.room _ _ aM
   have JP:=FH.touch Cz DL
   have j5:=eO.trans (Cz.mono fun b _ hb=>show B<=b/\b<U from⟨by have:=hb.2.1;omega,hb.2.2⟩)
   have Hu:Hid (MZ w3 B Z U (some (ad g 0)) k zr zs (i+1)):=fun j y hj hy=>by
    rcases Nat.lt_or_ge j i with Cb|Cb
    ·refine yJ.out.touch Cz (fun x _ h2 hx=>by have:=hx.2.1;omega) (fun j' y' e' c' g' Rj RS Yx Rg _ _ hx=>?_) j y Cb hy
     have h1:=L4.out
     rw[hx.1]at h1
     rw[Rg]at Yx
     have:=HI.out j' i _ _ _ _ _ _ _ _ Rj Yx h1
     omega
    ·obtain rfl:j=i:=by omega
     rw[Hz.out]at hy
     obtain rfl:=osi hy
     exact⟨g,e,ce,rfl,⟨hB,PR⟩,L4.out,by rw[HC.out];exact Cz.cell DL El.out,Cz.cell DL c1,by rw[HC.out];exact kN⟩
   clear yJ FH aM eO Cz kN El
   go_wp2
   go_roundw
   case rel=>exact⟨i+1,by omega,by go_num,by rw[HK.out];go_num,ks,JP,Hu,j5⟩
   case measure=>simp[intOf];omega
  ·have e:i=zs.length:=by omega
   subst e
   have HR:Hid (zc (zs.take zs.length)=zc zs):=by simp only[Hid];rw[List.take_length]
   rw[HR.out]
   go_wp2
   go_ret
   exact⟨rfl,xh.out,dv⟩
theorem laws_heldZoneS(zs:List ZoneD)(zr:List (List Value))(b:Option Addr)(cap k B Z U:Nat)(w:World)(hM:MZ w B Z U b k zr zs zs.length)(h0:0<k)(h1:k+zc zs<900000000)(hn:zs.length<=1048576):
  Cl 112 #[.slice b zs.length cap,iv k] w fun e w'=>e=.returned (iv ((k+zc zs:Nat):Int))/\Bw w w':=by
 have HM:=hid hM
 clear hM
 unfold Cl;go_in
 go_wp2
 go_loopw [1,5] (fun s t wr=>∃i:Nat,i<=zs.length/\t=iv i/\s=iv ((k+zc (zs.take i):Nat):Int)/\Bw w wr) (fun _ t _=>zs.length-(intOf t).toNat)
 case atStart=>exact⟨0,by omega,rfl,by simp[zc],brf _ _⟩
 case round=>
  obtain⟨i,hi,rfl,rfl,ag⟩:=hrel
  by_cases hlt:i<zs.length
  ·obtain⟨z,hz⟩:=qgg hlt
   obtain⟨g,e,ce,rfl,_,_,p0,p1,hs⟩:=(HM.out.below ag) i z hlt hz
   have ht:=j1d hz
   have cr:=zc_le zs (i+1)
   have HK:Hid (k+zc (zs.take (i+1))=(k+zc (zs.take i))+1+6*z.eras.length):=by simp only[Hid];omega
   have kA:0<k+zc (zs.take i):=by omega
   have aX:k+zc (zs.take i)+1+6*z.eras.length<900000000:=by omega
   generalize k+zc (zs.take i)=c at *
   clear ht cr hz
   have dD:=fun w=>jam c w kA (by omega)
   have hE:=fun w h=>laws_heldEraS z.eras.length ce (c+1) e w h (by omega) (by omega)
   rw[show((c+1:Nat):Int)=(c:Int)+1 by omega]at hE
   have TY:∀dd os,Cl _ _ (grow (redrawn wr dd) os) fun e cW=>e=.returned (.string (mtB c))/\∃p:Regrown,cW=grow (redrawn wr p.d) p.os:=fun _ _=>Calls.regrown_of (dD _)
   have qT:=cell_regrown p0
   go_wp2_with fail
   refine wp_region_quiet_below (by kernel_rfl) (by kernel_rfl) ?_
   repeat (quiet_step ((go_at_call 71;exact TY _ _)))
   refine wpQuiet_nil ?_
   intro w1 bM
   obtain⟨⟨SV,Qx⟩,KR⟩:=bM
   have hb1:Bw wr w1:=KR ▸ below_regrown wr SV Qx
   have aj:=qtr ag hb1
   have p11:=jaa hb1 p1
   have bU:=hs.seq.below hb1
   clear KR qT TY dD hb1 p0 p1 hs ag
   go_wp2_with fail
   refine(hE _ bU).mono ?_
   rintro e2 w2 ⟨rfl,ac⟩
   have an:=qtr aj ac
   generalize z.eras.length=m at *
   clear hE bU p11 ac
   go_wp2
   go_roundw
   case rel=>exact⟨i+1,by omega,by go_num,by rw[HK.out];go_num,an⟩
   case measure=>simp[intOf];omega
  ·have e:i=zs.length:=by omega
   subst e
   have HR:Hid (zc (zs.take zs.length)=zc zs):=by simp only[Hid];rw[List.take_length]
   rw[HR.out]
   go_wp2
   go_ret
   exact⟨rfl,ag⟩
structure RelC(w:World)(B U:Nat)(va vb vc:Value)(r:RelD):Prop where
 ex:∃Z R L zr,(B<=Z/\Z<=R/\R<=L/\L<=U)/\RowC w B Z 153 2 vb zr/\EraC w Z R zr r.zones/\(∀x∈zr,x.length=2)/\RowC w R L 149 9 va (r.rules.map RuleD.cs)/\RowC w L U 155 2 vc (r.links.map LinkD.cs)
theorem RelC.below{w w':World}{B U:Nat}{va vb vc:Value}{r:RelD}(h:RelC w B U va vb vc r)(hb:Bw w w'):RelC w' B U va vb vc r:=by
 obtain⟨Z,R,L,zr,h1,h2,h3,h4,h5,h6⟩:=h.ex
 exact⟨Z,R,L,zr,h1,h2.below hb,h3.below hb,h4,h5.below hb,h6.below hb⟩
theorem RelC.touch{S:Nat->Prop}{w w':World}{B U:Nat}{va vb vc:Value}{r:RelD}(h:RelC w B U va vb vc r)(ht:Zc S w w')(hS:∀b,B<=b->b<U->¬S b):RelC w' B U va vb vc r:=by
 obtain⟨Z,R,L,zr,⟨k1,k2,k3,k4⟩,h2,h3,h4,h5,h6⟩:=h.ex
 exact⟨Z,R,L,zr,⟨k1,k2,k3,k4⟩,h2.touch ht fun b p q=>hS b p (by omega),h3.touch ht fun b p q=>hS b (by omega) (by omega),h4,h5.touch ht fun b p q=>hS b (by omega) (by omega),h6.touch ht fun b p q=>hS b (by omega) q⟩
theorem RelC.shape{w:World}{B U:Nat}{va vb vc:Value}{r:RelD}(h:RelC w B U va vb vc r):∃a b c ca cb cc,va=.slice a r.rules.length ca/\vb=.slice b r.zones.length cb/\vc=.slice c r.links.length cc:=by
 obtain⟨Z,R,L,zr,_,h2,h3,_,h5,h6⟩:=h.ex
 obtain⟨b,cb,hb⟩:=h2.shape
 obtain⟨a,ca,ha⟩:=h5.shape
 obtain⟨c,cc,hc⟩:=h6.shape
 exact⟨a,b,c,ca,cb,cc,by rw[ha,llm],by rw[hb,h3.len],by rw[hc,llm]⟩
theorem RelC.rel{w:World}{B U:Nat}{va vb vc:Value}{r:RelD}(h:RelC w B U va vb vc r):Zd w (.agg #[va,vb,vc]) r:=by
 obtain⟨a,b,c,ca,cb,cc,rfl,rfl,rfl⟩:=h.shape
 obtain⟨Z,R,L,zr,_,h2,h3,h4,h5,h6⟩:=h.ex
 refine⟨a,b,c,ca,cb,cc,rfl,h5.seq (jlb (cs:=RuleD.cs) (fun _=>rfl) _),?_,h6.seq (jlb (cs:=LinkD.cs) (fun _=>rfl) _)⟩
 rcases h2.seq h4 with h|⟨g,o,rfl,hc⟩
 ·refine .inl (List.length_eq_zero_iff.mp ?_)
  rw[<- h3.len,h];rfl
 ·refine .inr ⟨g,o,rfl,fun i z hz=>?_⟩
  obtain⟨e,ce,k1,k2⟩:=h3.at_ i z hz
  exact⟨by simpa using hc i 0 _ _ k1 rfl,_,by simpa using hc i 1 _ _ k1 rfl,e,ce,rfl,k2.seq (jlb (cs:=EraD.cs) (fun _=>rfl) _)⟩
def rc(r:RelD):Nat:=9*r.rules.length+zc r.zones+2*r.links.length
theorem rc_le{r:RelD}(h:r.sz<=1048576):rc r<=30000000:=by
 have:=zc_sz r.zones
 unfold RelD.sz at h
 unfold rc
 omega
structure MRel(w:World)(B U k:Nat)(va vb vc:Value)(r:RelD):Prop where
 ex:∃a b c ca cb cc Z R L zr,(va=.slice a r.rules.length ca/\vb=.slice b r.zones.length cb/\vc=.slice c r.links.length cc)/\(B<=Z/\Z<=R/\R<=L/\L<=U)/\MSeq w R L a 9 (jdj k r.rules.length)/\MZ w B Z R b (k+9*r.rules.length) zr r.zones r.zones.length/\MSeq w L U c 2 (jdk (k+9*r.rules.length+zc r.zones) r.links.length)
theorem MRel.below{w w':World}{B U k:Nat}{va vb vc:Value}{r:RelD}(h:MRel w B U k va vb vc r)(hb:Bw w w'):MRel w' B U k va vb vc r:=by
 obtain⟨a,b,c,ca,cb,cc,Z,R,L,zr,h1,h2,h3,h4,h5⟩:=h.ex
 exact⟨a,b,c,ca,cb,cc,Z,R,L,zr,h1,h2,h3.below hb,h4.below hb,h5.below hb⟩
theorem MRel.touch{S:Nat->Prop}{w w':World}{B U k:Nat}{va vb vc:Value}{r:RelD}(h:MRel w B U k va vb vc r)(ht:Zc S w w')(hS:∀b,B<=b->b<U->¬S b):MRel w' B U k va vb vc r:=by
 obtain⟨a,b,c,ca,cb,cc,Z,R,L,zr,h1,⟨k1,k2,k3,k4⟩,h3,h4,h5⟩:=h.ex
 exact⟨a,b,c,ca,cb,cc,Z,R,L,zr,h1,⟨k1,k2,k3,k4⟩,h3.touch ht fun b _ p q=>hS b (by omega) (by omega),h4.touch ht (fun x p q=>hS x p (by omega)) (fun _ _ _ _ g _ _ _ _ p q=>hS g (by omega) (by omega)),h5.touch ht fun b _ p q=>hS b (by omega) q⟩
theorem markRelU(r:RelD)(va vb vc:Value)(k B U:Nat)(w:World)(hv:RelC w B U va vb vc r)(hU:U<=w.heap.size)(hsz:r.sz<=1048576)(hk:0<k)(fy:k<=100000000):
  Cl 31 #[.agg #[va,vb,vc],iv (k:Int)] w fun e w'=>e=.returned (iv ((k+rc r:Nat):Int))/\MRel w' B U k va vb vc r/\Zc (fun b=>B<=b/\b<U) w w':=by
 obtain⟨a,b,c,ca,cb,cc,rfl,rfl,rfl⟩:=hv.shape
 obtain⟨Z,R,L,zr,⟨k1,k2,k3,k4⟩,hZ,hE,aF,hA,hC⟩:=hv.ex
 have YQ:=rc_le hsz
 have Cq:r.zones.length<=1048576:=by unfold RelD.sz at hsz;omega
 have HK:Hid (k+rc r=k+9*r.rules.length+zc r.zones+2*r.links.length):=by simp only[Hid,rc];omega
 unfold rc at YQ
 rw[HK.out]
 have q1:=fun w h=>markRuleU r.rules.length ca k R L a w h (by omega) (by omega)
 have q2:=fun w h h2=>markZoneU r.zones zr b cb (k+9*r.rules.length) B Z R w h h2 aF k2 (by omega) (by omega) Cq
 have q3:=fun w h=>markLinkU r.links.length cc (k+9*r.rules.length+zc r.zones) L U c w h (by omega) (by omega)
 have ag:=qal w (.cells #[.slice a r.rules.length ca,.slice b r.zones.length cb,.slice c r.links.length cc] 36)
 obtain⟨x1,x2⟩:(fun z:World=>z.cell? (ad w.heap.size 1)=some (.slice b r.zones.length cb)/\z.cell? (ad w.heap.size 2)=some (.slice c r.links.length cc)) (w.alloc (.cells #[.slice a r.rules.length ca,.slice b r.zones.length cb,.slice c r.links.length cc] 36)):=by simp[go_sem]
 have T0:Zc (fun b=>B<=b/\b<U) w (w.alloc (.cells #[.slice a r.rules.length ca,.slice b r.zones.length cb,.slice c r.links.length cc] 36)):=Zc.of_below ag
 have eK:=(hA.below ag).room (by simp)
 have uN:=hZ.below ag
 have eu:=hE.below ag
 have OX:=(hC.below ag).room (by simp)
 have HX:Hid (∀w',MSeq w' R L a 9 (jdj k r.rules.length)->MZ w' B Z R b (k+9*r.rules.length) zr r.zones r.zones.length->MSeq w' L U c 2 (jdk (k+9*r.rules.length+zc r.zones) r.links.length)->MRel w' B U k (.slice a r.rules.length ca) (.slice b r.zones.length cb) (.slice c r.links.length cc) r):=fun w' m1 m2 m3=>⟨a,b,c,ca,cb,cc,Z,R,L,zr,⟨rfl,rfl,rfl⟩,⟨k1,k2,k3,k4⟩,m1,m2,m3⟩
 clear hv hA hZ hE hC ag HK YQ hsz
 unfold Cl;go_in
 go_wp2_with fail
 refine(q1 _ eK).mono ?_
 rintro e w1 ⟨rfl,m1,t1⟩
 have T1:=T0.trans (t1.mono (S2:=fun b=>B<=b/\b<U) fun x _ hx=>⟨by have:=hx.2.1;omega,by have:=hx.2.2;omega⟩)
 have n1:¬(a=some (ad w.heap.size 0)/\R<=w.heap.size/\w.heap.size<L):=fun h=>by have:=h.2.2;omega
 have y1:=t1.cell n1 x1
 have y2:=t1.cell n1 x2
 have j8:=uN.touch t1 (fun b p q h=>by have:=h.2.1;omega)
 have jx:=eu.touch t1 (fun b p q h=>by have:=h.2.1;omega)
 have AY:=OX.touch t1
 clear x1 x2 T0 q1 eK uN eu OX t1 n1
 go_wp2_with fail
 refine(q2 _ j8 jx).mono ?_
 rintro e w2 ⟨rfl,m2,t2⟩
 have T2:=T1.trans (t2.mono (S2:=fun b=>B<=b/\b<U) fun x _ hx=>⟨hx.1,by have:=hx.2;omega⟩)
 have z2:=t2.cell (fun h=>by have:=h.2;omega) y2
 have Yy:=m1.touch t2 (fun b _ p q h=>by have:=h.2;omega)
 have nR:=AY.touch t2
 clear y1 y2 T1 q2 j8 jx AY t2 m1
 go_wp2_with fail
 refine(q3 _ nR).mono ?_
 rintro e w3 ⟨rfl,m3,t3⟩
 have T3:=T2.trans (t3.mono (S2:=fun b=>B<=b/\b<U) fun x _ hx=>⟨by have:=hx.2.1;omega,hx.2.2⟩)
 have SB:=Yy.touch t3 (fun b _ p q h=>by have:=h.2.1;omega)
 have sQ:=m2.touch t3 (fun x p q h=>by have:=h.2.1;omega) (fun _ _ _ _ g _ _ _ _ p q h=>by have:=h.2.1;omega)
 have hM:=HX.out _ SB sQ m3
 clear z2 T2 q3 nR t3 Yy m2 SB sQ m3 HX
 go_wp2
 go_ret
 exact⟨rfl,hM,T3⟩
theorem heldRelU(r:RelD)(va vb vc:Value)(k B U:Nat)(w:World)(hv:MRel w B U k va vb vc r)(hsz:r.sz<=1048576)(hk:0<k)(fy:k<=100000000):
  Cl 72 #[.agg #[va,vb,vc],iv (k:Int)] w fun e w'=>e=.returned (iv ((k+rc r:Nat):Int))/\Bw w w':=by
 obtain⟨a,b,c,ca,cb,cc,Z,R,L,zr,⟨rfl,rfl,rfl⟩,_,m1,m2,m3⟩:=hv.ex
 have YQ:=rc_le hsz
 have Cq:r.zones.length<=1048576:=by unfold RelD.sz at hsz;omega
 have HK:Hid (k+rc r=k+9*r.rules.length+zc r.zones+2*r.links.length):=by simp only[Hid,rc];omega
 unfold rc at YQ
 rw[HK.out]
 have q1:=fun w h=>laws_heldRuleS r.rules.length ca k a w h (by omega) (by omega)
 have q2:=fun w h=>laws_heldZoneS r.zones zr b cb (k+9*r.rules.length) B Z R w h (by omega) (by omega) Cq
 have q3:=fun w h=>laws_heldLinkS r.links.length cc (k+9*r.rules.length+zc r.zones) c w h (by omega) (by omega)
 have ag:=qal w (.cells #[.slice a r.rules.length ca,.slice b r.zones.length cb,.slice c r.links.length cc] 36)
 obtain⟨x1,x2⟩:(fun z:World=>z.cell? (ad w.heap.size 1)=some (.slice b r.zones.length cb)/\z.cell? (ad w.heap.size 2)=some (.slice c r.links.length cc)) (w.alloc (.cells #[.slice a r.rules.length ca,.slice b r.zones.length cb,.slice c r.links.length cc] 36)):=by simp[go_sem]
 have M1:=m1.seq.below ag
 have M2:=m2.below ag
 have M3:=m3.seq.below ag
 clear hv m1 m2 m3 HK hsz
 have HU:Hid (k+9*r.rules.length+zc r.zones+2*r.links.length<=130000000):=by simp only[Hid];omega
 have HC:Hid (((k+9*r.rules.length+zc r.zones+2*r.links.length:Nat):Int)=((k+9*r.rules.length+zc r.zones+2*r.links.length:Nat):Int)):=rfl
 generalize he1:k+9*r.rules.length=K1 at *
 generalize he2:K1+zc r.zones=K2 at *
 generalize iI:K2+2*r.links.length=K3 at *
 clear he1 he2 iI HC
 unfold Cl;go_in
 go_wp2_with fail
 refine(q1 _ M1).mono ?_
 rintro e w1 ⟨rfl,hb1⟩
 have B1:=qtr ag hb1
 have y1:=jaa hb1 x1
 have y2:=jaa hb1 x2
 have N2:=M2.below hb1
 have N3:=M3.below hb1
 clear x1 x2 ag q1 M1 M2 M3 hb1
 have g1:(0:Int)<=(K1:Int):=by omega
 go_wp2_with fail
 refine(q2 _ N2).mono ?_
 rintro e w2 ⟨rfl,ac⟩
 have B2:=qtr B1 ac
 have z2:=jaa ac y2
 have P3:=N3.below ac
 clear y1 y2 B1 q2 N2 N3 ac
 have g2:(0:Int)<=(K2:Int):=by omega
 go_wp2_with fail
 refine(q3 _ P3).mono ?_
 rintro e w3 ⟨rfl,ar⟩
 have B3:=qtr B2 ar
 clear z2 B2 q3 P3 ar
 have g3:(0:Int)<=(K3:Int):=by omega
 go_wp2
 go_ret
 exact⟨rfl,B3⟩
theorem Zh.touchM{S:Nat->Prop}{w w':World}{b:Nat}{l:List Value}(h:Zh w b l)(ht:Zc S w w')(hs:¬S b):Zh w' b l:=fun i u hu=>
 have h1:=h i u hu
 ⟨ht.cell hs h1.1,(ht.frozen (qbl h1.1) hs).trans h1.2⟩
structure StC(w:World)(B U:Nat)(v:Value)(s:StoreD):Prop where
 form:∃a b c d e f va ia ca cb cc cd ce cf cv ci M1 M2 M3,v=.agg (stA s a b c d e f va ia ca cb cc cd ce cf cv ci).toArray/\(B<=M1/\M1<=M2/\M2<=M3/\M3<=U)/\RelC w B M1 (.slice a s.now.rules.length ca) (.slice b s.now.zones.length cb) (.slice c s.now.links.length cc) s.now/\RelC w M1 M2 (.slice d s.was.rules.length cd) (.slice e s.was.zones.length ce) (.slice f s.was.links.length cf) s.was/\RowC w M2 M3 92 8 (.slice va s.vs.length cv) (s.vs.map VersionD.cs)/\RowC w M3 U 88 2 (.slice ia s.ix.length ci) (s.ix.map EntryD.cs)
theorem StC.below{w w':World}{B U:Nat}{v:Value}{s:StoreD}(h:StC w B U v s)(hb:Bw w w'):StC w' B U v s:=by
 obtain⟨a,b,c,d,e,f,va,ia,ca,cb,cc,cd,ce,cf,cv,ci,M1,M2,M3,h0,h1,h2,h3,h4,h5⟩:=h.form
 exact⟨a,b,c,d,e,f,va,ia,ca,cb,cc,cd,ce,cf,cv,ci,M1,M2,M3,h0,h1,h2.below hb,h3.below hb,h4.below hb,h5.below hb⟩
theorem StC.touch{S:Nat->Prop}{w w':World}{B U:Nat}{v:Value}{s:StoreD}(h:StC w B U v s)(ht:Zc S w w')(hS:∀b,B<=b->b<U->¬S b):StC w' B U v s:=by
 obtain⟨a,b,c,d,e,f,va,ia,ca,cb,cc,cd,ce,cf,cv,ci,M1,M2,M3,h0,⟨k1,k2,k3,k4⟩,h2,h3,h4,h5⟩:=h.form
 exact⟨a,b,c,d,e,f,va,ia,ca,cb,cc,cd,ce,cf,cv,ci,M1,M2,M3,h0,⟨k1,k2,k3,k4⟩,h2.touch ht fun b p q=>hS b p (by omega),h3.touch ht fun b p q=>hS b (by omega) (by omega),h4.touch ht fun b p q=>hS b (by omega) (by omega),h5.touch ht fun b p q=>hS b (by omega) q⟩
theorem RowC.cap{w:World}{B U:Nat}{t:TypeId}{q:Nat}{a:Option Addr}{n cap:Nat}{rows:List (List Value)}(h:RowC w B U t q (.slice a n cap) rows):n<=cap:=by
 rcases h.own.2 with⟨h1,h2⟩|⟨g,c,_,h1,_,_,h2,_⟩
 ·injection h1 with _ h1;omega
 ·injection h1 with _ h3 h1;omega
theorem StC.st{w:World}{B U:Nat}{v:Value}{s:StoreD}(h:StC w B U v s):Jd w v s:=by
 obtain⟨a,b,c,d,e,f,va,ia,ca,cb,cc,cd,ce,cf,cv,ci,M1,M2,M3,h0,h1,h2,h3,h4,h5⟩:=h.form
 exact⟨a,b,c,d,e,f,va,ia,ca,cb,cc,cd,ce,cf,cv,ci,h0,h2.rel,h3.rel,h4.seq (jlb (cs:=VersionD.cs) (fun _=>rfl) _),h5.seq (jlb (cs:=EntryD.cs) (fun _=>rfl) _),h4.cap,h5.cap⟩
def sc(s:StoreD):Nat:=rc s.now+rc s.was+8*s.vs.length+2*s.ix.length
structure MSt(w:World)(B U:Nat)(v:Value)(s:StoreD):Prop where
 form:∃a b c d e f va ia ca cb cc cd ce cf cv ci M1 M2 M3,v=.agg (stA s a b c d e f va ia ca cb cc cd ce cf cv ci).toArray/\(B<=M1/\M1<=M2/\M2<=M3/\M3<=U)/\MRel w B M1 1 (.slice a s.now.rules.length ca) (.slice b s.now.zones.length cb) (.slice c s.now.links.length cc) s.now/\MRel w M1 M2 (1+rc s.now) (.slice d s.was.rules.length cd) (.slice e s.was.zones.length ce) (.slice f s.was.links.length cf) s.was/\MSeq w M2 M3 va 8 (jbq (1+rc s.now+rc s.was) s.vs.length)/\MSeq w M3 U ia 2 (jb6 (1+rc s.now+rc s.was+8*s.vs.length) s.ix.length)
theorem MSt.below{w w':World}{B U:Nat}{v:Value}{s:StoreD}(h:MSt w B U v s)(hb:Bw w w'):MSt w' B U v s:=by
 obtain⟨a,b,c,d,e,f,va,ia,ca,cb,cc,cd,ce,cf,cv,ci,M1,M2,M3,h0,h1,h2,h3,h4,h5⟩:=h.form
 exact⟨a,b,c,d,e,f,va,ia,ca,cb,cc,cd,ce,cf,cv,ci,M1,M2,M3,h0,h1,h2.below hb,h3.below hb,h4.below hb,h5.below hb⟩
theorem markStoreU(s:StoreD)(v:Value)(B U:Nat)(w:World)(hv:StC w B U v s)(hU:U<=w.heap.size)(h1:s.now.sz<=1048576)(h2:s.was.sz<=1048576)(CG:s.vs.length<=1048576)(de:s.ix.length<=1048576):
  Cl 10 #[v,iv 1] w fun e w'=>e=.returned (iv ((1+sc s:Nat):Int))/\MSt w' B U v s/\Zc (fun b=>B<=b/\b<U) w w':=by
 obtain⟨a,b,c,d,e,f,va,ia,ca,cb,cc,cd,ce,cf,cv,ci,M1,M2,M3,rfl,⟨l1,l2,l3,l4⟩,hN,hW,hV,hX⟩:=hv.form
 have ag:=qal w (.cells (stA s a b c d e f va ia ca cb cc cd ce cf cv ci).toArray 40)
 have A0:=Zh.new w (stA s a b c d e f va ia ca cb cc cd ce cf cv ci) 40
 have r1:=rc_le h1
 have r2:=rc_le h2
 have q1:=fun w h hU=>markRelU s.now (.slice a s.now.rules.length ca) (.slice b s.now.zones.length cb) (.slice c s.now.links.length cc) 1 B M1 w h hU h1 (by omega) (by omega)
 have q2:=fun w h hU=>markRelU s.was (.slice d s.was.rules.length cd) (.slice e s.was.zones.length ce) (.slice f s.was.links.length cf) (1+rc s.now) M1 M2 w h hU h2 (by omega) (by omega)
 have q3:=fun w h=>markVersionU s.vs.length cv (1+rc s.now+rc s.was) M2 M3 va w h (by omega) (by omega)
 have q4:=fun w h=>markEntryU s.ix.length ci (1+rc s.now+rc s.was+8*s.vs.length) M3 U ia w h (by omega) (by omega)
 have HX:Hid (∀w',MRel w' B M1 1 (.slice a s.now.rules.length ca) (.slice b s.now.zones.length cb) (.slice c s.now.links.length cc) s.now->MRel w' M1 M2 (1+rc s.now) (.slice d s.was.rules.length cd) (.slice e s.was.zones.length ce) (.slice f s.was.links.length cf) s.was->MSeq w' M2 M3 va 8 (jbq (1+rc s.now+rc s.was) s.vs.length)->MSeq w' M3 U ia 2 (jb6 (1+rc s.now+rc s.was+8*s.vs.length) s.ix.length)->MSt w' B U (.agg (stA s a b c d e f va ia ca cb cc cd ce cf cv ci).toArray) s):=fun w' m1 m2 m3 m4=>⟨a,b,c,d,e,f,va,ia,ca,cb,cc,cd,ce,cf,cv,ci,M1,M2,M3,rfl,⟨l1,l2,l3,l4⟩,m1,m2,m3,m4⟩
 have HK:Hid (1+sc s=1+rc s.now+rc s.was+8*s.vs.length+2*s.ix.length):=by simp only[Hid,sc];omega
 rw[HK.out]
 have N0:=hN.below ag
 have W0:=hW.below ag
 have V0:=(hV.below ag).room (by simp)
 have X0:=(hX.below ag).room (by simp)
 have T0:Zc (fun b=>B<=b/\b<U) w _:=Zc.of_below ag
 have x1:=A0.c 1 rfl
 have x2:=A0.c 2 rfl
 have x3:=A0.c 3 rfl
 clear hN hW hV hX hv h1 h2 HK r1 r2 CG de
 unfold Cl;go_in
 go_wp2_with fail
 refine(q1 _ N0 (by simp;omega)).mono ?_
 rintro e1 w1 ⟨rfl,m1,t1⟩
 have T1:=T0.trans (t1.mono (S2:=fun b=>B<=b/\b<U) fun x _ hx=>⟨hx.1,by have:=hx.2;omega⟩)
 have A1:=A0.touchM t1 (fun h=>by have:=h.2;omega)
 have W1:=W0.touch t1 (fun b p q h=>by have:=h.2;omega)
 have V1:=V0.touch t1
 have X1:=X0.touch t1
 have s1:=T1.size
 clear x1 x2 x3 A0 T0 t1 q1 ag N0 W0 V0 X0
 have x4:=A1.c 4 rfl
 have x5:=A1.c 5 rfl
 have x6:=A1.c 6 rfl
 go_wp2_with fail
 refine(q2 _ W1 (by omega)).mono ?_
 rintro e2 w2 ⟨rfl,m2,t2⟩
 have T2:=T1.trans (t2.mono (S2:=fun b=>B<=b/\b<U) fun x _ hx=>⟨by have:=hx.1;omega,by have:=hx.2;omega⟩)
 have A2:=A1.touchM t2 (fun h=>by have:=h.2;omega)
 have Yy:=m1.touch t2 (fun b p q h=>by have:=h.1;omega)
 have V2:=V1.touch t2
 have X2:=X1.touch t2
 clear x4 x5 x6 A1 T1 t2 q2 W1 V1 X1 m1
 have x8:=A2.c 8 rfl
 go_wp2_with fail
 refine(q3 _ V2).mono ?_
 rintro e3 w3 ⟨rfl,m3,t3⟩
 have T3:=T2.trans (t3.mono (S2:=fun b=>B<=b/\b<U) fun x _ hx=>⟨by have:=hx.2.1;omega,by have:=hx.2.2;omega⟩)
 have A3:=A2.touchM t3 (fun h=>by have:=h.2.2;omega)
 have SB:=Yy.touch t3 (fun b p q h=>by have:=h.2.1;omega)
 have sQ:=m2.touch t3 (fun b p q h=>by have:=h.2.1;omega)
 have X3:=X2.touch t3
 clear x8 A2 T2 t3 q3 V2 X2 Yy m2
 have x9:=A3.c 9 rfl
 go_wp2_with fail
 refine(q4 _ X3).mono ?_
 rintro e4 w4 ⟨rfl,m4,t4⟩
 have T4:=T3.trans (t4.mono (S2:=fun b=>B<=b/\b<U) fun x _ hx=>⟨by have:=hx.2.1;omega,hx.2.2⟩)
 have hM:=HX.out _ (SB.touch t4 (fun b p q h=>by have:=h.2.1;omega)) (sQ.touch t4 (fun b p q h=>by have:=h.2.1;omega)) (m3.touch t4 (fun b _ p q h=>by have:=h.2.1;omega)) m4
 clear x9 A3 T3 t4 q4 X3 SB sQ m3 m4 HX
 go_wp2
 go_ret
 exact⟨rfl,hM,T4⟩
theorem heldStoreU(s:StoreD)(v:Value)(B U:Nat)(w:World)(hv:MSt w B U v s)(h1:s.now.sz<=1048576)(h2:s.was.sz<=1048576)(CG:s.vs.length<=1048576)(de:s.ix.length<=1048576):
  Cl 34 #[v,iv 1] w fun e w'=>e=.returned (iv ((1+sc s:Nat):Int))/\Bw w w':=by
 obtain⟨a,b,c,d,e,f,va,ia,ca,cb,cc,cd,ce,cf,cv,ci,M1,M2,M3,rfl,_,hN,hW,hV,hX⟩:=hv.form
 have ag:=qal w (.cells (stA s a b c d e f va ia ca cb cc cd ce cf cv ci).toArray 40)
 have A0:=Zh.new w (stA s a b c d e f va ia ca cb cc cd ce cf cv ci) 40
 have r1:=rc_le h1
 have r2:=rc_le h2
 have q1:=fun w h=>heldRelU s.now (.slice a s.now.rules.length ca) (.slice b s.now.zones.length cb) (.slice c s.now.links.length cc) 1 B M1 w h h1 (by omega) (by omega)
 have q2:=fun w h=>heldRelU s.was (.slice d s.was.rules.length cd) (.slice e s.was.zones.length ce) (.slice f s.was.links.length cf) (1+rc s.now) M1 M2 w h h2 (by omega) (by omega)
 have q3:=fun w h=>laws_heldVersionS s.vs.length cv (1+rc s.now+rc s.was) va w h (by omega) (by omega)
 have q4:=fun w h=>jix s.ix.length ci (1+rc s.now+rc s.was+8*s.vs.length) ia w h (by omega) (by omega)
 have HK:Hid (1+sc s=1+rc s.now+rc s.was+8*s.vs.length+2*s.ix.length):=by simp only[Hid,sc];omega
 rw[HK.out]
 have N0:=hN.below ag
 have W0:=hW.below ag
 have V0:=hV.seq.below ag
 have X0:=hX.seq.below ag
 have HU:Hid (1+rc s.now+rc s.was+8*s.vs.length+2*s.ix.length<=130000000):=by simp only[Hid];omega
 clear hN hW hV hX hv h1 h2 HK r1 r2 CG de
 generalize 1+rc s.now=K1 at *
 generalize K1+rc s.was=K2 at *
 generalize K2+8*s.vs.length=K3 at *
 generalize K3+2*s.ix.length=K4 at *
 have x1:=A0.c 1 rfl
 have x2:=A0.c 2 rfl
 have x3:=A0.c 3 rfl
 unfold Cl;go_in
 go_wp2_with fail
 refine(q1 _ N0).mono ?_
 rintro e1 w1 ⟨rfl,b1⟩
 have B1:=qtr ag b1
 have A1:=A0.below b1
 have W1:=W0.below b1
 have V1:=V0.below b1
 have X1:=X0.below b1
 clear x1 x2 x3 A0 b1 q1 ag N0 W0 V0 X0
 have x4:=A1.c 4 rfl
 have x5:=A1.c 5 rfl
 have x6:=A1.c 6 rfl
 have g1:(0:Int)<=(K1:Int):=by omega
 go_wp2_with fail
 refine(q2 _ W1).mono ?_
 rintro e2 w2 ⟨rfl,b2⟩
 have B2:=qtr B1 b2
 have A2:=A1.below b2
 have V2:=V1.below b2
 have X2:=X1.below b2
 clear x4 x5 x6 A1 b2 q2 B1 W1 V1 X1
 have x8:=A2.c 8 rfl
 have g2:(0:Int)<=(K2:Int):=by omega
 go_wp2_with fail
 refine(q3 _ V2).mono ?_
 rintro e3 w3 ⟨rfl,b3⟩
 have B3:=qtr B2 b3
 have A3:=A2.below b3
 have X3:=X2.below b3
 clear x8 A2 b3 q3 B2 V2 X2
 have x9:=A3.c 9 rfl
 have g3:(0:Int)<=(K3:Int):=by omega
 go_wp2_with fail
 refine(q4 _ X3).mono ?_
 rintro e4 w4 ⟨rfl,b4⟩
 have B4:=qtr B3 b4
 have g4:(0:Int)<=(K4:Int):=by omega
 clear x9 A3 b4 q4 B3 X3
 go_wp2
 go_ret
 exact⟨rfl,B4⟩
abbrev outA(s:StoreD)(a b c d e f va ia:Option Addr)(ca cb cc cd ce cf cv ci:Nat)(m k:Int):List Value:=[iv s.tx,.slice a s.now.rules.length ca,.slice b s.now.zones.length cb,.slice c s.now.links.length cc,.slice d s.was.rules.length cd,.slice e s.was.zones.length ce,.slice f s.was.links.length cf,iv s.cur,.slice va s.vs.length cv,.slice ia s.ix.length ci,iv m,iv k]
theorem laws_eqStoreOut(s:StoreD)(a b c d e f va ia:Option Addr)(ca cb cc cd ce cf cv ci:Nat)(a2 b2 c2 d2 e2 f2 rG qS:Option Addr)(fJ nN nO rT rU rV rX rW:Nat)(m k:Int)(w:World)(h:Jd w (.agg (stA s a b c d e f va ia ca cb cc cd ce cf cv ci).toArray) s)(h2:Jd w (.agg (stA s a2 b2 c2 d2 e2 f2 rG qS fJ nN nO rT rU rV rX rW).toArray) s)(hm:Zr s):
  Cl 8 #[.agg (outA s a b c d e f va ia ca cb cc cd ce cf cv ci m k).toArray,.agg (outA s a2 b2 c2 d2 e2 f2 rG qS fJ nN nO rT rU rV rX rW m k).toArray] w fun q w'=>q=.returned (.bool true)/\Bw w w':=by
 have u1:=qal w (.cells (outA s a b c d e f va ia ca cb cc cd ce cf cv ci m k).toArray 42)
 have u2:=(brf (w.alloc (.cells (outA s a b c d e f va ia ca cb cc cd ce cf cv ci m k).toArray 42)).heap.size (w.alloc (.cells (outA s a b c d e f va ia ca cb cc cd ce cf cv ci m k).toArray 42))).alloc (nlr _) (.cells (outA s a2 b2 c2 d2 e2 f2 rG qS fJ nN nO rT rU rV rX rW m k).toArray 42)
 have hB:=qtr u1 u2
 have A:=(Zh.new w (outA s a b c d e f va ia ca cb cc cd ce cf cv ci m k) 42).below u2
 have B:=Zh.new (w.alloc (.cells (outA s a b c d e f va ia ca cb cc cd ce cf cv ci m k).toArray 42)) (outA s a2 b2 c2 d2 e2 f2 rG qS fJ nN nO rT rU rV rX rW m k) 42
 rw[World.size_alloc]at B
 have hQ:=jn5 s _ _ _ (h.below hB) (h2.below hB) hm
 obtain⟨x0,x1,x2,x3,x4,x5,x6,x7,x8,x9⟩:=A.ten
 obtain⟨y0,y1,y2,y3,y4,y5,y6,y7,y8,y9⟩:=B.ten
 clear u1 u2 h h2 hm
 unfold Cl;go_in
 go_wp2_with fail
 refine hQ.mono ?_
 rintro q w1 ⟨rfl,hb⟩
 have A1:=A.below hb
 have B1:=B.below hb
 have aj:=qtr hB hb
 clear x0 x1 x2 x3 x4 x5 x6 x7 x8 x9 y0 y1 y2 y3 y4 y5 y6 y7 y8 y9 A B hQ hB hb
 have Q9:=A1.c 10 rfl
 have Sf:=A1.c 11 rfl
 have y10:=B1.c 10 rfl
 have y11:=B1.c 11 rfl
 go_wp2
 go_ret
 exact⟨rfl,aj⟩
theorem laws_markStoreOut(s:StoreD)(a b c d e f va ia:Option Addr)(ca cb cc cd ce cf cv ci:Nat)(m k:Int)(B U:Nat)(w:World)(hv:StC w B U (.agg (stA s a b c d e f va ia ca cb cc cd ce cf cv ci).toArray) s)(hU:U<=w.heap.size)(h1:s.now.sz<=1048576)(h2:s.was.sz<=1048576)(CG:s.vs.length<=1048576)(de:s.ix.length<=1048576):
  Cl 11 #[.agg (outA s a b c d e f va ia ca cb cc cd ce cf cv ci m k).toArray,iv 1] w fun q w'=>q=.returned (iv ((1+sc s:Nat):Int))/\MSt w' B U (.agg (stA s a b c d e f va ia ca cb cc cd ce cf cv ci).toArray) s/\Zc (fun b=>B<=b/\b<U) w w':=by
 have u1:=qal w (.cells (outA s a b c d e f va ia ca cb cc cd ce cf cv ci m k).toArray 42)
 have A:=Zh.new w (outA s a b c d e f va ia ca cb cc cd ce cf cv ci m k) 42
 have hM:=markStoreU s _ B U _ (hv.below u1) (Nat.le_trans hU u1.size) h1 h2 CG de
 obtain⟨x0,x1,x2,x3,x4,x5,x6,x7,x8,x9⟩:=A.ten
 clear hv h1 h2 CG de
 generalize ((1+sc s:Nat):Int)=K at *
 unfold Cl;go_in
 go_wp2_with fail
 refine hM.mono ?_
 rintro e1 w1 ⟨rfl,hs,ht⟩
 have T:=(Zc.of_below u1).trans ht
 clear x0 x1 x2 x3 x4 x5 x6 x7 x8 x9 A hM ht u1
 go_wp2
 go_ret
 exact⟨rfl,hs,T⟩
theorem laws_heldStoreOut(s:StoreD)(a b c d e f va ia:Option Addr)(ca cb cc cd ce cf cv ci:Nat)(m k:Int)(B U:Nat)(w:World)(hv:MSt w B U (.agg (stA s a b c d e f va ia ca cb cc cd ce cf cv ci).toArray) s)(h1:s.now.sz<=1048576)(h2:s.was.sz<=1048576)(CG:s.vs.length<=1048576)(de:s.ix.length<=1048576):
  Cl 12 #[.agg (outA s a b c d e f va ia ca cb cc cd ce cf cv ci m k).toArray,iv 1] w fun q w'=>q=.returned (iv ((1+sc s:Nat):Int))/\Bw w w':=by
 have u1:=qal w (.cells (outA s a b c d e f va ia ca cb cc cd ce cf cv ci m k).toArray 42)
 have A:=Zh.new w (outA s a b c d e f va ia ca cb cc cd ce cf cv ci m k) 42
 have hM:=heldStoreU s _ B U _ (hv.below u1) h1 h2 CG de
 obtain⟨x0,x1,x2,x3,x4,x5,x6,x7,x8,x9⟩:=A.ten
 clear hv h1 h2 CG de
 have hK:(0:Int)<=((1+sc s:Nat):Int):=by omega
 generalize ((1+sc s:Nat):Int)=K at *
 unfold Cl;go_in
 go_wp2_with fail
 refine hM.mono ?_
 rintro e1 w1 ⟨rfl,hb⟩
 have T:=qtr u1 hb
 clear x0 x1 x2 x3 x4 x5 x6 x7 x8 x9 A hM hb u1
 go_wp2
 go_ret
 exact⟨rfl,T⟩
