import Derived.Test.YtpejeokacilebaaGreatDoorRelPd
set_option maxRecDepth 20000
set_option maxHeartbeats 0
set_option linter.unusedSimpArgs false
open Go.RowKit Go.Sort
namespace Go.Proofs.YtpejeokacilebaaGreatDoor
structure Zc(S:Nat->Prop)(w w':World):Prop where
 os:w'.os=w.os
 tape:w'.tape=w.tape
 output:w'.output=w.output
 size:w.heap.size<=w'.heap.size
 block:∀b,b<w.heap.size->¬S b->w'.heap[b]? =w.heap[b]?
 room:∀g m,Zg w g m->Zg w' g m
theorem Zc.refl(S:Nat->Prop)(w:World):Zc S w w:=⟨rfl,rfl,rfl,nlr _,fun _ _ _=>rfl,fun _ _ h=>h⟩
theorem Zc.trans{S:Nat->Prop}{w w1 w2:World}(h:Zc S w w1)(h2:Zc S w1 w2):Zc S w w2:=
 ⟨h2.os.trans h.os,h2.tape.trans h.tape,h2.output.trans h.output,Nat.le_trans h.size h2.size,fun b hb hs=>(h2.block b (Nat.lt_of_lt_of_le hb h.size) hs).trans (h.block b hb hs),fun g m hr=>h2.room g m (h.room g m hr)⟩
theorem Zc.mono{S S2:Nat->Prop}{w w':World}(h:Zc S w w')(hs:∀b,b<w.heap.size->S b->S2 b):Zc S2 w w':=
 ⟨h.os,h.tape,h.output,h.size,fun b hb hn=>h.block b hb fun hx=>hn (hs b hb hx),h.room⟩
theorem Zc.of_below{S:Nat->Prop}{w w':World}(h:Bw w w'):Zc S w w':=⟨h.os,h.tape,h.output,h.size,fun b hb _=>h.block b hb,fun _ _ hr=>hr.below h⟩
theorem Zc.set{S:Nat->Prop}{w w':World}(h:Zc S w w'){g o:Nat}(hg:S g)(v:Value):Zc S w (w'.setCell (ad g o) v):=by
 refine⟨h.os,h.tape,h.output,by simpa using h.size,fun b hb hn=>?_,fun _ _ hr=>(h.room _ _ hr).set _ _⟩
 rw[<- h.block b hb hn,Go.Sort.setCell_eq]
 have az:g≠b:=fun e=>hn (e ▸ hg)
 simp[Go.Sort.mapBlock,Array.getElem?_modify,az]
theorem Zc.below{S:Nat->Prop}{w0 w w':World}{B:Nat}(h:Zc S w w')(hS:∀b,S b->B<=b)(hB:B<=w.heap.size)(hb:Below B w0 w):Below B w0 w':=
 ⟨h.os.trans hb.os,h.tape.trans hb.tape,h.output.trans hb.output,Nat.le_trans hb.size h.size,fun k hk=>(h.block k (Nat.lt_of_lt_of_le hk hB) fun hs=>by have:=hS k hs;omega).trans (hb.block k hk)⟩
theorem Zc.cell{S:Nat->Prop}{w w':World}(h:Zc S w w'){b o:Nat}{v:Value}(hs:¬S b)(hc:w.cell? (ad b o)=some v):w'.cell? (ad b o)=some v:=by
 rw[World.cell?_of_block (h.block b (qbl hc) hs)];exact hc
theorem Zc.frozen{S:Nat->Prop}{w w':World}(h:Zc S w w'){b o:Nat}(hb:b<w.heap.size)(hs:¬S b):w'.frozen? (ad b o)=w.frozen? (ad b o):=World.frozen?_of_block (h.block b hb hs)
theorem Za.touch{S:Nat->Prop}{w w':World}{g o k:Nat}{rows:List (List Value)}(h:Za w (some (ad g o)) k rows)(ht:Zc S w w')(hs:¬S g):Za w' (some (ad g o)) k rows:=by
 rcases h with h|⟨b,o',ha,hc⟩
 ·exact .inl h
 ·injection ha with ha
  injection ha with h1 h2
  subst h1 h2
  exact .inr ⟨_,_,rfl,fun i j r c hi hj=>ht.cell hs (hc i j r c hi hj)⟩
def Jh(w:World)(g o:Nat)(bv:List Value):Prop:=∀j v,bv[j]? =some v->w.cell? (ad g (o+j))=some v
theorem Jh.nil(w:World)(g o:Nat):Jh w g o []:=fun j v h=>by simp at h
theorem Jh.below{w w':World}{g o:Nat}{bv:List Value}(h:Jh w g o bv)(hb:Bw w w'):Jh w' g o bv:=fun j v hj=>by
 have:=h j v hj
 rw[(jaf hb).1 _ _ (qbl this)];exact this
theorem Jh.store{w:World}{g o m:Nat}{bv:List Value}(h:Jh w g o bv)(hR:Zg w g m){n:Nat}(hn:bv.length=n)(hm:o+n<m)(v:Value):Jh (w.setCell (ad g (o+n)) v) g o (bv++[v]):=fun j u hj=>by
 rcases Nat.lt_or_ge j bv.length with hl|hl
 ·rw[lgl hl]at hj
  rw[wco]
  ·exact h j u hj
  ·intro e;injection e with _ e2;omega
 ·rw[List.getElem?_append_right hl]at hj
  have e:j=bv.length:=by
   rcases Nat.eq_or_lt_of_le hl with e|e
   ·exact e.symm
   ·rw[List.getElem?_eq_none (by simp;omega)]at hj;cases hj
  subst e
  simp at hj
  subst hj hn
  obtain⟨⟨u,hu⟩,_⟩:=hR (o+bv.length) hm
  exact wcs _ _ _ hu
theorem Ze.store{w:World}{g q k:Nat}{rows:List (List Value)}(h:Ze w g q k rows)(au:∀r∈rows,r.length=q)(j:Nat)(v:Value):Ze (w.setCell (ad g (k*q+j)) v) g q k rows:=fun i l r c hi hr hc=>by
 have hl:l<q:=by
  have:=au r (lmg hr)
  have:=(lgs hc).1
  omega
 have oB:i*q+q<=k*q:=by
  have:(i+1)*q<=k*q:=Nat.mul_le_mul_right q (by omega)
  rw[Nat.add_mul]at this;omega
 rw[wco]
 ·exact h i l r c hi hr hc
 ·intro e;injection e with _ e2;omega
theorem Ze.step{w:World}{g q k:Nat}{rows:List (List Value)}{row:List Value}(h:Ze w g q k rows)(hp:Jh w g (k*q) row)(hr:rows[k]? =some row):Ze w g q (k+1) rows:=fun i l r c hi cO hc=>by
 by_cases e:i=k
 ·subst e
  rw[hr]at cO
  obtain rfl:=osi cO
  exact hp l c hc
 ·exact h i l r c (by omega) cO hc
def mtF:Nat->Nat->List UInt8->List UInt8
 |0,_,c=>c
 |f+1,k,c=>if k=0 then c else mtF f (k / 10) (UInt8.ofNat (48+k%10)::c)
theorem mtF_any:∀{f g k:Nat} {c:List UInt8},k<=f->k<=g->mtF f k c=mtF g k c
 |0,0,_,_,_,_=>rfl
 |0,g+1,k,c,h,_=>by rw[mtF,mtF,if_pos (by omega)]
 |f+1,0,k,c,_,h=>by rw[mtF,mtF,if_pos (by omega)]
 |f+1,g+1,k,c,h,h2=>by
  rw[mtF,mtF]
  split
  ·rfl
  ·exact mtF_any (by omega) (by omega)
def mtGo(k:Nat)(e9:List UInt8):List UInt8:=mtF k k e9
theorem jv2(e9:List UInt8):mtGo 0 e9=e9:=rfl
theorem jze{k:Nat}(h:0<k)(e9:List UInt8):mtGo k e9=mtGo (k / 10) (UInt8.ofNat (48+k%10)::e9):=by
 obtain⟨f,rfl⟩:∃f,k=f+1:=⟨k-1,by omega⟩
 rw[mtGo,mtF,if_neg (by omega)];exact mtF_any (by omega) (by omega)
theorem ret_strM{a b:ByteArray}(h:a=b):Ending.returned (.string a)=.returned (.string b):=by rw[h]
def mtB(k:Nat):ByteArray:=⟨(109::mtGo k []).toArray⟩
def jv5(c:Nat):List Value:=[.string (mtB (c)),iv (c+1:Nat),iv (c+2:Nat),iv (c+3:Nat),.string (mtB (c+4)),iv (c+5:Nat),.string (mtB (c+6)),iv (c+7:Nat),.string (mtB (c+8))]
def jdj(c n:Nat):List (List Value):=(List.range n).map fun i=>jv5 (c+9*i)
theorem jtd{c n i:Nat}(h:i<n):(jdj c n)[i]? =some (jv5 (c+9*i)):=by unfold jdj;rw[lgm,List.getElem?_range h];rfl
theorem mksRule_len{c n:Nat}:∀r∈jdj c n,r.length=9:=fun r hr=>by
 unfold jdj at hr
 obtain⟨i,_,rfl⟩:=List.mem_map.mp hr
 rfl
def j16(c:Nat):List Value:=[iv (c:Nat),.string (mtB (c+1)),iv (c+2:Nat),.string (mtB (c+3)),iv (c+4:Nat),.string (mtB (c+5))]
def jfq(c n:Nat):List (List Value):=(List.range n).map fun i=>j16 (c+6*i)
theorem jv4{c n i:Nat}(h:i<n):(jfq c n)[i]? =some (j16 (c+6*i)):=by unfold jfq;rw[lgm,List.getElem?_range h];rfl
theorem mksEra_len{c n:Nat}:∀r∈jfq c n,r.length=6:=fun r hr=>by
 unfold jfq at hr
 obtain⟨i,_,rfl⟩:=List.mem_map.mp hr
 rfl
def jv6(c:Nat):List Value:=[.string (mtB (c)),.string (mtB (c+1))]
def jdk(c n:Nat):List (List Value):=(List.range n).map fun i=>jv6 (c+2*i)
theorem jte{c n i:Nat}(h:i<n):(jdk c n)[i]? =some (jv6 (c+2*i)):=by unfold jdk;rw[lgm,List.getElem?_range h];rfl
theorem mksLink_len{c n:Nat}:∀r∈jdk c n,r.length=2:=fun r hr=>by
 unfold jdk at hr
 obtain⟨i,_,rfl⟩:=List.mem_map.mp hr
 rfl
def zc(l:List ZoneD):Nat:=(l.map fun z=>1+6*z.eras.length).sum
theorem j1d{l:List ZoneD}{k:Nat}{r:ZoneD}(h:l[k]? =some r):zc (l.take (k+1))=zc (l.take k)+(1+6*r.eras.length):=by
 unfold zc
 rw[List.take_add_one,h]
 simp
theorem zc_le(l:List ZoneD)(k:Nat):zc (l.take k)<=zc l:=by
 have:=congrArg (fun l=>(l.map fun z:ZoneD=>1+6*z.eras.length).sum) (List.take_append_drop k l)
 simp only[lma,List.sum_append]at this
 unfold zc
 omega
theorem zc_sz(l:List ZoneD):zc l<=7*(l.length+zsz l):=by
 unfold zc zsz
 induction l with
 |nil=>simp
 |cons z l ih=>
  simp only[List.map_cons,List.sum_cons,List.length_cons]
  have:z.eras.length<=z.sz:=by unfold ZoneD.sz;omega
  omega
def Zz(w:World)(g U:Nat)(zs:List ZoneD):Prop:=∀i z,zs[i]? =some z->∃q,g<q/\(0<z.eras.length->q<U)/\w.cell? (ad g (i*2+1))=some (so q z.eras.length z.eras.length)/\Zg w q (z.eras.length*6)
theorem Zz.below{w w':World}{g U:Nat}{zs:List ZoneD}(h:Zz w g U zs)(hb:Bw w w'):Zz w' g U zs:=fun i z hz=>by
 obtain⟨q,hq,hu,c1,hr⟩:=h i z hz
 exact⟨q,hq,hu,by rw[(jaf hb).1 _ _ (qbl c1)];exact c1,hr.below hb⟩
theorem Zz.store{w:World}{g U:Nat}{zs:List ZoneD}(h:Zz w g U zs)(k:Nat)(v:Value):Zz (w.setCell (ad g (k*2)) v) g U zs:=fun i z hz=>by
 obtain⟨q,hq,hu,c1,hr⟩:=h i z hz
 refine⟨q,hq,hu,?_,hr.set _ _⟩
 rw[wco]
 ·exact c1
 ·intro e;injection e with _ e2;omega
theorem Zz.touch{S:Nat->Prop}{w w':World}{g U:Nat}{zs:List ZoneD}(h:Zz w g U zs)(ht:Zc S w w')(hq:¬S g):Zz w' g U zs:=fun i z hz=>by
 obtain⟨q',sh,hu,c1,hr⟩:=h i z hz
 exact⟨q',sh,hu,ht.cell hq c1,ht.room _ _ hr⟩
theorem Zg.lt{w:World}{g m:Nat}(h:Zg w g m)(hm:0<m):g<w.heap.size:=by
 obtain⟨⟨v,hv⟩,_⟩:=h 0 hm
 exact qbl hv
structure Zp(w:World)(B U:Nat)(v:Value)(r:RelD):Prop where
 form:∃a b c,v=.agg #[so a r.rules.length r.rules.length,so b r.zones.length r.zones.length,so c r.links.length r.links.length]/\
  (B<=a/\B<=b/\B<=c)/\((0<r.rules.length->a<U)/\(0<r.zones.length->b<U)/\(0<r.links.length->c<U))/\(0<r.rules.length->0<r.zones.length->a≠b)/\Zg w a (r.rules.length*9)/\Zg w b (r.zones.length*2)/\Zz w b U r.zones/\Zg w c (r.links.length*2)
theorem Zq.upto{w w':World}{B:Nat}{v:Value}{r:RelD}(h:Zq w B v r)(hb:Bw w w'):Zp w' B w.heap.size v r:=by
 obtain⟨a,b,c,hv,hB,⟨og,po⟩,⟨hZ,pq⟩,⟨_,pE⟩⟩:=h.form
 have cm:0<r.rules.length->0<r.zones.length->a≠b:=fun h1 h2 e=>by
  subst e
  obtain⟨x,hx⟩:=qgg h1
  obtain⟨z,hz⟩:=qgg h2
  obtain⟨b',o',he,hc⟩:=og.at (i:=0) (r:=x.cs) (by rw[lgm,hx];rfl)
  injection he with he
  injection he with e1 e2
  subst e1 e2
  have p1:=hc 1 _ rfl
  obtain⟨_,q,_,p2,_,_⟩:=hZ 0 z h2 hz
  rw[show 0+0*9+1=0*2+1 by omega,p2]at p1
  cases p1
 refine⟨a,b,c,hv,hB,⟨fun h=>po.lt (by omega),fun h=>pq.lt (by omega),fun h=>pE.lt (by omega)⟩,cm,po.below hb,pq.below hb,Zz.below (fun i z hz=>?_) hb,pE.below hb⟩
 obtain⟨_,q,hq,c1,_,hr⟩:=hZ i z (lgs hz).1 hz
 exact⟨q,hq,fun h=>hr.lt (by omega),c1,hr⟩