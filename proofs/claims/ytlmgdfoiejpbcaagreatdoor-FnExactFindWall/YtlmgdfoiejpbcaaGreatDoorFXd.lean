import Derived.Test.YtlmgdfoiejpbcaaGreatDoorFBd
import Derived.Test.YtlmgdfoiejpbcaaGreatDoorFMd
import Derived.Test.YtlmgdfoiejpbcaaGreatDoorLVd
import Derived.Test.YtlmgdfoiejpbcaaGreatDoorSJd
set_option maxRecDepth 20000
set_option maxHeartbeats 0
set_option linter.unusedSimpArgs false
open Go.RowKit Go.Sort
namespace Go.Proofs.YtlmgdfoiejpbcaaGreatDoor
theorem laws_markEvent0(a:Option Addr)(cap k:Nat)(w:World):Cl 11 #[.slice a 0 cap,iv k] w fun e w'=>e=.returned (iv k)/\w'=w:=by
 unfold Cl;go_in
 go_wp2
 go_loopw [1,5] (fun s t wr=>t=iv 0/\s=iv k/\wr=w) (fun _ _ _=>0)
 case atStart=>exact⟨rfl,rfl,rfl⟩
 case round=>
  obtain⟨rfl,rfl,hw⟩:=hrel
  have hw:=hw.symm
  subst hw
  go_wp2
  go_ret
  exact⟨rfl,rfl⟩
theorem mark_events(X:List EventD)(v:Value)(base k:Nat)(w:World)(h:Jb w base v X)(h0:0<k)(h1:k+6*X.length<1000000000):
  Cl 11 #[v,iv k] w fun e w'=>e=.returned (iv ((k+6*X.length:Nat):Int))/\(∃a cap,v=.slice a X.length cap/\Za w' a 6 (mksEvent k X.length))/\Zc (fun b=>v.ownBlock=some b) w w':=by
 rcases h.2 with⟨hv,hn⟩|⟨g,cap,cur,hv,_⟩
 ·subst hv
  rw[hn]
  refine(laws_markEvent0 none 0 k w).mono ?_
  rintro e w' ⟨rfl,rfl⟩
  exact⟨rfl,⟨_,_,rfl,.inl rfl⟩,Zc.refl _ _⟩
 ·subst hv
  refine(laws_markEventS X.length g cap k w (jnf h) h0 h1).mono ?_
  rintro e w' ⟨rfl,hS,_,ht⟩
  exact⟨rfl,⟨_,_,rfl,hS⟩,ht.mono fun b _ hb=>by rw[hb.1];rfl⟩
theorem Za.touchV{S:Nat->Prop}{w w':World}{a:Option Addr}{n cap k:Nat}{rows:List (List Value)}(h:Za w a k rows)(ht:Zc S w w')(hs:∀g,(Value.slice a n cap).ownBlock=some g->¬S g):Za w' a k rows:=by
 rcases h with h|⟨b,o,rfl,h⟩
 ·exact .inl h
 ·exact .inr ⟨b,o,rfl,fun i j r c hi hj=>ht.cell (hs b rfl) (h i j r c hi hj)⟩
theorem Zb.below{w w':World}{base:Nat}{v:Value}{L:List EntryD}(h:Zb w base v L)(hb:Bw w w'):Zb w' base v L:=jac h hb
theorem Zb.seq{w:World}{base:Nat}{v:Value}{P:List EntryD}(h:Zb w base v P):∃a cap,v=.slice a P.length cap/\Za w a 2 (P.map EntryD.cs):=by
 obtain⟨a,cap,h1,h2,h3⟩:=jbe (rows:=P.map EntryD.cs) (by rw[llm];exact h) jak
 rw[llm]at h1 h3
 exact⟨a,cap,h1,h2⟩
theorem jiw(a:Option Addr)(cap k:Nat)(w:World):Cl 34 #[.slice a 0 cap,iv k] w fun e w'=>e=.returned (iv k)/\w'=w:=by
 unfold Cl;go_in
 go_wp2
 go_loopw [1,5] (fun s t wr=>t=iv 0/\s=iv k/\wr=w) (fun _ _ _=>0)
 case atStart=>exact⟨rfl,rfl,rfl⟩
 case round=>
  obtain⟨rfl,rfl,hw⟩:=hrel
  have hw:=hw.symm
  subst hw
  go_wp2
  go_ret
  exact⟨rfl,rfl⟩
theorem jnq(X:List EntryD)(v:Value)(base k:Nat)(w:World)(h:Zb w base v X)(h0:0<k)(h1:k+2*X.length<1000000000):
  Cl 34 #[v,iv k] w fun e w'=>e=.returned (iv ((k+2*X.length:Nat):Int))/\(∃a cap,v=.slice a X.length cap/\Za w' a 2 (jb6 k X.length))/\Zc (fun b=>v.ownBlock=some b) w w':=by
 rcases h.2 with⟨hv,hn⟩|⟨g,cap,cur,hv,_⟩
 ·subst hv
  rw[hn]
  refine(jiw none 0 k w).mono ?_
  rintro e w' ⟨rfl,rfl⟩
  exact⟨rfl,⟨_,_,rfl,.inl rfl⟩,Zc.refl _ _⟩
 ·subst hv
  refine(jd7 X.length g cap k w (jnf h) h0 h1).mono ?_
  rintro e w' ⟨rfl,hS,_,ht⟩
  exact⟨rfl,⟨_,_,rfl,hS⟩,ht.mono fun b _ hb=>by rw[hb.1];rfl⟩
def rgB(lo hi n:Int):Bool:=decide (lo<=n)&&decide (n<=hi)
theorem j3b{lo hi n:Int}(h1:lo<=n)(h2:n<=hi):rgB lo hi n=true:=by unfold rgB;rw[dte h1,dte h2];rfl
theorem j1t{lo hi n:Int}(h:n<lo\/hi<n):rgB lo hi n=false:=by
 unfold rgB
 rcases h with h|h
 ·rw[dfe (by omega)];rfl
 ·rw[dfe (p:=n<=hi) (by omega)];simp
theorem joz:∀(C:List EntryD) (i:Nat) (x:EntryD),((C.map EntryD.cs).flatten.set (i*2) (iv x.at_)).set (i*2+1) (iv x.id)=((C.set i x).map EntryD.cs).flatten
 |[],_,_=>rfl
 |c::C,0,x=>rfl
 |c::C,i+1,x=>by
  have ih:=joz C i x
  have e:(i+1)*2=i*2+1+1:=by omega
  rw[e]
  simp only[List.map_cons,List.flatten_cons,List.set_cons_succ]
  rw[<- ih]
  rfl
theorem Zb.put{w:World}{base g n cap:Nat}{C:List EntryD}(h:Zb w base (so g n cap) C)(hn:n=C.length)(i:Nat)(x:EntryD):Zb ((w.setCell (ad g (i*2)) (iv x.at_)).setCell (ad g (i*2+1)) (iv x.id)) base (so g n cap) (C.set i x):=by
 subst hn
 have h2:=World.ownsRow.stored (World.ownsRow.stored h (i*2) (iv x.at_)).1 (i*2+1) (iv x.id)
 show World.ownsRow _ _ _ _ _ _ _
 rw[List.length_set, <- joz]
 exact h2.1
theorem jky{e:TypeId}{size base g n cap:Nat}:∀(L:List Value) (o:Nat) (w:World) (xs:List Value),w.ownsRow base e size (so g n cap) n xs->∃ys,(w.setCells g o L).ownsRow base e size (so g n cap) n ys/\ys.take o=xs.take o/\ys.length=xs.length
 |[],o,w,xs,h=>⟨xs,h,rfl,rfl⟩
 |v::L,o,w,xs,h=>by
  obtain⟨ys,h1,h2,h3⟩:=jky L (o+1) _ _ (World.ownsRow.stored h o v).1
  refine⟨ys,h1,?_,by rw[h3,List.length_set]⟩
  have:=congrArg (List.take o) h2
  rw[List.take_take,List.take_take,Nat.min_eq_left (by omega)]at this
  rw[this,List.take_set_of_le (by omega)]
theorem jvo{e:TypeId}{size base g n cap i:Nat}{w:World}{xs:List Value}(h:w.ownsRow base e size (so g n cap) n xs)(hi:i<=n):w.ownsRow base e size (so g i cap) i (xs.take (i*size)):=by
 have hl:i*size<=n*size:=Nat.mul_le_mul_right _ hi
 refine⟨by rw[List.length_take,h.1];omega,?_⟩
 rcases h.2 with⟨e0,_⟩|⟨g',fK,cur,e0,hb,hg,hn,hm,hs,ht⟩
 ·cases e0
 ·injection e0 with e1 e2 e3
  injection e1 with e1
  injection e1 with e1
  subst e1 e3
  exact .inr ⟨g,cap,cur,rfl,hb,hg,by omega,hm,hs,by rw[<- ht,List.take_take,Nat.min_eq_left hl]⟩
theorem zeroEntry(w:World):(zeroValue 95).run Tryz.prog w=.ok (.agg #[iv 0,iv 0]) w:=by kernel_rfl
theorem jxs(w:World){base g n cap i:Nat}{xs:List Value}(h:w.ownsRow base 95 2 (so g n cap) n xs)(hi:i<n):∃L,∀ty,(Builtin.clear_ #[40] ty #[.slice (some (ad g (i*2))) (n-i) (cap-i)]).run Tryz.prog w=.ok (.tuple #[]) (w.setCells g (i*2) L):=by
 have hz:(Builtin.zeroCells (Value.agg #[iv 0,iv 0]).cells (n-i)).toList.length=(n-i)*2:=by simp[Builtin.zeroCells,Value.cells]
 have ei:=run_storeCells_cells (P:=Tryz.prog) g (i*2) (Builtin.zeroCells (Value.agg #[iv 0,iv 0]).cells (n-i)).toList 0 w (fun j hj=>by
   rw[hz]at hj
   have h1:i*2+0+j<n*2:=by omega
   obtain⟨u,hu⟩:∃u,xs[i*2+0+j]? =some u:=⟨_,lgg (by rw[h.1];exact h1)⟩
   rw[h.cellAt _ h1,hu];rfl) (fun j _=>h.frozenAt _) (fun v hv=>by
   simp[Builtin.zeroCells,Value.cells]at hv
   obtain⟨k,_,rfl⟩:=hv
   rcases Nat.mod_two_eq_zero_or_one k with e|e<;>simp[e,Value.oneCell'])
 obtain⟨m,hm⟩:∃m,n-i=m+1:=⟨n-i-1,by omega⟩
 refine⟨(Builtin.zeroCells (Value.agg #[iv 0,iv 0]).cells (n-i)).toList,fun ty=>?_⟩
 rw[Nat.add_zero]at ei
 rw[hm]at ei ⊢
 simp[Builtin.clear_,run_underlying Tryz.underlying40,zeroEntry,ei]
theorem flat_takeX:∀(C:List EntryD) (i:Nat),(C.map EntryD.cs).flatten.take (i*2)=((C.take i).map EntryD.cs).flatten
 |[],_=>by simp
 |c::C,0=>by simp
 |c::C,i+1=>by
  have ih:=flat_takeX C i
  have e:(i+1)*2=i*2+1+1:=by omega
  rw[e]
  simp only[List.map_cons,List.flatten_cons,List.take_succ_cons]
  rw[<- ih]
  rfl
structure Jq(lo hi:Int)(P C:List EntryD)(i j:Nat):Prop where
 len:C.length=P.length
 low:C.take i=(P.take j).filter fun x=>rgB lo hi x.at_
 high:∀m,j<=m->C[m]? =P[m]?
theorem jqh{lo hi:Int}{P:List EntryD}{k:Nat}{x:EntryD}(hx:P[k]? =some x)(hr:rgB lo hi x.at_=false)(h:∀j y,j<k->P[j]? =some y->rgB lo hi y.at_=true):Jq lo hi P P k (k+1):=by
 refine⟨rfl,?_,fun _ _=>rfl⟩
 rw[List.take_add_one,hx,List.filter_append]
 simp only[Option.toList_some,List.filter_cons,hr,List.filter_nil]
 rw[List.filter_eq_self.mpr fun y hy=>?_]
 ·simp
 ·obtain⟨j,hj⟩:=lgo hy
  have hl:=(lgs hj).1
  rw[List.length_take]at hl
  rw[List.getElem?_take,if_pos (by omega)]at hj
  exact h j y (by omega) hj
theorem Jq.skip{lo hi:Int}{P C:List EntryD}{i j:Nat}{x:EntryD}(h:Jq lo hi P C i j)(hx:P[j]? =some x)(hr:rgB lo hi x.at_=false):Jq lo hi P C i (j+1):=by
 refine⟨h.len,?_,fun m hm=>h.high m (by omega)⟩
 rw[List.take_add_one,hx,List.filter_append,h.low]
 simp[hr]
theorem Jq.keep{lo hi:Int}{P C:List EntryD}{i j:Nat}{x:EntryD}(h:Jq lo hi P C i j)(hx:P[j]? =some x)(hr:rgB lo hi x.at_=true)(eF:i<j):Jq lo hi P (C.set i x) (i+1) (j+1):=by
 have hl:=(lgs hx).1
 have FY:i<C.length:=by rw[h.len];omega
 refine⟨by rw[List.length_set];exact h.len,?_,fun m hm=>?_⟩
 ·rw[List.take_add_one,List.getElem?_set_self FY,List.take_set_of_le (nlr _),h.low,List.take_add_one,hx,List.filter_append]
  simp[hr]
 ·rw[List.getElem?_set_ne (by omega)]
  exact h.high m (by omega)
structure DelK(F:Nat)(bs:Array Value)(p:EventD->Bool)(base:Nat)(W0:World):Prop where
 enter:∀d9 w,(callFunc F d9).run Tryz.prog w=.ok (.enter F d9) w
 call:∀x W,Below base W0 W->Cl F (#[x.v]++bs) W fun e W'=>e=.returned (.bool (!p x))/\Bw W W'
theorem clear_ev(w:World){base g n cap i:Nat}{xs:List Value}(h:w.ownsRow base 55 6 (so g n cap) n xs)(hi:i<n):∃L,∀ty,(Builtin.clear_ #[32] ty #[.slice (some (ad g (i*6))) (n-i) (cap-i)]).run Tryz.prog w=.ok (.tuple #[]) (w.setCells g (i*6) L):=by
 have hz:(Builtin.zeroCells (Value.agg #[iv 0,.string ⟨#[]⟩,.string ⟨#[]⟩,iv 0,iv 0,iv 0]).cells (n-i)).toList.length=(n-i)*6:=by simp[Builtin.zeroCells,Value.cells]
 have ei:=run_storeCells_cells (P:=Tryz.prog) g (i*6) (Builtin.zeroCells (Value.agg #[iv 0,.string ⟨#[]⟩,.string ⟨#[]⟩,iv 0,iv 0,iv 0]).cells (n-i)).toList 0 w (fun j hj=>by
   rw[hz]at hj
   have h1:i*6+0+j<n*6:=by omega
   obtain⟨u,hu⟩:∃u,xs[i*6+0+j]? =some u:=⟨_,lgg (by rw[h.1];exact h1)⟩
   rw[h.cellAt _ h1,hu];rfl) (fun j _=>h.frozenAt _) (fun v hv=>by
   simp[Builtin.zeroCells,Value.cells]at hv
   obtain⟨k,_,rfl⟩:=hv
   rcases(show k%6=0\/k%6=1\/k%6=2\/k%6=3\/k%6=4\/k%6=5 by omega)with e|e|e|e|e|e<;>simp[e,Value.oneCell'])
 obtain⟨m,hm⟩:∃m,n-i=m+1:=⟨n-i-1,by omega⟩
 refine⟨(Builtin.zeroCells (Value.agg #[iv 0,.string ⟨#[]⟩,.string ⟨#[]⟩,iv 0,iv 0,iv 0]).cells (n-i)).toList,fun ty=>?_⟩
 rw[Nat.add_zero]at ei
 rw[hm]at ei ⊢
 simp[Builtin.clear_,run_underlying Tryz.underlying32,juf,ei]
theorem flat_takeE(C:List EventD)(i:Nat)(hi:i<=C.length):(C.map EventD.cs).flatten.take (i*6)=((C.take i).map EventD.cs).flatten:=by
 conv=>lhs;rw[<- List.take_append_drop i C,lma,List.flatten_append]
 rw[List.take_left']
 rw[ja6 jbl,llm,List.length_take,Nat.min_eq_left hi]
structure KeptE(p:EventD->Bool)(P C:List EventD)(i j:Nat):Prop where
 len:C.length=P.length
 low:C.take i=(P.take j).filter p
 high:∀m,j<=m->C[m]? =P[m]?
def allN(p:EventD->Bool)(P:List EventD)(k:Nat):Prop:=∀j x,j<k->P[j]? =some x->p x=true
theorem keptE_start{p:EventD->Bool}{P:List EventD}{k:Nat}{x:EventD}(hx:P[k]? =some x)(hr:p x=false)(h:allN p P k):KeptE p P P k (k+1):=by
 refine⟨rfl,?_,fun _ _=>rfl⟩
 rw[List.take_add_one,hx,List.filter_append]
 simp only[Option.toList_some,List.filter_cons,hr,List.filter_nil]
 rw[List.filter_eq_self.mpr fun y hy=>?_]
 ·simp
 ·obtain⟨j,hj⟩:=lgo hy
  have hl:=(lgs hj).1
  rw[List.length_take]at hl
  rw[List.getElem?_take,if_pos (by omega)]at hj
  exact h j y (by omega) hj
theorem KeptE.skip{p:EventD->Bool}{P C:List EventD}{i j:Nat}{x:EventD}(h:KeptE p P C i j)(hx:P[j]? =some x)(hr:p x=false):KeptE p P C i (j+1):=by
 refine⟨h.len,?_,fun m hm=>h.high m (by omega)⟩
 rw[List.take_add_one,hx,List.filter_append,h.low]
 simp[hr]
theorem KeptE.keep{p:EventD->Bool}{P C:List EventD}{i j:Nat}{x:EventD}(h:KeptE p P C i j)(hx:P[j]? =some x)(hr:p x=true)(eF:i<j):KeptE p P (C.set i x) (i+1) (j+1):=by
 have hl:=(lgs hx).1
 have FY:i<C.length:=by rw[h.len];omega
 refine⟨by rw[List.length_set];exact h.len,?_,fun m hm=>?_⟩
 ·rw[List.take_add_one,List.getElem?_set_self FY,List.take_set_of_le (nlr _),h.low,List.take_add_one,hx,List.filter_append]
  simp[hr]
 ·rw[List.getElem?_set_ne (by omega)]
  exact h.high m (by omega)
theorem ev_index{F:Nat}{bs:Array Value}{p:EventD->Bool}(P:List EventD)(a:Option Addr)(cap:Nat)(W:World)(hA:Za W a 6 (P.map EventD.cs))(hK:DelK F bs p W.heap.size W)(hl:P.length<=1000):
  Cl 60 #[.slice a P.length cap,.func (.func F) #[] bs] W fun e W'=>Bw W W'/\((e=.returned (iv (-1))/\allN p P P.length)\/∃k x,e=.returned (iv ((k:Nat):Int))/\P[k]? =some x/\p x=false/\allN p P k):=by
 obtain⟨n,hn⟩:=qeb P.length
 have HN:=hid hn
 have fi:=hK.enter
 rw[hn]at hl ⊢
 clear hn
 unfold Cl;go_in
 go_wp2
 go_loopw [5,8] (fun _ t wr=>∃k:Nat,t=iv k/\k<=n/\Hid (allN p P k)/\Bw W wr) (fun _ t _=>n-(intOf t).toNat)
 case atStart=>exact⟨0,rfl,by omega,fun j x hj=>by omega,brf _ _⟩
 case round=>
  obtain⟨k,rfl,hk,HK,hB⟩:=hrel
  by_cases hlt:k<n
  ·obtain⟨x,hx⟩:∃x,P[k]? =some x:=⟨_,lgg (by rw[HN.out];exact hlt)⟩
   obtain⟨b,o,rfl,hc⟩:=(hA.below hB).at (i:=k) (r:=x.cs) (by rw[lgm,hx];rfl)
   have c0:wr.cell? (ad b (o+k*6))=some (iv x.id):=hc 0 _ rfl
   have c1:wr.cell? (ad b (o+k*6+1))=some (.string x.name):=hc 1 _ rfl
   have c2:wr.cell? (ad b (o+k*6+2))=some (.string x.zone):=hc 2 _ rfl
   have c3:wr.cell? (ad b (o+k*6+3))=some (iv x.wall):=hc 3 _ rfl
   have c4:wr.cell? (ad b (o+k*6+4))=some (iv x.gap):=hc 4 _ rfl
   have c5:wr.cell? (ad b (o+k*6+5))=some (iv x.fold):=hc 5 _ rfl
   have hP:=hK.call x wr hB
   simp only[EventD.v]at hP
   have HX:=hid hx
   clear hc hx hA
   cases hr:p x
   ·rw[hr]at hP
    have HR:=hid hr
    clear hr
    go_wp2_with fail
    refine hP.mono ?_
    rintro e w1 ⟨rfl,hb1⟩
    have aj:=qtr hB hb1
    go_wp2
    go_ret
    exact⟨aj,.inr ⟨k,x,rfl,HX.out,HR.out,HK.out⟩⟩
   ·rw[hr]at hP
    have ed:Hid (allN p P (k+1)):=fun j y hj hy=>by
     by_cases e:j=k
     ·subst e;rw[HX.out]at hy;obtain rfl:=osi hy;exact hr
     ·exact HK.out j y (by omega) hy
    clear hr
    go_wp2_with fail
    refine hP.mono ?_
    rintro e w1 ⟨rfl,hb1⟩
    have aj:=qtr hB hb1
    go_wp2
    go_roundw
    case rel=>exact⟨k+1,by go_num,by omega,ed,aj⟩
    case measure=>simp[intOf];omega
  ·obtain rfl:k=n:=by omega
   go_wp2
   go_ret
   exact⟨hB,.inl ⟨rfl,HK.out⟩⟩
theorem ev_delete{F:Nat}{bs:Array Value}{p:EventD->Bool}(P:List EventD)(base:Nat)(v:Value)(W:World)(hO:Jb W base v P)(hK:DelK F bs p base W)(hb:base<=W.heap.size)(hl:P.length<=1000):
  Cl 22 #[v,.func (.func F) #[] bs] W fun e W'=>∃x,e=.returned x/\Jb W' base x (P.filter p)/\Below base W W':=by
 obtain⟨a,cap,rfl,hs⟩:=hO.seq
 have hI:=ev_index P a cap W hs ⟨hK.enter,fun x w' h=>hK.call x w' (h.mono hb)⟩ hl
 obtain⟨n,hn⟩:=qeb P.length
 have HN:=hid hn
 have fi:=hK.enter
 have HC:=fun x w' h=>hK.call x w' h
 rw[hn]at hI hO hl ⊢
 clear hn hs hK
 unfold Cl;go_in
 go_wp2_with fail
 refine hI.mono ?_
 rintro e w1 ⟨hb1,hr⟩
 have aj:Below base W w1:=hb1.mono hb
 have dW:=hO.below hb1
 have bU:=hb1.size
 clear hI hO hb1
 rcases hr with⟨rfl,ak⟩|⟨k,x,rfl,hx,hr,hk⟩
 ·have HF:Hid ((P.filter p)=P):=List.filter_eq_self.mpr fun y hy=>by
   obtain⟨j,hj⟩:=lgo hy
   exact ak j y (by have:=(lgs hj).1;have:=HN.out;omega) hj
  clear ak
  go_wp2
  go_ret
  exact⟨_,rfl,by rw[HF.out];exact dW,aj⟩
 have Vw:k<n:=by have:=(lgs hx).1;have:=HN.out;omega
 obtain⟨g,hg⟩:∃g,a=some (ad g 0):=by
  rcases dW.2 with⟨_,h0⟩|⟨g,_,_,h0,_⟩
  ·have:=HN.out;omega
  ·injection h0 with h0 _ _;exact⟨g,h0⟩
 subst hg
 have jG:=(World.ownsRow.lt dW g rfl).1
 have HS:Hid (KeptE p P P k (k+1)):=keptE_start hx hr hk
 have az:((k:Int)== -1)=false:=by simp
 clear hx hr hk
 go_wp2
 go_loopw [5,6,7] (fun s5 s6 _ wr=>∃(i j:Nat) (C:List EventD),s5=iv i/\s6=iv j/\j<=n/\i<j/\Hid (KeptE p P C i j)/\Hid (Jb wr base (so g n cap) C)/\Below base W wr) (fun _ s6 _ _=>n-(intOf s6).toNat)
 case atStart=>exact⟨k,k+1,P,rfl,by go_num,by omega,by omega,HS,dW,aj⟩
 case round=>
  obtain⟨wa,dS⟩:=qea wr
  subst dS
  obtain⟨i,j,C,rfl,rfl,Vv,eF,HK,HO,hB⟩:=hrel
  have Oz:C.length=n:=by rw[HK.out.len];exact HN.out
  have hsz:=hB.size
  clear HS dW aj bU
  by_cases hlt:j<n
  ·have j1:(j:Int)<(n:Int):=by omega
   obtain⟨y,hy⟩:∃y,P[j]? =some y:=⟨_,lgg (by rw[HN.out];exact hlt)⟩
   have hO:=HO.out
   obtain⟨c0,c1,c2,c3,c4,c5⟩:=jf0 hO (i:=j) (x:=y) (by rw[HK.out.high j (nlr _)];exact hy)
   have b1:=qal wa (.cells #[iv y.id,.string y.name,.string y.zone,iv y.wall,iv y.gap,iv y.fold] 55)
   have dW:=hO.below b1
   have E:=Zh.new wa [iv y.id,.string y.name,.string y.zone,iv y.wall,iv y.gap,iv y.fold] 55
   have e0:=E.c 0 rfl
   have e1:=E.c 1 rfl
   have e2:=E.c 2 rfl
   have e3:=E.c 3 rfl
   have e4:=E.c 4 rfl
   have e5:=E.c 5 rfl
   have ck:Below base W (wa.alloc (.cells #[iv y.id,.string y.name,.string y.zone,iv y.wall,iv y.gap,iv y.fold] 55)):=hB.trans (b1.mono (by omega))
   have hP:=HC y _ ck
   simp only[EventD.v]at hP
   have Tw:=hid dW
   clear hO dW b1 HO
   cases hr:p y
   ·rw[hr]at hP
    have ed:Hid (KeptE p P C i (j+1)):=HK.out.skip hy hr
    clear hy hr HK
    go_wp2_with fail
    refine hP.mono ?_
    rintro e w2 ⟨rfl,ac⟩
    have sX:Hid (Jb w2 base (so g n cap) C):=Tw.out.below ac
    have an:=ck.trans (ac.mono (by have:=ck.size;omega))
    clear ac Tw hP e0 e1 e2 e3 e4 e5 E
    go_wp2
    go_roundw
    case rel=>exact⟨i,j+1,C,rfl,by go_num,by omega,by omega,ed,sX,an⟩
    case measure=>simp[intOf];omega
   ·rw[hr]at hP
    have ed:Hid (KeptE p P (C.set i y) (i+1) (j+1)):=HK.out.keep hy hr eF
    clear hy hr HK
    go_wp2_with fail
    refine hP.mono ?_
    rintro e w2 ⟨rfl,ac⟩
    have aW:=Tw.out.below ac
    have sX:Hid (Jb ((((((w2.setCell (ad g (i*6)) (iv y.id)).setCell (ad g (i*6+1)) (.string y.name)).setCell (ad g (i*6+2)) (.string y.zone)).setCell (ad g (i*6+3)) (iv y.wall)).setCell (ad g (i*6+4)) (iv y.gap)).setCell (ad g (i*6+5)) (iv y.fold)) base (so g n cap) (C.set i y)):=aW.put Oz.symm i (by omega) y
    have an:=ck.trans (ac.mono (by have:=ck.size;omega))
    have ax:Below base W ((((((w2.setCell (ad g (i*6)) (iv y.id)).setCell (ad g (i*6+1)) (.string y.name)).setCell (ad g (i*6+2)) (.string y.zone)).setCell (ad g (i*6+3)) (iv y.wall)).setCell (ad g (i*6+4)) (iv y.gap)).setCell (ad g (i*6+5)) (iv y.fold)):=jev jG y.cs (i*6) W w2 an
    have E2:=E.below ac
    have f0:=E2.c 0 rfl
    have f1:=E2.c 1 rfl
    have f2:=E2.c 2 rfl
    have f3:=E2.c 3 rfl
    have f4:=E2.c 4 rfl
    have f5:=E2.c 5 rfl
    have dE:w2.ownsRow base 55 6 (so g n cap) n (C.map EventD.cs).flatten:=by have h:=aW;unfold Jb at h;rw[Oz]at h;exact h
    obtain⟨yi,wi⟩:∃z,C[i]? =some z:=⟨_,lgg (by omega)⟩
    obtain⟨z0,z1,z2,z3,z4,z5⟩:=jf0 aW wi
    have q0:=dE.frozenAt (i*6)
    have q1:=dE.frozenAt (i*6+1)
    have q2:=dE.frozenAt (i*6+2)
    have q3:=dE.frozenAt (i*6+3)
    have q4:=dE.frozenAt (i*6+4)
    have q5:=dE.frozenAt (i*6+5)
    have i2:(0:Int)<=(i:Int):=by omega
    have i3:(i:Int)<(n:Int):=by omega
    clear ac Tw hP e0 e1 e2 e3 e4 e5 E E2 aW dE an wi
    go_wp2
    go_roundw
    case rel=>exact⟨i+1,j+1,C.set i y,by go_num,by go_num,by omega,by omega,ed,sX,ax⟩
    case measure=>simp[intOf];omega
  ·obtain rfl:j=n:=by omega
   have dE:wa.ownsRow base 55 6 (so g j cap) j (C.map EventD.cs).flatten:=by have h:=HO.out;unfold Jb at h;rw[Oz]at h;exact h
   obtain⟨L,uQ⟩:=clear_ev wa dE eF
   have eh:j<=cap:=by
    rcases dE.2 with⟨h0,_⟩|⟨_,_,_,h0,_,_,h5,_⟩
    ·cases h0
    ·injection h0 with _ _ h0;omega
   have HF:Hid (Jb (wa.setCells g (i*6) L) base (so g i cap) (P.filter p)):=by
    obtain⟨ys,k1,k2,k3⟩:=jky L (i*6) wa _ dE
    have k4:=jvo k1 (Nat.le_of_lt eF)
    have e1:C.take i=P.filter p:=by rw[HK.out.low,List.take_of_length_le (by rw[HN.out];exact nlr _)]
    have e2:(P.filter p).length=i:=by rw[<- e1,List.length_take];omega
    rw[k2,flat_takeE _ _ (by omega),e1]at k4
    show World.ownsRow _ _ _ _ _ _ _
    rw[e2]
    exact k4
   have po:Below base W (wa.setCells g (i*6) L):=jev jG L _ W wa hB
   have i2:(0:Int)<=(i:Int):=by omega
   have i3:(i:Int)<=(j:Int):=by omega
   have i4:(i:Int)<=(cap:Int):=by omega
   clear dE HO HK
   go_wp2
   go_ret
   exact⟨_,rfl,HF.out,po⟩
theorem good_30W{s:StoreD}(h:storeI s=true):(jan s.vs).length<=30:=by
 unfold storeI jov jnr at h
 simp only[bat,decide_eq_true_eq]at h
 exact h.1.2.2.2.1
theorem fw_del(bz bl bh base:Nat)(z:ByteArray)(lo hi:Int)(W0:World)(c0:W0.cell? (ad bz 0)=some (.string z))(c1:W0.cell? (ad bl 0)=some (iv lo))(c2:W0.cell? (ad bh 0)=some (iv hi))(h0:bz<base)(h1:bl<base)(h2:bh<base):DelK 24 #[.pointer (some (ad bz 0)),.pointer (some (ad bl 0)),.pointer (some (ad bh 0))] (okW z lo hi) base W0 where
 enter:=fun _ _=>by kernel_rfl
 call:=fun x W hB=>by
  have d0:=(hB.cell (p:=(ad bz 0)) h0).trans c0
  have d1:=(hB.cell (p:=(ad bl 0)) h1).trans c1
  have d2:=(hB.cell (p:=(ad bh 0)) h2).trans c2
  obtain⟨id,name,zone,wall,gap,fold⟩:=x
  simp only[EventD.v]
  have hb:=qal W (.cells #[iv id,.string name,.string zone,iv wall,iv gap,iv fold] 55)
  have g0:=jaa hb d0
  have g1:=jaa hb d1
  have g2:=jaa hb d2
  have V:=Zh.new W [iv id,.string name,.string zone,iv wall,iv gap,iv fold] 55
  have e2:=V.c 2 rfl
  have e3:=V.c 3 rfl
  have HB:=hidE hb
  clear hb d0 d1 d2 c0 c1 c2 hB V
  show Cl 24 #[.agg #[iv id,.string name,.string zone,iv wall,iv gap,iv fold],.pointer (some (ad bz 0)),.pointer (some (ad bl 0)),.pointer (some (ad bh 0))] W _
  cases hk1:(zone.toList==z.toList)
  ·have PS:(zone.toList != z.toList)=true:=by rw[bne,hk1];rfl
   have hv:okW z lo hi ⟨id,name,zone,wall,gap,fold⟩=false:=by unfold okW;simp only[hk1];rfl
   rw[hv]
   unfold Cl;go_in
   go_wp2
   go_ret
   exact⟨rfl,HB.out⟩
  ·have PS:(zone.toList != z.toList)=false:=by rw[bne,hk1];rfl
   by_cases fy:wall<lo
   ·have hv:okW z lo hi ⟨id,name,zone,wall,gap,fold⟩=false:=by unfold okW;simp only[hk1,dfe (show ¬lo<=wall by omega)];rfl
    rw[hv]
    unfold Cl;go_in
    go_wp2
    go_ret
    exact⟨rfl,HB.out⟩
   ·by_cases oC:hi<wall
    ·have hv:okW z lo hi ⟨id,name,zone,wall,gap,fold⟩=false:=by unfold okW;simp only[hk1,dfe (show ¬wall<=hi by omega),Bool.and_false]
     rw[hv]
     unfold Cl;go_in
     go_wp2
     go_ret
     exact⟨rfl,HB.out⟩
    ·have hv:okW z lo hi ⟨id,name,zone,wall,gap,fold⟩=true:=by unfold okW;simp only[hk1,dte (show lo<=wall by omega),dte (show wall<=hi by omega)];rfl
     rw[hv]
     unfold Cl;go_in
     go_wp2
     go_ret
     exact⟨rfl,HB.out⟩
theorem impl_FindWall(hS:SortC)(s:StoreD)(v:Value)(z:ByteArray)(lo hi:Int)(w:World)(hE:Zx w)(hv:Jd w v s)(ok:Zr s)(hz:z.size<=maxLen):
  Cl 7 #[v,.string z,iv lo,iv hi] w fun e w'=>∃x,e=.returned x/\Jb w' w.heap.size x (fwS s z lo hi (storeI s))/\Bw w w':=by
 have dQ:=hv
 have sP:(z.size:Int)<=9223372036854775807:=by unfold maxLen at hz;omega
 obtain⟨a,b,c,d,e,f,va,ia,ca,cb,cc,cd,ce,cf,cv,ci,rfl,_,_,_,_,_,_⟩:=hv.form
 have bA:=qal w (.cells (stA s a b c d e f va ia ca cb cc cd ce cf cv ci).toArray 42)
 have bB:=bA.alloc bA.size (.cells #[.string z] 9)
 have bC:=bB.alloc bB.size (.cells #[iv lo] 2)
 have ag:=bC.alloc bC.size (.cells #[iv hi] 2)
 have A0:=Zh.new w (stA s a b c d e f va ia ca cb cc cd ce cf cv ci) 42
 have A0:=((A0.below (qal _ (.cells #[.string z] 9))).below (qal _ (.cells #[iv lo] 2))).below (qal _ (.cells #[iv hi] 2))
 obtain⟨y1,y2,y3⟩:(fun zq:World=>zq.cell? (ad (w.heap.size+1) 0)=some (.string z)/\zq.cell? (ad (w.heap.size+1+1) 0)=some (iv lo)/\zq.cell? (ad (w.heap.size+1+1+1) 0)=some (iv hi)) ((((w.alloc (.cells (stA s a b c d e f va ia ca cb cc cd ce cf cv ci).toArray 42)).alloc (.cells #[.string z] 9)).alloc (.cells #[iv lo] 2)).alloc (.cells #[iv hi] 2)):=by simp[go_sem]
 have mN:((((w.alloc (.cells (stA s a b c d e f va ia ca cb cc cd ce cf cv ci).toArray 42)).alloc (.cells #[.string z] 9)).alloc (.cells #[iv lo] 2)).alloc (.cells #[iv hi] 2)).heap.size=w.heap.size+1+1+1+1:=by simp
 have hO:=ji8 hS s _ _ (hE.of_below ag) (dQ.below ag) ok
 obtain⟨x0,x1,x2,x3,x4,x5,x6,x7,x8,x9⟩:=A0.ten
 obtain⟨tb,jj⟩:=qeb (storeI s)
 have HT:=hid jj
 rw[jj]
 clear hv dQ jj bA bB bC
 unfold Cl;go_in
 go_wp2_with fail
 generalize ((((w.alloc (.cells (stA s a b c d e f va ia ca cb cc cd ce cf cv ci).toArray 42)).alloc (.cells #[.string z] 9)).alloc (.cells #[iv lo] 2)).alloc (.cells #[iv hi] 2))=w4 at *
 refine hO.mono ?_
 rintro e1 w1 hP
 obtain⟨x,qe,hx⟩:=hP.ex
 rw[HT.out]at qe hx
 subst qe
 have hb1:=hP.bel
 have aj:=qtr ag hb1
 have u1:=jaa hb1 y1
 have u2:=jaa hb1 y2
 have u3:=jaa hb1 y3
 clear hP x0 x1 x2 x3 x4 x5 x6 x7 x8 x9 A0 hO y1 y2 y3
 cases tb
 ·clear hx
  have HF:Hid (fwS s z lo hi false=[]):=if_neg (fun h=>by cases h.2)
  go_wp2
  go_ret
  exact⟨_,rfl,by rw[HF.out];exact World.ownsRow_nil _ _ _ _,aj⟩
 by_cases xz:z.size<=8000
 case neg=>
  have Gr:(8000:Int)<(z.size:Int):=by omega
  have HF:Hid (fwS s z lo hi true=[]):=if_neg (fun h=>xz h.1)
  clear hx
  go_wp2
  go_ret
  exact⟨_,rfl,by rw[HF.out];exact World.ownsRow_nil _ _ _ _,aj⟩
 case pos=>
 have Gr:¬(8000:Int)<(z.size:Int):=by omega
 have HF:Hid (fwS s z lo hi true=fwL z lo hi (jan s.vs)):=if_pos ⟨xz,rfl⟩
 have lm:=good_30W HT.out
 have HU:=hidE (jhr (l:=s.vs) s.vs.length)
 obtain⟨bb,lb,n,_,_,rfl,hl,hM,_⟩:=hx rfl
 have hC:=impl_byId lb n (jch s.vs) (jan s.vs) w1 hM (jga s.vs) (jhr s.vs.length) (by omega)
 clear hx
 go_wp2_with fail
 refine hC.mono ?_
 rintro e2 w2 ⟨v2,rfl,aW,ac⟩
 obtain⟨p,m,c2,rfl⟩:=jad aW
 have an:=qtr aj ac
 have s1:=hb1.size
 have UW:=ev_delete (jan s.vs) w1.heap.size _ w2 aW (fw_del (w.heap.size+1) (w.heap.size+1+1) (w.heap.size+1+1+1) w1.heap.size z lo hi w2 (jaa ac u1) (jaa ac u2) (jaa ac u3) (by omega) (by omega) (by omega)) ac.size (by omega)
 clear hC aW hM hl
 go_wp2_with fail
 refine UW.mono ?_
 rintro e3 w3 ⟨v3,rfl,dE,ar⟩
 have Sp:((jan s.vs).filter (okW z lo hi)).length<=30:=Nat.le_trans (List.length_filter_le _ _) lm
 have Fx:=ev_sortStable ((jan s.vs).filter (okW z lo hi)) w1.heap.size v3 w3 dE (Nat.le_trans ac.size ar.size) Sp (List.Pairwise.filter _ HU.out)
 obtain⟨p3,m3,c3,rfl⟩:=jad dE
 have ax:Bw w w3:=an.trans (ar.mono aj.size)
 clear UW dE u1 u2 u3
 go_wp2_with fail
 refine Fx.mono ?_
 rintro e4 w5 ⟨rfl,⟨Q,hQ,hk,hm⟩,aV⟩
 obtain rfl:=fw_one (z:=z) (lo:=lo) (hi:=hi) HU.out hk hm
 have bG:Bw w w5:=ax.trans (aV.mono aj.size)
 have HQ:=hidE (jaj hQ aj.size)
 clear Fx hQ hm hk
 go_wp2
 go_ret
 exact⟨_,rfl,by rw[HF.out];exact HQ.out,bG⟩
