/- Packed. -/
import Derived.Test.YthogmaghfiadbaaGreatDoorSEf
import Derived.Test.YthogmaghfiadbaaGreatDoorSLf
set_option maxRecDepth 20000
set_option maxHeartbeats 20000000
set_option linter.unusedSimpArgs false
namespace Go.Proofs.YthogmaghfiadbaaGreatDoor
section
open Go.RowKit
theorem Zb.below{w w':World}{base:Nat}{v:Value}{L:List EntryD}(h:Zb w base v L)(hb:Bw w w'):Zb w' base v L:=jac h hb
theorem Zb.seq{w:World}{base:Nat}{v:Value}{P:List EntryD}(h:Zb w base v P):∃a cap,v=.slice a P.length cap/\Za w a 2 (P.map EntryD.cs):=by
 obtain⟨a,cap,h1,h2,h3⟩:=jbe (rows:=P.map EntryD.cs) (by rw[llm];exact h) jak
 rw[llm]at h1 h3
 exact⟨a,cap,h1,h2⟩
theorem jiw(a:Option Addr)(cap k:Nat)(w:World):Cl 11 #[.slice a 0 cap,iv k] w fun e w'=>e=.returned (iv k)/\w'=w:=by
 go_enter Tryz.func11,Tryz.ntmps11
 go_wp2
 go_loopw [1,5] (fun s t wr=>t=iv 0/\s=iv k/\wr=w) (fun _ _ _=>0)
 case atStart=>exact⟨rfl,rfl,rfl⟩
 case round=>
  obtain⟨rfl,rfl,hw⟩:=hrel
  have hw:=hw.symm
  subst hw
  go_wp2
  go_ret
  exact⟨rfl,rfl⟩
theorem jnq(X:List EntryD)(v:Value)(base k:Nat)(w:World)(h:Zb w base v X)(h0:0<k)(h1:k+2*X.length<1000000000):
  Cl 11 #[v,iv k] w fun e w'=>e=.returned (iv ((k+2*X.length:Nat):Int))/\(∃a cap,v=.slice a X.length cap/\Za w' a 2 (jb6 k X.length))/\Zc (fun b=>v.ownBlock=some b) w w':=by
 rcases h.2 with⟨hv,hn⟩|⟨g,cap,cur,hv,_⟩
 ·subst hv
  rw[hn]
  refine(jiw none 0 k w).mono ?_
  rintro e w' ⟨rfl,rfl⟩
  exact⟨rfl,⟨_,_,rfl,.inl rfl⟩,Zc.refl _ _⟩
 ·subst hv
  refine(jd7 X.length g cap k w (jnf h) h0 h1).mono ?_
  rintro e w' ⟨rfl,hS,_,ht⟩
  exact⟨rfl,⟨_,_,rfl,hS⟩,ht.mono fun b _ hb=>by rw[hb.1];rfl⟩
theorem Za.touchV{S:Nat->Prop}{w w':World}{a:Option Addr}{n cap k:Nat}{rows:List (List Value)}(h:Za w a k rows)(ht:Zc S w w')(hs:∀g,(Value.slice a n cap).ownBlock=some g->¬S g):Za w' a k rows:=by
 rcases h with h|⟨b,o,rfl,h⟩
 ·exact .inl h
 ·exact .inr ⟨b,o,rfl,fun i j r c hi hj=>ht.cell (hs b rfl) (h i j r c hi hj)⟩
end
section
open Go.RowKit Go.Sort
def rgB(lo hi n:Int):Bool:=decide (lo<=n)&&decide (n<=hi)
theorem j3b{lo hi n:Int}(h1:lo<=n)(h2:n<=hi):rgB lo hi n=true:=by unfold rgB;rw[dte h1,dte h2];rfl
theorem j1t{lo hi n:Int}(h:n<lo\/hi<n):rgB lo hi n=false:=by
 unfold rgB
 rcases h with h|h
 ·rw[dfe (by omega)];rfl
 ·rw[dfe (p:=n<=hi) (by omega)];simp
theorem joz:∀(C:List EntryD) (i:Nat) (x:EntryD),((C.map EntryD.cs).flatten.set (i*2) (iv x.at_)).set (i*2+1) (iv x.id)=((C.set i x).map EntryD.cs).flatten
 |[],_,_=>rfl
 |c::C,0,x=>rfl
 |c::C,i+1,x=>by
  have ih:=joz C i x
  have e:(i+1)*2=i*2+1+1:=by omega
  rw[e]
  simp only[List.map_cons,List.flatten_cons,List.set_cons_succ]
  rw[<- ih]
  rfl
theorem Zb.put{w:World}{base g n cap:Nat}{C:List EntryD}(h:Zb w base (so g n cap) C)(hn:n=C.length)(i:Nat)(x:EntryD):Zb ((w.setCell (ad g (i*2)) (iv x.at_)).setCell (ad g (i*2+1)) (iv x.id)) base (so g n cap) (C.set i x):=by
 subst hn
 have h2:=World.ownsRow.stored (World.ownsRow.stored h (i*2) (iv x.at_)).1 (i*2+1) (iv x.id)
 show World.ownsRow _ _ _ _ _ _ _
 rw[List.length_set, <- joz]
 exact h2.1
theorem jky{e:TypeId}{size base g n cap:Nat}:∀(L:List Value) (o:Nat) (w:World) (xs:List Value),w.ownsRow base e size (so g n cap) n xs->∃ys,(w.setCells g o L).ownsRow base e size (so g n cap) n ys/\ys.take o=xs.take o/\ys.length=xs.length
 |[],o,w,xs,h=>⟨xs,h,rfl,rfl⟩
 |v::L,o,w,xs,h=>by
  obtain⟨ys,h1,h2,h3⟩:=jky L (o+1) _ _ (World.ownsRow.stored h o v).1
  refine⟨ys,h1,?_,by rw[h3,List.length_set]⟩
  have:=congrArg (List.take o) h2
  rw[List.take_take,List.take_take,Nat.min_eq_left (by omega)]at this
  rw[this,List.take_set_of_le (by omega)]
theorem jvo{e:TypeId}{size base g n cap i:Nat}{w:World}{xs:List Value}(h:w.ownsRow base e size (so g n cap) n xs)(hi:i<=n):w.ownsRow base e size (so g i cap) i (xs.take (i*size)):=by
 have hl:i*size<=n*size:=Nat.mul_le_mul_right _ hi
 refine⟨by rw[List.length_take,h.1];omega,?_⟩
 rcases h.2 with⟨e0,_⟩|⟨g',fK,cur,e0,hb,hg,hn,hm,hs,ht⟩
 ·cases e0
 ·injection e0 with e1 e2 e3
  injection e1 with e1
  injection e1 with e1
  subst e1 e3
  exact .inr ⟨g,cap,cur,rfl,hb,hg,by omega,hm,hs,by rw[<- ht,List.take_take,Nat.min_eq_left hl]⟩
theorem jev{base g:Nat}(hg:base<=g):∀(L:List Value) (o:Nat) (w w':World),Below base w w'->Below base w (w'.setCells g o L)
 |[],_,_,_,h=>h
 |v::L,o,w,_,h=>jev hg L (o+1) w _ (h.setCell (p:=⟨g,o,none⟩) hg v)
theorem zeroEntry(w:World):(zeroValue 65).run Tryz.prog w=.ok (.agg #[iv 0,iv 0]) w:=by kernel_rfl
theorem jxs(w:World){base g n cap i:Nat}{xs:List Value}(h:w.ownsRow base 65 2 (so g n cap) n xs)(hi:i<n):∃L,∀ty,(Builtin.clear_ #[32] ty #[.slice (some (ad g (i*2))) (n-i) (cap-i)]).run Tryz.prog w=.ok (.tuple #[]) (w.setCells g (i*2) L):=by
 have hz:(Builtin.zeroCells (Value.agg #[iv 0,iv 0]).cells (n-i)).toList.length=(n-i)*2:=by simp[Builtin.zeroCells,Value.cells]
 have ei:=run_storeCells_cells (P:=Tryz.prog) g (i*2) (Builtin.zeroCells (Value.agg #[iv 0,iv 0]).cells (n-i)).toList 0 w (fun j hj=>by
   rw[hz]at hj
   have h1:i*2+0+j<n*2:=by omega
   obtain⟨u,hu⟩:∃u,xs[i*2+0+j]? =some u:=⟨_,lgg (by rw[h.1];exact h1)⟩
   rw[h.cellAt _ h1,hu];rfl) (fun j _=>h.frozenAt _) (fun v hv=>by
   simp[Builtin.zeroCells,Value.cells]at hv
   obtain⟨k,_,rfl⟩:=hv
   rcases Nat.mod_two_eq_zero_or_one k with e|e<;>simp[e,Value.oneCell'])
 obtain⟨m,hm⟩:∃m,n-i=m+1:=⟨n-i-1,by omega⟩
 refine⟨(Builtin.zeroCells (Value.agg #[iv 0,iv 0]).cells (n-i)).toList,fun ty=>?_⟩
 rw[Nat.add_zero]at ei
 rw[hm]at ei ⊢
 simp[Builtin.clear_,run_underlying Tryz.underlying32,zeroEntry,ei]
theorem flat_takeX:∀(C:List EntryD) (i:Nat),(C.map EntryD.cs).flatten.take (i*2)=((C.take i).map EntryD.cs).flatten
 |[],_=>by simp
 |c::C,0=>by simp
 |c::C,i+1=>by
  have ih:=flat_takeX C i
  have e:(i+1)*2=i*2+1+1:=by omega
  rw[e]
  simp only[List.map_cons,List.flatten_cons,List.take_succ_cons]
  rw[<- ih]
  rfl
structure Jq(lo hi:Int)(P C:List EntryD)(i j:Nat):Prop where
 len:C.length=P.length
 low:C.take i=(P.take j).filter fun x=>rgB lo hi x.at_
 high:∀m,j<=m->C[m]? =P[m]?
theorem jqh{lo hi:Int}{P:List EntryD}{k:Nat}{x:EntryD}(hx:P[k]? =some x)(hr:rgB lo hi x.at_=false)(h:∀j y,j<k->P[j]? =some y->rgB lo hi y.at_=true):Jq lo hi P P k (k+1):=by
 refine⟨rfl,?_,fun _ _=>rfl⟩
 rw[List.take_add_one,hx,List.filter_append]
 simp only[Option.toList_some,List.filter_cons,hr,List.filter_nil]
 rw[List.filter_eq_self.mpr fun y hy=>?_]
 ·simp
 ·obtain⟨j,hj⟩:=lgo hy
  have hl:=(lgs hj).1
  rw[List.length_take]at hl
  rw[List.getElem?_take,if_pos (by omega)]at hj
  exact h j y (by omega) hj
theorem Jq.skip{lo hi:Int}{P C:List EntryD}{i j:Nat}{x:EntryD}(h:Jq lo hi P C i j)(hx:P[j]? =some x)(hr:rgB lo hi x.at_=false):Jq lo hi P C i (j+1):=by
 refine⟨h.len,?_,fun m hm=>h.high m (by omega)⟩
 rw[List.take_add_one,hx,List.filter_append,h.low]
 simp[hr]
theorem Jq.keep{lo hi:Int}{P C:List EntryD}{i j:Nat}{x:EntryD}(h:Jq lo hi P C i j)(hx:P[j]? =some x)(hr:rgB lo hi x.at_=true)(eF:i<j):Jq lo hi P (C.set i x) (i+1) (j+1):=by
 have hl:=(lgs hx).1
 have FY:i<C.length:=by rw[h.len];omega
 refine⟨by rw[List.length_set];exact h.len,?_,fun m hm=>?_⟩
 ·rw[List.take_add_one,List.getElem?_set_self FY,List.take_set_of_le (nlr _),h.low,List.take_add_one,hx,List.filter_append]
  simp[hr]
 ·rw[List.getElem?_set_ne (by omega)]
  exact h.high m (by omega)
end
section
open Go.RowKit Go.Sort
structure FndC(W:World)(pf pt:Nat)(lo hi:Int):Prop where
 lo_:W.cell? (ad pf 0)=some (iv lo)
 hi_:W.cell? (ad pt 0)=some (iv hi)
theorem FndC.below{W W':World}{pf pt:Nat}{lo hi:Int}(h:FndC W pf pt lo hi)(hb:Bw W W'):FndC W' pf pt lo hi:=⟨jaa hb h.lo_,jaa hb h.hi_⟩
theorem FndC.belowB{W W':World}{pf pt base:Nat}{lo hi:Int}(h:FndC W pf pt lo hi)(hb:Below base W W')(h1:pf<base)(h2:pt<base):FndC W' pf pt lo hi:=⟨(hb.cell (p:=(ad pf 0)) h1).trans h.lo_,(hb.cell (p:=(ad pt 0)) h2).trans h.hi_⟩
theorem jk6(x:EntryD)(pf pt:Nat)(lo hi:Int)(W:World)(hC:FndC W pf pt lo hi):
  Cl 59 #[x.v,.pointer (some (ad pf 0)),.pointer (some (ad pt 0))] W fun e W'=>e=.returned (.bool (!rgB lo hi x.at_))/\Bw W W':=by
 obtain⟨a,d⟩:=x
 simp only[EntryD.v]
 have hb:=qal W (.cells #[iv a,iv d] 65)
 have c1:=(hC.below hb).lo_
 have c2:=(hC.below hb).hi_
 have e0:(W.alloc (.cells #[iv a,iv d] 65)).cell? (ad W.heap.size 0)=some (iv a):=by simp[go_sem]
 by_cases h1:a<lo
 ·rw[j1t (.inl h1)]
  go_enter Tryz.func59,Tryz.ntmps59
  go_wp2
  go_ret
  exact⟨rfl,hb⟩
 ·by_cases h2:hi<a
  ·rw[j1t (.inr h2)]
   go_enter Tryz.func59,Tryz.ntmps59
   go_wp2
   go_ret
   exact⟨rfl,hb⟩
  ·rw[j3b (by omega) (by omega)]
   go_enter Tryz.func59,Tryz.ntmps59
   go_wp2
   go_ret
   exact⟨rfl,hb⟩
def outN(lo hi:Int)(P:List EntryD)(k:Nat):Prop:=(∀j x,j<k->P[j]? =some x->rgB lo hi x.at_=true)
theorem jqx(P:List EntryD)(a:Option Addr)(cap pf pt:Nat)(lo hi:Int)(W:World)(hA:Za W a 2 (P.map EntryD.cs))(hC:FndC W pf pt lo hi)(hl:P.length<=1000):
  Cl 93 #[.slice a P.length cap,.func (.func 59) #[] #[.pointer (some (ad pf 0)),.pointer (some (ad pt 0))]] W fun e W'=>Bw W W'/\((e=.returned (iv (-1))/\outN lo hi P P.length)\/∃k x,e=.returned (iv ((k:Nat):Int))/\P[k]? =some x/\rgB lo hi x.at_=false/\outN lo hi P k):=by
 obtain⟨n,hn⟩:=qeb P.length
 have HN:=hid hn
 rw[hn]at hl ⊢
 clear hn
 go_enter Tryz.func93,Tryz.ntmps93
 go_wp2
 go_loopw [5,8] (fun _ t wr=>∃k:Nat,t=iv k/\k<=n/\Hid (outN lo hi P k)/\Bw W wr) (fun _ t _=>n-(intOf t).toNat)
 case atStart=>exact⟨0,rfl,by omega,fun j x hj=>by omega,brf _ _⟩
 case round=>
  obtain⟨k,rfl,hk,HK,hB⟩:=hrel
  by_cases hlt:k<n
  ·obtain⟨x,hx⟩:∃x,P[k]? =some x:=⟨_,lgg (by rw[HN.out];exact hlt)⟩
   obtain⟨b,o,rfl,hc⟩:=(hA.below hB).at (i:=k) (r:=x.cs) (by rw[lgm,hx];rfl)
   have c0:wr.cell? (ad b (o+k*2))=some (iv x.at_):=hc 0 _ rfl
   have c1:wr.cell? (ad b (o+k*2+1))=some (iv x.id):=hc 1 _ rfl
   have hP:=jk6 x pf pt lo hi wr (hC.below hB)
   simp only[EntryD.v]at hP
   have HX:=hid hx
   clear hc hx hA
   cases hr:rgB lo hi x.at_
   ·rw[hr]at hP
    have HR:=hid hr
    clear hr
    go_wp2_with fail
    refine hP.mono ?_
    rintro e w1 ⟨rfl,hb1⟩
    have aj:=qtr hB hb1
    go_wp2
    go_ret
    exact⟨aj,.inr ⟨k,x,rfl,HX.out,HR.out,HK.out⟩⟩
   ·rw[hr]at hP
    have ed:Hid (outN lo hi P (k+1)):=fun j y hj hy=>by
     by_cases e:j=k
     ·subst e;rw[HX.out]at hy;obtain rfl:=osi hy;exact hr
     ·exact HK.out j y (by omega) hy
    clear hr
    go_wp2_with fail
    refine hP.mono ?_
    rintro e w1 ⟨rfl,hb1⟩
    have aj:=qtr hB hb1
    go_wp2
    go_roundw
    case rel=>exact⟨k+1,by go_num,by omega,ed,aj⟩
    case measure=>simp[intOf];omega
  ·obtain rfl:k=n:=by omega
   go_wp2
   go_ret
   exact⟨hB,.inl ⟨rfl,HK.out⟩⟩
end
section
open Go.RowKit Go.Sort
theorem jox(P:List EntryD)(base:Nat)(v:Value)(pf pt:Nat)(lo hi:Int)(W:World)(hO:Zb W base v P)(hC:FndC W pf pt lo hi)(h1:pf<base)(h2:pt<base)(hb:base<=W.heap.size)(hl:P.length<=1000):
  Cl 56 #[v,.func (.func 59) #[] #[.pointer (some (ad pf 0)),.pointer (some (ad pt 0))]] W fun e W'=>∃x,e=.returned x/\Zb W' base x (P.filter fun x=>rgB lo hi x.at_)/\Below base W W':=by
 obtain⟨a,cap,rfl,hs⟩:=hO.seq
 have hI:=jqx P a cap pf pt lo hi W hs hC hl
 obtain⟨n,hn⟩:=qeb P.length
 have HN:=hid hn
 rw[hn]at hI hO hl ⊢
 clear hn hs
 go_enter Tryz.func56,Tryz.ntmps56
 go_wp2_with fail
 refine hI.mono ?_
 rintro e w1 ⟨hb1,hr⟩
 have aj:Below base W w1:=hb1.mono hb
 have dW:=hO.below hb1
 have AY:=hC.below hb1
 have bU:=hb1.size
 have HC:=hid hC
 clear hI hO hC hb1
 rcases hr with⟨rfl,ak⟩|⟨k,x,rfl,hx,hr,hk⟩
 ·have HF:Hid ((P.filter fun x=>rgB lo hi x.at_)=P):=List.filter_eq_self.mpr fun y hy=>by
   obtain⟨j,hj⟩:=lgo hy
   exact ak j y (by have:=(lgs hj).1;have:=HN.out;omega) hj
  clear ak
  go_wp2
  go_ret
  exact⟨_,rfl,by rw[HF.out];exact dW,aj⟩
 have P3:k<n:=by have:=(lgs hx).1;have:=HN.out;omega
 obtain⟨g,hg⟩:∃g,a=some (ad g 0):=by
  rcases dW.2 with⟨_,h0⟩|⟨g,_,_,h0,_⟩
  ·have:=HN.out;omega
  ·injection h0 with h0 _ _;exact⟨g,h0⟩
 subst hg
 have jG:=(World.ownsRow.lt dW g rfl).1
 have HS:Hid (Jq lo hi P P k (k+1)):=jqh hx hr hk
 have az:((k:Int)== -1)=false:=by simp
 clear hx hr hk
 go_wp2
 go_loopw [5,6,7] (fun s5 s6 _ wr=>∃(i j:Nat) (C:List EntryD),s5=iv i/\s6=iv j/\j<=n/\i<j/\Hid (Jq lo hi P C i j)/\Hid (Zb wr base (so g n cap) C)/\Below base W wr) (fun _ s6 _ _=>n-(intOf s6).toNat)
 case atStart=>exact⟨k,k+1,P,rfl,by go_num,by omega,by omega,HS,dW,aj⟩
 case round=>
  obtain⟨wa,dS⟩:=qea wr
  subst dS
  obtain⟨i,j,C,rfl,rfl,OX,eF,HK,HO,hB⟩:=hrel
  have tU:C.length=n:=by rw[HK.out.len];exact HN.out
  have hsz:=hB.size
  clear HS dW aj AY bU
  by_cases hlt:j<n
  ·have j1:(j:Int)<(n:Int):=by omega
   obtain⟨y,hy⟩:∃y,P[j]? =some y:=⟨_,lgg (by rw[HN.out];exact hlt)⟩
   have CK:C[j]? =some y:=by rw[HK.out.high j (nlr _)];exact hy
   obtain⟨yi,CL⟩:∃z,C[i]? =some z:=⟨_,lgg (by omega)⟩
   have hO:=HO.out
   have c0:wa.cell? (ad g (j*2))=some (iv y.at_):=hO.cell (ja3 (jak (L:=C)) (i:=j) (j:=0) (by rw[lgm,CK];rfl) rfl)
   have c1:wa.cell? (ad g (j*2+1))=some (iv y.id):=hO.cell (ja3 (jak (L:=C)) (i:=j) (j:=1) (by rw[lgm,CK];rfl) rfl)
   have b1:=qal wa (.cells #[iv y.at_,iv y.id] 65)
   have dW:=hO.below b1
   have i0:(wa.alloc (.cells #[iv y.at_,iv y.id] 65)).cell? (ad g (i*2))=some (iv yi.at_):=jaa b1 (hO.cell (ja3 (jak (L:=C)) (i:=i) (j:=0) (c:=iv yi.at_) (by rw[lgm,CL];rfl) rfl))
   have i1:(wa.alloc (.cells #[iv y.at_,iv y.id] 65)).cell? (ad g (i*2+1))=some (iv yi.id):=jaa b1 (hO.cell (ja3 (jak (L:=C)) (i:=i) (j:=1) (c:=iv yi.id) (by rw[lgm,CL];rfl) rfl))
   have E:=Zh.new wa [iv y.at_,iv y.id] 65
   have e0:=E.c 0 rfl
   have e1:=E.c 1 rfl
   have hP:=jk6 y pf pt lo hi (wa.alloc (.cells #[iv y.at_,iv y.id] 65)) ((FndC.belowB (W:=W) HC.out hB h1 h2).below b1)
   simp only[EntryD.v]at hP
   have ck:Below base W (wa.alloc (.cells #[iv y.at_,iv y.id] 65)):=hB.trans (b1.mono (by omega))
   have xj:=hid dW
   clear hO dW b1 CK CL HO
   cases hr:rgB lo hi y.at_
   ·rw[hr]at hP
    have ed:Hid (Jq lo hi P C i (j+1)):=HK.out.skip hy hr
    clear hy hr i0 i1 HK
    go_wp2_with fail
    refine hP.mono ?_
    rintro e w2 ⟨rfl,ac⟩
    have sX:Hid (Zb w2 base (so g n cap) C):=xj.out.below ac
    have an:=ck.trans (ac.mono (by have:=ck.size;omega))
    clear ac xj hP e0 e1 E
    go_wp2
    go_roundw
    case rel=>exact⟨i,j+1,C,rfl,by go_num,by omega,by omega,ed,sX,an⟩
    case measure=>simp[intOf];omega
   ·rw[hr]at hP
    have ed:Hid (Jq lo hi P (C.set i y) (i+1) (j+1)):=HK.out.keep hy hr eF
    clear hy hr HK
    go_wp2_with fail
    refine hP.mono ?_
    rintro e w2 ⟨rfl,ac⟩
    have aW:=xj.out.below ac
    have sX:Hid (Zb ((w2.setCell (ad g (i*2)) (iv y.at_)).setCell (ad g (i*2+1)) (iv y.id)) base (so g n cap) (C.set i y)):=aW.put tU.symm i y
    have an:=ck.trans (ac.mono (by have:=ck.size;omega))
    have ax:Below base W ((w2.setCell (ad g (i*2)) (iv y.at_)).setCell (ad g (i*2+1)) (iv y.id)):=(an.setCell (p:=(ad g (i*2))) jG _).setCell (p:=(ad g (i*2+1))) jG _
    have E2:=E.below ac
    have f0:=E2.c 0 rfl
    have f1:=E2.c 1 rfl
    have k0:=jaa ac i0
    have k1:=jaa ac i1
    have dE:w2.ownsRow base 65 2 (so g n cap) n (C.map EntryD.cs).flatten:=by rw[<- tU];rw[tU];unfold Zb at aW;rw[tU]at aW;exact aW
    have z0:=dE.frozenAt (i*2)
    have z1:=(World.ownsRow.stored dE (i*2) (iv y.at_)).1.frozenAt (i*2+1)
    have z2:(w2.setCell (ad g (i*2)) (iv y.at_)).cell? (ad g (i*2+1))=some (iv yi.id):=by rw[wco _ _ _ _ (by simp)];exact k1
    have i2:(0:Int)<=(i:Int):=by omega
    have i3:(i:Int)<(n:Int):=by omega
    clear ac xj hP e0 e1 E E2 i0 i1 aW dE an
    go_wp2
    go_roundw
    case rel=>exact⟨i+1,j+1,C.set i y,by go_num,by go_num,by omega,by omega,ed,sX,ax⟩
    case measure=>simp[intOf];omega
  ·obtain rfl:j=n:=by omega
   have dE:wa.ownsRow base 65 2 (so g j cap) j (C.map EntryD.cs).flatten:=by have h:=HO.out;unfold Zb at h;rw[tU]at h;exact h
   obtain⟨L,uQ⟩:=jxs wa dE eF
   have eh:j<=cap:=by
    rcases dE.2 with⟨h0,_⟩|⟨_,_,_,h0,_,_,h5,_⟩
    ·cases h0
    ·injection h0 with _ _ h0;omega
   have HF:Hid (Zb (wa.setCells g (i*2) L) base (so g i cap) (P.filter fun x=>rgB lo hi x.at_)):=by
    obtain⟨ys,k1,k2,k3⟩:=jky L (i*2) wa _ dE
    have k4:=jvo k1 (Nat.le_of_lt eF)
    have e1:C.take i=P.filter fun x=>rgB lo hi x.at_:=by rw[HK.out.low,List.take_of_length_le (by rw[HN.out];exact nlr _)]
    have e2:(P.filter fun x=>rgB lo hi x.at_).length=i:=by rw[<- e1,List.length_take];omega
    rw[k2,flat_takeX,e1]at k4
    show World.ownsRow _ _ _ _ _ _ _
    rw[e2]
    exact k4
   have po:Below base W (wa.setCells g (i*2) L):=jev jG L _ W wa hB
   have i2:(0:Int)<=(i:Int):=by omega
   have i3:(i:Int)<=(j:Int):=by omega
   have i4:(i:Int)<=(cap:Int):=by omega
   clear dE HO HK
   go_wp2
   go_ret
   exact⟨_,rfl,HF.out,po⟩
end
end Go.Proofs.YthogmaghfiadbaaGreatDoor
