/- Packed. -/
import Derived.Test.YtofdpfpdocpbpaaGreatDoorLVd
import Derived.Test.YtofdpfpdocpbpaaGreatDoorTabPd
import Derived.Test.YtofdpfpdocpbpaaGreatDoorSAd
import Derived.Test.YtofdpfpdocpbpaaGreatDoorSLd
import Derived.Test.YtofdpfpdocpbpaaGreatDoorSId
import Derived.Laws.OwnMore
import Derived.Laws.IdiomCopy
import Derived.Lib.SliceRun
import Derived.Test.YtofdpfpdocpbpaaGreatDoorAHd
import Derived.Test.YtofdpfpdocpbpaaGreatDoorSDd
import Derived.BigQuiet
import Derived.Test.YtofdpfpdocpbpaaGreatDoorSGd
set_option maxRecDepth 20000
set_option maxHeartbeats 20000000
set_option linter.unusedSimpArgs false
namespace Go.Proofs.YtofdpfpdocpbpaaGreatDoor
section
open Go.RowKit
theorem Zl.below{w w':World}{base:Nat}{v:Value}{L:List EntryD}(h:Zl w base v L)(hb:Below w.heap.size w w'):Zl w' base v L:=jad h hb
theorem Zl.seq{w:World}{base:Nat}{v:Value}{P:List EntryD}(h:Zl w base v P):∃a cap,v=.slice a P.length cap/\Zd w a 2 (P.map EntryD.cs):=by
 obtain⟨a,cap,h1,h2,h3⟩:=jav (rows:=P.map EntryD.cs) (by rw[List.length_map];exact h) jbz
 rw[List.length_map]at h1 h3
 exact⟨a,cap,h1,h2⟩
end
section
open Go.RowKit Go.Sort
def rgB(lo hi n:Int):Bool:=decide (lo<=n)&&decide (n<=hi)
theorem j5e{lo hi n:Int}(h1:lo<=n)(h2:n<=hi):rgB lo hi n=true:=by unfold rgB;rw[decide_eq_true h1,decide_eq_true h2];rfl
theorem j76{lo hi n:Int}(h:n<lo\/hi<n):rgB lo hi n=false:=by
 unfold rgB
 rcases h with h|h
 ·rw[decide_eq_false (by omega)];rfl
 ·rw[decide_eq_false (p:=n<=hi) (by omega)];simp
theorem jov:∀(C:List EntryD) (i:Nat) (x:EntryD),((C.map EntryD.cs).flatten.set (i*2) (.int .i64 x.at_)).set (i*2+1) (.int .i64 x.id)=((C.set i x).map EntryD.cs).flatten
 |[],_,_=>rfl
 |c::C,0,x=>rfl
 |c::C,i+1,x=>by
  have ih:=jov C i x
  have e:(i+1)*2=i*2+1+1:=by omega
  rw[e]
  simp only[List.map_cons,List.flatten_cons,List.set_cons_succ]
  rw[<- ih]
  rfl
theorem Zl.put{w:World}{base g n cap:Nat}{C:List EntryD}(h:Zl w base (.slice (some ⟨g,0,none⟩) n cap) C)(hn:n=C.length)(i:Nat)(x:EntryD):Zl ((w.setCell ⟨g,i*2,none⟩ (.int .i64 x.at_)).setCell ⟨g,i*2+1,none⟩ (.int .i64 x.id)) base (.slice (some ⟨g,0,none⟩) n cap) (C.set i x):=by
 subst hn
 have h2:=World.ownsRow.stored (World.ownsRow.stored h (i*2) (.int .i64 x.at_)).1 (i*2+1) (.int .i64 x.id)
 show World.ownsRow _ _ _ _ _ _ _
 rw[List.length_set, <- jov]
 exact h2.1
theorem jgo{e:TypeId}{size base g n cap:Nat}:∀(L:List Value) (o:Nat) (w:World) (xs:List Value),w.ownsRow base e size (.slice (some ⟨g,0,none⟩) n cap) n xs->∃ys,(w.setCells g o L).ownsRow base e size (.slice (some ⟨g,0,none⟩) n cap) n ys/\ys.take o=xs.take o/\ys.length=xs.length
 |[],o,w,xs,h=>⟨xs,h,rfl,rfl⟩
 |v::L,o,w,xs,h=>by
  obtain⟨ys,h1,h2,h3⟩:=jgo L (o+1) _ _ (World.ownsRow.stored h o v).1
  refine⟨ys,h1,?_,by rw[h3,List.length_set]⟩
  have:=congrArg (List.take o) h2
  rw[List.take_take,List.take_take,Nat.min_eq_left (by omega)]at this
  rw[this,List.take_set_of_le (by omega)]
theorem jng{e:TypeId}{size base g n cap i:Nat}{w:World}{xs:List Value}(h:w.ownsRow base e size (.slice (some ⟨g,0,none⟩) n cap) n xs)(hi:i<=n):w.ownsRow base e size (.slice (some ⟨g,0,none⟩) i cap) i (xs.take (i*size)):=by
 have hl:i*size<=n*size:=Nat.mul_le_mul_right _ hi
 refine⟨by rw[List.length_take,h.1];omega,?_⟩
 rcases h.2 with⟨e0,_⟩|⟨g',cap',cur,e0,hb,hg,hn,hm,hs,ht⟩
 ·cases e0
 ·injection e0 with e1 e2 e3
  injection e1 with e1
  injection e1 with e1
  subst e1 e3
  exact .inr ⟨g,cap,cur,rfl,hb,hg,by omega,hm,hs,by rw[<- ht,List.take_take,Nat.min_eq_left hl]⟩
theorem zeroEntry(w:World):(zeroValue 108).run Tryz.prog w=.ok (.agg #[.int .i64 0,.int .i64 0]) w:=by kernel_rfl
theorem jzb(w:World){base g n cap i:Nat}{xs:List Value}(h:w.ownsRow base 108 2 (.slice (some ⟨g,0,none⟩) n cap) n xs)(hi:i<n):∃L,∀ty,(Builtin.clear_ #[58] ty #[.slice (some ⟨g,i*2,none⟩) (n-i) (cap-i)]).run Tryz.prog w=.ok (.tuple #[]) (w.setCells g (i*2) L):=by
 have hz:(Builtin.zeroCells (Value.agg #[.int .i64 0,.int .i64 0]).cells (n-i)).toList.length=(n-i)*2:=by simp[Builtin.zeroCells,Value.cells]
 have hst:=run_storeCells_cells (P:=Tryz.prog) g (i*2) (Builtin.zeroCells (Value.agg #[.int .i64 0,.int .i64 0]).cells (n-i)).toList 0 w (fun j hj=>by
   rw[hz]at hj
   have h1:i*2+0+j<n*2:=by omega
   obtain⟨u,hu⟩:∃u,xs[i*2+0+j]? =some u:=⟨_,List.getElem?_eq_getElem (by rw[h.1];exact h1)⟩
   rw[h.cellAt _ h1,hu];rfl) (fun j _=>h.frozenAt _) (fun v hv=>by
   simp[Builtin.zeroCells,Value.cells]at hv
   obtain⟨k,_,rfl⟩:=hv
   rcases Nat.mod_two_eq_zero_or_one k with e|e<;>simp[e,Value.oneCell'])
 obtain⟨m,hm⟩:∃m,n-i=m+1:=⟨n-i-1,by omega⟩
 refine⟨(Builtin.zeroCells (Value.agg #[.int .i64 0,.int .i64 0]).cells (n-i)).toList,fun ty=>?_⟩
 rw[Nat.add_zero]at hst
 rw[hm]at hst ⊢
 simp[Builtin.clear_,run_underlying Tryz.underlying58,zeroEntry,hst]
theorem flat_takeX:∀(C:List EntryD) (i:Nat),(C.map EntryD.cs).flatten.take (i*2)=((C.take i).map EntryD.cs).flatten
 |[],_=>by simp
 |c::C,0=>by simp
 |c::C,i+1=>by
  have ih:=flat_takeX C i
  have e:(i+1)*2=i*2+1+1:=by omega
  rw[e]
  simp only[List.map_cons,List.flatten_cons,List.take_succ_cons]
  rw[<- ih]
  rfl
structure Jn(lo hi:Int)(P C:List EntryD)(i j:Nat):Prop where
 len:C.length=P.length
 low:C.take i=(P.take j).filter fun x=>rgB lo hi x.at_
 high:∀m,j<=m->C[m]? =P[m]?
theorem jp2{lo hi:Int}{P:List EntryD}{k:Nat}{x:EntryD}(hx:P[k]? =some x)(hr:rgB lo hi x.at_=false)(h:∀j y,j<k->P[j]? =some y->rgB lo hi y.at_=true):Jn lo hi P P k (k+1):=by
 refine⟨rfl,?_,fun _ _=>rfl⟩
 rw[List.take_add_one,hx,List.filter_append]
 simp only[Option.toList_some,List.filter_cons,hr,List.filter_nil]
 rw[List.filter_eq_self.mpr fun y hy=>?_]
 ·simp
 ·obtain⟨j,hj⟩:=List.getElem?_of_mem hy
  have hl:=(List.getElem?_eq_some_iff.mp hj).1
  rw[List.length_take]at hl
  rw[List.getElem?_take,if_pos (by omega)]at hj
  exact h j y (by omega) hj
theorem Jn.skip{lo hi:Int}{P C:List EntryD}{i j:Nat}{x:EntryD}(h:Jn lo hi P C i j)(hx:P[j]? =some x)(hr:rgB lo hi x.at_=false):Jn lo hi P C i (j+1):=by
 refine⟨h.len,?_,fun m hm=>h.high m (by omega)⟩
 rw[List.take_add_one,hx,List.filter_append,h.low]
 simp[hr]
theorem Jn.keep{lo hi:Int}{P C:List EntryD}{i j:Nat}{x:EntryD}(h:Jn lo hi P C i j)(hx:P[j]? =some x)(hr:rgB lo hi x.at_=true)(hij:i<j):Jn lo hi P (C.set i x) (i+1) (j+1):=by
 have hl:=(List.getElem?_eq_some_iff.mp hx).1
 have hi2:i<C.length:=by rw[h.len];omega
 refine⟨by rw[List.length_set];exact h.len,?_,fun m hm=>?_⟩
 ·rw[List.take_add_one,List.getElem?_set_self hi2,List.take_set_of_le (Nat.le_refl _),h.low,List.take_add_one,hx,List.filter_append]
  simp[hr]
 ·rw[List.getElem?_set_ne (by omega)]
  exact h.high m (by omega)
end
section
open Go.RowKit Go.Sort
structure DelK(F:Nat)(bs:Array Value)(p:EventD->Bool)(base:Nat)(W0:World):Prop where
 enter:∀args w,(callFunc F args).run Tryz.prog w=.ok (.enter F args) w
 call:∀x W,Below base W0 W->Calls Tryz.prog F (#[x.v]++bs) W fun e W'=>e=.returned (.bool (!p x))/\Below W.heap.size W W'
theorem j26(w:World){base g n cap i:Nat}{xs:List Value}(h:w.ownsRow base 99 6 (.slice (some ⟨g,0,none⟩) n cap) n xs)(hi:i<n):∃L,∀ty,(Builtin.clear_ #[232] ty #[.slice (some ⟨g,i*6,none⟩) (n-i) (cap-i)]).run Tryz.prog w=.ok (.tuple #[]) (w.setCells g (i*6) L):=by
 have hz:(Builtin.zeroCells (Value.agg #[.int .i64 0,.string ⟨#[]⟩,.string ⟨#[]⟩,.int .i64 0,.int .i64 0,.int .i64 0]).cells (n-i)).toList.length=(n-i)*6:=by simp[Builtin.zeroCells,Value.cells]
 have hst:=run_storeCells_cells (P:=Tryz.prog) g (i*6) (Builtin.zeroCells (Value.agg #[.int .i64 0,.string ⟨#[]⟩,.string ⟨#[]⟩,.int .i64 0,.int .i64 0,.int .i64 0]).cells (n-i)).toList 0 w (fun j hj=>by
   rw[hz]at hj
   have h1:i*6+0+j<n*6:=by omega
   obtain⟨u,hu⟩:∃u,xs[i*6+0+j]? =some u:=⟨_,List.getElem?_eq_getElem (by rw[h.1];exact h1)⟩
   rw[h.cellAt _ h1,hu];rfl) (fun j _=>h.frozenAt _) (fun v hv=>by
   simp[Builtin.zeroCells,Value.cells]at hv
   obtain⟨k,_,rfl⟩:=hv
   rcases(show k%6=0\/k%6=1\/k%6=2\/k%6=3\/k%6=4\/k%6=5 by omega)with e|e|e|e|e|e<;>simp[e,Value.oneCell'])
 obtain⟨m,hm⟩:∃m,n-i=m+1:=⟨n-i-1,by omega⟩
 refine⟨(Builtin.zeroCells (Value.agg #[.int .i64 0,.string ⟨#[]⟩,.string ⟨#[]⟩,.int .i64 0,.int .i64 0,.int .i64 0]).cells (n-i)).toList,fun ty=>?_⟩
 rw[Nat.add_zero]at hst
 rw[hm]at hst ⊢
 simp[Builtin.clear_,run_underlying Tryz.underlying232,zeroEvent,hst]
theorem jue(C:List EventD)(i:Nat)(hi:i<=C.length):(C.map EventD.cs).flatten.take (i*6)=((C.take i).map EventD.cs).flatten:=by
 conv=>lhs;rw[<- List.take_append_drop i C,List.map_append,List.flatten_append]
 rw[List.take_left']
 rw[jen jd5,List.length_map,List.length_take,Nat.min_eq_left hi]
structure Jo(p:EventD->Bool)(P C:List EventD)(i j:Nat):Prop where
 len:C.length=P.length
 low:C.take i=(P.take j).filter p
 high:∀m,j<=m->C[m]? =P[m]?
def allN(p:EventD->Bool)(P:List EventD)(k:Nat):Prop:=∀j x,j<k->P[j]? =some x->p x=true
theorem jp3{p:EventD->Bool}{P:List EventD}{k:Nat}{x:EventD}(hx:P[k]? =some x)(hr:p x=false)(h:allN p P k):Jo p P P k (k+1):=by
 refine⟨rfl,?_,fun _ _=>rfl⟩
 rw[List.take_add_one,hx,List.filter_append]
 simp only[Option.toList_some,List.filter_cons,hr,List.filter_nil]
 rw[List.filter_eq_self.mpr fun y hy=>?_]
 ·simp
 ·obtain⟨j,hj⟩:=List.getElem?_of_mem hy
  have hl:=(List.getElem?_eq_some_iff.mp hj).1
  rw[List.length_take]at hl
  rw[List.getElem?_take,if_pos (by omega)]at hj
  exact h j y (by omega) hj
theorem Jo.skip{p:EventD->Bool}{P C:List EventD}{i j:Nat}{x:EventD}(h:Jo p P C i j)(hx:P[j]? =some x)(hr:p x=false):Jo p P C i (j+1):=by
 refine⟨h.len,?_,fun m hm=>h.high m (by omega)⟩
 rw[List.take_add_one,hx,List.filter_append,h.low]
 simp[hr]
theorem Jo.keep{p:EventD->Bool}{P C:List EventD}{i j:Nat}{x:EventD}(h:Jo p P C i j)(hx:P[j]? =some x)(hr:p x=true)(hij:i<j):Jo p P (C.set i x) (i+1) (j+1):=by
 have hl:=(List.getElem?_eq_some_iff.mp hx).1
 have hi2:i<C.length:=by rw[h.len];omega
 refine⟨by rw[List.length_set];exact h.len,?_,fun m hm=>?_⟩
 ·rw[List.take_add_one,List.getElem?_set_self hi2,List.take_set_of_le (Nat.le_refl _),h.low,List.take_add_one,hx,List.filter_append]
  simp[hr]
 ·rw[List.getElem?_set_ne (by omega)]
  exact h.high m (by omega)
theorem j2i{F:Nat}{bs:Array Value}{p:EventD->Bool}(P:List EventD)(a:Option Addr)(cap:Nat)(W:World)(hA:Zd W a 6 (P.map EventD.cs))(hK:DelK F bs p W.heap.size W)(hl:P.length<=1000):
  Calls Tryz.prog 266 #[.slice a P.length cap,.func (.func F) #[] bs] W fun e W'=>Below W.heap.size W W'/\((e=.returned (.int .i64 (-1))/\allN p P P.length)\/∃k x,e=.returned (.int .i64 ((k:Nat):Int))/\P[k]? =some x/\p x=false/\allN p P k):=by
 obtain⟨n,hn⟩:∃n,P.length=n:=⟨_,rfl⟩
 have HN:=hid hn
 have hen:=hK.enter
 rw[hn]at hl ⊢
 clear hn
 go_enter Tryz.func266,Tryz.ntmps266
 go_wp2
 go_loopw [5,8] (fun _ t wr=>∃k:Nat,t=.int .i64 k/\k<=n/\Hid (allN p P k)/\Below W.heap.size W wr) (fun _ t _=>n-(intOf t).toNat)
 case atStart=>exact⟨0,rfl,by omega,fun j x hj=>by omega,Below.refl _ _⟩
 case round=>
  obtain⟨k,rfl,hk,HK,hB⟩:=hrel
  by_cases hlt:k<n
  ·obtain⟨x,hx⟩:∃x,P[k]? =some x:=⟨_,List.getElem?_eq_getElem (by rw[HN.out];exact hlt)⟩
   obtain⟨b,o,rfl,hc⟩:=(hA.below hB).at (i:=k) (r:=x.cs) (by rw[List.getElem?_map,hx];rfl)
   have c0:wr.cell? ⟨b,o+k*6,none⟩=some (.int .i64 x.id):=hc 0 _ rfl
   have c1:wr.cell? ⟨b,o+k*6+1,none⟩=some (.string x.name):=hc 1 _ rfl
   have c2:wr.cell? ⟨b,o+k*6+2,none⟩=some (.string x.zone):=hc 2 _ rfl
   have c3:wr.cell? ⟨b,o+k*6+3,none⟩=some (.int .i64 x.wall):=hc 3 _ rfl
   have c4:wr.cell? ⟨b,o+k*6+4,none⟩=some (.int .i64 x.gap):=hc 4 _ rfl
   have c5:wr.cell? ⟨b,o+k*6+5,none⟩=some (.int .i64 x.fold):=hc 5 _ rfl
   have hP:=hK.call x wr hB
   simp only[EventD.v]at hP
   have HX:=hid hx
   clear hc hx hA
   cases hr:p x
   ·rw[hr]at hP
    have HR:=hid hr
    clear hr
    go_wp2_with fail
    refine hP.mono ?_
    rintro e w1 ⟨rfl,hb1⟩
    have hB1:=qtr hB hb1
    go_wp2
    go_ret
    exact⟨hB1,.inr ⟨k,x,rfl,HX.out,HR.out,HK.out⟩⟩
   ·rw[hr]at hP
    have HK2:Hid (allN p P (k+1)):=fun j y hj hy=>by
     by_cases e:j=k
     ·subst e;rw[HX.out]at hy;obtain rfl:=Option.some.inj hy;exact hr
     ·exact HK.out j y (by omega) hy
    clear hr
    go_wp2_with fail
    refine hP.mono ?_
    rintro e w1 ⟨rfl,hb1⟩
    have hB1:=qtr hB hb1
    go_wp2
    go_roundw
    case rel=>exact⟨k+1,by go_num,by omega,HK2,hB1⟩
    case measure=>simp[intOf];omega
  ·obtain rfl:k=n:=by omega
   go_wp2
   go_ret
   exact⟨hB,.inl ⟨rfl,HK.out⟩⟩
theorem jys{F:Nat}{bs:Array Value}{p:EventD->Bool}(P:List EventD)(base:Nat)(v:Value)(W:World)(hO:Zq W base v P)(hK:DelK F bs p base W)(hb:base<=W.heap.size)(hl:P.length<=1000):
  Calls Tryz.prog 228 #[v,.func (.func F) #[] bs] W fun e W'=>∃x,e=.returned x/\Zq W' base x (P.filter p)/\Below base W W':=by
 obtain⟨a,cap,rfl,hs⟩:=hO.seq
 have hI:=j2i P a cap W hs ⟨hK.enter,fun x w' h=>hK.call x w' (h.mono hb)⟩ hl
 obtain⟨n,hn⟩:∃n,P.length=n:=⟨_,rfl⟩
 have HN:=hid hn
 have hen:=hK.enter
 have HC:=fun x w' h=>hK.call x w' h
 rw[hn]at hI hO hl ⊢
 clear hn hs hK
 go_enter Tryz.func228,Tryz.ntmps228
 go_wp2_with fail
 refine hI.mono ?_
 rintro e w1 ⟨hb1,hr⟩
 have hB1:Below base W w1:=hb1.mono hb
 have hO1:=hO.below hb1
 have hs1:=hb1.size
 clear hI hO hb1
 rcases hr with⟨rfl,hall⟩|⟨k,x,rfl,hx,hr,hk⟩
 ·have HF:Hid ((P.filter p)=P):=List.filter_eq_self.mpr fun y hy=>by
   obtain⟨j,hj⟩:=List.getElem?_of_mem hy
   exact hall j y (by have:=(List.getElem?_eq_some_iff.mp hj).1;have:=HN.out;omega) hj
  clear hall
  go_wp2
  go_ret
  exact⟨_,rfl,by rw[HF.out];exact hO1,hB1⟩
 have hkn:k<n:=by have:=(List.getElem?_eq_some_iff.mp hx).1;have:=HN.out;omega
 obtain⟨g,hg⟩:∃g,a=some ⟨g,0,none⟩:=by
  rcases hO1.2 with⟨_,h0⟩|⟨g,_,_,h0,_⟩
  ·have:=HN.out;omega
  ·injection h0 with h0 _ _;exact⟨g,h0⟩
 subst hg
 have hgb:=(World.ownsRow.lt hO1 g rfl).1
 have HS:Hid (Jo p P P k (k+1)):=jp3 hx hr hk
 have hne:((k:Int)== -1)=false:=by simp
 clear hx hr hk
 go_wp2
 go_loopw [5,6,7] (fun s5 s6 _ wr=>∃(i j:Nat) (C:List EventD),s5=.int .i64 i/\s6=.int .i64 j/\j<=n/\i<j/\Hid (Jo p P C i j)/\Hid (Zq wr base (.slice (some ⟨g,0,none⟩) n cap) C)/\Below base W wr) (fun _ s6 _ _=>n-(intOf s6).toNat)
 case atStart=>exact⟨k,k+1,P,rfl,by go_num,by omega,by omega,HS,hO1,hB1⟩
 case round=>
  obtain⟨wa,hwa⟩:∃x:World,x=wr:=⟨_,rfl⟩
  subst hwa
  obtain⟨i,j,C,rfl,rfl,hjn,hij,HK,HO,hB⟩:=hrel
  have hCl:C.length=n:=by rw[HK.out.len];exact HN.out
  have hsz:=hB.size
  clear HS hO1 hB1 hs1
  by_cases hlt:j<n
  ·have j1:(j:Int)<(n:Int):=by omega
   obtain⟨y,hy⟩:∃y,P[j]? =some y:=⟨_,List.getElem?_eq_getElem (by rw[HN.out];exact hlt)⟩
   have hO:=HO.out
   obtain⟨c0,c1,c2,c3,c4,c5⟩:=jsm hO (i:=j) (x:=y) (by rw[HK.out.high j (Nat.le_refl _)];exact hy)
   have b1:=qal wa (.cells #[.int .i64 y.id,.string y.name,.string y.zone,.int .i64 y.wall,.int .i64 y.gap,.int .i64 y.fold] 99)
   have hO1:=hO.below b1
   have E:=Zc.new wa [.int .i64 y.id,.string y.name,.string y.zone,.int .i64 y.wall,.int .i64 y.gap,.int .i64 y.fold] 99
   have e0:=E.c 0 rfl
   have e1:=E.c 1 rfl
   have e2:=E.c 2 rfl
   have e3:=E.c 3 rfl
   have e4:=E.c 4 rfl
   have e5:=E.c 5 rfl
   have hBb:Below base W (wa.alloc (.cells #[.int .i64 y.id,.string y.name,.string y.zone,.int .i64 y.wall,.int .i64 y.gap,.int .i64 y.fold] 99)):=hB.trans (b1.mono (by omega))
   have hP:=HC y _ hBb
   simp only[EventD.v]at hP
   have HO1:=hid hO1
   clear hO hO1 b1 HO
   cases hr:p y
   ·rw[hr]at hP
    have HK2:Hid (Jo p P C i (j+1)):=HK.out.skip hy hr
    clear hy hr HK
    go_wp2_with fail
    refine hP.mono ?_
    rintro e w2 ⟨rfl,hb2⟩
    have HO2:Hid (Zq w2 base (.slice (some ⟨g,0,none⟩) n cap) C):=HO1.out.below hb2
    have hB2:=hBb.trans (hb2.mono (by have:=hBb.size;omega))
    clear hb2 HO1 hP e0 e1 e2 e3 e4 e5 E
    go_wp2
    go_roundw
    case rel=>exact⟨i,j+1,C,rfl,by go_num,by omega,by omega,HK2,HO2,hB2⟩
    case measure=>simp[intOf];omega
   ·rw[hr]at hP
    have HK2:Hid (Jo p P (C.set i y) (i+1) (j+1)):=HK.out.keep hy hr hij
    clear hy hr HK
    go_wp2_with fail
    refine hP.mono ?_
    rintro e w2 ⟨rfl,hb2⟩
    have hO2:=HO1.out.below hb2
    have HO2:Hid (Zq ((((((w2.setCell ⟨g,i*6,none⟩ (.int .i64 y.id)).setCell ⟨g,i*6+1,none⟩ (.string y.name)).setCell ⟨g,i*6+2,none⟩ (.string y.zone)).setCell ⟨g,i*6+3,none⟩ (.int .i64 y.wall)).setCell ⟨g,i*6+4,none⟩ (.int .i64 y.gap)).setCell ⟨g,i*6+5,none⟩ (.int .i64 y.fold)) base (.slice (some ⟨g,0,none⟩) n cap) (C.set i y)):=hO2.put hCl.symm i (by omega) y
    have hB2:=hBb.trans (hb2.mono (by have:=hBb.size;omega))
    have hB3:Below base W ((((((w2.setCell ⟨g,i*6,none⟩ (.int .i64 y.id)).setCell ⟨g,i*6+1,none⟩ (.string y.name)).setCell ⟨g,i*6+2,none⟩ (.string y.zone)).setCell ⟨g,i*6+3,none⟩ (.int .i64 y.wall)).setCell ⟨g,i*6+4,none⟩ (.int .i64 y.gap)).setCell ⟨g,i*6+5,none⟩ (.int .i64 y.fold)):=jci hgb y.cs (i*6) W w2 hB2
    have E2:=E.below hb2
    have f0:=E2.c 0 rfl
    have f1:=E2.c 1 rfl
    have f2:=E2.c 2 rfl
    have f3:=E2.c 3 rfl
    have f4:=E2.c 4 rfl
    have f5:=E2.c 5 rfl
    have hO3:w2.ownsRow base 99 6 (.slice (some ⟨g,0,none⟩) n cap) n (C.map EventD.cs).flatten:=by have h:=hO2;unfold Zq at h;rw[hCl]at h;exact h
    obtain⟨yi,hyi⟩:∃z,C[i]? =some z:=⟨_,List.getElem?_eq_getElem (by omega)⟩
    obtain⟨z0,z1,z2,z3,z4,z5⟩:=jsm hO2 hyi
    have q0:=hO3.frozenAt (i*6)
    have q1:=hO3.frozenAt (i*6+1)
    have q2:=hO3.frozenAt (i*6+2)
    have q3:=hO3.frozenAt (i*6+3)
    have q4:=hO3.frozenAt (i*6+4)
    have q5:=hO3.frozenAt (i*6+5)
    have i2:(0:Int)<=(i:Int):=by omega
    have i3:(i:Int)<(n:Int):=by omega
    clear hb2 HO1 hP e0 e1 e2 e3 e4 e5 E E2 hO2 hO3 hB2 hyi
    go_wp2
    go_roundw
    case rel=>exact⟨i+1,j+1,C.set i y,by go_num,by go_num,by omega,by omega,HK2,HO2,hB3⟩
    case measure=>simp[intOf];omega
  ·obtain rfl:j=n:=by omega
   have hO3:wa.ownsRow base 99 6 (.slice (some ⟨g,0,none⟩) j cap) j (C.map EventD.cs).flatten:=by have h:=HO.out;unfold Zq at h;rw[hCl]at h;exact h
   obtain⟨L,hcl⟩:=j26 wa hO3 hij
   have hcap:j<=cap:=by
    rcases hO3.2 with⟨h0,_⟩|⟨_,_,_,h0,_,_,h5,_⟩
    ·cases h0
    ·injection h0 with _ _ h0;omega
   have HF:Hid (Zq (wa.setCells g (i*6) L) base (.slice (some ⟨g,0,none⟩) i cap) (P.filter p)):=by
    obtain⟨ys,k1,k2,k3⟩:=jgo L (i*6) wa _ hO3
    have k4:=jng k1 (Nat.le_of_lt hij)
    have e1:C.take i=P.filter p:=by rw[HK.out.low,List.take_of_length_le (by rw[HN.out];exact Nat.le_refl _)]
    have e2:(P.filter p).length=i:=by rw[<- e1,List.length_take];omega
    rw[k2,jue _ _ (by omega),e1]at k4
    show World.ownsRow _ _ _ _ _ _ _
    rw[e2]
    exact k4
   have hBf:Below base W (wa.setCells g (i*6) L):=jci hgb L _ W wa hB
   have i2:(0:Int)<=(i:Int):=by omega
   have i3:(i:Int)<=(j:Int):=by omega
   have i4:(i:Int)<=(cap:Int):=by omega
   clear hO3 HO HK
   go_wp2
   go_ret
   exact⟨_,rfl,HF.out,hBf⟩
end
section
open Go.RowKit Go.ChangeMaps Go.MapKept Go.WideMaps Go.Sort
def waitB(c:Int)(e:EventD):Bool:= !decide (e.id<c)
theorem jua(bx bb base:Nat)(cur:Int)(W0:World)(c0:W0.cell? ⟨bx,0,none⟩=some (.pointer (some ⟨bb,0,none⟩)))(c7:W0.cell? ⟨bb,7,none⟩=some (.int .i64 cur))(h1:bx<base)(h2:bb<base):DelK 229 #[.pointer (some ⟨bx,0,none⟩)] (waitB cur) base W0 where
 enter:=fun _ _=>by kernel_rfl
 call:=fun x W hB=>by
  have d0:=(hB.cell (p:=⟨bx,0,none⟩) h1).trans c0
  have d7:=(hB.cell (p:=⟨bb,7,none⟩) h2).trans c7
  obtain⟨id,name,zone,wall,gap,fold⟩:=x
  simp only[EventD.v,waitB,Bool.not_not]
  have hb:=qal W (.cells #[.int .i64 id,.string name,.string zone,.int .i64 wall,.int .i64 gap,.int .i64 fold] 99)
  have g0:=jab hb d0
  have g7:=jab hb d7
  have e0:=(Zc.new W [.int .i64 id,.string name,.string zone,.int .i64 wall,.int .i64 gap,.int .i64 fold] 99).c 0 rfl
  have HB:=hidP hb
  clear hb d0 d7 c0 c7 hB
  show Calls Tryz.prog 229 #[.agg #[.int .i64 id,.string name,.string zone,.int .i64 wall,.int .i64 gap,.int .i64 fold],.pointer (some ⟨bx,0,none⟩)] W _
  go_enter Tryz.func229,Tryz.ntmps229
  go_wp2_with fail
  go_quiet (fail)
  go_wp2
  go_ret
  exact⟨rfl,HB.out.trans ⟨rfl,rfl,rfl,Nat.le_refl _,fun _ _=>rfl⟩⟩
def bkL(s:Za)(a1 a2 a3 a4 a5 a6 a8 a9:Option Addr)(c1 c2 c3 c4 c5 c6 c8 c9:Nat)(lb nm wm:Nat)(a b c d e f:Option Addr)(ca cb cc cd ce cf:Nat):List Value:=[.int .i64 s.tx,.slice a1 s.now.rules.length c1,.slice a2 s.now.zones.length c2,.slice a3 s.now.links.length c3,.slice a4 s.was.rules.length c4,.slice a5 s.was.zones.length c5,.slice a6 s.was.links.length c6,.int .i64 s.cur,.slice a8 s.vs.length c8,.slice a9 s.ix.length c9,.map (some lb),.slice a s.now.rules.length ca,.slice b s.now.zones.length cb,.slice c s.now.links.length cc,.map (some nm),.slice d s.was.rules.length cd,.slice e s.was.zones.length ce,.slice f s.was.links.length cf,.map (some wm)]
theorem Zc.book{w0 w:World}{s:Za}{a1 a2 a3 a4 a5 a6 a8 a9:Option Addr}{c1 c2 c3 c4 c5 c6 c8 c9:Nat}{bb lb nm wm nn wn:Nat}{a b c d e f:Option Addr}{ca cb cc cd ce cf:Nat}(K:Zc w bb (bkL s a1 a2 a3 a4 a5 a6 a8 a9 c1 c2 c3 c4 c5 c6 c8 c9 lb nm wm a b c d e f ca cb cc cd ce cf))(hb:Below w0.heap.size w0 w)(hn:Ze w nm nn s.now)(hw:Ze w wm wn s.was)(h1:nm≠wm)(h2:w0.heap.size<=nm)(h3:w0.heap.size<=wm)(h4:∃cs,w.heap[bb]? =some (.cells cs 85 (0,0))):Zj (bkX s a1 a2 a3 a4 a5 a6 a8 a9 c1 c2 c3 c4 c5 c6 c8 c9) w0 w s bb lb nm wm nn wn a b c d e f ca cb cc cd ce cf:=
 ⟨hb,K.c 7 rfl,K.c 10 rfl,K.c 11 rfl,K.c 12 rfl,K.c 13 rfl,K.c 14 rfl,K.c 15 rfl,K.c 16 rfl,K.c 17 rfl,K.c 18 rfl,hn,hw,h1,h2,h3,fun p hp=>by
  simp only[bkX,List.mem_cons,List.not_mem_nil,or_false]at hp
  rcases hp with rfl|rfl|rfl|rfl|rfl|rfl|rfl|rfl|rfl
  ·exact K.c 0 rfl
  ·exact K.c 1 rfl
  ·exact K.c 2 rfl
  ·exact K.c 3 rfl
  ·exact K.c 4 rfl
  ·exact K.c 5 rfl
  ·exact K.c 6 rfl
  ·exact K.c 8 rfl
  ·exact K.c 9 rfl,h4⟩
theorem jaj{w w1:World}{g:Nat}(h:w.grownBy w1 (some g))(j:Nat)(v:Value):w.grownBy (w1.setCell ⟨g,j,none⟩ v) (some g):=h.andThen (ja1 w1 g j v) (fun _ h=>.inr h)
def setS(s:Za):Za:=⟨s.tx,s.now,⟨[],[],[]⟩,0,s.vs,s.ix⟩
theorem jtg{w:World}{s:Za}{a1 a2 a3 a4 a5 a6 a8 a9:Option Addr}{c1 c2 c3 c4 c5 c6 c8 c9:Nat}{bb lb nm wm M:Nat}{a b c d e f:Option Addr}{ca cb cc cd ce cf:Nat}(K2:Zc w bb ((bkL s a1 a2 a3 a4 a5 a6 a8 a9 c1 c2 c3 c4 c5 c6 c8 c9 lb nm wm a b c d e f ca cb cc cd ce cf).set 7 (.int .i64 0))):Zc (((((((w.setCell ⟨bb,4,none⟩ (.slice none 0 0)).setCell ⟨bb,5,none⟩ (.slice none 0 0)).setCell ⟨bb,6,none⟩ (.slice none 0 0)).setCell ⟨bb,15,none⟩ (.slice none 0 0)).setCell ⟨bb,16,none⟩ (.slice none 0 0)).setCell ⟨bb,17,none⟩ (.slice none 0 0)).setCell ⟨bb,18,none⟩ (.map (some M))) bb (bkL (setS s) a1 a2 a3 none none none a8 a9 c1 c2 c3 0 0 0 c8 c9 lb nm M a b c none none none ca cb cc 0 0 0):=(Zc.set (j:=18) (Zc.set (j:=17) (Zc.set (j:=16) (Zc.set (j:=15) (Zc.set (j:=6) (Zc.set (j:=5) (Zc.set (j:=4) K2 (.slice none 0 0)) (.slice none 0 0)) (.slice none 0 0)) (.slice none 0 0)) (.slice none 0 0)) (.slice none 0 0)) (.map (some M)))
end
section
open Go.RowKit
def momF(g:EventD->Int × Bool)(lo hi:Int)(e:EventD):Int × Bool:=((g e).1,(g e).2&&rgB lo hi (g e).1)
theorem juh{g:EventD->Int × Bool}{lo hi:Int}{L:List EventD}(hL:L.Pairwise fun x y=>x.id<y.id):((entF g L).filter fun x=>rgB lo hi x.at_)=entF (momF g lo hi) L:=by
 refine jvn (List.Pairwise.filter _ (jqy hL)) (jqy hL) fun x=>?_
 rw[List.mem_filter,entF_mem,entF_mem]
 constructor
 ·rintro⟨⟨e,he,hg,rfl⟩,hr⟩
  exact⟨e,he,by simp only[momF,hg,Bool.true_and];exact hr,rfl⟩
 ·rintro⟨e,he,hg,rfl⟩
  simp only[momF,Bool.and_eq_true]at hg ⊢
  exact⟨⟨e,he,hg.1,rfl⟩,hg.2⟩
end
section
open Go.RowKit Go.Sort
structure FndC(W:World)(pf pt:Nat)(lo hi:Int):Prop where
 lo_:W.cell? ⟨pf,0,none⟩=some (.int .i64 lo)
 hi_:W.cell? ⟨pt,0,none⟩=some (.int .i64 hi)
theorem FndC.below{W W':World}{pf pt:Nat}{lo hi:Int}(h:FndC W pf pt lo hi)(hb:Below W.heap.size W W'):FndC W' pf pt lo hi:=⟨jab hb h.lo_,jab hb h.hi_⟩
theorem FndC.belowB{W W':World}{pf pt base:Nat}{lo hi:Int}(h:FndC W pf pt lo hi)(hb:Below base W W')(h1:pf<base)(h2:pt<base):FndC W' pf pt lo hi:=⟨(hb.cell (p:=⟨pf,0,none⟩) h1).trans h.lo_,(hb.cell (p:=⟨pt,0,none⟩) h2).trans h.hi_⟩
theorem jli(x:EntryD)(pf pt:Nat)(lo hi:Int)(W:World)(hC:FndC W pf pt lo hi):
  Calls Tryz.prog 189 #[x.v,.pointer (some ⟨pf,0,none⟩),.pointer (some ⟨pt,0,none⟩)] W fun e W'=>e=.returned (.bool (!rgB lo hi x.at_))/\Below W.heap.size W W':=by
 obtain⟨a,d⟩:=x
 simp only[EntryD.v]
 have hb:=qal W (.cells #[.int .i64 a,.int .i64 d] 108)
 have c1:=(hC.below hb).lo_
 have c2:=(hC.below hb).hi_
 have e0:(W.alloc (.cells #[.int .i64 a,.int .i64 d] 108)).cell? ⟨W.heap.size,0,none⟩=some (.int .i64 a):=by simp[go_sem]
 by_cases h1:a<lo
 ·rw[j76 (.inl h1)]
  go_enter Tryz.func189,Tryz.ntmps189
  go_wp2
  go_ret
  exact⟨rfl,hb⟩
 ·by_cases h2:hi<a
  ·rw[j76 (.inr h2)]
   go_enter Tryz.func189,Tryz.ntmps189
   go_wp2
   go_ret
   exact⟨rfl,hb⟩
  ·rw[j5e (by omega) (by omega)]
   go_enter Tryz.func189,Tryz.ntmps189
   go_wp2
   go_ret
   exact⟨rfl,hb⟩
def outN(lo hi:Int)(P:List EntryD)(k:Nat):Prop:=(∀j x,j<k->P[j]? =some x->rgB lo hi x.at_=true)
theorem jqp(P:List EntryD)(a:Option Addr)(cap pf pt:Nat)(lo hi:Int)(W:World)(hA:Zd W a 2 (P.map EntryD.cs))(hC:FndC W pf pt lo hi)(hl:P.length<=1000):
  Calls Tryz.prog 236 #[.slice a P.length cap,.func (.func 189) #[] #[.pointer (some ⟨pf,0,none⟩),.pointer (some ⟨pt,0,none⟩)]] W fun e W'=>Below W.heap.size W W'/\((e=.returned (.int .i64 (-1))/\outN lo hi P P.length)\/∃k x,e=.returned (.int .i64 ((k:Nat):Int))/\P[k]? =some x/\rgB lo hi x.at_=false/\outN lo hi P k):=by
 obtain⟨n,hn⟩:∃n,P.length=n:=⟨_,rfl⟩
 have HN:=hid hn
 rw[hn]at hl ⊢
 clear hn
 go_enter Tryz.func236,Tryz.ntmps236
 go_wp2
 go_loopw [5,8] (fun _ t wr=>∃k:Nat,t=.int .i64 k/\k<=n/\Hid (outN lo hi P k)/\Below W.heap.size W wr) (fun _ t _=>n-(intOf t).toNat)
 case atStart=>exact⟨0,rfl,by omega,fun j x hj=>by omega,Below.refl _ _⟩
 case round=>
  obtain⟨k,rfl,hk,HK,hB⟩:=hrel
  by_cases hlt:k<n
  ·obtain⟨x,hx⟩:∃x,P[k]? =some x:=⟨_,List.getElem?_eq_getElem (by rw[HN.out];exact hlt)⟩
   obtain⟨b,o,rfl,hc⟩:=(hA.below hB).at (i:=k) (r:=x.cs) (by rw[List.getElem?_map,hx];rfl)
   have c0:wr.cell? ⟨b,o+k*2,none⟩=some (.int .i64 x.at_):=hc 0 _ rfl
   have c1:wr.cell? ⟨b,o+k*2+1,none⟩=some (.int .i64 x.id):=hc 1 _ rfl
   have hP:=jli x pf pt lo hi wr (hC.below hB)
   simp only[EntryD.v]at hP
   have HX:=hid hx
   clear hc hx hA
   cases hr:rgB lo hi x.at_
   ·rw[hr]at hP
    have HR:=hid hr
    clear hr
    go_wp2_with fail
    refine hP.mono ?_
    rintro e w1 ⟨rfl,hb1⟩
    have hB1:=qtr hB hb1
    go_wp2
    go_ret
    exact⟨hB1,.inr ⟨k,x,rfl,HX.out,HR.out,HK.out⟩⟩
   ·rw[hr]at hP
    have HK2:Hid (outN lo hi P (k+1)):=fun j y hj hy=>by
     by_cases e:j=k
     ·subst e;rw[HX.out]at hy;obtain rfl:=Option.some.inj hy;exact hr
     ·exact HK.out j y (by omega) hy
    clear hr
    go_wp2_with fail
    refine hP.mono ?_
    rintro e w1 ⟨rfl,hb1⟩
    have hB1:=qtr hB hb1
    go_wp2
    go_roundw
    case rel=>exact⟨k+1,by go_num,by omega,HK2,hB1⟩
    case measure=>simp[intOf];omega
  ·obtain rfl:k=n:=by omega
   go_wp2
   go_ret
   exact⟨hB,.inl ⟨rfl,HK.out⟩⟩
end
section
open Go.RowKit Go.Sort
theorem jot(P:List EntryD)(base:Nat)(v:Value)(pf pt:Nat)(lo hi:Int)(W:World)(hO:Zl W base v P)(hC:FndC W pf pt lo hi)(h1:pf<base)(h2:pt<base)(hb:base<=W.heap.size)(hl:P.length<=1000):
  Calls Tryz.prog 188 #[v,.func (.func 189) #[] #[.pointer (some ⟨pf,0,none⟩),.pointer (some ⟨pt,0,none⟩)]] W fun e W'=>∃x,e=.returned x/\Zl W' base x (P.filter fun x=>rgB lo hi x.at_)/\Below base W W':=by
 obtain⟨a,cap,rfl,hs⟩:=hO.seq
 have hI:=jqp P a cap pf pt lo hi W hs hC hl
 obtain⟨n,hn⟩:∃n,P.length=n:=⟨_,rfl⟩
 have HN:=hid hn
 rw[hn]at hI hO hl ⊢
 clear hn hs
 go_enter Tryz.func188,Tryz.ntmps188
 go_wp2_with fail
 refine hI.mono ?_
 rintro e w1 ⟨hb1,hr⟩
 have hB1:Below base W w1:=hb1.mono hb
 have hO1:=hO.below hb1
 have hC1:=hC.below hb1
 have hs1:=hb1.size
 have HC:=hid hC
 clear hI hO hC hb1
 rcases hr with⟨rfl,hall⟩|⟨k,x,rfl,hx,hr,hk⟩
 ·have HF:Hid ((P.filter fun x=>rgB lo hi x.at_)=P):=List.filter_eq_self.mpr fun y hy=>by
   obtain⟨j,hj⟩:=List.getElem?_of_mem hy
   exact hall j y (by have:=(List.getElem?_eq_some_iff.mp hj).1;have:=HN.out;omega) hj
  clear hall
  go_wp2
  go_ret
  exact⟨_,rfl,by rw[HF.out];exact hO1,hB1⟩
 have hkn:k<n:=by have:=(List.getElem?_eq_some_iff.mp hx).1;have:=HN.out;omega
 obtain⟨g,hg⟩:∃g,a=some ⟨g,0,none⟩:=by
  rcases hO1.2 with⟨_,h0⟩|⟨g,_,_,h0,_⟩
  ·have:=HN.out;omega
  ·injection h0 with h0 _ _;exact⟨g,h0⟩
 subst hg
 have hgb:=(World.ownsRow.lt hO1 g rfl).1
 have HS:Hid (Jn lo hi P P k (k+1)):=jp2 hx hr hk
 have hne:((k:Int)== -1)=false:=by simp
 clear hx hr hk
 go_wp2
 go_loopw [5,6,7] (fun s5 s6 _ wr=>∃(i j:Nat) (C:List EntryD),s5=.int .i64 i/\s6=.int .i64 j/\j<=n/\i<j/\Hid (Jn lo hi P C i j)/\Hid (Zl wr base (.slice (some ⟨g,0,none⟩) n cap) C)/\Below base W wr) (fun _ s6 _ _=>n-(intOf s6).toNat)
 case atStart=>exact⟨k,k+1,P,rfl,by go_num,by omega,by omega,HS,hO1,hB1⟩
 case round=>
  obtain⟨wa,hwa⟩:∃x:World,x=wr:=⟨_,rfl⟩
  subst hwa
  obtain⟨i,j,C,rfl,rfl,hjn,hij,HK,HO,hB⟩:=hrel
  have hCl:C.length=n:=by rw[HK.out.len];exact HN.out
  have hsz:=hB.size
  clear HS hO1 hB1 hC1 hs1
  by_cases hlt:j<n
  ·have j1:(j:Int)<(n:Int):=by omega
   obtain⟨y,hy⟩:∃y,P[j]? =some y:=⟨_,List.getElem?_eq_getElem (by rw[HN.out];exact hlt)⟩
   have hyC:C[j]? =some y:=by rw[HK.out.high j (Nat.le_refl _)];exact hy
   obtain⟨yi,hyi⟩:∃z,C[i]? =some z:=⟨_,List.getElem?_eq_getElem (by omega)⟩
   have hO:=HO.out
   have c0:wa.cell? ⟨g,j*2,none⟩=some (.int .i64 y.at_):=hO.cell (jbl (jbz (L:=C)) (i:=j) (j:=0) (by rw[List.getElem?_map,hyC];rfl) rfl)
   have c1:wa.cell? ⟨g,j*2+1,none⟩=some (.int .i64 y.id):=hO.cell (jbl (jbz (L:=C)) (i:=j) (j:=1) (by rw[List.getElem?_map,hyC];rfl) rfl)
   have b1:=qal wa (.cells #[.int .i64 y.at_,.int .i64 y.id] 108)
   have hO1:=hO.below b1
   have i0:(wa.alloc (.cells #[.int .i64 y.at_,.int .i64 y.id] 108)).cell? ⟨g,i*2,none⟩=some (.int .i64 yi.at_):=jab b1 (hO.cell (jbl (jbz (L:=C)) (i:=i) (j:=0) (c:=.int .i64 yi.at_) (by rw[List.getElem?_map,hyi];rfl) rfl))
   have i1:(wa.alloc (.cells #[.int .i64 y.at_,.int .i64 y.id] 108)).cell? ⟨g,i*2+1,none⟩=some (.int .i64 yi.id):=jab b1 (hO.cell (jbl (jbz (L:=C)) (i:=i) (j:=1) (c:=.int .i64 yi.id) (by rw[List.getElem?_map,hyi];rfl) rfl))
   have E:=Zc.new wa [.int .i64 y.at_,.int .i64 y.id] 108
   have e0:=E.c 0 rfl
   have e1:=E.c 1 rfl
   have hP:=jli y pf pt lo hi (wa.alloc (.cells #[.int .i64 y.at_,.int .i64 y.id] 108)) ((FndC.belowB (W:=W) HC.out hB h1 h2).below b1)
   simp only[EntryD.v]at hP
   have hBb:Below base W (wa.alloc (.cells #[.int .i64 y.at_,.int .i64 y.id] 108)):=hB.trans (b1.mono (by omega))
   have HO1:=hid hO1
   clear hO hO1 b1 hyC hyi HO
   cases hr:rgB lo hi y.at_
   ·rw[hr]at hP
    have HK2:Hid (Jn lo hi P C i (j+1)):=HK.out.skip hy hr
    clear hy hr i0 i1 HK
    go_wp2_with fail
    refine hP.mono ?_
    rintro e w2 ⟨rfl,hb2⟩
    have HO2:Hid (Zl w2 base (.slice (some ⟨g,0,none⟩) n cap) C):=HO1.out.below hb2
    have hB2:=hBb.trans (hb2.mono (by have:=hBb.size;omega))
    clear hb2 HO1 hP e0 e1 E
    go_wp2
    go_roundw
    case rel=>exact⟨i,j+1,C,rfl,by go_num,by omega,by omega,HK2,HO2,hB2⟩
    case measure=>simp[intOf];omega
   ·rw[hr]at hP
    have HK2:Hid (Jn lo hi P (C.set i y) (i+1) (j+1)):=HK.out.keep hy hr hij
    clear hy hr HK
    go_wp2_with fail
    refine hP.mono ?_
    rintro e w2 ⟨rfl,hb2⟩
    have hO2:=HO1.out.below hb2
    have HO2:Hid (Zl ((w2.setCell ⟨g,i*2,none⟩ (.int .i64 y.at_)).setCell ⟨g,i*2+1,none⟩ (.int .i64 y.id)) base (.slice (some ⟨g,0,none⟩) n cap) (C.set i y)):=hO2.put hCl.symm i y
    have hB2:=hBb.trans (hb2.mono (by have:=hBb.size;omega))
    have hB3:Below base W ((w2.setCell ⟨g,i*2,none⟩ (.int .i64 y.at_)).setCell ⟨g,i*2+1,none⟩ (.int .i64 y.id)):=(hB2.setCell (p:=⟨g,i*2,none⟩) hgb _).setCell (p:=⟨g,i*2+1,none⟩) hgb _
    have E2:=E.below hb2
    have f0:=E2.c 0 rfl
    have f1:=E2.c 1 rfl
    have k0:=jab hb2 i0
    have k1:=jab hb2 i1
    have hO3:w2.ownsRow base 108 2 (.slice (some ⟨g,0,none⟩) n cap) n (C.map EntryD.cs).flatten:=by rw[<- hCl];rw[hCl];unfold Zl at hO2;rw[hCl]at hO2;exact hO2
    have z0:=hO3.frozenAt (i*2)
    have z1:=(World.ownsRow.stored hO3 (i*2) (.int .i64 y.at_)).1.frozenAt (i*2+1)
    have z2:(w2.setCell ⟨g,i*2,none⟩ (.int .i64 y.at_)).cell? ⟨g,i*2+1,none⟩=some (.int .i64 yi.id):=by rw[World.cell?_setCell_other _ _ _ _ (by simp)];exact k1
    have i2:(0:Int)<=(i:Int):=by omega
    have i3:(i:Int)<(n:Int):=by omega
    clear hb2 HO1 hP e0 e1 E E2 i0 i1 hO2 hO3 hB2
    go_wp2
    go_roundw
    case rel=>exact⟨i+1,j+1,C.set i y,by go_num,by go_num,by omega,by omega,HK2,HO2,hB3⟩
    case measure=>simp[intOf];omega
  ·obtain rfl:j=n:=by omega
   have hO3:wa.ownsRow base 108 2 (.slice (some ⟨g,0,none⟩) j cap) j (C.map EntryD.cs).flatten:=by have h:=HO.out;unfold Zl at h;rw[hCl]at h;exact h
   obtain⟨L,hcl⟩:=jzb wa hO3 hij
   have hcap:j<=cap:=by
    rcases hO3.2 with⟨h0,_⟩|⟨_,_,_,h0,_,_,h5,_⟩
    ·cases h0
    ·injection h0 with _ _ h0;omega
   have HF:Hid (Zl (wa.setCells g (i*2) L) base (.slice (some ⟨g,0,none⟩) i cap) (P.filter fun x=>rgB lo hi x.at_)):=by
    obtain⟨ys,k1,k2,k3⟩:=jgo L (i*2) wa _ hO3
    have k4:=jng k1 (Nat.le_of_lt hij)
    have e1:C.take i=P.filter fun x=>rgB lo hi x.at_:=by rw[HK.out.low,List.take_of_length_le (by rw[HN.out];exact Nat.le_refl _)]
    have e2:(P.filter fun x=>rgB lo hi x.at_).length=i:=by rw[<- e1,List.length_take];omega
    rw[k2,flat_takeX,e1]at k4
    show World.ownsRow _ _ _ _ _ _ _
    rw[e2]
    exact k4
   have hBf:Below base W (wa.setCells g (i*2) L):=jci hgb L _ W wa hB
   have i2:(0:Int)<=(i:Int):=by omega
   have i3:(i:Int)<=(j:Int):=by omega
   have i4:(i:Int)<=(cap:Int):=by omega
   clear hO3 HO HK
   go_wp2
   go_ret
   exact⟨_,rfl,HF.out,hBf⟩
end
end Go.Proofs.YtofdpfpdocpbpaaGreatDoor
